/- Check, and who reads a value, by the walk. -/
import Derived.Test.YtmdpeckeliplkaaDoorGOrderJ
namespace Go.Proofs.YtmdpeckeliplkaaDoor
open Go.RowKit

/-- The places, among the first k nodes, of those that read a name. -/
def readsN (cs : List Nc) (x : ByteArray) : Nat → List Int
  | 0 => []
  | k + 1 => readsN cs x k ++ (if ((cs[k]?.map (·.ins)).getD []).any (isS x) = true then [(k : Int)] else [])

theorem readsN_le (cs : List Nc) (x : ByteArray) : ∀ k, (readsN cs x k).length ≤ k ∧ ∀ z ∈ readsN cs x k, 0 ≤ z ∧ z < k
  | 0 => ⟨Nat.le_refl _, fun z hz => by cases hz⟩
  | k + 1 => by
    have ih := readsN_le cs x k
    unfold readsN
    split
    · refine ⟨by rw [List.length_append]; simp; exact ih.1, fun z hz => ?_⟩
      rcases List.mem_append.1 hz with h | h
      · have := ih.2 z h; omega
      · simp at h; omega
    · rw [List.append_nil]
      exact ⟨by have := ih.1; omega, fun z hz => by have := ih.2 z hz; omega⟩

end Go.Proofs.YtmdpeckeliplkaaDoor
