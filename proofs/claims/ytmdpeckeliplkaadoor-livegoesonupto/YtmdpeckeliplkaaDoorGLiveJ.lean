/- The statements' own live, by the walk. -/
import Derived.Test.YtmdpeckeliplkaaDoorGTwoJ
import Derived.Test.YtmdpeckeliplkaaDoorSSameJ
namespace Go.Proofs.YtmdpeckeliplkaaDoor
open Go.RowKit

theorem two_order (s1 s2 : Sl) : orderR (twoCs s1 s2 120) twoIn twoOut [] = ([1, 0], 0) := by kernel_rfl

theorem two_order' (s1 s2 : Sl) : (orderR (twoCs s1 s2 121) twoIn twoOut []).2 = 4 := by kernel_rfl

theorem two_reads (s1 s2 : Sl) : readsN (twoCs s1 s2 120) ⟨#[120]⟩ (twoCs s1 s2 120).length = [1] := by kernel_rfl

theorem lit_ints (w : World) (zs : List Int) (hl : zs.length ≤ 1024) (hz : ∀ z ∈ zs, -1024 ≤ z ∧ z ≤ 1024) : IsInts (w.alloc (.cells (zs.map (Value.int .i64)).toArray 3)) (.slice (some ⟨w.heap.size, 0, none⟩) zs.length zs.length) zs := by
  refine Owns.ints (base := 0) ⟨⟨by simp, Or.inr ⟨w.heap.size, zs.length, _, rfl, Nat.zero_le _, heap_alloc_new w _, Nat.le_refl _, by simp only [maxLen]; omega, by simp, ?_⟩⟩, by omega, fun z h => by have := hz z h; omega⟩
  rw [List.take_of_length_le (by simp)]

end Go.Proofs.YtmdpeckeliplkaaDoor
