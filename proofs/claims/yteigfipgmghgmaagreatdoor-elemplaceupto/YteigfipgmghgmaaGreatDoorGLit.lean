/- Lists that are laid down by a literal. -/
import Derived.Test.YteigfipgmghgmaaGreatDoorNNode
namespace Go.Proofs.YteigfipgmghgmaaGreatDoor
open Go.RowKit

abbrev nilS : Sl := ⟨none, 0, 0⟩

theorem lit_isLG {α : Type} {te : TypeId} {size bytes : Nat} {f : α → List Value} (hf : ∀ a, (f a).length = size) {w : World} {B : Nat} {xs : List α} {cur : Array Value} (hb : w.heap[B]? = some (.cells cur te (0, 0))) (hc : cur.toList = xs.flatMap f) (hs : cur.size = xs.length * size) (hl : xs.length * bytes ≤ 140737488351232) (hm : xs.length ≤ 1048576) :
    IsL bytes size f w (.slice (some ⟨B, 0, none⟩) xs.length xs.length) xs := by
  refine OwnsL.isL (te := te) (base := 0) hf ?_ hl
  refine ⟨by rw [← hc, Array.length_toList, hs], Or.inr ⟨B, xs.length, cur, rfl, Nat.zero_le _, hb, Nat.le_refl _, by simp only [maxLen]; omega, hs, ?_⟩⟩
  rw [hc, List.take_of_length_le (by rw [← hc, Array.length_toList, hs]; exact Nat.le_refl _)]

theorem ints_nil (w : World) : IsInts w (.slice none 0 0) [] := ⟨none, 0, rfl, by simp, by simp, by simp, fun _ => ⟨rfl, rfl⟩, fun h => by simp at h, fun z hz => by simp at hz⟩
end Go.Proofs.YteigfipgmghgmaaGreatDoor
