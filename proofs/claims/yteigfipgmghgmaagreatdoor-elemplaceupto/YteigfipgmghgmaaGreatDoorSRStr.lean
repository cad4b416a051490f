/- The document's Strides, by the walk. -/
import Derived.Test.YteigfipgmghgmaaGreatDoorSStr
namespace Go.Proofs.YteigfipgmghgmaaGreatDoor
open Go.RowKit

/-- A list of which the first k are filled. -/
def foreFill (n k : Nat) (l : List Int) : List Int := l.take k ++ List.replicate (n - k) 0

theorem foreFill_step {n k : Nat} {l : List Int} (hk : k < n) (hl : l.length = n) (z : Int) (hz : z = l.getD k 0) : (foreFill n k l).set k z = foreFill n (k + 1) l := by
  unfold foreFill
  rw [take_step l k (by omega), ← hz, List.set_append_right _ _ (by simp; omega), show n - k = (n - (k + 1)) + 1 by omega, List.replicate_succ]
  simp [show min k l.length = k by omega]

/-- A part of a list, from a place on, and up to a length. -/
theorem sub_ints {w : World} {b off cap len : Nat} {zs : List Int} (h : IsInts w (.slice (some ⟨b, off, none⟩) len cap) zs) (k n : Nat) {o' n' c' : Nat} (hk : k + n ≤ zs.length) (hn : n' = n) (hc : n' ≤ c') (hc' : c' ≤ 9223372036854775807) (ho : 0 < n → o' = off + k) :
    IsInts w (.slice (some ⟨b, o', none⟩) n' c') ((zs.drop k).take n) := by
  have hlen : ((zs.drop k).take n).length = n := by simp; omega
  refine ⟨_, _, by rw [hlen, hn], by rw [hlen]; omega, hc', by have := h.le; rw [hlen]; omega, (fun h => by cases h), fun hl => ⟨b, o', rfl, fun t ht => ?_⟩, fun z hz => h.wf z (List.mem_of_mem_drop (List.mem_of_mem_take hz))⟩
  rw [hlen] at hl ht
  rw [ho hl, Nat.add_assoc, item_at h (by omega)]
  simp [List.getD, ht]

theorem drop_all {zs : List Int} {k : Nat} (_hk : k ≤ zs.length) : (zs.drop k).take (zs.length - k) = zs.drop k := List.take_of_length_le (by simp)

theorem fore_step {w wr : World} {n k : Nat} {l : List Int} {z : Int} (hk : k < n) (hl : l.length = n) (hz : z = l.getD k 0) (hw : w.grownBy wr none)
    (hown : wr.ownsRow w.heap.size 3 1 (.slice (some ⟨w.heap.size, 0, none⟩) n n) n ((foreFill n k l).map (Value.int .i64))) :
    (∃ c, wr.cell? ⟨w.heap.size, k, none⟩ = some c) ∧ wr.frozen? ⟨w.heap.size, k, none⟩ = false ∧
    (wr.setCell ⟨w.heap.size, k, none⟩ (.int .i64 z)).ownsRow w.heap.size 3 1 (.slice (some ⟨w.heap.size, 0, none⟩) n n) n ((foreFill n (k + 1) l).map (Value.int .i64)) ∧
    w.grownBy (wr.setCell ⟨w.heap.size, k, none⟩ (.int .i64 z)) none := by
  have hl' := hown.1
  refine ⟨⟨_, by rw [hown.cellAt k (by omega), List.getElem?_eq_getElem (by omega)]⟩, hown.frozenAt _, ?_, grown_trans_row hw (hown.stored k (.int .i64 z)).2 (fun g hg => by injection hg with hg; omega)⟩
  have := (hown.stored k (.int .i64 z)).1
  rw [map_set_int, foreFill_step hk hl z hz] at this
  exact this

end Go.Proofs.YteigfipgmghgmaaGreatDoor
