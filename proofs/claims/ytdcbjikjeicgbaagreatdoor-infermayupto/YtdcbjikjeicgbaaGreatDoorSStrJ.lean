/- Strides, by the walk. -/
import Derived.Test.YtdcbjikjeicgbaaGreatDoorSCopyJ
namespace Go.Proofs.YtdcbjikjeicgbaaGreatDoor
open Go.RowKit

/-- A list of which the last k are filled. -/
def backFill (n k : Nat) (l : List Int) : List Int := List.replicate (n - k) 0 ++ l

theorem backFill_step {n k : Nat} (hk : k < n) (l : List Int) (z : Int) : (backFill n k l).set (n - 1 - k) z = backFill n (k + 1) (z :: l) := by
  unfold backFill
  have e : List.replicate (n - k) (0 : Int) = List.replicate (n - (k + 1)) 0 ++ [0] := by
    rw [show n - k = (n - (k + 1)) + 1 by omega, List.replicate_succ']
  rw [e, show n - 1 - k = n - (k + 1) by omega, List.append_assoc, List.set_append_right _ _ (by simp)]
  simp

theorem strd_back {zs : List Int} {k : Nat} (hk : k < zs.length) : strd (zs.drop (zs.length - (k + 1))) = prod (zs.drop (zs.length - k)) :: strd (zs.drop (zs.length - k)) := by
  rw [drop_step zs (zs.length - (k + 1)) (by omega), show zs.length - (k + 1) + 1 = zs.length - k by omega]
  rfl

theorem back_mul {zs : List Int} {k : Nat} (hk : k < zs.length) : prod (zs.drop (zs.length - (k + 1))) = prod (zs.drop (zs.length - k)) * zs.getD (zs.length - 1 - k) 0 := by
  rw [back_step hk, bh_in hk]

theorem map_set_int (l : List Int) (i : Nat) (z : Int) : (l.map (Value.int .i64)).set i (.int .i64 z) = (l.set i z).map (Value.int .i64) := by
  rw [List.map_set]

theorem made_zeros (n : Nat) : (madeCells (Value.int .i64 0).cells (n * 1)).toList = (List.replicate n (0 : Int)).map (Value.int .i64) := by
  rw [Nat.mul_one, show (Value.int .i64 0).cells = #[Value.int .i64 0] from rfl, toList_madeCells_one]
  simp

theorem strd_le {zs : List Int} (h : Fine zs) : ∀ s ∈ strd zs, 1 ≤ s ∧ s ≤ 65536 := by
  induction zs with
  | nil => intro s hs; simp [strd] at hs
  | cons z zs ih =>
    intro s hs
    have hd : Fine zs := by have := h.drop 1; simpa using this
    rcases List.mem_cons.1 hs with rfl | hs
    · exact ⟨hd.prod_pos, hd.le⟩
    · exact ih hd s hs

theorem ret_err' {zs : List Int} {e : Int} (h : cntE zs = e) : Ending.returned (.tuple #[.slice none 0 0, .int .i64 e]) = Ending.returned (.tuple #[.slice none 0 0, .int .i64 (cntE zs)]) := by rw [h]

/-- A row of the call's own that is filled from the back, at one more place. -/
theorem fill_step {w wr : World} {n k : Nat} {l : List Int} {z : Int} (hk : k < n) (hw : w.grownBy wr none)
    (hown : wr.ownsRow w.heap.size 3 1 (.slice (some ⟨w.heap.size, 0, none⟩) n n) n ((backFill n k l).map (Value.int .i64))) :
    (∃ c, wr.cell? ⟨w.heap.size, n - 1 - k, none⟩ = some c) ∧ wr.frozen? ⟨w.heap.size, n - 1 - k, none⟩ = false ∧
    (wr.setCell ⟨w.heap.size, n - 1 - k, none⟩ (.int .i64 z)).ownsRow w.heap.size 3 1 (.slice (some ⟨w.heap.size, 0, none⟩) n n) n ((backFill n (k + 1) (z :: l)).map (Value.int .i64)) ∧
    w.grownBy (wr.setCell ⟨w.heap.size, n - 1 - k, none⟩ (.int .i64 z)) none := by
  have hl := hown.1
  refine ⟨⟨_, by rw [hown.cellAt (n - 1 - k) (by omega), List.getElem?_eq_getElem (by omega)]⟩, hown.frozenAt _, ?_, grown_trans_row hw (hown.stored (n - 1 - k) (.int .i64 z)).2 (fun g hg => by injection hg with hg; omega)⟩
  have := (hown.stored (n - 1 - k) (.int .i64 z)).1
  rw [map_set_int, backFill_step hk] at this
  exact this

/-- An item of a list that came in, in a later world. -/
theorem item_at {w : World} {b off cap len : Nat} {zs : List Int} (h : IsInts w (.slice (some ⟨b, off, none⟩) len cap) zs) {k : Nat} (hk : k < zs.length) :
    w.cell? ⟨b, off + k, none⟩ = some (.int .i64 (zs.getD k 0)) := by
  obtain ⟨_, _, he, -, -, -, -, h5, -⟩ := h
  obtain ⟨b', off', ho, hc⟩ := h5 (by omega)
  simp only [Value.slice.injEq] at he
  rw [ho] at he
  simp only [Option.some.injEq, Addr.mk.injEq] at he
  obtain ⟨⟨rfl, rfl, -⟩, -⟩ := he
  exact hc k hk

theorem addr_of {w : World} {ao : Option Addr} {cap len : Nat} {zs : List Int} (h : IsInts w (.slice ao len cap) zs) (hk : 0 < zs.length) : ∃ b off, ao = some ⟨b, off, none⟩ := by
  obtain ⟨_, _, he, -, -, -, -, h5, -⟩ := h
  obtain ⟨b', off', ho, -⟩ := h5 hk
  simp only [Value.slice.injEq] at he
  exact ⟨b', off', by rw [he.1, ho]⟩

theorem block_lt {w : World} {b off cap len : Nat} {zs : List Int} (h : IsInts w (.slice (some ⟨b, off, none⟩) len cap) zs) (hk : 0 < zs.length) : b < w.heap.size :=
  World.block_lt_of_cell? w _ (item_at h hk)

/-- What Strides answers: with an error nothing. -/
def strdE (zs : List Int) : List Int := if cntE zs = 0 then strd zs else []

end Go.Proofs.YtdcbjikjeicgbaaGreatDoor
