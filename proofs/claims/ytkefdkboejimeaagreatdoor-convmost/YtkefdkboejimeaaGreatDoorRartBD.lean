/- Joined texts: VwInv, VwRead. -/
import Derived.Test.YtkefdkboejimeaaGreatDoorRartBC
import Derived.RangeFuncBox
import Derived.Maps.AppendAt
namespace Go.Proofs.YtkefdkboejimeaaGreatDoor.Vw

open Go.RowKit Go.Shelf

structure RInv (w : World) (Bs g N D1 : Nat) (xv : Value) (data : List Int) (ys : List Int) (W : World) : Prop where
  box : Boxed W Bs 23 (.slice (some ⟨g, 0, none⟩) ys.length N)
  row : W.ownsRow w.heap.size 2 1 (.slice (some ⟨g, 0, none⟩) ys.length N) ys.length (ys.map (Value.int .i64))
  dat : W.cell? ⟨D1, 0, none⟩ = some xv
  ints : IsInts W xv data
  gr : w.grownBy W none

theorem block_cells {W : World} {a : Addr} {v : Value} (h : W.cell? a = some v) {row : Option Nat} (hr : ∀ r, row = some r → ∃ o : Obj, W.heap[r]? = some o ∧ o.isCells = false) : some a.block ≠ row := by
  intro e
  obtain ⟨o, ho, hc⟩ := hr a.block e.symm
  obtain ⟨o', ho', hc'⟩ := cells_of_cell h
  rw [ho] at ho'
  cases ho'
  rw [hc] at hc'
  cases hc'

theorem row_cells {W : World} {base g n cap : Nat} {e : TypeId} {xs : List Value} (h : W.ownsRow base e 1 (.slice (some ⟨g, 0, none⟩) n cap) n xs) : base ≤ g ∧ ∃ o : Obj, W.heap[g]? = some o ∧ o.isCells = true := by
  rcases h.2 with ⟨h', _⟩ | ⟨g', cap', cur, h', hb, hg, _⟩
  · simp at h'
  · simp only [Value.slice.injEq, Option.some.injEq, Addr.mk.injEq, and_true, true_and] at h'
    obtain ⟨rfl, rfl⟩ := h'
    exact ⟨hb, _, hg, rfl⟩

theorem ints_turn {W W' : World} {v : Value} {zs : List Int} (h : IsInts W v zs) {row : Option Nat} (hg : W.grownBy W' row) (hr : ∀ r, row = some r → ∃ o : Obj, W.heap[r]? = some o ∧ o.isCells = false) : IsInts W' v zs := by
  obtain ⟨ao, cap, rfl, h1, h2, h3, h4, h5, h6⟩ := h
  refine ⟨ao, cap, rfl, h1, h2, h3, h4, fun hl => ?_, h6⟩
  obtain ⟨b, off, rfl, hc⟩ := h5 hl
  exact ⟨b, off, rfl, fun t ht => cell_kept (hc t ht) hg hr⟩

theorem RInv.turn {w W W' : World} {Bs g N D1 B0 : Nat} {xv : Value} {data ys : List Int} (h : RInv w Bs g N D1 xv data ys W) {row : Option Nat} (hg : W.grownBy W' row)
    (hr : ∀ r, row = some r → B0 ≤ r ∧ ∃ o : Obj, W.heap[r]? = some o ∧ o.isCells = false) (hB : w.heap.size ≤ B0) : RInv w Bs g N D1 xv data ys W' := by
  have hr' : ∀ r, row = some r → ∃ o : Obj, W.heap[r]? = some o ∧ o.isCells = false := fun r e => (hr r e).2
  refine ⟨h.box.kept hg (block_cells (a := ⟨Bs, 0, none⟩) h.box.cell hr'), h.row.kept hg (Or.inr ?_), cell_kept h.dat hg hr', ints_turn h.ints hg hr', grown_trans_row h.gr hg (fun r e => by have := (hr r e).1; omega)⟩
  intro e
  obtain ⟨_, o, ho, hc⟩ := row_cells h.row
  obtain ⟨o', ho', hc'⟩ := hr' g e.symm
  rw [ho] at ho'
  cases ho'
  rw [hc] at hc'
  cases hc'

end Go.Proofs.YtkefdkboejimeaaGreatDoor.Vw

namespace Go.Proofs.YtkefdkboejimeaaGreatDoor.Vw

open Go.RowKit Go.Shelf

attribute [local go_sem] Oper.semAt_some

def noPanic (Q : Exit → Act → World → Prop) : Exit → Act → World → Prop
  | .normal, a, w => Q .normal a w
  | .ret, a, w => Q .ret a w
  | _, _, _ => False
theorem noPanic_le {Q : Exit → Act → World → Prop} : ∀ (e : Exit) (a : Act) (w : World), noPanic Q e a w → Q e a w
  | .normal, _, _, h => h
  | .ret, _, _, h => h
  | .exit _, _, _, h => h.elim
  | .goto _, _, _, h => h.elim
  | .panic _, _, _, h => h.elim
  | .outgrown, _, _, h => h.elim
theorem noPanic_ret {Q : Exit → Act → World → Prop} {a : Act} {w : World} (h : Q .ret a w) : noPanic Q .ret a w := h

end Go.Proofs.YtkefdkboejimeaaGreatDoor.Vw
