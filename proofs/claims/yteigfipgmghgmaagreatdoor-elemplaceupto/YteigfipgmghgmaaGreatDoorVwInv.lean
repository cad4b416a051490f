/- What is shown so far: the invariant of the loop over the places. -/
import Derived.Test.YteigfipgmghgmaaGreatDoorVwSeq
import Derived.RangeFuncBox
import Derived.Maps.AppendAt
namespace Go.Proofs.YteigfipgmghgmaaGreatDoor.Vw
open Go.RowKit Go.Shelf

structure RInv (w : World) (Bs g N D1 : Nat) (xv : Value) (data : List Int) (ys : List Int) (W : World) : Prop where
  box : Boxed W Bs 30 (.slice (some ⟨g, 0, none⟩) ys.length N)
  row : W.ownsRow w.heap.size 2 1 (.slice (some ⟨g, 0, none⟩) ys.length N) ys.length (ys.map (Value.int .i64))
  dat : W.cell? ⟨D1, 0, none⟩ = some xv
  ints : IsInts W xv data
  gr : w.grownBy W none

theorem block_cells {W : World} {a : Addr} {v : Value} (h : W.cell? a = some v) {row : Option Nat} (hr : ∀ r, row = some r → ∃ o : Obj, W.heap[r]? = some o ∧ o.isCells = false) : some a.block ≠ row := by
  intro e
  obtain ⟨o, ho, hc⟩ := hr a.block e.symm
  obtain ⟨o', ho', hc'⟩ := cells_of_cell h
  rw [ho] at ho'
  cases ho'
  rw [hc] at hc'
  cases hc'

theorem row_cells {W : World} {base g n cap : Nat} {e : TypeId} {xs : List Value} (h : W.ownsRow base e 1 (.slice (some ⟨g, 0, none⟩) n cap) n xs) : base ≤ g ∧ ∃ o : Obj, W.heap[g]? = some o ∧ o.isCells = true := by
  rcases h.2 with ⟨h', _⟩ | ⟨g', cap', cur, h', hb, hg, _⟩
  · simp at h'
  · simp only [Value.slice.injEq, Option.some.injEq, Addr.mk.injEq, and_true, true_and] at h'
    obtain ⟨rfl, rfl⟩ := h'
    exact ⟨hb, _, hg, rfl⟩

theorem ints_turn {W W' : World} {v : Value} {zs : List Int} (h : IsInts W v zs) {row : Option Nat} (hg : W.grownBy W' row) (hr : ∀ r, row = some r → ∃ o : Obj, W.heap[r]? = some o ∧ o.isCells = false) : IsInts W' v zs := by
  obtain ⟨ao, cap, rfl, h1, h2, h3, h4, h5, h6⟩ := h
  refine ⟨ao, cap, rfl, h1, h2, h3, h4, fun hl => ?_, h6⟩
  obtain ⟨b, off, rfl, hc⟩ := h5 hl
  exact ⟨b, off, rfl, fun t ht => cell_kept (hc t ht) hg hr⟩

theorem RInv.turn {w W W' : World} {Bs g N D1 B0 : Nat} {xv : Value} {data ys : List Int} (h : RInv w Bs g N D1 xv data ys W) {row : Option Nat} (hg : W.grownBy W' row)
    (hr : ∀ r, row = some r → B0 ≤ r ∧ ∃ o : Obj, W.heap[r]? = some o ∧ o.isCells = false) (hB : w.heap.size ≤ B0) : RInv w Bs g N D1 xv data ys W' := by
  have hr' : ∀ r, row = some r → ∃ o : Obj, W.heap[r]? = some o ∧ o.isCells = false := fun r e => (hr r e).2
  refine ⟨h.box.kept hg (block_cells (a := ⟨Bs, 0, none⟩) h.box.cell hr'), h.row.kept hg (Or.inr ?_), cell_kept h.dat hg hr', ints_turn h.ints hg hr', grown_trans_row h.gr hg (fun r e => by have := (hr r e).1; omega)⟩
  intro e
  obtain ⟨_, o, ho, hc⟩ := row_cells h.row
  obtain ⟨o', ho', hc'⟩ := hr' g e.symm
  rw [ho] at ho'
  cases ho'
  rw [hc] at hc'
  cases hc'

/-- A row of the call's own that has room takes one more. -/
theorem row_push {W : World} {base g n cap : Nat} {e : TypeId} {xs : List Value} (h : W.ownsRow base e 1 (.slice (some ⟨g, 0, none⟩) n cap) n xs) (hn : n < cap) (u : Value) :
    (∃ c, W.cell? ⟨g, n, none⟩ = some c) ∧ W.frozen? ⟨g, n, none⟩ = false ∧ (W.setCell ⟨g, n, none⟩ u).ownsRow base e 1 (.slice (some ⟨g, 0, none⟩) (n + 1) cap) (n + 1) (xs ++ [u]) ∧ W.grownBy (W.setCell ⟨g, n, none⟩ u) (some g) := by
  have hfr := h.frozenAt n
  have hst := (h.stored n u).2
  rcases h.2 with ⟨h', _⟩ | ⟨g', cap', cur, h', hb, hg, hnc, hcm, hcs, htake⟩
  · simp at h'
  · simp only [Value.slice.injEq, Option.some.injEq, Addr.mk.injEq, and_true, true_and] at h'
    obtain ⟨rfl, rfl⟩ := h'
    rw [Nat.mul_one] at hcs htake
    refine ⟨⟨cur[n]'(by omega), by rw [cell_of_row W g n cur e (0, 0) hg, Array.getElem?_eq_getElem (by omega)]⟩, hfr, ⟨?_, .inr ⟨g, cap, cur.setIfInBounds n u, rfl, hb, heap_setCell_same W g n cur e u hg, hn, hcm, by simpa using hcs, ?_⟩⟩, hst⟩
    · have := h.1
      simp at this
      simp [this]
    · rw [Nat.mul_one, Array.toList_setIfInBounds, List.take_add_one, List.take_set_of_le (Nat.le_refl _), htake]
      simp [hcs, hn]

/-- One more is shown. -/
theorem RInv.push {w W w1 : World} {Bs g N D1 : Nat} {xv : Value} {data ys : List Int} {tmp : Obj} {y : Int} (h : RInv w Bs g N D1 xv data ys W) (hne : Bs ≠ g) (hD : D1 ≠ Bs ∧ D1 ≠ g) (hBs : w.heap.size ≤ Bs) (hx : Away Bs g xv data)
    (hown : w1.ownsRow w.heap.size 2 1 (.slice (some ⟨g, 0, none⟩) (ys.length + 1) N) (ys.length + 1) ((ys ++ [y]).map (Value.int .i64))) (hg : (W.alloc tmp).grownBy w1 (some g)) :
    Boxed w1 Bs 30 (.slice (some ⟨g, 0, none⟩) ys.length N) ∧
    RInv w Bs g N D1 xv data (ys ++ [y]) (w1.setCell ⟨Bs, 0, none⟩ (.slice (some ⟨g, 0, none⟩) (ys.length + 1) N)) ∧
    KeepsOthers W (w1.setCell ⟨Bs, 0, none⟩ (.slice (some ⟨g, 0, none⟩) (ys.length + 1) N)) ∧ Kpv Bs g W (w1.setCell ⟨Bs, 0, none⟩ (.slice (some ⟨g, 0, none⟩) (ys.length + 1) N)) := by
  have hgb := (row_cells h.row).1
  have b1 : Boxed w1 Bs 30 (.slice (some ⟨g, 0, none⟩) ys.length N) := (h.box.alloc tmp).kept hg (fun e => hne (by injection e))
  have g1 : w.grownBy (W.alloc tmp) none := grown_trans h.gr (grown_new _ _)
  have g2 : w.grownBy w1 none := grown_trans_row g1 hg (fun r e => by cases e; exact hgb)
  have hset := grownBy_setCell' w1 Bs (.slice (some ⟨g, 0, none⟩) (ys.length + 1) N)
  have g3 := grown_trans_row g2 hset (fun r e => by cases e; exact hBs)
  have hblk : ∀ k, k < W.heap.size → k ≠ Bs → k ≠ g → (w1.setCell ⟨Bs, 0, none⟩ (.slice (some ⟨g, 0, none⟩) (ys.length + 1) N)).heap[k]? = W.heap[k]? := by
    intro k hk h1 h2
    rw [Below.heap_setCell _ _ _ _ h1, hg.block k (by simp; omega) (fun e => h2 (by injection e)), Below.heap_alloc W tmp k hk]
  have hsz : W.heap.size ≤ (w1.setCell ⟨Bs, 0, none⟩ (.slice (some ⟨g, 0, none⟩) (ys.length + 1) N)).heap.size := by
    have h1 := hg.size
    have h2 := hset.size
    simp only [World.size_alloc] at h1
    omega
  have hk : Kpv Bs g W (w1.setCell ⟨Bs, 0, none⟩ (.slice (some ⟨g, 0, none⟩) (ys.length + 1) N)) := ⟨hsz, fun k o ho _ h1 h2 => (hblk k (Array.getElem?_eq_some_iff.1 ho).1 h1 h2).trans ho⟩
  refine ⟨b1, ⟨?_, ?_, hk.cell h.dat hD.1 hD.2, h.ints.kpv hk hx, g3⟩, ⟨hsz, fun k o ho hc => ?_⟩, hk⟩
  · have := b1.set (.slice (some ⟨g, 0, none⟩) (ys.length + 1) N)
    simpa using this
  · have := hown.kept hset (Or.inr (fun e => hne (by simp [Value.ownBlock] at e; exact e.symm)))
    simpa using this
  · refine (hblk k (Array.getElem?_eq_some_iff.1 ho).1 (fun e => ?_) (fun e => ?_)).trans ho
    · subst e
      have h1 : W.heap[k]? = some _ := h.box
      rw [ho] at h1
      cases h1
      cases hc
    · subst e
      obtain ⟨_, o', ho', hc'⟩ := row_cells h.row
      rw [ho] at ho'
      cases ho'
      rw [hc] at hc'
      cases hc'
end Go.Proofs.YteigfipgmghgmaaGreatDoor.Vw
