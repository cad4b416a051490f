/- Lists whose elements take several cells, attributes and nodes. -/
import Derived.Test.YteigfipgmghgmaaGreatDoorSMem
import Derived.Deep.LoopGhost
import Derived.Deep.AppendLies
import Derived.Deep.RegionHeld3
import Derived.Deep.RegionWith
import Derived.Deep.RegionLaw
import Derived.Deep.CutRange
namespace Go.Proofs.YteigfipgmghgmaaGreatDoor
open Go.RowKit

/-- The value v is a list whose elements' cells stand in a row. -/
def IsL {α : Type} (bytes size : Nat) (f : α → List Value) (w : World) (v : Value) (xs : List α) : Prop :=
  ∃ ao cap, v = .slice ao xs.length cap ∧ xs.length ≤ cap ∧ cap ≤ 9223372036854775807 ∧ xs.length * bytes ≤ 140737488351232 ∧ (ao = none → xs = [] ∧ cap = 0) ∧
    (0 < xs.length → ∃ b off, ao = some ⟨b, off, none⟩ ∧ ∀ k (hk : k < xs.length) j, j < size → w.cell? ⟨b, off + k * size + j, none⟩ = (f xs[k])[j]? ∧ (f xs[k])[j]? ≠ none)

theorem IsL.kept {α : Type} {bytes size : Nat} {f : α → List Value} {w w' : World} {v : Value} {xs : List α} (h : IsL bytes size f w v xs) (hk : ∀ b, b < w.heap.size → v.ownBlock = some b → w'.heap[b]? = w.heap[b]?) : IsL bytes size f w' v xs := by
  obtain ⟨ao, cap, rfl, h1, h2, h3, h4, h5⟩ := h
  refine ⟨ao, cap, rfl, h1, h2, h3, h4, fun hl => ?_⟩
  obtain ⟨b, off, rfl, hc⟩ := h5 hl
  refine ⟨b, off, rfl, fun k hk' j hj => ?_⟩
  obtain ⟨e, hne⟩ := hc k hk' j hj
  refine ⟨?_, hne⟩
  cases hx : (f xs[k])[j]? with
  | none => exact absurd hx hne
  | some x =>
    rw [hx] at e
    rw [← e]
    exact World.cell?_of_block (hk b (World.block_lt_of_cell? w _ e) rfl)

theorem IsL.more {α : Type} {bytes size : Nat} {f : α → List Value} {w w' : World} {v : Value} {xs : List α} (h : IsL bytes size f w v xs) (hg : w.grownBy w' none) : IsL bytes size f w' v xs := h.kept fun b hb _ => hg.block b hb (by simp)

theorem IsL.form {α : Type} {bytes size : Nat} {f : α → List Value} {w : World} {v : Value} {xs : List α} (h : IsL bytes size f w v xs) : ∃ ao cap, v = .slice ao xs.length cap ∧ xs.length ≤ cap ∧ cap ≤ 9223372036854775807 ∧ xs.length * bytes ≤ 140737488351232 := by
  obtain ⟨ao, cap, e, h1, h2, h3, -, -⟩ := h
  exact ⟨ao, cap, e, h1, h2, h3⟩

theorem IsL.nil {α : Type} (bytes size : Nat) (f : α → List Value) (w : World) : IsL bytes size f w (.slice none 0 0) [] :=
  ⟨none, 0, rfl, Nat.le_refl _, by decide, by simp, fun _ => ⟨rfl, rfl⟩, fun h => (by simp at h)⟩

theorem IsL.addr {α : Type} {bytes size : Nat} {f : α → List Value} {w : World} {ao : Option Addr} {len cap : Nat} {xs : List α} (h : IsL bytes size f w (.slice ao len cap) xs) {k : Nat} (hk : k < xs.length) :
    ∃ b off, ao = some ⟨b, off, none⟩ := by
  obtain ⟨ao', cap', e, _, _, _, _, h5⟩ := h
  cases e
  obtain ⟨b, off, e', -⟩ := h5 (by omega)
  exact ⟨b, off, e'⟩

theorem IsL.at {α : Type} {bytes size : Nat} {f : α → List Value} {w : World} {b off len cap : Nat} {xs : List α} (h : IsL bytes size f w (.slice (some ⟨b, off, none⟩) len cap) xs) (k : Nat) (hk : k < xs.length) (j : Nat) (hj : j < size) :
    w.cell? ⟨b, off + k * size + j, none⟩ = (f xs[k])[j]? := by
  obtain ⟨ao', cap', e, _, _, _, _, h5⟩ := h
  cases e
  obtain ⟨b', off', e', hc⟩ := h5 (by omega)
  cases e'
  exact (hc k hk j hj).1

theorem flat_len {α : Type} {f : α → List Value} {size : Nat} (hf : ∀ a, (f a).length = size) (xs : List α) : (xs.flatMap f).length = xs.length * size := by
  induction xs with
  | nil => simp
  | cons a l ih => rw [List.flatMap_cons, List.length_append, ih, hf, List.length_cons, Nat.add_mul]; omega

theorem flat_at {α : Type} {f : α → List Value} {size : Nat} (hf : ∀ a, (f a).length = size) (xs : List α) (k j : Nat) (hk : k < xs.length) (hj : j < size) : (xs.flatMap f)[k * size + j]? = (f xs[k])[j]? := by
  induction xs generalizing k with
  | nil => simp at hk
  | cons a l ih =>
    rw [List.flatMap_cons]
    cases k with
    | zero => rw [List.getElem?_append_left (by rw [hf]; omega)]; simp
    | succ k =>
      rw [List.getElem?_append_right (by rw [hf, Nat.add_mul]; omega)]
      have e : (k + 1) * size + j - (f a).length = k * size + j := by rw [hf, Nat.add_mul]; omega
      rw [e, ih k (by simpa using hk)]
      simp

/-- A list of the call's own: its elements' cells in a row. -/
def OwnsL {α : Type} (te : TypeId) (size : Nat) (f : α → List Value) (w : World) (base : Nat) (v : Value) (xs : List α) : Prop :=
  w.ownsRow base te size v xs.length (xs.flatMap f)

theorem OwnsL.kept {α : Type} {te : TypeId} {size : Nat} {f : α → List Value} {w w' : World} {base : Nat} {v : Value} {xs : List α} (h : OwnsL te size f w base v xs) {row : Option Nat} (hg : w.grownBy w' row) (hr : ∀ g, row = some g → g < base) : OwnsL te size f w' base v xs := by
  refine World.ownsRow.kept h hg ?_
  cases hv : v.ownBlock with
  | none => exact .inl rfl
  | some k =>
    refine .inr fun e => ?_
    have h1 := World.ownsRow.lt h k hv
    have h2 := hr k e.symm
    omega

theorem OwnsL.more {α : Type} {te : TypeId} {size : Nat} {f : α → List Value} {w w' : World} {base : Nat} {v : Value} {xs : List α} (h : OwnsL te size f w base v xs) (hg : w.grownBy w' none) : OwnsL te size f w' base v xs := h.kept hg (by simp)

theorem OwnsL.nil {α : Type} (te : TypeId) (size : Nat) (f : α → List Value) (w : World) (base : Nat) : OwnsL te size f w base (.slice none 0 0) [] := World.ownsRow_nil _ _ _ _

theorem OwnsL.base_le {α : Type} {te : TypeId} {size : Nat} {f : α → List Value} {w : World} {base b' : Nat} {v : Value} {xs : List α} (h : OwnsL te size f w base v xs) (hb : b' ≤ base) : OwnsL te size f w b' v xs := by
  refine ⟨h.1, ?_⟩
  rcases h.2 with h0 | ⟨g, cap, cur, e, hg, r⟩
  · exact .inl h0
  · exact .inr ⟨g, cap, cur, e, by omega, r⟩

theorem OwnsL.form {α : Type} {te : TypeId} {size : Nat} {f : α → List Value} {w : World} {base : Nat} {v : Value} {xs : List α} (h : OwnsL te size f w base v xs) : ∃ ao cap, v = .slice ao xs.length cap := by
  rcases h.2 with ⟨rfl, h0⟩ | ⟨g, cap, cur, rfl, _⟩
  · exact ⟨none, 0, by rw [h0]⟩
  · exact ⟨_, _, rfl⟩

theorem OwnsL.isL {α : Type} {te : TypeId} {size bytes : Nat} {f : α → List Value} (hf : ∀ a, (f a).length = size) {w : World} {base : Nat} {v : Value} {xs : List α} (h : OwnsL te size f w base v xs) (hl : xs.length * bytes ≤ 140737488351232) : IsL bytes size f w v xs := by
  have h0 := h
  rcases h.2 with ⟨rfl, hn⟩ | ⟨g, cap, cur, rfl, _, _, hnc, hcm, _, _⟩
  · obtain rfl : xs = [] := List.length_eq_zero_iff.1 hn
    exact IsL.nil _ _ _ _
  · refine ⟨_, cap, rfl, hnc, by simpa [maxLen] using hcm, hl, (fun h => by cases h), fun _ => ⟨g, 0, rfl, fun k hk j hj => ?_⟩⟩
    have hlt : k * size + j < xs.length * size := by
      have : (k + 1) * size ≤ xs.length * size := Nat.mul_le_mul_right _ hk
      rw [Nat.add_mul] at this
      omega
    rw [Nat.zero_add, World.ownsRow.cellAt h0 _ (by exact hlt), flat_at hf xs k j hk hj]
    exact ⟨rfl, by simp [hf, hj]⟩

/-- A slice: where it begins, how long it is, how much room it has. -/
structure Sl where
  a : Option Addr
  n : Nat
  c : Nat

abbrev Sl.v (s : Sl) : Value := .slice s.a s.n s.c

/-- An attribute, as its cells have it. -/
structure Atr where
  name : ByteArray
  kind : Int
  f : Int
  i : Int
  s : ByteArray
  ty : Int
  dv : Sl
  tv : Sl
  iv : Sl

def acells (a : Atr) : List Value := [.string a.name, .int .i64 a.kind, .int .i64 a.f, .int .i64 a.i, .string a.s, .int .i64 a.ty, .slice a.dv.a a.dv.n a.dv.c, .slice a.tv.a a.tv.n a.tv.c, .slice a.iv.a a.iv.n a.iv.c]

def aval (a : Atr) : Value := .agg #[.string a.name, .int .i64 a.kind, .int .i64 a.f, .int .i64 a.i, .string a.s, .int .i64 a.ty, .slice a.dv.a a.dv.n a.dv.c, .slice a.tv.a a.tv.n a.tv.c, .slice a.iv.a a.iv.n a.iv.c]

abbrev IsAttrs (w : World) (v : Value) (xs : List Atr) : Prop := IsL 136 9 acells w v xs

theorem IsL.attr {w : World} {b off len cap : Nat} {xs : List Atr} (h : IsL 136 9 acells w (.slice (some ⟨b, off, none⟩) len cap) xs) (k : Nat) (hk : k < xs.length) :
    w.cell? ⟨b, off + k * 9, none⟩ = some (.string xs[k].name) ∧ w.cell? ⟨b, off + k * 9 + 1, none⟩ = some (.int .i64 xs[k].kind) ∧ w.cell? ⟨b, off + k * 9 + 2, none⟩ = some (.int .i64 xs[k].f) ∧ w.cell? ⟨b, off + k * 9 + 3, none⟩ = some (.int .i64 xs[k].i) ∧ w.cell? ⟨b, off + k * 9 + 4, none⟩ = some (.string xs[k].s) ∧ w.cell? ⟨b, off + k * 9 + 5, none⟩ = some (.int .i64 xs[k].ty) ∧ w.cell? ⟨b, off + k * 9 + 6, none⟩ = some (.slice xs[k].dv.a xs[k].dv.n xs[k].dv.c) ∧ w.cell? ⟨b, off + k * 9 + 7, none⟩ = some (.slice xs[k].tv.a xs[k].tv.n xs[k].tv.c) ∧ w.cell? ⟨b, off + k * 9 + 8, none⟩ = some (.slice xs[k].iv.a xs[k].iv.n xs[k].iv.c) := by
  have f := fun j hj => h.at k hk j hj
  exact ⟨f 0 (by omega), f 1 (by omega), f 2 (by omega), f 3 (by omega), f 4 (by omega), f 5 (by omega), f 6 (by omega), f 7 (by omega), f 8 (by omega)⟩

/-- The cells of a block that holds an attribute. -/
theorem atr_cells {w : World} {B : Nat} {a : Atr} (hb : w.heap[B]? = some (.cells #[.string a.name, .int .i64 a.kind, .int .i64 a.f, .int .i64 a.i, .string a.s, .int .i64 a.ty, .slice a.dv.a a.dv.n a.dv.c, .slice a.tv.a a.tv.n a.tv.c, .slice a.iv.a a.iv.n a.iv.c] 92 (0, 0))) :
    w.cell? ⟨B, 0, none⟩ = some (.string a.name) ∧ w.cell? ⟨B, 1, none⟩ = some (.int .i64 a.kind) ∧ w.cell? ⟨B, 2, none⟩ = some (.int .i64 a.f) ∧ w.cell? ⟨B, 3, none⟩ = some (.int .i64 a.i) ∧ w.cell? ⟨B, 4, none⟩ = some (.string a.s) ∧ w.cell? ⟨B, 5, none⟩ = some (.int .i64 a.ty) ∧ w.cell? ⟨B, 6, none⟩ = some (.slice a.dv.a a.dv.n a.dv.c) ∧ w.cell? ⟨B, 7, none⟩ = some (.slice a.tv.a a.tv.n a.tv.c) ∧ w.cell? ⟨B, 8, none⟩ = some (.slice a.iv.a a.iv.n a.iv.c) :=
  ⟨(cell_of_row _ _ 0 _ _ (0, 0) hb).trans rfl, (cell_of_row _ _ 1 _ _ (0, 0) hb).trans rfl, (cell_of_row _ _ 2 _ _ (0, 0) hb).trans rfl, (cell_of_row _ _ 3 _ _ (0, 0) hb).trans rfl, (cell_of_row _ _ 4 _ _ (0, 0) hb).trans rfl, (cell_of_row _ _ 5 _ _ (0, 0) hb).trans rfl, (cell_of_row _ _ 6 _ _ (0, 0) hb).trans rfl, (cell_of_row _ _ 7 _ _ (0, 0) hb).trans rfl, (cell_of_row _ _ 8 _ _ (0, 0) hb).trans rfl⟩

/-- The cells of a block that holds one cell. -/
theorem one_cell {w : World} {B : Nat} {x : Value} {t : TypeId} (hb : w.heap[B]? = some (.cells #[x] t (0, 0))) : w.cell? ⟨B, 0, none⟩ = some x := (cell_of_row _ _ 0 _ _ (0, 0) hb).trans rfl
end Go.Proofs.YteigfipgmghgmaaGreatDoor
