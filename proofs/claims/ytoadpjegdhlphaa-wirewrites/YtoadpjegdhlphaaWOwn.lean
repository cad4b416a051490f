/- Lists of the call's own whose elements take cells: append of one element. -/
import Derived.Test.YtoadpjegdhlphaaWTake
import Derived.Deep.LoopGhost
import Derived.Deep.AppendLies
namespace Go.Proofs.Ytoadpjegdhlphaa
open Go.RowKit

/-- A list of the call's own: its elements' cells in a row. -/
def OwnsL {α : Type} (te : TypeId) (size : Nat) (f : α → List Value) (w : World) (base : Nat) (v : Value) (xs : List α) : Prop :=
  w.ownsRow base te size v xs.length (xs.flatMap f)

theorem OwnsL.kept {α : Type} {te : TypeId} {size : Nat} {f : α → List Value} {w w' : World} {base : Nat} {v : Value} {xs : List α} (h : OwnsL te size f w base v xs) {row : Option Nat} (hg : w.grownBy w' row) (hr : ∀ g, row = some g → g < base) : OwnsL te size f w' base v xs := by
  refine World.ownsRow.kept h hg ?_
  cases hv : v.ownBlock with
  | none => exact .inl rfl
  | some k =>
    refine .inr fun e => ?_
    have h1 := World.ownsRow.lt h k hv
    have h2 := hr k e.symm
    omega

theorem OwnsL.more {α : Type} {te : TypeId} {size : Nat} {f : α → List Value} {w w' : World} {base : Nat} {v : Value} {xs : List α} (h : OwnsL te size f w base v xs) (hg : w.grownBy w' none) : OwnsL te size f w' base v xs := h.kept hg (by simp)

theorem OwnsL.nil {α : Type} (te : TypeId) (size : Nat) (f : α → List Value) (w : World) (base : Nat) : OwnsL te size f w base (.slice none 0 0) [] := World.ownsRow_nil _ _ _ _

theorem OwnsL.base_le {α : Type} {te : TypeId} {size : Nat} {f : α → List Value} {w : World} {base b' : Nat} {v : Value} {xs : List α} (h : OwnsL te size f w base v xs) (hb : b' ≤ base) : OwnsL te size f w b' v xs := by
  refine ⟨h.1, ?_⟩
  rcases h.2 with h0 | ⟨g, cap, cur, e, hg, r⟩
  · exact .inl h0
  · exact .inr ⟨g, cap, cur, e, by omega, r⟩

theorem OwnsL.form {α : Type} {te : TypeId} {size : Nat} {f : α → List Value} {w : World} {base : Nat} {v : Value} {xs : List α} (h : OwnsL te size f w base v xs) : ∃ ao cap, v = .slice ao xs.length cap := by
  rcases h.2 with ⟨rfl, h0⟩ | ⟨g, cap, cur, rfl, _⟩
  · exact ⟨none, 0, by rw [h0]⟩
  · exact ⟨_, _, rfl⟩

/-- A row's writes go on behind what was there. -/
theorem own_row {α : Type} {te : TypeId} {size : Nat} {f : α → List Value} {a w w' : World} {base : Nat} {v : Value} {xs : List α} (h : OwnsL te size f w base v xs) (ha : a.grownBy w none) (hab : a.heap.size ≤ base) (hg : w.grownBy w' v.ownBlock) : a.grownBy w' none :=
  grown_trans_row ha hg (fun g e => by have := World.ownsRow.lt h g e; omega)

/-- append(l, x), as one operation: the element lies in a block of its own. -/
theorem wp_push {α : Type} {o : Oper} {a : Act} {w : World} {K : Act → World → Prop} {Q : Exit → Act → World → Prop} (s x : Operand) (t te : TypeId) (size bytes : Nat) (z : Value) (i0 : TypeInfo) (f : α → List Value)
    (ho : o.op = .call { callee := .builtin .append, args := #[s, x], argTypes := #[t, t] }) (ht : Try.prog.underlying t = some (.slice te)) (hi : Try.prog.info? te = some i0) (hz : i0.zero = some z)
    (hsize : i0.size = size) (hby : i0.bytes = bytes) (hzs : z.cells.size = size) (hsz : 0 < size) (base : Nat) (v : Value) (xs : List α) (hs : a.eval s = v) (hown : OwnsL te size f w base v xs)
    (B c : Nat) (y : α) (cs : Array Value) (hx : a.eval x = .slice (some ⟨B, 0, none⟩) 1 c) (hB : w.heap[B]? = some (.cells cs te (0, 0))) (hcs : cs.toList = f y) (hl : (f y).length = size) (h1 : ∀ u ∈ f y, u.oneCell' = true)
    (hbytes : (xs.length + 1) * bytes ≤ 140737488355328) (h63 : xs.length + 1 ≤ maxLen) (hbase : base ≤ w.heap.size)
    (h : ∀ v' w', OwnsL te size f w' base v' (xs ++ [y]) → w.grownBy w' v.ownBlock → K (a.put o.dst v') w') : o.wp Try.prog a w K Q := by
  refine wp_append_own w s x t ho base te i0 z size bytes ht hi hz hsize hby hzs hsz v _ _ hs hown ⟨B, 0, none⟩ 1 c (f y) hx (by omega) ?_ h1 h63 hbytes hbase ?_
  · intro j u hu
    rw [Addr.add_lit, cell_of_row _ _ _ _ _ (0, 0) hB]
    rw [← hcs] at hu
    simpa using hu
  · intro v' w' ho' hg _
    refine h v' w' ?_ hg
    unfold OwnsL
    simpa [List.flatMap_append] using ho'
end Go.Proofs.Ytoadpjegdhlphaa
