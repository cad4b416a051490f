/- Joined texts: VwMake, VwRow, VwPick. -/
import Derived.Test.YtaoplfpigjkgpaaGreatDoorPartAB
import Derived.Laws.ResultCell
namespace Go.Proofs.YtaoplfpigjkgpaaGreatDoor.Vw

open Go.RowKit

def OwnView (w : World) (base : Nat) (u : Value) (off : Int) (ds ss : List Int) : Prop :=
  ∃ dv sv, u = .agg #[.int .i64 off, dv, sv] ∧ Owns w base dv ds ∧ Owns w base sv ss ∧ -9223372036854775808 ≤ off ∧ off ≤ 9223372036854775807 ∧ (dv.ownBlock = none ∨ dv.ownBlock ≠ sv.ownBlock)

theorem OwnView.new {w w' : World} {base : Nat} {u : Value} {off : Int} {ds ss : List Int} (h : OwnView w base u off ds ss) (hg : w.grownBy w' none) : OwnView w' base u off ds ss := by
  obtain ⟨dv, sv, rfl, h1, h2, h3, h4, h5⟩ := h
  exact ⟨dv, sv, rfl, h1.new hg, h2.new hg, h3, h4, h5⟩

theorem OwnView.nil (w : World) (base : Nat) : OwnView w base (.agg #[.int .i64 0, .slice none 0 0, .slice none 0 0]) 0 [] [] :=
  ⟨_, _, rfl, owns_nil _ _, owns_nil _ _, by omega, by omega, Or.inl rfl⟩

end Go.Proofs.YtaoplfpigjkgpaaGreatDoor.Vw

namespace Go.Proofs.YtaoplfpigjkgpaaGreatDoor.Vw

open Go.RowKit

theorem box_kept {w w' : World} {B : Nat} {o : Obj} (hb : w.heap[B]? = some o) (hg : w.grownBy w' none) : w'.heap[B]? = some o := (hg.block B (Array.getElem?_eq_some_iff.1 hb).1 (by simp)).trans hb

theorem two_boxes (w : World) (o o' : Obj) : ((w.alloc o).alloc o').heap[w.heap.size]? = some o ∧ ((w.alloc o).alloc o').heap[w.heap.size + 1]? = some o' := by
  constructor
  · rw [Below.heap_alloc _ _ _ (by simp)]
    exact heap_alloc_new w o
  · have := heap_alloc_new (w.alloc o) o'
    simpa using this

end Go.Proofs.YtaoplfpigjkgpaaGreatDoor.Vw

namespace Go.Proofs.YtaoplfpigjkgpaaGreatDoor.Vw

open Go.RowKit

structure IsPerm (perm : List Int) (n : Nat) : Prop where
  len : perm.length = n
  rng : ∀ p ∈ perm, 0 ≤ p ∧ p < n
  once : perm.Nodup

def Told (perm : List Int) (n : Nat) (w : World) (e : Ending) (w' : World) : Prop := ∃ b, e = .returned (.bool b) ∧ (b = true ↔ IsPerm perm n) ∧ w.grownBy w' none

structure Met (m : Array Value) (perm : List Int) (k : Nat) : Prop where
  size : m.size = 6
  mark : ∀ j : Nat, j < 6 → m[j]? = some (.bool (decide ((j : Int) ∈ perm.take k)))

theorem Met.cell {m : Array Value} {perm : List Int} {k B : Nat} {e : TypeId} {w : World} (h : Met m perm k) (hb : w.heap[B]? = some (.cells m e (0, 0))) (j : Nat) (hj : j < 6) : w.cell? ⟨B, j, none⟩ = some (.bool (decide ((j : Int) ∈ perm.take k))) :=
  (cell_of_row w B j m e (0, 0) hb).trans (h.mark j hj)

theorem Met.put {m : Array Value} {perm : List Int} {k p : Nat} (h : Met m perm k) (hs : perm.take (k + 1) = perm.take k ++ [(p : Int)]) (_hp : p < 6) : Met (m.setIfInBounds p (.bool true)) perm (k + 1) := by
  refine ⟨by simpa using h.size, fun j hj => ?_⟩
  rw [hs, Array.getElem?_setIfInBounds]
  by_cases e : p = j
  · subst e
    simp [h.size, hj]
  · rw [if_neg e, h.mark j hj]
    have : ¬ (j : Int) = (p : Int) := by omega
    simp [this]

end Go.Proofs.YtaoplfpigjkgpaaGreatDoor.Vw
