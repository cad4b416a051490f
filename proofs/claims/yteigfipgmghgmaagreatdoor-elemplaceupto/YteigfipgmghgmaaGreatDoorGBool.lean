/- Lists of yes and no of the call's own. -/
import Derived.Test.YteigfipgmghgmaaGreatDoorNBase
namespace Go.Proofs.YteigfipgmghgmaaGreatDoor
open Go.RowKit

theorem infoBool : (Tryz.prog.info? 4).map (fun i => (i.zero, i.size, i.bytes)) = some (some (.bool false), 1, 1) := by kernel_rfl

theorem flat_bools : ∀ bs : List Bool, bs.flatMap (fun b : Bool => [Value.bool b]) = bs.map Value.bool
  | [] => rfl
  | b :: l => by rw [List.flatMap_cons, flat_bools l]; rfl

/-- A list of yes and no of the call's own. -/
def OwnBl (w : World) (base B : Nat) (bs : List Bool) : Prop := w.ownsRow base 4 1 (.slice (some ⟨B, 0, none⟩) bs.length bs.length) bs.length (bs.map Value.bool)

theorem OwnBl.at {w : World} {base B : Nat} {bs : List Bool} (h : OwnBl w base B bs) {k : Nat} {v : Bool} (hk : bs[k]? = some v) : w.cell? ⟨B, k, none⟩ = some (.bool v) ∧ w.frozen? ⟨B, k, none⟩ = false := by
  refine ⟨?_, World.ownsRow.frozenAt h k⟩
  rw [World.ownsRow.cellAt h k (by have := (List.getElem?_eq_some_iff.1 hk).1; omega), List.getElem?_map, hk]
  rfl

theorem OwnBl.set {w : World} {base B : Nat} {bs : List Bool} (h : OwnBl w base B bs) (k : Nat) (x : Bool) : OwnBl (w.setCell ⟨B, k, none⟩ (.bool x)) base B (bs.set k x) ∧ w.grownBy (w.setCell ⟨B, k, none⟩ (.bool x)) (some B) := by
  have s := World.ownsRow.stored h k (.bool x)
  rw [← List.map_set] at s
  refine ⟨?_, s.2⟩
  unfold OwnBl
  rw [List.length_set]
  exact s.1

theorem OwnBl.lt {w : World} {base B : Nat} {bs : List Bool} (h : OwnBl w base B bs) : base ≤ B ∧ B < w.heap.size := World.ownsRow.lt h B rfl

theorem OwnBl.new {w w' : World} {base B : Nat} {bs : List Bool} (h : OwnBl w base B bs) (hg : w.grownBy w' none) : OwnBl w' base B bs := World.ownsRow.kept h hg (.inr (by simp [Value.ownBlock]))
end Go.Proofs.YteigfipgmghgmaaGreatDoor
