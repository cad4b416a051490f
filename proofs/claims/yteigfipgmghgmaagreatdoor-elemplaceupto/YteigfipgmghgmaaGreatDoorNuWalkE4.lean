/- The document's exp of any number, and floats of 32 bits that are no NaN. -/
import Derived.Test.YteigfipgmghgmaaGreatDoorNuWalkE3
namespace Go.Proofs.YteigfipgmghgmaaGreatDoor.Nu
open Go.RowKit Mo
attribute [local go_sem] ext_bits64 ext_from64 ext_from ext_bits negF_eq

/-- What is written of a datum that is no NaN is none. -/
theorem write_num (d : Ieee.Datum) (h : d.isNaN = false) : Ieee.single.write d % 2147483648 ≤ 2139095040 ∧ Ieee.single.write d < 4294967296 := by
  have key : ∀ (s : Bool) (r : Nat), r ≤ 2139095040 → Ieee.single.word s r % 2147483648 ≤ 2139095040 ∧ Ieee.single.word s r < 4294967296 := fun s r hr => by
    unfold Ieee.Format.word
    have e5 : Ieee.single.signWeight = 2147483648 := rfl
    rw [e5]
    split <;> omega
  cases d with
  | number s m p =>
    show Ieee.single.nearest s m p % 2147483648 ≤ 2139095040 ∧ Ieee.single.nearest s m p < 4294967296
    unfold Ieee.Format.nearest
    split
    · exact key s 0 (by decide)
    · exact key s _ (Nat.min_le_right _ _)
  | infinity s => exact key s _ (Nat.le_refl _)
  | nan s t => simp [Ieee.Datum.isNaN] at h

/-- What an operation on floats of 32 bits gives, if it gives one, is no NaN. -/
theorem some_num {op : BinOp} {x y r : Nat} (h : floatBits op .f32 x y = some r) : r % 2147483648 ≤ 2139095040 ∧ r < 4294967296 := by
  have key : ∀ o : Option Ieee.Datum, (∀ d, o = some d → d.isNaN = false) → o.map Ieee.single.write = some r → r % 2147483648 ≤ 2139095040 ∧ r < 4294967296 := fun o ho he => by
    cases o with
    | none => cases he
    | some d =>
      simp only [Option.map_some, Option.some.injEq] at he
      rw [← he]
      exact write_num d (ho d rfl)
  have hs : ∀ a b d : Ieee.Datum, a.sum b = some d → d.isNaN = false := fun a b d he => by
    cases a <;> cases b <;> simp [Ieee.Datum.sum] at he <;> first | (subst he; rfl) | (obtain ⟨-, rfl⟩ := he; rfl)
  have hp : ∀ a b d : Ieee.Datum, a.product b = some d → d.isNaN = false := fun a b d he => by
    cases a <;> cases b <;> simp [Ieee.Datum.product] at he <;> first | (subst he; rfl) | (obtain ⟨-, rfl⟩ := he; rfl)
  have hq : ∀ (k : Nat) (a b d : Ieee.Datum), a.quotient k b = some d → d.isNaN = false := fun k a b d he => by
    cases a <;> cases b <;> simp [Ieee.Datum.quotient] at he
    all_goals first | (subst he; rfl) | (split at he; (split at he; cases he; (cases he; rfl)); (cases he; rfl))
  cases op with
  | add => exact key _ (fun d he => hs _ _ d he) h
  | sub => exact key _ (fun d he => hs _ _ d he) h
  | mul => exact key _ (fun d he => hp _ _ d he) h
  | quo => exact key _ (fun d he => hq _ _ _ d he) h
  | _ => cases h
end Go.Proofs.YteigfipgmghgmaaGreatDoor.Nu
