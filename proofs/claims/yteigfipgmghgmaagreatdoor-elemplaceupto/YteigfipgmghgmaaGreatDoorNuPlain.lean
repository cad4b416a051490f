/- Plain facts on the numbers of package num: elements, their bits, sums, products and the order of floats. Nothing here names the program. -/
import Derived.WalkKit
import Derived.WalkSpells
import Derived.WalkLawsBesides
import Derived.Laws.FloatArith
import Derived.Laws.BitsAllLaws
namespace Go.Proofs.YteigfipgmghgmaaGreatDoor.Nu
open Go.RowKit

theorem and_mask (a : Nat) (h : a < 4294967296) : a &&& 18446744071562067967 = a % 2147483648 := by
  have h1 : a &&& 4294967295 = a := by
    have := Nat.and_two_pow_sub_one_eq_mod a 32
    simp only [Nat.reducePow, Nat.reduceSub] at this
    rw [this]; exact Nat.mod_eq_of_lt h
  have h2 : a % 2147483648 = a &&& 2147483647 := by
    have := Nat.and_two_pow_sub_one_eq_mod a 31
    simp only [Nat.reducePow, Nat.reduceSub] at this
    exact this.symm
  rw [h2]
  conv => lhs; rw [← h1]
  rw [Nat.and_assoc]
  have e : (4294967295 : Nat) &&& 18446744071562067967 = 2147483647 := by decide
  rw [e]

theorem wrap_i64_eq (n : Int) : IntKind.i64.wrap n = wrap64 n := by
  simp [IntKind.wrap, IntKind.bits, IntKind.signed, wrap64]; split <;> omega

theorem andNot_i64 (x : Int) (h0 : 0 ≤ x) (h : x < 4294967296) : bits .andNot .i64 x 2147483648 = x % 2147483648 := by
  obtain ⟨a, rfl⟩ := Int.eq_ofNat_of_zero_le h0
  have ha : a < 4294967296 := by omega
  show IntKind.i64.wrap ((BitVec.ofInt 64 (a : Int) &&& ~~~BitVec.ofInt 64 (2147483648 : Int)).toNat : Int) = _
  have e1 : (BitVec.ofInt 64 (a : Int)).toNat = a := ofInt_u64 a (by omega)
  have e2 : (~~~BitVec.ofInt 64 (2147483648 : Int)).toNat = 18446744071562067967 := by decide
  rw [BitVec.toNat_and, e1, e2, and_mask a ha]
  have hm : a % 2147483648 < 2147483648 := Nat.mod_lt _ (by decide)
  have : ((a % 2147483648 : Nat) : Int) = (a : Int) % 2147483648 := by omega
  rw [this]
  rw [wrap_i64_eq]
  unfold wrap64; omega

/-- Which numbers are elements of a type. -/
def chk (t x : Int) : Bool :=
  if t = 1 then decide (0 ≤ x ∧ x < 4294967296 ∧ (x = 2143289344 ∨ x % 2147483648 ≤ 2139095040))
  else if t = 6 then decide (-2147483648 ≤ x ∧ x ≤ 2147483647)
  else if t = 7 then true
  else if t = 9 then decide (x = 0 ∨ x = 1)
  else false

theorem wrap32_le (x : Int) : -2147483648 ≤ wrap32 x ∧ wrap32 x ≤ 2147483647 := by
  unfold wrap32; omega

theorem chk6 (x : Int) : (x == wrap64 (wrap32 x)) = decide (-2147483648 ≤ x ∧ x ≤ 2147483647) := by
  rw [Bool.eq_iff_iff]
  simp only [beq_iff_eq, decide_eq_true_eq]
  unfold wrap64 wrap32
  omega

theorem chk_float (t x : Int) (h : t = 1) : chk t x = decide (0 ≤ x ∧ x < 4294967296 ∧ (x = 2143289344 ∨ x % 2147483648 ≤ 2139095040)) := by
  simp [chk, h]

end Go.Proofs.YteigfipgmghgmaaGreatDoor.Nu
