/- What package num's operators of one give, as plain functions of numbers. Nothing here names the program. -/
import Derived.Test.YteigfipgmghgmaaGreatDoorNuPlainG
namespace Go.Proofs.YteigfipgmghgmaaGreatDoor.Nu
open Go.RowKit

theorem andNot_u32 (b : Nat) (h : b < 4294967296) : bits .andNot .u32 (b : Int) 2147483648 = ((b % 2147483648 : Nat) : Int) := by
  have e := u32_andNot_nat b 2147483648 h (by decide)
  have e' : bits .andNot .u32 (b : Int) 2147483648 = ((b &&& (4294967295 - 2147483648) : Nat) : Int) := e
  rw [e']
  have := Nat.and_two_pow_sub_one_eq_mod b 31
  simp only [Nat.reducePow, Nat.reduceSub] at this ⊢
  rw [this]

/-- Of a float: the sign turned; without it; and what is below 0 made 0. -/
def negF (b : Nat) : Nat := b ^^^ 2147483648
def absF (b : Nat) : Nat := b % 2147483648
def reluF (b : Nat) : Nat := if (FloatKind.f32.format.order b 0 == some .gt) = true then b else if (FloatKind.f32.format.order b b != some .eq) = true then b else 0

theorem negF_eq (b : Nat) : Op.unary .neg (.float .f32 b) = pure (.float .f32 (negF b)) := rfl

theorem xor_top (b : Nat) (h : b < 4294967296) : negF b = if b < 2147483648 then b + 2147483648 else b - 2147483648 := by
  unfold negF
  have hd : (b ^^^ 2147483648) / 2 ^ 31 = b / 2 ^ 31 ^^^ 2147483648 / 2 ^ 31 := Nat.xor_div_two_pow
  have hm : (b ^^^ 2147483648) % 2 ^ 31 = b % 2 ^ 31 ^^^ 2147483648 % 2 ^ 31 := Nat.xor_mod_two_pow
  have e1 : (2147483648 : Nat) / 2 ^ 31 = 1 := by decide
  have e2 : (2147483648 : Nat) % 2 ^ 31 = 0 := by decide
  rw [e1] at hd
  rw [e2, Nat.xor_zero] at hm
  simp only [Nat.reducePow] at hd hm
  have hq : b / 2147483648 = 0 ∨ b / 2147483648 = 1 := by omega
  rcases hq with hq | hq
  · rw [hq] at hd
    have : (0 ^^^ 1 : Nat) = 1 := by decide
    rw [this] at hd
    rw [if_pos (by omega)]; omega
  · rw [hq] at hd
    have : (1 ^^^ 1 : Nat) = 0 := by decide
    rw [this] at hd
    rw [if_neg (by omega)]; omega

theorem negF_lt (b : Nat) (h : b < 4294967296) : negF b < 4294967296 := by
  rw [xor_top b h]; split <;> omega

theorem absF_lt (b : Nat) : absF b < 4294967296 := by
  have := Nat.mod_lt b (show 0 < 2147483648 by decide)
  unfold absF; omega

theorem reluF_lt (b : Nat) (h : b < 4294967296) : reluF b < 4294967296 := by
  unfold reluF; split
  · exact h
  · split
    · exact h
    · omega

/-- Operators of one, by their numbers: Identity 0, Neg 1, Abs 2, Not 3, Relu 4, Sqrt 5, Floor 6, Exp 7, Sigmoid 8, Tanh 9. Of floats the first five alone. -/
def unFl (k : Nat) (b : Nat) : Int × Int :=
  match k with
  | 1 => (tob (negF b), 0)
  | 2 => (tob (absF b), 0)
  | 4 => (tob (reluF b), 0)
  | _ => (0, 1)

def absI (t x : Int) : Int := if x < 0 then wrapT t (wrap64 (-x)) else x

def unIn (k : Nat) (t x : Int) : Int × Int :=
  match k with
  | 1 => (wrapT t (wrap64 (-x)), 0)
  | 2 => (absI t x, 0)
  | _ => (0, 1)

def unBo (k : Nat) (x : Int) : Int × Int :=
  match k with
  | 3 => (1 - x, 0)
  | _ => (0, 1)

def un (k : Nat) (t x : Int) : Int × Int :=
  if chk t x = true then (if k = 0 then (x, 0) else if t = 1 then unFl k (fb x) else if t = 9 then unBo k x else unIn k t x) else (0, 1)

end Go.Proofs.YteigfipgmghgmaaGreatDoor.Nu
