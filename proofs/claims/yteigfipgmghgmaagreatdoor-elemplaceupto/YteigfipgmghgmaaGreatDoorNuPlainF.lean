/- Plain facts on floats of 32 bits: the one NaN, and what a word may be. Nothing here names the program. -/
import Derived.Test.YteigfipgmghgmaaGreatDoorNuPlain
namespace Go.Proofs.YteigfipgmghgmaaGreatDoor.Nu
open Go.RowKit

/-- The number that a float's bits are handed back as: of whichever NaN the one. -/
def tob (b : Nat) : Int := if (FloatKind.f32.format.order b b != some .eq) = true then 2143289344 else (b : Int)

def tobO : Option Nat → Int
  | none => 2143289344
  | some r => tob r

/-- A float's bits, of an element. -/
def fb (x : Int) : Nat := (x % 4294967296).toNat

theorem fb_lt (x : Int) : fb x < 4294967296 := by unfold fb; omega

theorem datum_order_self (d : Ieee.Datum) : d.order d = if d.isNaN then none else some .eq := by
  cases d <;> simp [Ieee.Datum.order, Ieee.Datum.isNaN]

theorem order_self (b : Nat) : FloatKind.f32.format.order b b = if (FloatKind.f32.format.read b).isNaN then none else some .eq := datum_order_self _

theorem tob_eq (b : Nat) : tob b = if (FloatKind.f32.format.read b).isNaN then 2143289344 else (b : Int) := by
  unfold tob
  rw [order_self]
  cases (FloatKind.f32.format.read b).isNaN <;> simp

theorem read32_nan (b : Nat) (_h : b < 4294967296) : (FloatKind.f32.format.read b).isNaN = decide (2139095040 < b % 2147483648) := by
  have e1 : FloatKind.f32.format.signWeight = 2147483648 := rfl
  have e2 : FloatKind.f32.format.binade = 8388608 := rfl
  have e3 : FloatKind.f32.format.infRung = 2139095040 := rfl
  have e4 : FloatKind.f32.format.leastPlace = -149 := rfl
  unfold Ieee.Format.read
  simp only [e1, e2, e3, e4]
  split
  · simp [Ieee.Datum.isNaN]; omega
  · split
    · simp [Ieee.Datum.isNaN]; omega
    · split
      · simp [Ieee.Datum.isNaN]; omega
      · simp [Ieee.Datum.isNaN]; omega

theorem tob_num (b : Nat) (h : b < 4294967296) : tob b = if 2139095040 < b % 2147483648 then 2143289344 else (b : Int) := by
  rw [tob_eq, read32_nan b h]; simp

theorem chk_tob (b : Nat) (h : b < 4294967296) : chk 1 (tob b) = true := by
  rw [tob_num b h, chk_float 1 _ rfl]
  split
  · decide
  · simp; omega

theorem nan_cut (t : Nat) (x y : Nat) : tob ((Question.nanBits .f32 x y).cut t) = 2143289344 := by
  have h1 := Nat.mod_lt t (show 0 < 2 by decide)
  have h2 := Nat.mod_lt (t / 2) (show 0 < 8388607 by decide)
  have e : (Question.nanBits .f32 x y).cut t = (t % 2) * 2147483648 + 2139095040 + 1 + (t / 2) % 8388607 := rfl
  rw [e]
  generalize t % 2 = a at *
  generalize t / 2 % 8388607 = b at *
  rw [tob_num _ (by omega), if_pos (by omega)]

/-- A NaN's bits, as they are drawn. -/
def nb (x y t : Nat) : Nat := (Question.nanBits .f32 x y).cut t

theorem nb_lt (x y t : Nat) : nb x y t < 4294967296 := by
  have h1 := Nat.mod_lt t (show 0 < 2 by decide)
  have h2 := Nat.mod_lt (t / 2) (show 0 < 8388607 by decide)
  have e : nb x y t = (t % 2) * 2147483648 + 2139095040 + 1 + (t / 2) % 8388607 := rfl
  rw [e]
  generalize t % 2 = a at *
  generalize t / 2 % 8388607 = b at *
  omega

theorem tob_nb (x y t : Nat) : tob (nb x y t) = 2143289344 := nan_cut t x y

theorem run_float_none {P : Program} (w : World) (op : BinOp) (t : TypeId) (x y : Nat) (ho : op = .add ∨ op = .sub ∨ op = .mul ∨ op = .quo) (h : floatBits op .f32 x y = none) :
    (binOp op t (.float .f32 x) (.float .f32 y)).run P w = .ok (.float .f32 (nb x y (w.tape w.drawn (.nanBits .f32 x y)))) w.drew := by
  unfold floatBits at h
  rcases ho with rfl | rfl | rfl | rfl <;> simp only at h <;> simp [binOp, Op.floatArith, h, nb, Question.forced]

theorem fb_of (x : Int) (h : chk 1 x = true) : (fb x : Int) = x := by
  rw [chk_float 1 _ rfl] at h; simp at h; unfold fb; omega

theorem tob_fb (x : Int) (h : chk 1 x = true) : tob (fb x) = x := by
  have hh := h
  rw [chk_float 1 _ rfl] at h; simp at h
  rw [tob_num _ (fb_lt x)]
  have := fb_of x hh
  split <;> omega

theorem chk_lt (x : Int) (h : chk 1 x = true) : 0 ≤ x ∧ x < 4294967296 := by
  rw [chk_float 1 _ rfl] at h; simp at h; omega
end Go.Proofs.YteigfipgmghgmaaGreatDoor.Nu
