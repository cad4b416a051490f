/- Joined texts: NuPlain, NuWalkA, NuPlainF, NuWalkB, NuPlainG, NuWalkC, NuWalkD. -/
import Derived.WalkKit
import Derived.WalkSpells
import Derived.WalkLawsBesides
import Derived.Laws.FloatArith
import Derived.Laws.BitsAllLaws
import Derived.Test.YtdcbjikjeicgbaaGreatDoorRows
/- Plain facts on the numbers of package num: elements, their bits, sums, products and the order of floats. Nothing here names the program. -/
namespace Go.Proofs.YtdcbjikjeicgbaaGreatDoor.Nu
open Go.RowKit

theorem and_mask (a : Nat) (h : a < 4294967296) : a &&& 18446744071562067967 = a % 2147483648 := by
  have h1 : a &&& 4294967295 = a := by
    have := Nat.and_two_pow_sub_one_eq_mod a 32
    simp only [Nat.reducePow, Nat.reduceSub] at this
    rw [this]; exact Nat.mod_eq_of_lt h
  have h2 : a % 2147483648 = a &&& 2147483647 := by
    have := Nat.and_two_pow_sub_one_eq_mod a 31
    simp only [Nat.reducePow, Nat.reduceSub] at this
    exact this.symm
  rw [h2]
  conv => lhs; rw [← h1]
  rw [Nat.and_assoc]
  have e : (4294967295 : Nat) &&& 18446744071562067967 = 2147483647 := by decide
  rw [e]

theorem wrap_i64_eq (n : Int) : IntKind.i64.wrap n = wrap64 n := by
  simp [IntKind.wrap, IntKind.bits, IntKind.signed, wrap64]; split <;> omega

theorem andNot_i64 (x : Int) (h0 : 0 ≤ x) (h : x < 4294967296) : bits .andNot .i64 x 2147483648 = x % 2147483648 := by
  obtain ⟨a, rfl⟩ := Int.eq_ofNat_of_zero_le h0
  have ha : a < 4294967296 := by omega
  show IntKind.i64.wrap ((BitVec.ofInt 64 (a : Int) &&& ~~~BitVec.ofInt 64 (2147483648 : Int)).toNat : Int) = _
  have e1 : (BitVec.ofInt 64 (a : Int)).toNat = a := ofInt_u64 a (by omega)
  have e2 : (~~~BitVec.ofInt 64 (2147483648 : Int)).toNat = 18446744071562067967 := by decide
  rw [BitVec.toNat_and, e1, e2, and_mask a ha]
  have hm : a % 2147483648 < 2147483648 := Nat.mod_lt _ (by decide)
  have : ((a % 2147483648 : Nat) : Int) = (a : Int) % 2147483648 := by omega
  rw [this]
  rw [wrap_i64_eq]
  unfold wrap64; omega

/-- Which numbers are elements of a type. -/
def chk (t x : Int) : Bool :=
  if t = 1 then decide (0 ≤ x ∧ x < 4294967296 ∧ (x = 2143289344 ∨ x % 2147483648 ≤ 2139095040))
  else if t = 6 then decide (-2147483648 ≤ x ∧ x ≤ 2147483647)
  else if t = 7 then true
  else if t = 9 then decide (x = 0 ∨ x = 1)
  else false

theorem wrap32_le (x : Int) : -2147483648 ≤ wrap32 x ∧ wrap32 x ≤ 2147483647 := by
  unfold wrap32; omega

theorem chk6 (x : Int) : (x == wrap64 (wrap32 x)) = decide (-2147483648 ≤ x ∧ x ≤ 2147483647) := by
  rw [Bool.eq_iff_iff]
  simp only [beq_iff_eq, decide_eq_true_eq]
  unfold wrap64 wrap32
  omega

theorem chk_float (t x : Int) (h : t = 1) : chk t x = decide (0 ≤ x ∧ x < 4294967296 ∧ (x = 2143289344 ∨ x % 2147483648 ≤ 2139095040)) := by
  simp [chk, h]

end Go.Proofs.YtdcbjikjeicgbaaGreatDoor.Nu

/- The walks of the small functions of package num: Check, toBits, fromBits, wrap, truth, isType. -/
namespace Go.Proofs.YtdcbjikjeicgbaaGreatDoor.Nu
open Go.RowKit

set_option maxHeartbeats 400000 in
theorem check_any (t x : Int) (w : World) : Calls Tryz.prog 168 #[.int .i64 t, .int .i64 x] w fun e w' => e = .returned (.bool (chk t x)) ∧ w' = w := by
  by_cases h1 : t = 1
  · have c : chk t x = (decide (0 ≤ x) && (decide (x < 4294967296) && (x == 2143289344 || decide (x % 2147483648 ≤ 2139095040)))) := by
      rw [chk_float t x h1, Bool.eq_iff_iff]; simp
    have h1' : (t == 1) = true := by simpa using h1
    clear h1
    by_cases hx0 : 0 ≤ x
    · by_cases hx1 : x < 4294967296
      · have a := andNot_i64 x hx0 hx1
        by_cases hx2 : x = 2143289344
        · have c' : chk t x = true := by rw [c]; simp [hx2]
          rw [c']; clear c c'; subst hx2
          go_enter Tryz.func168, Tryz.ntmps168
          go_wp2
          go_ret
          exact ⟨rfl, rfl⟩
        · have c' : chk t x = decide (x % 2147483648 ≤ 2139095040) := by rw [c]; simp [hx0, hx1, hx2]
          rw [c']; clear c c'
          have hx2' : (x == 2143289344) = false := by simpa using hx2
          clear hx2
          go_enter Tryz.func168, Tryz.ntmps168
          go_wp2
          go_ret
          exact ⟨rfl, rfl⟩
      · have c' : chk t x = false := by rw [c]; simp [hx1]
        rw [c']; clear c c'
        go_enter Tryz.func168, Tryz.ntmps168
        go_wp2
        go_ret
        exact ⟨rfl, rfl⟩
    · have c' : chk t x = false := by rw [c]; simp [hx0]
      rw [c']; clear c c'
      go_enter Tryz.func168, Tryz.ntmps168
      go_wp2
      go_ret
      exact ⟨rfl, rfl⟩
  · have h1' : (t == 1) = false := by simpa using h1
    by_cases h6 : t = 6
    · have h6' : (t == 6) = true := by simpa using h6
      have c : chk t x = (x == wrap64 (wrap32 x)) := by rw [chk6]; simp [chk, h6]
      rw [c]; clear c h1 h6
      go_enter Tryz.func168, Tryz.ntmps168
      go_wp2
      go_ret
      exact ⟨rfl, rfl⟩
    · have h6' : (t == 6) = false := by simpa using h6
      by_cases h7 : t = 7
      · have h7' : (t == 7) = true := by simpa using h7
        have c : chk t x = true := by simp [chk, h7]
        rw [c]; clear c h1 h6 h7
        go_enter Tryz.func168, Tryz.ntmps168
        go_wp2
        go_ret
        exact ⟨rfl, rfl⟩
      · have h7' : (t == 7) = false := by simpa using h7
        by_cases h9 : t = 9
        · have h9' : (t == 9) = true := by simpa using h9
          have c : chk t x = (x == 0 || x == 1) := by rw [Bool.eq_iff_iff]; simp [chk, h9]
          by_cases hx0 : x = 0
          · have c' : chk t x = true := by rw [c]; simp [hx0]
            rw [c']; clear c c' h1 h6 h7 h9; subst hx0
            go_enter Tryz.func168, Tryz.ntmps168
            go_wp2
            go_ret
            exact ⟨rfl, rfl⟩
          · have hx0' : (x == 0) = false := by simpa using hx0
            rw [c]; clear c h1 h6 h7 h9 hx0
            go_enter Tryz.func168, Tryz.ntmps168
            go_wp2
            go_ret
            exact ⟨by simp [hx0'], rfl⟩
        · have h9' : (t == 9) = false := by simpa using h9
          have c : chk t x = false := by simp [chk, h1, h6, h7, h9]
          rw [c]; clear c h1 h6 h7 h9
          go_enter Tryz.func168, Tryz.ntmps168
          go_wp2
          go_ret
          exact ⟨rfl, rfl⟩

theorem check_yes (t x : Int) (w : World) (h : chk t x = true) : Calls Tryz.prog 168 #[.int .i64 t, .int .i64 x] w fun e w' => e = .returned (.bool true) ∧ w' = w := by
  have := check_any t x w; rw [h] at this; exact this
theorem check_no (t x : Int) (w : World) (h : chk t x = false) : Calls Tryz.prog 168 #[.int .i64 t, .int .i64 x] w fun e w' => e = .returned (.bool false) ∧ w' = w := by
  have := check_any t x w; rw [h] at this; exact this
end Go.Proofs.YtdcbjikjeicgbaaGreatDoor.Nu

/- Plain facts on floats of 32 bits: the one NaN, and what a word may be. Nothing here names the program. -/
namespace Go.Proofs.YtdcbjikjeicgbaaGreatDoor.Nu
open Go.RowKit

/-- The number that a float's bits are handed back as: of whichever NaN the one. -/
def tob (b : Nat) : Int := if (FloatKind.f32.format.order b b != some .eq) = true then 2143289344 else (b : Int)

def tobO : Option Nat → Int
  | none => 2143289344
  | some r => tob r

/-- A float's bits, of an element. -/
def fb (x : Int) : Nat := (x % 4294967296).toNat

theorem fb_lt (x : Int) : fb x < 4294967296 := by unfold fb; omega

theorem datum_order_self (d : Ieee.Datum) : d.order d = if d.isNaN then none else some .eq := by
  cases d <;> simp [Ieee.Datum.order, Ieee.Datum.isNaN]

theorem order_self (b : Nat) : FloatKind.f32.format.order b b = if (FloatKind.f32.format.read b).isNaN then none else some .eq := datum_order_self _

theorem tob_eq (b : Nat) : tob b = if (FloatKind.f32.format.read b).isNaN then 2143289344 else (b : Int) := by
  unfold tob
  rw [order_self]
  cases (FloatKind.f32.format.read b).isNaN <;> simp

theorem read32_nan (b : Nat) (_h : b < 4294967296) : (FloatKind.f32.format.read b).isNaN = decide (2139095040 < b % 2147483648) := by
  have e1 : FloatKind.f32.format.signWeight = 2147483648 := rfl
  have e2 : FloatKind.f32.format.binade = 8388608 := rfl
  have e3 : FloatKind.f32.format.infRung = 2139095040 := rfl
  have e4 : FloatKind.f32.format.leastPlace = -149 := rfl
  unfold Ieee.Format.read
  simp only [e1, e2, e3, e4]
  split
  · simp [Ieee.Datum.isNaN]; omega
  · split
    · simp [Ieee.Datum.isNaN]; omega
    · split
      · simp [Ieee.Datum.isNaN]; omega
      · simp [Ieee.Datum.isNaN]; omega

theorem tob_num (b : Nat) (h : b < 4294967296) : tob b = if 2139095040 < b % 2147483648 then 2143289344 else (b : Int) := by
  rw [tob_eq, read32_nan b h]; simp

theorem chk_tob (b : Nat) (h : b < 4294967296) : chk 1 (tob b) = true := by
  rw [tob_num b h, chk_float 1 _ rfl]
  split
  · decide
  · simp; omega

theorem nan_cut (t : Nat) (x y : Nat) : tob ((Question.nanBits .f32 x y).cut t) = 2143289344 := by
  have h1 := Nat.mod_lt t (show 0 < 2 by decide)
  have h2 := Nat.mod_lt (t / 2) (show 0 < 8388607 by decide)
  have e : (Question.nanBits .f32 x y).cut t = (t % 2) * 2147483648 + 2139095040 + 1 + (t / 2) % 8388607 := rfl
  rw [e]
  generalize t % 2 = a at *
  generalize t / 2 % 8388607 = b at *
  rw [tob_num _ (by omega), if_pos (by omega)]

/-- A NaN's bits, as they are drawn. -/
def nb (x y t : Nat) : Nat := (Question.nanBits .f32 x y).cut t

theorem nb_lt (x y t : Nat) : nb x y t < 4294967296 := by
  have h1 := Nat.mod_lt t (show 0 < 2 by decide)
  have h2 := Nat.mod_lt (t / 2) (show 0 < 8388607 by decide)
  have e : nb x y t = (t % 2) * 2147483648 + 2139095040 + 1 + (t / 2) % 8388607 := rfl
  rw [e]
  generalize t % 2 = a at *
  generalize t / 2 % 8388607 = b at *
  omega

theorem tob_nb (x y t : Nat) : tob (nb x y t) = 2143289344 := nan_cut t x y

theorem run_float_none {P : Program} (w : World) (op : BinOp) (t : TypeId) (x y : Nat) (ho : op = .add ∨ op = .sub ∨ op = .mul ∨ op = .quo) (h : floatBits op .f32 x y = none) :
    (binOp op t (.float .f32 x) (.float .f32 y)).run P w = .ok (.float .f32 (nb x y (w.tape w.drawn (.nanBits .f32 x y)))) w.drew := by
  unfold floatBits at h
  rcases ho with rfl | rfl | rfl | rfl <;> simp only at h <;> simp [binOp, Op.floatArith, h, nb, Question.forced]

theorem fb_of (x : Int) (h : chk 1 x = true) : (fb x : Int) = x := by
  rw [chk_float 1 _ rfl] at h; simp at h; unfold fb; omega

theorem tob_fb (x : Int) (h : chk 1 x = true) : tob (fb x) = x := by
  have hh := h
  rw [chk_float 1 _ rfl] at h; simp at h
  rw [tob_num _ (fb_lt x)]
  have := fb_of x hh
  split <;> omega

theorem chk_lt (x : Int) (h : chk 1 x = true) : 0 ≤ x ∧ x < 4294967296 := by
  rw [chk_float 1 _ rfl] at h; simp at h; omega
end Go.Proofs.YtdcbjikjeicgbaaGreatDoor.Nu

/- The walks of package num's sums, differences, products and quotients of floats. -/
namespace Go.Proofs.YtdcbjikjeicgbaaGreatDoor.Nu
open Go.RowKit

theorem ext_from (n : Int) (w : World) : (callFunc 159 #[.int .u32 n]).run Tryz.prog w = .ok (.value (.float .f32 n.toNat)) w := by kernel_rfl
theorem ext_bits (b : Nat) (w : World) : (callFunc 198 #[.float .f32 b]).run Tryz.prog w = .ok (.value (.int .u32 b)) w := by kernel_rfl
attribute [local go_sem] ext_from ext_bits

set_option maxHeartbeats 400000 in
theorem from_any (x : Int) (w : World) : Calls Tryz.prog 191 #[.int .i64 x] w fun e w' => e = .returned (.float .f32 (fb x)) ∧ w' = w := by
  go_enter Tryz.func191, Tryz.ntmps191
  go_wp2
  go_ret
  exact ⟨rfl, rfl⟩

set_option maxHeartbeats 400000 in
theorem to_any (b : Nat) (w : World) (hb : b < 4294967296) : Calls Tryz.prog 212 #[.float .f32 b] w fun e w' => e = .returned (.int .i64 (tob b)) ∧ w' = w := by
  by_cases h : (FloatKind.f32.format.order b b != some .eq) = true
  · have c : tob b = 2143289344 := by unfold tob; rw [if_pos h]
    rw [c]; clear c
    go_enter Tryz.func212, Tryz.ntmps212
    go_wp2
    go_ret
    exact ⟨rfl, rfl⟩
  · have c : tob b = b := by unfold tob; rw [if_neg h]
    have h' : (FloatKind.f32.format.order b b != some .eq) = false := by simpa using h
    rw [c]; clear c h
    go_enter Tryz.func212, Tryz.ntmps212
    go_wp2
    go_ret
    exact ⟨rfl, rfl⟩

set_option maxHeartbeats 400000 in
theorem add_f (x y : Nat) (w : World) : Calls Tryz.prog 204 #[.string ⟨#[65, 100, 100]⟩, .float .f32 x, .float .f32 y] w fun e w' => e = .returned (.tuple #[.int .i64 (tobO (floatBits .add .f32 x y)), .int .i64 0]) ∧ ∃ n, w' = w.drewN n := by
  cases h : floatBits .add .f32 x y with
  | some r =>
    have hr : r < 4294967296 := Ieee.Format.add_lt _ h
    have hrun := fun w t => run_float_arith (P := Tryz.prog) w .add t .f32 x y r h
    show Calls _ _ _ _ fun e w' => e = .returned (.tuple #[.int .i64 (tob r), .int .i64 0]) ∧ ∃ n, w' = w.drewN n
    clear h
    go_enter Tryz.func204, Tryz.ntmps204
    go_wp2_with (first | (go_at_call 212; refine (to_any _ _ hr).mono ?_; rintro e w' ⟨rfl, rfl⟩) | go_in)
    go_ret2
    exact ⟨rfl, 0, rfl⟩
  | none =>
    have hrun := fun w t => run_float_none (P := Tryz.prog) w .add t x y (by decide) h
    show Calls _ _ _ _ fun e w' => e = .returned (.tuple #[.int .i64 2143289344, .int .i64 0]) ∧ ∃ n, w' = w.drewN n
    clear h
    go_enter Tryz.func204, Tryz.ntmps204
    go_wp2_with (first | (go_at_call 212; refine (to_any _ _ (nb_lt _ _ _)).mono ?_; rw [tob_nb]; rintro e w' ⟨rfl, rfl⟩) | go_in)
    go_ret2
    exact ⟨rfl, 1, rfl⟩

set_option maxHeartbeats 400000 in
theorem sub_f (x y : Nat) (w : World) : Calls Tryz.prog 204 #[.string ⟨#[83, 117, 98]⟩, .float .f32 x, .float .f32 y] w fun e w' => e = .returned (.tuple #[.int .i64 (tobO (floatBits .sub .f32 x y)), .int .i64 0]) ∧ ∃ n, w' = w.drewN n := by
  cases h : floatBits .sub .f32 x y with
  | some r =>
    have hr : r < 4294967296 := Ieee.Format.sub_lt _ h
    have hrun := fun w t => run_float_arith (P := Tryz.prog) w .sub t .f32 x y r h
    show Calls _ _ _ _ fun e w' => e = .returned (.tuple #[.int .i64 (tob r), .int .i64 0]) ∧ ∃ n, w' = w.drewN n
    clear h
    go_enter Tryz.func204, Tryz.ntmps204
    go_wp2_with (first | (go_at_call 212; refine (to_any _ _ hr).mono ?_; rintro e w' ⟨rfl, rfl⟩) | go_in)
    go_ret2
    exact ⟨rfl, 0, rfl⟩
  | none =>
    have hrun := fun w t => run_float_none (P := Tryz.prog) w .sub t x y (by decide) h
    show Calls _ _ _ _ fun e w' => e = .returned (.tuple #[.int .i64 2143289344, .int .i64 0]) ∧ ∃ n, w' = w.drewN n
    clear h
    go_enter Tryz.func204, Tryz.ntmps204
    go_wp2_with (first | (go_at_call 212; refine (to_any _ _ (nb_lt _ _ _)).mono ?_; rw [tob_nb]; rintro e w' ⟨rfl, rfl⟩) | go_in)
    go_ret2
    exact ⟨rfl, 1, rfl⟩

set_option maxHeartbeats 400000 in
theorem mul_f (x y : Nat) (w : World) : Calls Tryz.prog 204 #[.string ⟨#[77, 117, 108]⟩, .float .f32 x, .float .f32 y] w fun e w' => e = .returned (.tuple #[.int .i64 (tobO (floatBits .mul .f32 x y)), .int .i64 0]) ∧ ∃ n, w' = w.drewN n := by
  cases h : floatBits .mul .f32 x y with
  | some r =>
    have hr : r < 4294967296 := Ieee.Format.mul_lt _ h
    have hrun := fun w t => run_float_arith (P := Tryz.prog) w .mul t .f32 x y r h
    show Calls _ _ _ _ fun e w' => e = .returned (.tuple #[.int .i64 (tob r), .int .i64 0]) ∧ ∃ n, w' = w.drewN n
    clear h
    go_enter Tryz.func204, Tryz.ntmps204
    go_wp2_with (first | (go_at_call 212; refine (to_any _ _ hr).mono ?_; rintro e w' ⟨rfl, rfl⟩) | go_in)
    go_ret2
    exact ⟨rfl, 0, rfl⟩
  | none =>
    have hrun := fun w t => run_float_none (P := Tryz.prog) w .mul t x y (by decide) h
    show Calls _ _ _ _ fun e w' => e = .returned (.tuple #[.int .i64 2143289344, .int .i64 0]) ∧ ∃ n, w' = w.drewN n
    clear h
    go_enter Tryz.func204, Tryz.ntmps204
    go_wp2_with (first | (go_at_call 212; refine (to_any _ _ (nb_lt _ _ _)).mono ?_; rw [tob_nb]; rintro e w' ⟨rfl, rfl⟩) | go_in)
    go_ret2
    exact ⟨rfl, 1, rfl⟩

set_option maxHeartbeats 400000 in
theorem div_f (x y : Nat) (w : World) : Calls Tryz.prog 204 #[.string ⟨#[68, 105, 118]⟩, .float .f32 x, .float .f32 y] w fun e w' => e = .returned (.tuple #[.int .i64 (tobO (floatBits .quo .f32 x y)), .int .i64 0]) ∧ ∃ n, w' = w.drewN n := by
  cases h : floatBits .quo .f32 x y with
  | some r =>
    have hr : r < 4294967296 := Ieee.Format.div_lt _ h
    have hrun := fun w t => run_float_arith (P := Tryz.prog) w .quo t .f32 x y r h
    show Calls _ _ _ _ fun e w' => e = .returned (.tuple #[.int .i64 (tob r), .int .i64 0]) ∧ ∃ n, w' = w.drewN n
    clear h
    go_enter Tryz.func204, Tryz.ntmps204
    go_wp2_with (first | (go_at_call 212; refine (to_any _ _ hr).mono ?_; rintro e w' ⟨rfl, rfl⟩) | go_in)
    go_ret2
    exact ⟨rfl, 0, rfl⟩
  | none =>
    have hrun := fun w t => run_float_none (P := Tryz.prog) w .quo t x y (by decide) h
    show Calls _ _ _ _ fun e w' => e = .returned (.tuple #[.int .i64 2143289344, .int .i64 0]) ∧ ∃ n, w' = w.drewN n
    clear h
    go_enter Tryz.func204, Tryz.ntmps204
    go_wp2_with (first | (go_at_call 212; refine (to_any _ _ (nb_lt _ _ _)).mono ?_; rw [tob_nb]; rintro e w' ⟨rfl, rfl⟩) | go_in)
    go_ret2
    exact ⟨rfl, 1, rfl⟩

end Go.Proofs.YtdcbjikjeicgbaaGreatDoor.Nu

/- What package num's operators give, as plain functions of numbers. Nothing here names the program. -/
namespace Go.Proofs.YtdcbjikjeicgbaaGreatDoor.Nu
open Go.RowKit

def b2i (b : Bool) : Int := if b then 1 else 0

def ord (x y : Nat) : Option Ordering := FloatKind.f32.format.order x y

/-- The greater one, the less one, of two floats. -/
def maxF (x y : Nat) : Int :=
  match ord x y with
  | none => 2143289344
  | some .lt => tob y
  | some .gt => tob x
  | some .eq => if (FloatKind.f32.decode x).neg then tob y else tob x
def minF (x y : Nat) : Int :=
  match ord x y with
  | none => 2143289344
  | some .lt => tob x
  | some .gt => tob y
  | some .eq => if (FloatKind.f32.decode x).neg then tob x else tob y

/-- Operators of two, by their numbers: Add 0, Sub 1, Mul 2, Div 3, Max 4, Min 5, And 6, Or 7, Xor 8, Equal 9, Less 10, Greater 11. -/
def binFl (k : Nat) (x y : Nat) : Int × Int :=
  match k with
  | 0 => (tobO (floatBits .add .f32 x y), 0)
  | 1 => (tobO (floatBits .sub .f32 x y), 0)
  | 2 => (tobO (floatBits .mul .f32 x y), 0)
  | 3 => (tobO (floatBits .quo .f32 x y), 0)
  | 4 => (maxF x y, 0)
  | 5 => (minF x y, 0)
  | 9 => (b2i (ord x y == some .eq), 0)
  | 10 => (b2i (ord x y == some .lt), 0)
  | 11 => (b2i (ord x y == some .gt), 0)
  | _ => (0, 1)

def wrapT (t n : Int) : Int := if t = 6 then wrap64 (wrap32 n) else n

def maxI (x y : Int) : Int := if y > x then y else x
def minI (x y : Int) : Int := if y < x then y else x

def binIn (k : Nat) (t x y : Int) : Int × Int :=
  match k with
  | 0 => (wrapT t (wrap64 (x + y)), 0)
  | 1 => (wrapT t (wrap64 (x - y)), 0)
  | 2 => (wrapT t (wrap64 (x * y)), 0)
  | 3 => if y = 0 then (0, 7) else (wrapT t (wrap64 (x.tdiv y)), 0)
  | 4 => (wrapT t (maxI x y), 0)
  | 5 => (wrapT t (minI x y), 0)
  | 9 => (b2i (x == y), 0)
  | 10 => (b2i (decide (x < y)), 0)
  | 11 => (b2i (decide (y < x)), 0)
  | _ => (0, 1)

def binBo (k : Nat) (x y : Int) : Int × Int :=
  match k with
  | 6 => (x * y, 0)
  | 7 => (x + y - x * y, 0)
  | 8 => (x + y - 2 * (x * y), 0)
  | 9 => (b2i (x == y), 0)
  | _ => (0, 1)

def bin (k : Nat) (t x y : Int) : Int × Int :=
  if (chk t x && chk t y) = true then (if t = 1 then binFl k (fb x) (fb y) else if t = 9 then binBo k x y else binIn k t x y) else (0, 1)

section
variable {P : Program} (w : World) (ts : Array TypeId) (t : TypeId) (x y : Nat)
theorem run_maxF_none (h : ord x y = none) : (Builtin.max_ ts t #[.float .f32 x, .float .f32 y]).run P w = .ok (.float .f32 (nb x y (w.tape w.drawn (.nanMinMax .f32 true x y)))) w.drew := by
  unfold ord at h; simp [Builtin.max_, Builtin.max2, h, nb, Question.forced, Question.cut]
theorem run_minF_none (h : ord x y = none) : (Builtin.min_ ts t #[.float .f32 x, .float .f32 y]).run P w = .ok (.float .f32 (nb x y (w.tape w.drawn (.nanMinMax .f32 false x y)))) w.drew := by
  unfold ord at h; simp [Builtin.min_, Builtin.min2, h, nb, Question.forced, Question.cut]
theorem run_maxF_lt (h : ord x y = some .lt) : (Builtin.max_ ts t #[.float .f32 x, .float .f32 y]).run P w = .ok (.float .f32 y) w := by
  unfold ord at h; simp [Builtin.max_, Builtin.max2, h]
theorem run_minF_lt (h : ord x y = some .lt) : (Builtin.min_ ts t #[.float .f32 x, .float .f32 y]).run P w = .ok (.float .f32 x) w := by
  unfold ord at h; simp [Builtin.min_, Builtin.min2, h]
theorem run_maxF_gt (h : ord x y = some .gt) : (Builtin.max_ ts t #[.float .f32 x, .float .f32 y]).run P w = .ok (.float .f32 x) w := by
  unfold ord at h; simp [Builtin.max_, Builtin.max2, h]
theorem run_minF_gt (h : ord x y = some .gt) : (Builtin.min_ ts t #[.float .f32 x, .float .f32 y]).run P w = .ok (.float .f32 y) w := by
  unfold ord at h; simp [Builtin.min_, Builtin.min2, h]
theorem run_maxF_eq (h : ord x y = some .eq) : (Builtin.max_ ts t #[.float .f32 x, .float .f32 y]).run P w = .ok (.float .f32 (if (FloatKind.f32.decode x).neg then y else x)) w := by
  unfold ord at h; simp [Builtin.max_, Builtin.max2, h]
theorem run_minF_eq (h : ord x y = some .eq) : (Builtin.min_ ts t #[.float .f32 x, .float .f32 y]).run P w = .ok (.float .f32 (if (FloatKind.f32.decode x).neg then x else y)) w := by
  unfold ord at h; simp [Builtin.min_, Builtin.min2, h]
end
end Go.Proofs.YtdcbjikjeicgbaaGreatDoor.Nu

/- The walks of package num's greater one, less one, comparisons and refusals of two floats; then all operators of two floats in one. -/
namespace Go.Proofs.YtdcbjikjeicgbaaGreatDoor.Nu
open Go.RowKit

set_option maxHeartbeats 400000 in
theorem max_run (x y r : Nat) (w : World) (hr : r < 4294967296) (hrun : ∀ (w : World) (ts : Array TypeId) (t : TypeId), (Builtin.max_ ts t #[.float .f32 x, .float .f32 y]).run Tryz.prog w = .ok (.float .f32 r) w) :
    Calls Tryz.prog 204 #[.string ⟨#[77, 97, 120]⟩, .float .f32 x, .float .f32 y] w fun e w' => e = .returned (.tuple #[.int .i64 (tob r), .int .i64 0]) ∧ ∃ n, w' = w.drewN n := by
  go_enter Tryz.func204, Tryz.ntmps204
  go_wp2_with (first | (go_at_call 212; refine (to_any _ _ hr).mono ?_; rintro e w' ⟨rfl, rfl⟩) | go_in)
  go_ret2
  exact ⟨rfl, 0, rfl⟩

set_option maxHeartbeats 400000 in
theorem max_none (x y : Nat) (w : World) (h : ord x y = none) :
    Calls Tryz.prog 204 #[.string ⟨#[77, 97, 120]⟩, .float .f32 x, .float .f32 y] w fun e w' => e = .returned (.tuple #[.int .i64 2143289344, .int .i64 0]) ∧ ∃ n, w' = w.drewN n := by
  have hrun := fun w ts t => run_maxF_none (P := Tryz.prog) w ts t x y h
  clear h
  go_enter Tryz.func204, Tryz.ntmps204
  go_wp2_with (first | (go_at_call 212; refine (to_any _ _ (nb_lt _ _ _)).mono ?_; rw [tob_nb]; rintro e w' ⟨rfl, rfl⟩) | go_in)
  go_ret2
  exact ⟨rfl, 1, rfl⟩

theorem max_f (x y : Nat) (w : World) (hx : x < 4294967296) (hy : y < 4294967296) :
    Calls Tryz.prog 204 #[.string ⟨#[77, 97, 120]⟩, .float .f32 x, .float .f32 y] w fun e w' => e = .returned (.tuple #[.int .i64 (maxF x y), .int .i64 0]) ∧ ∃ n, w' = w.drewN n := by
  cases h : ord x y with
  | none => have e : maxF x y = 2143289344 := by simp [maxF, h]
            rw [e]; exact max_none x y w h
  | some c =>
    cases c with
    | lt => have e : maxF x y = tob y := by simp [maxF, h]
            rw [e]; exact max_run x y y w hy (fun w ts t => run_maxF_lt w ts t x y h)
    | gt => have e : maxF x y = tob x := by simp [maxF, h]
            rw [e]; exact max_run x y x w hx (fun w ts t => run_maxF_gt w ts t x y h)
    | eq =>
      cases hn : (FloatKind.f32.decode x).neg with
      | true => have e : maxF x y = tob y := by simp [maxF, h, hn]
                rw [e]; exact max_run x y y w hy (fun w ts t => by rw [run_maxF_eq w ts t x y h, hn]; rfl)
      | false => have e : maxF x y = tob x := by simp [maxF, h, hn]
                 rw [e]; exact max_run x y x w hx (fun w ts t => by rw [run_maxF_eq w ts t x y h, hn]; rfl)

set_option maxHeartbeats 400000 in
theorem min_run (x y r : Nat) (w : World) (hr : r < 4294967296) (hrun : ∀ (w : World) (ts : Array TypeId) (t : TypeId), (Builtin.min_ ts t #[.float .f32 x, .float .f32 y]).run Tryz.prog w = .ok (.float .f32 r) w) :
    Calls Tryz.prog 204 #[.string ⟨#[77, 105, 110]⟩, .float .f32 x, .float .f32 y] w fun e w' => e = .returned (.tuple #[.int .i64 (tob r), .int .i64 0]) ∧ ∃ n, w' = w.drewN n := by
  go_enter Tryz.func204, Tryz.ntmps204
  go_wp2_with (first | (go_at_call 212; refine (to_any _ _ hr).mono ?_; rintro e w' ⟨rfl, rfl⟩) | go_in)
  go_ret2
  exact ⟨rfl, 0, rfl⟩

set_option maxHeartbeats 400000 in
theorem min_none (x y : Nat) (w : World) (h : ord x y = none) :
    Calls Tryz.prog 204 #[.string ⟨#[77, 105, 110]⟩, .float .f32 x, .float .f32 y] w fun e w' => e = .returned (.tuple #[.int .i64 2143289344, .int .i64 0]) ∧ ∃ n, w' = w.drewN n := by
  have hrun := fun w ts t => run_minF_none (P := Tryz.prog) w ts t x y h
  clear h
  go_enter Tryz.func204, Tryz.ntmps204
  go_wp2_with (first | (go_at_call 212; refine (to_any _ _ (nb_lt _ _ _)).mono ?_; rw [tob_nb]; rintro e w' ⟨rfl, rfl⟩) | go_in)
  go_ret2
  exact ⟨rfl, 1, rfl⟩

theorem min_f (x y : Nat) (w : World) (hx : x < 4294967296) (hy : y < 4294967296) :
    Calls Tryz.prog 204 #[.string ⟨#[77, 105, 110]⟩, .float .f32 x, .float .f32 y] w fun e w' => e = .returned (.tuple #[.int .i64 (minF x y), .int .i64 0]) ∧ ∃ n, w' = w.drewN n := by
  cases h : ord x y with
  | none => have e : minF x y = 2143289344 := by simp [minF, h]
            rw [e]; exact min_none x y w h
  | some c =>
    cases c with
    | lt => have e : minF x y = tob x := by simp [minF, h]
            rw [e]; exact min_run x y x w hx (fun w ts t => run_minF_lt w ts t x y h)
    | gt => have e : minF x y = tob y := by simp [minF, h]
            rw [e]; exact min_run x y y w hy (fun w ts t => run_minF_gt w ts t x y h)
    | eq =>
      cases hn : (FloatKind.f32.decode x).neg with
      | true => have e : minF x y = tob x := by simp [minF, h, hn]
                rw [e]; exact min_run x y x w hx (fun w ts t => by rw [run_minF_eq w ts t x y h, hn]; rfl)
      | false => have e : minF x y = tob y := by simp [minF, h, hn]
                 rw [e]; exact min_run x y y w hy (fun w ts t => by rw [run_minF_eq w ts t x y h, hn]; rfl)

set_option maxHeartbeats 400000 in
theorem cmp9_f (x y : Nat) (w : World) :
    Calls Tryz.prog 204 #[.string ⟨#[69, 113, 117, 97, 108]⟩, .float .f32 x, .float .f32 y] w fun e w' => e = .returned (.tuple #[.int .i64 (b2i (ord x y == some .eq)), .int .i64 0]) ∧ ∃ n, w' = w.drewN n := by
  cases h : (ord x y == some .eq) with
  | true =>
    have h' : (FloatKind.f32.format.order x y == some .eq) = true := h
    show Calls _ _ _ _ fun e w' => e = .returned (.tuple #[.int .i64 1, .int .i64 0]) ∧ ∃ n, w' = w.drewN n
    clear h
    go_enter Tryz.func204, Tryz.ntmps204
    go_wp2
    go_ret2
    exact ⟨rfl, 0, rfl⟩
  | false =>
    have h' : (FloatKind.f32.format.order x y == some .eq) = false := h
    show Calls _ _ _ _ fun e w' => e = .returned (.tuple #[.int .i64 0, .int .i64 0]) ∧ ∃ n, w' = w.drewN n
    clear h
    go_enter Tryz.func204, Tryz.ntmps204
    go_wp2
    go_ret2
    exact ⟨rfl, 0, rfl⟩

set_option maxHeartbeats 400000 in
theorem cmp10_f (x y : Nat) (w : World) :
    Calls Tryz.prog 204 #[.string ⟨#[76, 101, 115, 115]⟩, .float .f32 x, .float .f32 y] w fun e w' => e = .returned (.tuple #[.int .i64 (b2i (ord x y == some .lt)), .int .i64 0]) ∧ ∃ n, w' = w.drewN n := by
  cases h : (ord x y == some .lt) with
  | true =>
    have h' : (FloatKind.f32.format.order x y == some .lt) = true := h
    show Calls _ _ _ _ fun e w' => e = .returned (.tuple #[.int .i64 1, .int .i64 0]) ∧ ∃ n, w' = w.drewN n
    clear h
    go_enter Tryz.func204, Tryz.ntmps204
    go_wp2
    go_ret2
    exact ⟨rfl, 0, rfl⟩
  | false =>
    have h' : (FloatKind.f32.format.order x y == some .lt) = false := h
    show Calls _ _ _ _ fun e w' => e = .returned (.tuple #[.int .i64 0, .int .i64 0]) ∧ ∃ n, w' = w.drewN n
    clear h
    go_enter Tryz.func204, Tryz.ntmps204
    go_wp2
    go_ret2
    exact ⟨rfl, 0, rfl⟩

set_option maxHeartbeats 400000 in
theorem cmp11_f (x y : Nat) (w : World) :
    Calls Tryz.prog 204 #[.string ⟨#[71, 114, 101, 97, 116, 101, 114]⟩, .float .f32 x, .float .f32 y] w fun e w' => e = .returned (.tuple #[.int .i64 (b2i (ord x y == some .gt)), .int .i64 0]) ∧ ∃ n, w' = w.drewN n := by
  cases h : (ord x y == some .gt) with
  | true =>
    have h' : (FloatKind.f32.format.order x y == some .gt) = true := h
    show Calls _ _ _ _ fun e w' => e = .returned (.tuple #[.int .i64 1, .int .i64 0]) ∧ ∃ n, w' = w.drewN n
    clear h
    go_enter Tryz.func204, Tryz.ntmps204
    go_wp2
    go_ret2
    exact ⟨rfl, 0, rfl⟩
  | false =>
    have h' : (FloatKind.f32.format.order x y == some .gt) = false := h
    show Calls _ _ _ _ fun e w' => e = .returned (.tuple #[.int .i64 0, .int .i64 0]) ∧ ∃ n, w' = w.drewN n
    clear h
    go_enter Tryz.func204, Tryz.ntmps204
    go_wp2
    go_ret2
    exact ⟨rfl, 0, rfl⟩

set_option maxHeartbeats 400000 in
theorem no6_f (x y : Nat) (w : World) :
    Calls Tryz.prog 204 #[.string ⟨#[65, 110, 100]⟩, .float .f32 x, .float .f32 y] w fun e w' => e = .returned (.tuple #[.int .i64 0, .int .i64 1]) ∧ ∃ n, w' = w.drewN n := by
  go_enter Tryz.func204, Tryz.ntmps204
  go_wp2
  go_ret2
  exact ⟨rfl, 0, rfl⟩

set_option maxHeartbeats 400000 in
theorem no7_f (x y : Nat) (w : World) :
    Calls Tryz.prog 204 #[.string ⟨#[79, 114]⟩, .float .f32 x, .float .f32 y] w fun e w' => e = .returned (.tuple #[.int .i64 0, .int .i64 1]) ∧ ∃ n, w' = w.drewN n := by
  go_enter Tryz.func204, Tryz.ntmps204
  go_wp2
  go_ret2
  exact ⟨rfl, 0, rfl⟩

set_option maxHeartbeats 400000 in
theorem no8_f (x y : Nat) (w : World) :
    Calls Tryz.prog 204 #[.string ⟨#[88, 111, 114]⟩, .float .f32 x, .float .f32 y] w fun e w' => e = .returned (.tuple #[.int .i64 0, .int .i64 1]) ∧ ∃ n, w' = w.drewN n := by
  go_enter Tryz.func204, Tryz.ntmps204
  go_wp2
  go_ret2
  exact ⟨rfl, 0, rfl⟩

end Go.Proofs.YtdcbjikjeicgbaaGreatDoor.Nu

/- The walks of package num's operators of two whole numbers and of two Bools. -/
namespace Go.Proofs.YtdcbjikjeicgbaaGreatDoor.Nu
open Go.RowKit

theorem wrapT6 (t n : Int) (h : (t == 6) = true) : wrapT t n = wrap64 (wrap32 n) := by simp at h; simp [wrapT, h]
theorem wrapT7 (t n : Int) (h : (t == 6) = false) : wrapT t n = n := by simp at h; simp [wrapT, h]

set_option maxHeartbeats 400000 in
theorem int0_f (t x y : Int) (w : World) : Calls Tryz.prog 205 #[.string ⟨#[65, 100, 100]⟩, .int .i64 t, .int .i64 x, .int .i64 y] w fun e w' => e = .returned (.tuple #[.int .i64 (wrapT t (wrap64 (x + y))), .int .i64 0]) ∧ w' = w := by
  cases h : (t == 6) with
  | true =>
    rw [wrapT6 t _ h]
    go_enter Tryz.func205, Tryz.ntmps205
    go_wp2
    go_ret2
    exact ⟨rfl, rfl⟩
  | false =>
    rw [wrapT7 t _ h]
    go_enter Tryz.func205, Tryz.ntmps205
    go_wp2
    go_ret2
    exact ⟨rfl, rfl⟩

set_option maxHeartbeats 400000 in
theorem int1_f (t x y : Int) (w : World) : Calls Tryz.prog 205 #[.string ⟨#[83, 117, 98]⟩, .int .i64 t, .int .i64 x, .int .i64 y] w fun e w' => e = .returned (.tuple #[.int .i64 (wrapT t (wrap64 (x - y))), .int .i64 0]) ∧ w' = w := by
  cases h : (t == 6) with
  | true =>
    rw [wrapT6 t _ h]
    go_enter Tryz.func205, Tryz.ntmps205
    go_wp2
    go_ret2
    exact ⟨rfl, rfl⟩
  | false =>
    rw [wrapT7 t _ h]
    go_enter Tryz.func205, Tryz.ntmps205
    go_wp2
    go_ret2
    exact ⟨rfl, rfl⟩

set_option maxHeartbeats 400000 in
theorem int2_f (t x y : Int) (w : World) : Calls Tryz.prog 205 #[.string ⟨#[77, 117, 108]⟩, .int .i64 t, .int .i64 x, .int .i64 y] w fun e w' => e = .returned (.tuple #[.int .i64 (wrapT t (wrap64 (x * y))), .int .i64 0]) ∧ w' = w := by
  cases h : (t == 6) with
  | true =>
    rw [wrapT6 t _ h]
    go_enter Tryz.func205, Tryz.ntmps205
    go_wp2
    go_ret2
    exact ⟨rfl, rfl⟩
  | false =>
    rw [wrapT7 t _ h]
    go_enter Tryz.func205, Tryz.ntmps205
    go_wp2
    go_ret2
    exact ⟨rfl, rfl⟩

set_option maxHeartbeats 400000 in
theorem int3_no (t x y : Int) (w : World) (hy : (y == 0) = true) : Calls Tryz.prog 205 #[.string ⟨#[68, 105, 118]⟩, .int .i64 t, .int .i64 x, .int .i64 y] w fun e w' => e = .returned (.tuple #[.int .i64 0, .int .i64 7]) ∧ w' = w := by
  go_enter Tryz.func205, Tryz.ntmps205
  go_wp2
  go_ret2
  exact ⟨rfl, rfl⟩

set_option maxHeartbeats 400000 in
theorem int3_yes (t x y : Int) (w : World) (hy : (y == 0) = false) : Calls Tryz.prog 205 #[.string ⟨#[68, 105, 118]⟩, .int .i64 t, .int .i64 x, .int .i64 y] w fun e w' => e = .returned (.tuple #[.int .i64 (wrapT t (wrap64 (x.tdiv y))), .int .i64 0]) ∧ w' = w := by
  have hy' : ¬ y = 0 := by simpa using hy
  cases h : (t == 6) with
  | true =>
    rw [wrapT6 t _ h]
    go_enter Tryz.func205, Tryz.ntmps205
    go_wp2
    go_ret2
    exact ⟨rfl, rfl⟩
  | false =>
    rw [wrapT7 t _ h]
    go_enter Tryz.func205, Tryz.ntmps205
    go_wp2
    go_ret2
    exact ⟨rfl, rfl⟩

set_option maxHeartbeats 400000 in
theorem int4_f (t x y : Int) (w : World) : Calls Tryz.prog 205 #[.string ⟨#[77, 97, 120]⟩, .int .i64 t, .int .i64 x, .int .i64 y] w fun e w' => e = .returned (.tuple #[.int .i64 (wrapT t (maxI x y)), .int .i64 0]) ∧ w' = w := by
  by_cases hm : x < y
  · rw [show maxI x y = y from if_pos hm]
    cases h : (t == 6) with
    | true =>
      rw [wrapT6 t _ h]
      go_enter Tryz.func205, Tryz.ntmps205
      go_wp2
      go_ret2
      exact ⟨rfl, rfl⟩
    | false =>
      rw [wrapT7 t _ h]
      go_enter Tryz.func205, Tryz.ntmps205
      go_wp2
      go_ret2
      exact ⟨rfl, rfl⟩
  · rw [show maxI x y = x from if_neg hm]
    cases h : (t == 6) with
    | true =>
      rw [wrapT6 t _ h]
      go_enter Tryz.func205, Tryz.ntmps205
      go_wp2
      go_ret2
      exact ⟨rfl, rfl⟩
    | false =>
      rw [wrapT7 t _ h]
      go_enter Tryz.func205, Tryz.ntmps205
      go_wp2
      go_ret2
      exact ⟨rfl, rfl⟩

set_option maxHeartbeats 400000 in
theorem int5_f (t x y : Int) (w : World) : Calls Tryz.prog 205 #[.string ⟨#[77, 105, 110]⟩, .int .i64 t, .int .i64 x, .int .i64 y] w fun e w' => e = .returned (.tuple #[.int .i64 (wrapT t (minI x y)), .int .i64 0]) ∧ w' = w := by
  by_cases hm : y < x
  · rw [show minI x y = y from if_pos hm]
    cases h : (t == 6) with
    | true =>
      rw [wrapT6 t _ h]
      go_enter Tryz.func205, Tryz.ntmps205
      go_wp2
      go_ret2
      exact ⟨rfl, rfl⟩
    | false =>
      rw [wrapT7 t _ h]
      go_enter Tryz.func205, Tryz.ntmps205
      go_wp2
      go_ret2
      exact ⟨rfl, rfl⟩
  · rw [show minI x y = x from if_neg hm]
    cases h : (t == 6) with
    | true =>
      rw [wrapT6 t _ h]
      go_enter Tryz.func205, Tryz.ntmps205
      go_wp2
      go_ret2
      exact ⟨rfl, rfl⟩
    | false =>
      rw [wrapT7 t _ h]
      go_enter Tryz.func205, Tryz.ntmps205
      go_wp2
      go_ret2
      exact ⟨rfl, rfl⟩

set_option maxHeartbeats 400000 in
theorem int9_f (t x y : Int) (w : World) : Calls Tryz.prog 205 #[.string ⟨#[69, 113, 117, 97, 108]⟩, .int .i64 t, .int .i64 x, .int .i64 y] w fun e w' => e = .returned (.tuple #[.int .i64 (b2i (x == y)), .int .i64 0]) ∧ w' = w := by
  cases h : (x == y) with
  | true =>
    show Calls _ _ _ _ fun e w' => e = .returned (.tuple #[.int .i64 1, .int .i64 0]) ∧ w' = w
    go_enter Tryz.func205, Tryz.ntmps205
    go_wp2
    go_ret2
    exact ⟨rfl, rfl⟩
  | false =>
    show Calls _ _ _ _ fun e w' => e = .returned (.tuple #[.int .i64 0, .int .i64 0]) ∧ w' = w
    go_enter Tryz.func205, Tryz.ntmps205
    go_wp2
    go_ret2
    exact ⟨rfl, rfl⟩

set_option maxHeartbeats 400000 in
theorem int10_f (t x y : Int) (w : World) : Calls Tryz.prog 205 #[.string ⟨#[76, 101, 115, 115]⟩, .int .i64 t, .int .i64 x, .int .i64 y] w fun e w' => e = .returned (.tuple #[.int .i64 (b2i (decide (x < y))), .int .i64 0]) ∧ w' = w := by
  cases h : (decide (x < y)) with
  | true =>
    show Calls _ _ _ _ fun e w' => e = .returned (.tuple #[.int .i64 1, .int .i64 0]) ∧ w' = w
    go_enter Tryz.func205, Tryz.ntmps205
    go_wp2
    go_ret2
    exact ⟨rfl, rfl⟩
  | false =>
    show Calls _ _ _ _ fun e w' => e = .returned (.tuple #[.int .i64 0, .int .i64 0]) ∧ w' = w
    go_enter Tryz.func205, Tryz.ntmps205
    go_wp2
    go_ret2
    exact ⟨rfl, rfl⟩

set_option maxHeartbeats 400000 in
theorem int11_f (t x y : Int) (w : World) : Calls Tryz.prog 205 #[.string ⟨#[71, 114, 101, 97, 116, 101, 114]⟩, .int .i64 t, .int .i64 x, .int .i64 y] w fun e w' => e = .returned (.tuple #[.int .i64 (b2i (decide (y < x))), .int .i64 0]) ∧ w' = w := by
  cases h : (decide (y < x)) with
  | true =>
    show Calls _ _ _ _ fun e w' => e = .returned (.tuple #[.int .i64 1, .int .i64 0]) ∧ w' = w
    go_enter Tryz.func205, Tryz.ntmps205
    go_wp2
    go_ret2
    exact ⟨rfl, rfl⟩
  | false =>
    show Calls _ _ _ _ fun e w' => e = .returned (.tuple #[.int .i64 0, .int .i64 0]) ∧ w' = w
    go_enter Tryz.func205, Tryz.ntmps205
    go_wp2
    go_ret2
    exact ⟨rfl, rfl⟩

set_option maxHeartbeats 400000 in
theorem int6_f (t x y : Int) (w : World) : Calls Tryz.prog 205 #[.string ⟨#[65, 110, 100]⟩, .int .i64 t, .int .i64 x, .int .i64 y] w fun e w' => e = .returned (.tuple #[.int .i64 0, .int .i64 1]) ∧ w' = w := by
  go_enter Tryz.func205, Tryz.ntmps205
  go_wp2
  go_ret2
  exact ⟨rfl, rfl⟩

set_option maxHeartbeats 400000 in
theorem int7_f (t x y : Int) (w : World) : Calls Tryz.prog 205 #[.string ⟨#[79, 114]⟩, .int .i64 t, .int .i64 x, .int .i64 y] w fun e w' => e = .returned (.tuple #[.int .i64 0, .int .i64 1]) ∧ w' = w := by
  go_enter Tryz.func205, Tryz.ntmps205
  go_wp2
  go_ret2
  exact ⟨rfl, rfl⟩

set_option maxHeartbeats 400000 in
theorem int8_f (t x y : Int) (w : World) : Calls Tryz.prog 205 #[.string ⟨#[88, 111, 114]⟩, .int .i64 t, .int .i64 x, .int .i64 y] w fun e w' => e = .returned (.tuple #[.int .i64 0, .int .i64 1]) ∧ w' = w := by
  go_enter Tryz.func205, Tryz.ntmps205
  go_wp2
  go_ret2
  exact ⟨rfl, rfl⟩

set_option maxHeartbeats 400000 in
theorem bool6_f (x y : Int) (w : World) (hx : x = 0 ∨ x = 1) (hy : y = 0 ∨ y = 1) : Calls Tryz.prog 206 #[.string ⟨#[65, 110, 100]⟩, .int .i64 x, .int .i64 y] w fun e w' => e = .returned (.tuple #[.int .i64 (binBo 6 x y).1, .int .i64 0]) ∧ w' = w := by
  have f00 : bits .and .i64 0 0 = (binBo 6 0 0).1 := by decide
  have f01 : bits .and .i64 0 1 = (binBo 6 0 1).1 := by decide
  have f10 : bits .and .i64 1 0 = (binBo 6 1 0).1 := by decide
  have f11 : bits .and .i64 1 1 = (binBo 6 1 1).1 := by decide
  rcases hx with rfl | rfl <;> rcases hy with rfl | rfl
  all_goals
    go_enter Tryz.func206, Tryz.ntmps206
    go_wp2
    go_ret2
    exact ⟨rfl, rfl⟩

set_option maxHeartbeats 400000 in
theorem bool7_f (x y : Int) (w : World) (hx : x = 0 ∨ x = 1) (hy : y = 0 ∨ y = 1) : Calls Tryz.prog 206 #[.string ⟨#[79, 114]⟩, .int .i64 x, .int .i64 y] w fun e w' => e = .returned (.tuple #[.int .i64 (binBo 7 x y).1, .int .i64 0]) ∧ w' = w := by
  have f00 : bits .or .i64 0 0 = (binBo 7 0 0).1 := by decide
  have f01 : bits .or .i64 0 1 = (binBo 7 0 1).1 := by decide
  have f10 : bits .or .i64 1 0 = (binBo 7 1 0).1 := by decide
  have f11 : bits .or .i64 1 1 = (binBo 7 1 1).1 := by decide
  rcases hx with rfl | rfl <;> rcases hy with rfl | rfl
  all_goals
    go_enter Tryz.func206, Tryz.ntmps206
    go_wp2
    go_ret2
    exact ⟨rfl, rfl⟩

set_option maxHeartbeats 400000 in
theorem bool8_f (x y : Int) (w : World) (hx : x = 0 ∨ x = 1) (hy : y = 0 ∨ y = 1) : Calls Tryz.prog 206 #[.string ⟨#[88, 111, 114]⟩, .int .i64 x, .int .i64 y] w fun e w' => e = .returned (.tuple #[.int .i64 (binBo 8 x y).1, .int .i64 0]) ∧ w' = w := by
  have f00 : bits .xor .i64 0 0 = (binBo 8 0 0).1 := by decide
  have f01 : bits .xor .i64 0 1 = (binBo 8 0 1).1 := by decide
  have f10 : bits .xor .i64 1 0 = (binBo 8 1 0).1 := by decide
  have f11 : bits .xor .i64 1 1 = (binBo 8 1 1).1 := by decide
  rcases hx with rfl | rfl <;> rcases hy with rfl | rfl
  all_goals
    go_enter Tryz.func206, Tryz.ntmps206
    go_wp2
    go_ret2
    exact ⟨rfl, rfl⟩

set_option maxHeartbeats 400000 in
theorem bool9_f (x y : Int) (w : World) : Calls Tryz.prog 206 #[.string ⟨#[69, 113, 117, 97, 108]⟩, .int .i64 x, .int .i64 y] w fun e w' => e = .returned (.tuple #[.int .i64 (b2i (x == y)), .int .i64 0]) ∧ w' = w := by
  cases h : (x == y) with
  | true =>
    show Calls _ _ _ _ fun e w' => e = .returned (.tuple #[.int .i64 1, .int .i64 0]) ∧ w' = w
    go_enter Tryz.func206, Tryz.ntmps206
    go_wp2
    go_ret2
    exact ⟨rfl, rfl⟩
  | false =>
    show Calls _ _ _ _ fun e w' => e = .returned (.tuple #[.int .i64 0, .int .i64 0]) ∧ w' = w
    go_enter Tryz.func206, Tryz.ntmps206
    go_wp2
    go_ret2
    exact ⟨rfl, rfl⟩

set_option maxHeartbeats 400000 in
theorem bool0_f (x y : Int) (w : World) : Calls Tryz.prog 206 #[.string ⟨#[65, 100, 100]⟩, .int .i64 x, .int .i64 y] w fun e w' => e = .returned (.tuple #[.int .i64 0, .int .i64 1]) ∧ w' = w := by
  go_enter Tryz.func206, Tryz.ntmps206
  go_wp2
  go_ret2
  exact ⟨rfl, rfl⟩

set_option maxHeartbeats 400000 in
theorem bool1_f (x y : Int) (w : World) : Calls Tryz.prog 206 #[.string ⟨#[83, 117, 98]⟩, .int .i64 x, .int .i64 y] w fun e w' => e = .returned (.tuple #[.int .i64 0, .int .i64 1]) ∧ w' = w := by
  go_enter Tryz.func206, Tryz.ntmps206
  go_wp2
  go_ret2
  exact ⟨rfl, rfl⟩

set_option maxHeartbeats 400000 in
theorem bool2_f (x y : Int) (w : World) : Calls Tryz.prog 206 #[.string ⟨#[77, 117, 108]⟩, .int .i64 x, .int .i64 y] w fun e w' => e = .returned (.tuple #[.int .i64 0, .int .i64 1]) ∧ w' = w := by
  go_enter Tryz.func206, Tryz.ntmps206
  go_wp2
  go_ret2
  exact ⟨rfl, rfl⟩

set_option maxHeartbeats 400000 in
theorem bool3_f (x y : Int) (w : World) : Calls Tryz.prog 206 #[.string ⟨#[68, 105, 118]⟩, .int .i64 x, .int .i64 y] w fun e w' => e = .returned (.tuple #[.int .i64 0, .int .i64 1]) ∧ w' = w := by
  go_enter Tryz.func206, Tryz.ntmps206
  go_wp2
  go_ret2
  exact ⟨rfl, rfl⟩

set_option maxHeartbeats 400000 in
theorem bool4_f (x y : Int) (w : World) : Calls Tryz.prog 206 #[.string ⟨#[77, 97, 120]⟩, .int .i64 x, .int .i64 y] w fun e w' => e = .returned (.tuple #[.int .i64 0, .int .i64 1]) ∧ w' = w := by
  go_enter Tryz.func206, Tryz.ntmps206
  go_wp2
  go_ret2
  exact ⟨rfl, rfl⟩

set_option maxHeartbeats 400000 in
theorem bool5_f (x y : Int) (w : World) : Calls Tryz.prog 206 #[.string ⟨#[77, 105, 110]⟩, .int .i64 x, .int .i64 y] w fun e w' => e = .returned (.tuple #[.int .i64 0, .int .i64 1]) ∧ w' = w := by
  go_enter Tryz.func206, Tryz.ntmps206
  go_wp2
  go_ret2
  exact ⟨rfl, rfl⟩

set_option maxHeartbeats 400000 in
theorem bool10_f (x y : Int) (w : World) : Calls Tryz.prog 206 #[.string ⟨#[76, 101, 115, 115]⟩, .int .i64 x, .int .i64 y] w fun e w' => e = .returned (.tuple #[.int .i64 0, .int .i64 1]) ∧ w' = w := by
  go_enter Tryz.func206, Tryz.ntmps206
  go_wp2
  go_ret2
  exact ⟨rfl, rfl⟩

set_option maxHeartbeats 400000 in
theorem bool11_f (x y : Int) (w : World) : Calls Tryz.prog 206 #[.string ⟨#[71, 114, 101, 97, 116, 101, 114]⟩, .int .i64 x, .int .i64 y] w fun e w' => e = .returned (.tuple #[.int .i64 0, .int .i64 1]) ∧ w' = w := by
  go_enter Tryz.func206, Tryz.ntmps206
  go_wp2
  go_ret2
  exact ⟨rfl, rfl⟩

end Go.Proofs.YtdcbjikjeicgbaaGreatDoor.Nu
