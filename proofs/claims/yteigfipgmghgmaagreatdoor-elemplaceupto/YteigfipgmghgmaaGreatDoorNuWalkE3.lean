/- The document's exp: what it answers of any number. -/
import Derived.Test.YteigfipgmghgmaaGreatDoorNuWalkE2
import Derived.Test.YteigfipgmghgmaaGreatDoorNuWalkR
namespace Go.Proofs.YteigfipgmghgmaaGreatDoor.Nu
open Go.RowKit Mo
attribute [local go_sem] ext_bits64 ext_from64 ext_from ext_bits negF_eq

/-- A small whole number as a word of 64 bits. -/
theorem int_word (j : Nat) (hj : j ≤ 4503599627370496) : ∃ rj, floatOfInt .f64 (j : Int) = Ieee.double.word false rj ∧ rj < 9218868437227405312 ∧ v64 rj = j * pw 1074 := by
  obtain ⟨rk, hrk⟩ := rung_of j 1074 (by omega)
  have hrk2 : rk ≤ 4841369599423283200 := le_of_v64 (by
    rw [hrk, show v64 4841369599423283200 = 4503599627370496 * pw 1074 from by decide +kernel]
    exact Nat.mul_le_mul_right _ hj)
  have hn : rg j 0 = rk := by
    obtain ⟨c, hc⟩ : ∃ c : Nat, c = 1074 := ⟨_, rfl⟩
    have hb : ((0 : Int) + ((c + c : Nat) : Int)).toNat = c + c := by omega
    have hx : j * 2 ^ ((0 : Int) + ((c + c : Nat) : Int)).toNat = v64 rk * pw c := by rw [hb, hrk, ← hc, pw_eq, Nat.pow_add, Nat.mul_assoc]
    exact eq_rung (near_le j 0 rk (c + c) c (by omega) (by omega) (by omega) (Nat.le_of_eq hx)) (near_ge j 0 rk (c + c) c (by omega) (by omega) (by omega) (Nat.le_of_eq hx.symm))
  refine ⟨rk, ?_, by omega, hrk⟩
  have e : floatOfInt .f64 (j : Int) = Ieee.double.nearest false j 0 := by
    unfold floatOfInt
    first | rfl | simp
  rw [e, near_rg, hn, Nat.min_eq_left (by omega)]

theorem cmp_pw (a b : Int) : compare (a * ((pw 1074 : Nat) : Int)) (b * ((pw 1074 : Nat) : Int)) = compare a b := cmp_mul a b _ (Int.ofNat_lt.2 (pw_pos 1074))

theorem sv_pw (s : Bool) (r M : Nat) (h : v64 r = M * pw 1074) : sv s r = (if s then -(M : Int) else (M : Int)) * ((pw 1074 : Nat) : Int) := by
  unfold sv; rw [h]; cases s <;> simp [Int.neg_mul]

/-- A small whole number against the whole number k. -/
theorem int_less (j : Nat) (hj : j ≤ 300) (s : Bool) (M rk : Nat) (h1 : rk < 9218868437227405312) (h2 : v64 rk = M * pw 1074) : FloatKind.f64.format.order (floatOfInt .f64 (j : Int)) (Ieee.double.word s rk) = some (compare (j : Int) (if s then -(M : Int) else (M : Int))) := by
  obtain ⟨rj, e1, e2, e3⟩ := int_word j (by omega)
  rw [e1, show FloatKind.f64.format.order (Ieee.double.word false rj) (Ieee.double.word s rk) = some (compare (sv false rj) (sv s rk)) from order_v false s rj rk e2 h1, sv_pw false rj j e3, sv_pw s rk M h2, cmp_pw]
  simp

theorem neg_word (s : Bool) (r : Nat) (h : r < 9223372036854775808) : Ieee.double.word s r ^^^ 9223372036854775808 = Ieee.double.word (!s) r := by
  have e5 : Ieee.double.signWeight = 9223372036854775808 := rfl
  have hd : ∀ b : Nat, (b ^^^ 9223372036854775808) / 2 ^ 63 = b / 2 ^ 63 ^^^ 1 := fun b => Nat.xor_div_two_pow
  have hm : ∀ b : Nat, (b ^^^ 9223372036854775808) % 2 ^ 63 = b % 2 ^ 63 := fun b => by
    rw [Nat.xor_mod_two_pow, show 9223372036854775808 % 2 ^ 63 = 0 from rfl, Nat.xor_zero]
  unfold Ieee.Format.word
  rw [e5]
  cases s with
  | false =>
    have h1 := hd r
    have h2 := hm r
    simp only [Bool.false_eq_true, if_false, Bool.not_false, if_true]
    rw [show r / 2 ^ 63 = 0 from Nat.div_eq_of_lt h, show (0 ^^^ 1 : Nat) = 1 from rfl] at h1
    omega
  | true =>
    have h1 := hd (9223372036854775808 + r)
    have h2 := hm (9223372036854775808 + r)
    simp only [if_true, Bool.not_true, Bool.false_eq_true, if_false]
    rw [show (9223372036854775808 + r) / 2 ^ 63 = 1 from by omega, show (1 ^^^ 1 : Nat) = 0 from rfl] at h1
    omega

theorem unneg64 (b : Nat) : Op.unary .neg (.float .f64 b) = pure (.float .f64 (b ^^^ 9223372036854775808)) := rfl

attribute [local go_sem] unneg64

/-- By which steps the sum is multiplied. -/
structure Scl (b : Nat) (rp K L : Nat) : Prop where
  p : pD (rD (cv b)) 13 = rp
  up : ∀ j : Nat, j < K → floatBits .mul .f64 (rp + j * 4503599627370496) 4611686018427387904 = some (rp + (j + 1) * 4503599627370496)
  dn : ∀ j : Nat, j < L → floatBits .quo .f64 (rp + K * 4503599627370496 - j * 4503599627370496) 4611686018427387904 = some (rp + K * 4503599627370496 - (j + 1) * 4503599627370496)
  lu : ∀ j : Nat, j ≤ 160 → (FloatKind.f64.format.order (floatOfInt .f64 (j : Int)) (kD (cv b)) == some .lt) = decide (j < K)
  ld : ∀ j : Nat, j ≤ 160 → (FloatKind.f64.format.order (floatOfInt .f64 (j : Int)) (kD (cv b) ^^^ 9223372036854775808) == some .lt) = decide (j < L)
  hK : K ≤ 160
  hL : L ≤ 160
  e : rp + K * 4503599627370496 - L * 4503599627370496 = eB (cv b)
  lt : eB (cv b) < 9218868437227405312

theorem cmp_lt_iff (a b : Int) : (some (compare a b) == some Ordering.lt) = decide (a < b) := by
  rcases Int.lt_trichotomy a b with h | h | h
  · rw [cmp_lt h, decide_eq_true h]; rfl
  · rw [cmp_eq h, decide_eq_false (by omega)]; rfl
  · rw [cmp_gt h, decide_eq_false (by omega)]; rfl

theorem word_pos (r : Nat) : Ieee.double.word false r = r := rfl

theorem scl_of (b : Nat) (X : ExpF b) : ∃ rp K L, Scl b rp K L := by
  obtain ⟨s, M, rk, q1, q2, q3, q4, q5, -⟩ := X.kw
  obtain ⟨rp, p1, p2, p3⟩ := X.p
  rw [word_pos] at p1
  have hk : -160 ≤ kI (cv b) ∧ kI (cv b) ≤ 160 := by rw [q5]; split <;> omega
  refine ⟨rp, (kI (cv b)).toNat, (-kI (cv b)).toNat, p1, fun j hj => ?_, fun j hj => ?_, fun j hj => ?_, fun j hj => ?_, by omega, by omega, ?_, ?_⟩
  · have h : floatBits .mul .f64 (Ieee.double.word false (rp + j * 4503599627370496)) 4611686018427387904 = some (Ieee.double.word false (rp + j * 4503599627370496 + 4503599627370496)) := mul_two false (rp + j * 4503599627370496) (by omega) (by omega)
    rw [word_pos, word_pos] at h
    rw [show rp + (j + 1) * 4503599627370496 = rp + j * 4503599627370496 + 4503599627370496 from by omega]
    exact h
  · have h : floatBits .quo .f64 (Ieee.double.word false (rp + (kI (cv b)).toNat * 4503599627370496 - j * 4503599627370496)) 4611686018427387904 = some (Ieee.double.word false (rp + (kI (cv b)).toNat * 4503599627370496 - j * 4503599627370496 - 4503599627370496)) := div_two false (rp + (kI (cv b)).toNat * 4503599627370496 - j * 4503599627370496) (by omega) (by omega)
    rw [word_pos, word_pos] at h
    rw [show rp + (kI (cv b)).toNat * 4503599627370496 - (j + 1) * 4503599627370496 = rp + (kI (cv b)).toNat * 4503599627370496 - j * 4503599627370496 - 4503599627370496 from by omega]
    exact h
  · rw [q1, int_less j (by omega) s M rk q2 q3, cmp_lt_iff, ← q5]
    exact decide_eq_decide.2 ⟨fun h => by omega, fun h => by omega⟩
  · rw [q1, neg_word s rk (by omega), int_less j (by omega) (!s) M rk q2 q3, cmp_lt_iff]
    rw [show (if (!s) = true then -(M : Int) else (M : Int)) = -kI (cv b) from by rw [q5]; cases s <;> simp]
    exact decide_eq_decide.2 ⟨fun h => by omega, fun h => by omega⟩
  · unfold eB; rw [p1]; omega
  · unfold eB; rw [p1]; omega

end Go.Proofs.YteigfipgmghgmaaGreatDoor.Nu
