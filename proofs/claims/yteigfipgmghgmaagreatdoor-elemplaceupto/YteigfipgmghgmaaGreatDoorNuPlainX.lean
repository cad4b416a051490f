/- Plain facts on casts from floats, by the ends of Int32 and Int64. Nothing here names the program. -/
import Derived.Test.YteigfipgmghgmaaGreatDoorNuPlainV
namespace Go.Proofs.YteigfipgmghgmaaGreatDoor.Nu
open Go.RowKit

/-- The size of a finite float of 32 bits, in units of 2 to the power of -250; and that unit's number to a one. -/
def sz (b : Nat) : Nat := val (b % 2147483648) * 2 ^ 101
def un1 : Nat := 2 ^ 250
theorem un1_pos : 0 < un1 := Nat.two_pow_pos _
def sgn (b : Nat) : Bool := decide (2147483648 ≤ b)

theorem zero_vs (s t : Bool) (c : Nat) (i j : Int) (hc : c ≠ 0) : (Ieee.Datum.number s 0 i).order (.number t c j) = some (if t then .gt else .lt) := by
  have e0 : ∀ n : Nat, (0 : Nat) <<< n = 0 := fun n => Nat.zero_shiftLeft n
  simp only [Ieee.Datum.order, Ieee.signed, e0]
  generalize (j - min i j).toNat = n
  have p : 0 < c <<< n := by rw [Nat.shiftLeft_eq]; exact Nat.mul_pos (by omega) (Nat.two_pow_pos _)
  generalize c <<< n = a at *
  cases s <;> cases t <;> simp only [if_true, Bool.false_eq_true, if_false] <;> first | exact congrArg some (cmp_lt (by omega)) | exact congrArg some (cmp_gt (by omega))

theorem cv_order (b : Nat) (hb : b < 4294967296) (h : b % 2147483648 < 2139095040) (t : Bool) (j : Int) (K : Nat) (hj : -250 ≤ j) (hK : size64 4503599627370496 j = K * un1) (hK0 : 0 < K) :
    (FloatKind.f64.format.read (cv b)).order (.number t 4503599627370496 j) = some (compare (if sgn b then -(sz b : Int) else (sz b : Int)) (if t then -((K * un1 : Nat) : Int) else ((K * un1 : Nat) : Int))) := by
  obtain ⟨m, i, e, hc, _⟩ := cv_fin b hb h
  rw [e]
  have pk : 0 < K * un1 := Nat.mul_pos hK0 un1_pos
  rcases hc with ⟨h0, hr⟩ | ⟨hi, hs⟩
  · have hz : sz b = 0 := by unfold sz; rw [hr]; rfl
    subst h0
    rw [zero_vs _ _ _ _ _ (by decide), hz]
    generalize K * un1 = a at *
    cases sgn b <;> cases t <;> simp only [if_true, Bool.false_eq_true, if_false] <;> first | exact congrArg some (cmp_lt (by omega)).symm | exact congrArg some (cmp_gt (by omega)).symm
  · rw [order64 _ _ _ _ _ _ hi hj, hK, hs]; rfl

theorem cv_int (b : Nat) (hb : b < 4294967296) (h : b % 2147483648 < 2139095040) :
    (FloatKind.f64.format.read (cv b)).toInt .zero = some (if sgn b then -((sz b / un1 : Nat) : Int) else ((sz b / un1 : Nat) : Int)) := by
  obtain ⟨m, i, e, hc, _⟩ := cv_fin b hb h
  rw [e]
  rcases hc with ⟨h0, hr⟩ | ⟨hi, hs⟩
  · have hz : sz b = 0 := by unfold sz; rw [hr]; rfl
    subst h0
    rw [hz, Nat.zero_div]
    have e0 : ∀ n : Nat, (0 : Nat) <<< n = 0 := fun n => Nat.zero_shiftLeft n
    simp only [Ieee.Datum.toInt, Ieee.Datum.integral, cut_zero, Ieee.signed, e0, Nat.zero_div]
    cases sgn b <;> cases decide (2147483648 ≤ b) <;> rfl
  · rw [trunc64 _ _ _ hi, hs]; rfl

theorem k63_gen (k : Nat) : 4503599627370496 * 2 ^ (11 + k) = 9223372036854775808 * 2 ^ k := by
  rw [Nat.pow_add, ← Nat.mul_assoc]
theorem k63_gen' (i : Int) (k : Nat) (h : i.toNat = 11 + k) : 4503599627370496 * 2 ^ i.toNat = 9223372036854775808 * 2 ^ k := by
  rw [h]; exact k63_gen k
theorem k63 : size64 4503599627370496 11 = 9223372036854775808 * un1 := k63_gen' (11 + 250) 250 rfl
theorem k31 : size64 4503599627370496 (-21) = 2147483648 * un1 := by
  unfold size64 un1
  have e : ((-21 : Int) + 250).toNat = 229 := rfl
  have e2 : (250 : Nat) = 21 + 229 := rfl
  rw [e, e2, Nat.pow_add, ← Nat.mul_assoc]

theorem c63n : FloatKind.f64.format.read 14114281232179134464 = .number true 4503599627370496 11 := by decide +kernel
theorem c63 : FloatKind.f64.format.read 4890909195324358656 = .number false 4503599627370496 11 := by decide +kernel
theorem c31n : FloatKind.f64.format.read 13970166044103278592 = .number true 4503599627370496 (-21) := by decide +kernel
theorem c31 : FloatKind.f64.format.read 4746794007248502784 = .number false 4503599627370496 (-21) := by decide +kernel

/-- Is a float below the least whole number; is it the greatest one's next or more? -/
def below (b c : Nat) : Bool := FloatKind.f64.format.order (cv b) c == some .lt
def above (b c : Nat) : Bool := FloatKind.f64.format.order (cv b) c == some .gt || FloatKind.f64.format.order (cv b) c == some .eq

theorem below_of (b c K : Nat) (j : Int) (hb : b < 4294967296) (h : b % 2147483648 < 2139095040) (hc : FloatKind.f64.format.read c = .number true 4503599627370496 j) (hj : -250 ≤ j) (hK : size64 4503599627370496 j = K * un1) (hK0 : 0 < K) :
    below b c = (sgn b && decide (K * un1 < sz b)) := by
  unfold below Ieee.Format.order
  rw [hc, cv_order b hb h true j K hj hK hK0]
  generalize K * un1 = a
  generalize sz b = z
  cases sgn b
  · simp only [Bool.false_eq_true, if_false, if_true, Bool.false_and]
    by_cases h0 : (-(a : Int)) < z
    · rw [cmp_gt h0]; rfl
    · rw [cmp_eq (by omega)]; rfl
  · simp only [if_true, Bool.true_and]
    by_cases h0 : a < z
    · rw [cmp_lt (by omega), decide_eq_true h0]; rfl
    · rw [decide_eq_false h0]
      by_cases h1 : z = a
      · rw [cmp_eq (by omega)]; rfl
      · rw [cmp_gt (by omega)]; rfl

theorem above_of (b c K : Nat) (j : Int) (hb : b < 4294967296) (h : b % 2147483648 < 2139095040) (hc : FloatKind.f64.format.read c = .number false 4503599627370496 j) (hj : -250 ≤ j) (hK : size64 4503599627370496 j = K * un1) (hK0 : 0 < K) :
    above b c = (!sgn b && decide (K * un1 ≤ sz b)) := by
  have pa : 0 < K * un1 := Nat.mul_pos hK0 un1_pos
  unfold above Ieee.Format.order
  rw [hc, cv_order b hb h false j K hj hK hK0]
  generalize K * un1 = a at *
  generalize sz b = z
  cases sgn b
  · simp only [Bool.false_eq_true, if_false, Bool.not_false, Bool.true_and]
    by_cases h0 : a ≤ z
    · rw [decide_eq_true h0]
      by_cases h1 : z = a
      · rw [cmp_eq (by omega)]; rfl
      · rw [cmp_gt (by omega)]; rfl
    · rw [decide_eq_false h0, cmp_lt (by omega)]; rfl
  · simp only [Bool.false_eq_true, if_true, if_false, Bool.not_true, Bool.false_and]
    rw [cmp_lt (by omega)]; rfl

/-- What comes of a float that is no NaN: it is out of range below, or above, or its whole part is in range. -/
theorem int_cases (b : Nat) (hb : b < 4294967296) (hn : b % 2147483648 ≤ 2139095040) :
    (below b 13970166044103278592 = true ∧ above b 4746794007248502784 = false ∧ (below b 14114281232179134464 = true ∨ below b 14114281232179134464 = false ∧ above b 4890909195324358656 = false ∧ ∃ n, floatToIntVal .f64 (cv b) .i64 = some n)) ∨
    (below b 13970166044103278592 = false ∧ above b 4746794007248502784 = true ∧ below b 14114281232179134464 = false ∧ (above b 4890909195324358656 = true ∨ above b 4890909195324358656 = false ∧ ∃ n, floatToIntVal .f64 (cv b) .i64 = some n ∧ 2147483648 ≤ n)) ∨
    (below b 13970166044103278592 = false ∧ above b 4746794007248502784 = false ∧ below b 14114281232179134464 = false ∧ above b 4890909195324358656 = false ∧ ∃ n, floatToIntVal .f64 (cv b) .i64 = some n ∧ -2147483648 ≤ n ∧ n ≤ 2147483647) := by
  by_cases hf : b % 2147483648 = 2139095040
  · have : b = 2139095040 ∨ b = 4286578688 := by omega
    rcases this with rfl | rfl
    · right; left
      exact ⟨by decide +kernel, by decide +kernel, by decide +kernel, .inl (by decide +kernel)⟩
    · left
      exact ⟨by decide +kernel, by decide +kernel, .inl (by decide +kernel)⟩
  · have h : b % 2147483648 < 2139095040 := by omega
    rw [below_of b _ 2147483648 (-21) hb h c31n (by decide) k31 (by decide), above_of b _ 2147483648 (-21) hb h c31 (by decide) k31 (by decide),
      below_of b _ 9223372036854775808 11 hb h c63n (by decide) k63 (by decide), above_of b _ 9223372036854775808 11 hb h c63 (by decide) k63 (by decide)]
    have hi := cv_int b hb h
    have lt_iff : ∀ K : Nat, K * un1 ≤ sz b ↔ K ≤ sz b / un1 := fun K => (Nat.le_div_iff_mul_le un1_pos).symm
    have val_of : ∀ n : Int, (FloatKind.f64.format.read (cv b)).toInt .zero = some n → -9223372036854775808 ≤ n → n ≤ 9223372036854775807 → floatToIntVal .f64 (cv b) .i64 = some n := by
      intro n h1 h2 h3
      unfold floatToIntVal
      have h1' : (FloatKind.f64.decode (cv b)).toInt .zero = some n := h1
      rw [h1']
      have : IntKind.i64.min ≤ n ∧ n ≤ IntKind.i64.max := by
        simpa [IntKind.min, IntKind.max, IntKind.signed, IntKind.bits] using ⟨h2, h3⟩
      simp only [this, and_self, if_true]
    have l31 := lt_iff 2147483648
    have l63 := lt_iff 9223372036854775808
    have m31 := lt_iff 2147483649
    have m63 := lt_iff 9223372036854775809
    have d31 : ∀ K : Nat, (K + 1) * un1 = K * un1 + un1 := fun K => Nat.succ_mul K un1
    have p1 := un1_pos
    have e31 := d31 2147483648
    have e63 := d31 9223372036854775808
    have big : 2147483648 * un1 ≤ 9223372036854775808 * un1 := Nat.mul_le_mul_right _ (by decide)
    generalize 2147483648 * un1 = A at *
    generalize 9223372036854775808 * un1 = B at *
    simp only [show (2147483648 + 1 : Nat) = 2147483649 from rfl, show (9223372036854775808 + 1 : Nat) = 9223372036854775809 from rfl] at e31 e63
    rw [e31] at m31
    rw [e63] at m63
    generalize sz b / un1 = q at *
    generalize sz b = z at *
    generalize un1 = u at *
    clear d31 lt_iff e31 e63
    cases hs : sgn b
    · rw [hs] at hi
      simp only [Bool.false_eq_true, if_false] at hi
      by_cases h1 : A ≤ z
      · right; left
        refine ⟨by simp, by simp [h1], by simp, ?_⟩
        by_cases h2 : B ≤ z
        · left; simp [h2]
        · right
          refine ⟨by simp [h2], (q : Int), val_of _ hi (by omega) (by omega), by omega⟩
      · right; right
        have h2 : ¬ B ≤ z := by omega
        refine ⟨by simp, by simp [h1], by simp, by simp [h2], (q : Int), val_of _ hi (by omega) (by omega), by omega, by omega⟩
    · rw [hs] at hi
      simp only [if_true] at hi
      by_cases h1 : A < z
      · left
        refine ⟨by simp [h1], by simp, ?_⟩
        by_cases h2 : B < z
        · left; simp [h2]
        · right
          refine ⟨by simp [h2], by simp, -(q : Int), val_of _ hi (by omega) (by omega)⟩
      · right; right
        have h2 : ¬ B < z := by omega
        refine ⟨by simp [h1], by simp, by simp [h2], by simp, -(q : Int), val_of _ hi (by omega) (by omega), by omega, by omega⟩
end Go.Proofs.YteigfipgmghgmaaGreatDoor.Nu
