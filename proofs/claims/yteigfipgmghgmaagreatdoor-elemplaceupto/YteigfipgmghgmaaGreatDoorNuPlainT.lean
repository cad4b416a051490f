/- Plain facts on a float of 32 bits as one of 64, and on its whole part. Nothing here names the program. -/
import Derived.Test.YteigfipgmghgmaaGreatDoorNuPlainN
namespace Go.Proofs.YteigfipgmghgmaaGreatDoor.Nu
open Go.RowKit

/-- A number cut towards nought, in units of the least float of 64 bits. -/
theorem cut_zero (s : Bool) (n d : Nat) : Ieee.Toward.zero.cut s n d = n / 2 ^ d := by
  unfold Ieee.Toward.cut
  simp only [Bool.toNat_false, Nat.add_zero, Nat.shiftLeft_eq, Nat.one_mul]
  by_cases h : d ≤ n.log2 + 2
  · rw [Nat.min_eq_left h]
  · rw [Nat.min_eq_right (by omega)]
    have h1 : n < 2 ^ (n.log2 + 2) := Nat.lt_of_lt_of_le Nat.lt_log2_self (Nat.pow_le_pow_right (by decide) (by omega))
    have h2 : n < 2 ^ d := Nat.lt_of_lt_of_le h1 (Nat.pow_le_pow_right (by decide) (by omega))
    rw [Nat.div_eq_of_lt h1, Nat.div_eq_of_lt h2]

/-- A finite number's size in units of 2 to the power of -250. -/
def size64 (m : Nat) (i : Int) : Nat := m * 2 ^ (i + 250).toNat

theorem trunc64 (s : Bool) (m : Nat) (i : Int) (hi : -250 ≤ i) : (Ieee.Datum.number s m i).toInt .zero = some (if s then -((size64 m i / 2 ^ 250 : Nat) : Int) else ((size64 m i / 2 ^ 250 : Nat) : Int)) := by
  have e : size64 m i / 2 ^ 250 = (m <<< i.toNat) / 2 ^ (-i).toNat := by
    unfold size64
    rw [Nat.shiftLeft_eq]
    by_cases h : 0 ≤ i
    · have e1 : (i + 250).toNat = i.toNat + 250 := by omega
      have e2 : (-i).toNat = 0 := by omega
      rw [e1, e2, Nat.pow_add, ← Nat.mul_assoc, Nat.mul_div_cancel _ (Nat.two_pow_pos _), Nat.pow_zero, Nat.div_one]
    · have e1 : i.toNat = 0 := by omega
      have e2 : (250 : Nat) = (-i).toNat + (i + 250).toNat := by omega
      rw [e1, Nat.pow_zero, Nat.mul_one]
      conv => lhs; rw [show (2 : Nat) ^ 250 = 2 ^ ((-i).toNat + (i + 250).toNat) from congrArg _ e2]
      rw [Nat.pow_add, Nat.mul_div_mul_right _ _ (Nat.two_pow_pos _)]
  simp only [Ieee.Datum.toInt, Ieee.Datum.integral, cut_zero, Ieee.signed, Nat.shiftLeft_zero, e]

theorem scaled64 (m n : Nat) (i j b : Int) (hi : -250 ≤ i) (hj : -250 ≤ j) (hb : b = min i j) :
    ∃ k : Nat, size64 m i = (m <<< (i - b).toNat) * 2 ^ k ∧ size64 n j = (n <<< (j - b).toNat) * 2 ^ k := by
  refine ⟨(b + 250).toNat, ?_, ?_⟩
  · unfold size64; rw [Nat.shiftLeft_eq, Nat.mul_assoc, ← Nat.pow_add]; congr 2; omega
  · unfold size64; rw [Nat.shiftLeft_eq, Nat.mul_assoc, ← Nat.pow_add]; congr 2; omega

/-- Two finite numbers are ordered as their sizes with their signs. -/
theorem order64 (s t : Bool) (m n : Nat) (i j : Int) (hi : -250 ≤ i) (hj : -250 ≤ j) : (Ieee.Datum.number s m i).order (.number t n j) = some (compare (if s then -(size64 m i : Int) else (size64 m i : Int)) (if t then -(size64 n j : Int) else (size64 n j : Int))) := by
  simp only [Ieee.Datum.order, Option.some.injEq, Ieee.signed]
  obtain ⟨k, h1, h2⟩ := scaled64 m n i j _ hi hj rfl
  rw [h1, h2]
  generalize m <<< (i - min i j).toNat = a
  generalize n <<< (j - min i j).toNat = b
  have pk : (0 : Int) < 2 ^ k := by have := Nat.two_pow_pos k; exact_mod_cast this
  have key : ∀ p q : Int, compare p q = compare (p * 2 ^ k) (q * 2 ^ k) := by
    intro p q
    rcases Int.lt_trichotomy p q with h | h | h
    · rw [cmp_lt h, cmp_lt (Int.mul_lt_mul_of_pos_right h pk)]
    · subst h; rw [cmp_eq rfl, cmp_eq rfl]
    · rw [cmp_gt h, cmp_gt (Int.mul_lt_mul_of_pos_right h pk)]
  rw [key]
  congr 1
  · cases s <;> simp [Int.neg_mul]
  · cases t <;> simp [Int.neg_mul]

theorem cut_even0 (s : Bool) (n : Nat) : Ieee.Toward.even.cut s n 0 = n := by
  unfold Ieee.Toward.cut
  have e : min 0 (n.log2 + 2) = 0 := by omega
  rw [e]
  have e2 : (1 : Nat) <<< 0 = 1 := rfl
  rw [e2]
  simp only [Nat.mod_one, Nat.div_one]
  rfl

theorem log2_bd (m : Nat) (h : m ≠ 0) : 2 ^ m.log2 ≤ m ∧ m < 2 ^ (m.log2 + 1) := ⟨Nat.log2_self_le h, Nat.lt_log2_self⟩

theorem word64_mod (s : Bool) (r : Nat) (h : r < 9223372036854775808) : Ieee.double.word s r % 9223372036854775808 = r ∧ (Ieee.double.word s r / 9223372036854775808 % 2 == 1) = s := by
  have e5 : Ieee.double.signWeight = 9223372036854775808 := rfl
  unfold Ieee.Format.word
  rw [e5]
  cases s with
  | false =>
    rw [if_neg (by decide)]
    exact ⟨Nat.mod_eq_of_lt h, by rw [Nat.div_eq_of_lt h]; rfl⟩
  | true =>
    rw [if_pos rfl]
    have : (9223372036854775808 + r) / 9223372036854775808 = 1 := by omega
    exact ⟨by omega, by rw [this]; rfl⟩

theorem read64_of (s : Bool) (E K : Nat) (k1 : 4503599627370496 ≤ K) (k2 : K < 9007199254740992) (hE : E ≤ 1974) : Ieee.double.read (Ieee.double.word s (E * 4503599627370496 + K)) = .number s K (-1074 + (E : Int)) := by
  have e1 : Ieee.double.leastPlace = -1074 := rfl
  have e2 : Ieee.double.binade = 4503599627370496 := rfl
  have e3 : Ieee.double.infRung = 9218868437227405312 := rfl
  have e5 : Ieee.double.signWeight = 9223372036854775808 := rfl
  obtain ⟨w1, w2⟩ := word64_mod s (E * 4503599627370496 + K) (by omega)
  unfold Ieee.Format.read
  simp only [e1, e2, e3, e5]
  rw [w1, w2, if_neg (by omega), if_pos (by omega)]
  have q1 : 4503599627370496 + (E * 4503599627370496 + K) % 4503599627370496 = K := by omega
  have q2 : (E * 4503599627370496 + K) / 4503599627370496 - 1 = E := by omega
  rw [q1, q2]

theorem rung_small (E K : Nat) (hE : E ≤ 1974) (k2 : K < 9007199254740992) : E * 4503599627370496 + K < 9218868437227405312 := by omega
theorem min_small (E K : Nat) (hE : E ≤ 1974) (k2 : K < 9007199254740992) : min (E * 4503599627370496 + K) 9218868437227405312 = E * 4503599627370496 + K :=
  Nat.min_eq_left (Nat.le_of_lt (rung_small E K hE k2))

/-- A number of at most 53 digits, written in 64 bits: read again it is the same. -/
theorem write64 (s : Bool) (m : Nat) (p : Int) (h0 : m ≠ 0) (hm : m < 2 ^ 53) (hp : -1000 ≤ p) (hq : p ≤ 900) :
    ∃ (r : Nat), Ieee.double.nearest s m p = Ieee.double.word s r ∧ r < 9218868437227405312 ∧ Ieee.double.read (Ieee.double.word s r) = .number s (m * 2 ^ (52 - m.log2)) (p - (52 - m.log2 : Nat)) := by
  obtain ⟨l1, l2⟩ := log2_bd m h0
  have hl : m.log2 ≤ 52 := by
    have := (Nat.log2_lt h0).2 hm; omega
  have e1 : Ieee.double.leastPlace = -1074 := rfl
  have e2 : Ieee.double.binade = 4503599627370496 := rfl
  have e3 : Ieee.double.infRung = 9218868437227405312 := rfl
  have e4 : Ieee.double.fractionBits = 52 := rfl
  have k1 : 4503599627370496 ≤ m * 2 ^ (52 - m.log2) := by
    have : 2 ^ m.log2 * 2 ^ (52 - m.log2) ≤ m * 2 ^ (52 - m.log2) := Nat.mul_le_mul_right _ l1
    rw [← Nat.pow_add, show m.log2 + (52 - m.log2) = 52 from by omega] at this
    simpa using this
  have k2 : m * 2 ^ (52 - m.log2) < 9007199254740992 := by
    have : m * 2 ^ (52 - m.log2) < 2 ^ (m.log2 + 1) * 2 ^ (52 - m.log2) := Nat.mul_lt_mul_of_pos_right l2 (Nat.two_pow_pos _)
    rw [← Nat.pow_add, show m.log2 + 1 + (52 - m.log2) = 53 from by omega] at this
    simpa using this
  have hlast : max (p + m.log2 - 52) (-1074) = p - (52 - m.log2 : Nat) := by omega
  have hnear : Ieee.double.nearest s m p = Ieee.double.word s (min ((p - (52 - m.log2 : Nat) - -1074).toNat * 4503599627370496 + m * 2 ^ (52 - m.log2)) 9218868437227405312) := by
    unfold Ieee.Format.nearest
    rw [if_neg h0]
    simp only [e1, e2, e3, e4]
    have hc : max (p + (m.log2 : Int) - ((52 : Nat) : Int)) (-1074) = p - (52 - m.log2 : Nat) := hlast
    rw [hc]
    have d1 : (p - (p - ((52 - m.log2 : Nat) : Int))).toNat = 52 - m.log2 := by omega
    have d2 : (p - ((52 - m.log2 : Nat) : Int) - p).toNat = 0 := by omega
    rw [d1, d2]
    rw [cut_even0, Nat.shiftLeft_eq]
  generalize hK : m * 2 ^ (52 - m.log2) = K at *
  generalize hE : (p - (52 - m.log2 : Nat) - -1074).toNat = E at *
  have hEb : E ≤ 1974 := by omega
  have hEp : p - (52 - m.log2 : Nat) = -1074 + (E : Int) := by omega
  have hmin : min (E * 4503599627370496 + K) 9218868437227405312 = E * 4503599627370496 + K := min_small E K hEb k2
  rw [hmin] at hnear
  refine ⟨E * 4503599627370496 + K, hnear, rung_small E K hEb k2, ?_⟩
  rw [hEp]
  exact read64_of s E K k1 k2 hEb
end Go.Proofs.YteigfipgmghgmaaGreatDoor.Nu
