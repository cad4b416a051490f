/- Words of 64 bits in their order, by powers of two, and as words of 32 bits. Nothing here names the program. -/
import Derived.Test.YteigfipgmghgmaaGreatDoorNuPlainE3
namespace Go.Proofs.YteigfipgmghgmaaGreatDoor.Nu
open Go.RowKit Mo

theorem cmp_mul (a b c : Int) (h : 0 < c) : compare (a * c) (b * c) = compare a b := by
  rcases Int.lt_trichotomy a b with h1 | h1 | h1
  · rw [cmp_lt h1, cmp_lt (Int.mul_lt_mul_of_pos_right h1 h)]
  · rw [cmp_eq h1, cmp_eq (by rw [h1])]
  · rw [cmp_gt h1, cmp_gt (Int.mul_lt_mul_of_pos_right h1 h)]

theorem order_v (s t : Bool) (r q : Nat) (hr : r < 9218868437227405312) (hq : q < 9218868437227405312) : Ieee.double.order (Ieee.double.word s r) (Ieee.double.word t q) = some (compare (sv s r) (sv t q)) := by
  obtain ⟨m, p, e1, p1, p2, -, e2⟩ := read_word s r hr
  obtain ⟨m', p', e1', p1', p2', -, e2'⟩ := read_word t q hq
  have hb0 : -1074 ≤ min p p' := by omega
  have g1 := signed_sv s r m p (min p p') (by omega) hb0 e2
  have g2 := signed_sv t q m' p' (min p p') (by omega) hb0 e2'
  unfold Ieee.Format.order Ieee.Datum.order
  rw [e1, e1']
  simp only
  rw [← g1, ← g2, cmp_mul _ _ _ (Int.ofNat_lt.2 (Nat.two_pow_pos _))]

theorem cmp_pos (r q : Nat) : compare (sv false r) (sv false q) = compare (r : Int) (q : Int) := by
  have e : ∀ r, sv false r = (v64 r : Int) := fun r => by unfold sv; simp
  rw [e, e]
  rcases Nat.lt_trichotomy r q with h | h | h
  · rw [cmp_lt (Int.ofNat_lt.2 h), cmp_lt (Int.ofNat_lt.2 (v64_lt _ _ h))]
  · rw [h, cmp_eq rfl, cmp_eq rfl]
  · rw [cmp_gt (Int.ofNat_lt.2 h), cmp_gt (Int.ofNat_lt.2 (v64_lt _ _ h))]

/-- Two words of no sign are ordered as they are numbers. -/
theorem order_pos (r q : Nat) (hr : r < 9218868437227405312) (hq : q < 9218868437227405312) : Ieee.double.order r q = some (compare (r : Int) (q : Int)) := by
  rw [← cmp_pos]; exact order_v false false r q hr hq

/-- Once a number is multiplied by 1 it is the same. -/
theorem one_mul64 (r : Nat) (hr : r < 9218868437227405312) : Ieee.double.mul 4607182418800017408 r = some r := by
  obtain ⟨n, e, b1, b2⟩ := mul_near false false 4607182418800017408 r (by decide) hr
  have hx : v64 4607182418800017408 * v64 r = v64 r * pw 1074 := by rw [show v64 4607182418800017408 = pw 1074 from by decide +kernel, Nat.mul_comm]
  have hn := eq_rung (b1 _ (Nat.le_of_eq hx)) (b2 _ (Nat.le_of_eq hx.symm))
  rw [show Ieee.double.mul 4607182418800017408 r = Ieee.double.mul (Ieee.double.word false 4607182418800017408) (Ieee.double.word false r) from rfl, e, hn, min_inf hr]
  rfl

/-- A word of 64 bits that is below the middle of the greatest of 32 bits and the next one. -/
theorem down_fin (r : Nat) (hr : r < 5183643170835005440) : floatToFloatBits .f64 r .f32 = some (Ieee.single.write (Ieee.double.read r)) ∧ Ieee.single.write (Ieee.double.read r) < 2139095040 := by
  obtain ⟨m, p, e1, p1, p2, hm, e2⟩ := read_word false r (by omega)
  rw [show Ieee.double.word false r = r from rfl] at e1
  have hv : v64 r < 33554431 * pw 1177 := by
    rw [← show v64 5183643170835005440 = 33554431 * pw 1177 from by decide +kernel]
    exact v64_lt _ _ hr
  have key : Ieee.single.nearest false m p < 2139095040 := by
    unfold Ieee.Format.nearest
    by_cases h0 : m = 0
    · rw [if_pos h0]; decide
    rw [if_neg h0]
    obtain ⟨l1, l2⟩ : 2 ^ m.log2 ≤ m ∧ m < 2 ^ (m.log2 + 1) := ⟨Nat.log2_self_le h0, Nat.lt_log2_self⟩
    have c1 : Ieee.single.leastPlace = -149 := rfl
    have c2 : Ieee.single.binade = 8388608 := rfl
    have c3 : Ieee.single.infRung = 2139095040 := rfl
    have c4 : ((Ieee.single.fractionBits : Nat) : Int) = 23 := rfl
    simp only [c1, c2, c3, c4]
    have hpl : p + m.log2 ≤ 127 := by
      apply Decidable.byContradiction
      intro hc
      have h1 : 2 ^ m.log2 * 2 ^ (p + 1074).toNat ≤ v64 r := by rw [← e2]; exact Nat.mul_le_mul_right _ l1
      rw [← Nat.pow_add] at h1
      obtain ⟨c, hc2⟩ : ∃ c : Nat, c = 1202 := ⟨_, rfl⟩
      have h2 : pw c ≤ 2 ^ (m.log2 + (p + 1074).toNat) := Nat.pow_le_pow_right (by omega) (by omega)
      have h3 : 33554431 * pw 1177 ≤ pw c := by rw [hc2]; decide +kernel
      omega
    generalize hl : max (p + (m.log2 : Int) - 23) (-149) = last
    have hla : last ≤ 104 := by omega
    have hlb : -149 ≤ last := by omega
    obtain ⟨k1, -⟩ := cut_half false (m <<< (p - last).toNat) (last - p).toNat
    have hx : m <<< (p - last).toNat * 2 ^ (last + 1074).toNat = v64 r * 2 ^ (last - p).toNat := by
      rw [Nat.shiftLeft_eq, ← e2, Nat.mul_assoc, Nat.mul_assoc, ← Nat.pow_add, ← Nat.pow_add, show (p - last).toNat + (last + 1074).toNat = (p + 1074).toNat + (last - p).toNat from by omega]
    have hd : 0 < 2 ^ (last - p).toNat := Nat.two_pow_pos _
    generalize Ieee.Toward.even.cut false (m <<< (p - last).toNat) (last - p).toNat = K at *
    generalize m <<< (p - last).toNat = M at *
    have hK : K ≤ 16777216 := by
      have b1 : v64 r < 2 ^ 24 * 2 ^ (last + 1074).toNat := by
        rw [← e2, ← Nat.pow_add]
        refine Nat.lt_of_lt_of_le (Nat.mul_lt_mul_of_pos_right l2 (Nat.two_pow_pos _)) ?_
        rw [← Nat.pow_add]
        exact Nat.pow_le_pow_right (by omega) (by omega)
      have h1 : M * 2 ^ (last + 1074).toNat < 2 ^ 24 * 2 ^ (last - p).toNat * 2 ^ (last + 1074).toNat := by
        rw [hx, Nat.mul_assoc, Nat.mul_comm (2 ^ (last - p).toNat), ← Nat.mul_assoc]
        exact Nat.mul_lt_mul_of_pos_right b1 hd
      have h2 := Nat.lt_of_mul_lt_mul_right h1
      generalize 2 ^ (last - p).toNat = G at *
      have h3 : K * G * 2 < (16777216 + 1) * G * 2 := by
        have : 2 * K * G = K * G * 2 := by rw [Nat.mul_assoc, Nat.mul_comm]
        rw [Nat.add_mul]; omega
      have h4 := Nat.lt_of_mul_lt_mul_right (Nat.lt_of_mul_lt_mul_right h3)
      omega
    have hrg : (last - -149).toNat * 8388608 + K < 2139095040 := by
      by_cases h104 : last ≤ 103
      · have : (last - -149).toNat ≤ 252 := by omega
        omega
      · have h5 : last = 104 := by omega
        have hK2 : K < 16777216 := by
          obtain ⟨c, hc3⟩ : ∃ c : Nat, c = 1178 := ⟨_, rfl⟩
          have hT : (last + 1074).toNat = c := by omega
          have h1 : M * 2 ^ (last + 1074).toNat * 2 < 33554431 * 2 ^ (last - p).toNat * 2 ^ (last + 1074).toNat := by
            have h6 : pw 1177 * 2 = 2 ^ (last + 1074).toNat := by rw [hT, ← pw_eq, hc3]; decide +kernel
            rw [hx]
            have h7 : v64 r * 2 < 33554431 * 2 ^ (last + 1074).toNat := by rw [← h6]; omega
            have h8 := Nat.mul_lt_mul_of_pos_right h7 hd
            rw [Nat.mul_right_comm, Nat.mul_right_comm _ _ (2 ^ (last + 1074).toNat)]
            exact h8
          have h2 : M * 2 < 33554431 * 2 ^ (last - p).toNat := by
            refine Nat.lt_of_mul_lt_mul_right (a := 2 ^ (last + 1074).toNat) ?_
            rw [Nat.mul_right_comm]; exact h1
          generalize 2 ^ (last - p).toNat = G at *
          have h3 : K * G < 16777216 * G := by
            have : 2 * K * G = K * G * 2 := by rw [Nat.mul_assoc, Nat.mul_comm]
            omega
          exact Nat.lt_of_mul_lt_mul_right h3
        have : (last - -149).toNat = 253 := by omega
        omega
    rw [Nat.min_eq_left (by omega)]
    exact hrg
  have hw : Ieee.single.write (Ieee.double.read r) < 2139095040 := by rw [e1]; exact key
  refine ⟨?_, hw⟩
  unfold floatToFloatBits
  rw [if_neg (by decide), show FloatKind.f64.decode r = .number false m p from e1]
  simp only
  have he : FloatKind.f32.encode (.number false m p) = Ieee.single.write (Ieee.double.read r) := by rw [e1]; rfl
  rw [he]
  have hq : FloatKind.f32.decode (Ieee.single.write (Ieee.double.read r)) = rdm false (Ieee.single.write (Ieee.double.read r) % 2147483648) := by
    have := read_eq (Ieee.single.write (Ieee.double.read r)) (by omega)
    rw [decide_eq_false (by omega)] at this
    exact this
  obtain ⟨m', d', e', -⟩ := rdm_num false (Ieee.single.write (Ieee.double.read r) % 2147483648) (by omega)
  rw [hq, e']
  rfl
end Go.Proofs.YteigfipgmghgmaaGreatDoor.Nu
