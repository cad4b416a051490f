/- The walk of the statement on whole numbers behind Float and back: it answers true, whatever the number. -/
import Derived.Test.YtcfgnhjoajibkacWalkWc
import Derived.Test.YtcfgnhjoajibkacLive
namespace Go.Proofs.Ytcfgnhjoajibkac
open Go.RowKit

theorem word32_mod (s : Bool) (r : Nat) (h : r < 2147483648) : Ieee.single.word s r % 2147483648 = r ∧ decide (2147483648 ≤ Ieee.single.word s r) = s ∧ Ieee.single.word s r < 4294967296 := by
  have e5 : Ieee.single.signWeight = 2147483648 := rfl
  unfold Ieee.Format.word
  rw [e5]
  cases s with
  | false =>
    rw [if_neg (by decide)]
    exact ⟨Nat.mod_eq_of_lt h, decide_eq_false (by omega), by omega⟩
  | true =>
    rw [if_pos rfl]
    exact ⟨by omega, decide_eq_true (by omega), by omega⟩

theorem rung32 (s : Bool) (m E K : Nat) (k1 : 8388608 ≤ K) (k2 : K < 16777216) (hE : E ≤ 149) (h : Ieee.single.nearest s m 0 = Ieee.single.word s (min (E * 8388608 + K) 2139095040)) :
    ∃ (r : Nat), Ieee.single.nearest s m 0 = Ieee.single.word s r ∧ r < 2139095040 ∧ val r = K * 2 ^ E := by
  have h1 : E * 8388608 + K < 2139095040 := by omega
  rw [Nat.min_eq_left (Nat.le_of_lt h1)] at h
  refine ⟨E * 8388608 + K, h, h1, ?_⟩
  unfold val
  rw [if_neg (show ¬ E * 8388608 + K < 8388608 by omega)]
  have q1 : 8388608 + (E * 8388608 + K) % 8388608 = K := by omega
  have q2 : (E * 8388608 + K) / 8388608 - 1 = E := by omega
  rw [q1, q2]

/-- A whole number of at most 24 digits, written in 32 bits: its size is the number's. -/
theorem write32 (s : Bool) (m : Nat) (h0 : m ≠ 0) (hm : m < 16777216) :
    ∃ (r : Nat), Ieee.single.nearest s m 0 = Ieee.single.word s r ∧ r < 2139095040 ∧ val r = m * 2 ^ 149 := by
  obtain ⟨l1, l2⟩ := log2_bd m h0
  have hl : m.log2 ≤ 23 := by
    have := (Nat.log2_lt h0).2 (show m < 2 ^ 24 from hm); omega
  have e1 : Ieee.single.leastPlace = -149 := rfl
  have e2 : Ieee.single.binade = 8388608 := rfl
  have e3 : Ieee.single.infRung = 2139095040 := rfl
  have e4 : Ieee.single.fractionBits = 23 := rfl
  have k1 : 8388608 ≤ m * 2 ^ (23 - m.log2) := by
    have : 2 ^ m.log2 * 2 ^ (23 - m.log2) ≤ m * 2 ^ (23 - m.log2) := Nat.mul_le_mul_right _ l1
    rw [← Nat.pow_add, show m.log2 + (23 - m.log2) = 23 from by omega] at this
    simpa using this
  have k2 : m * 2 ^ (23 - m.log2) < 16777216 := by
    have : m * 2 ^ (23 - m.log2) < 2 ^ (m.log2 + 1) * 2 ^ (23 - m.log2) := Nat.mul_lt_mul_of_pos_right l2 (Nat.two_pow_pos _)
    rw [← Nat.pow_add, show m.log2 + 1 + (23 - m.log2) = 24 from by omega] at this
    simpa using this
  have hnear : Ieee.single.nearest s m 0 = Ieee.single.word s (min ((0 - ((23 - m.log2 : Nat) : Int) - -149).toNat * 8388608 + m * 2 ^ (23 - m.log2)) 2139095040) := by
    unfold Ieee.Format.nearest
    rw [if_neg h0]
    simp only [e1, e2, e3, e4]
    have hc : max (0 + (m.log2 : Int) - ((23 : Nat) : Int)) (-149) = 0 - ((23 - m.log2 : Nat) : Int) := by omega
    rw [hc]
    have d1 : (0 - (0 - ((23 - m.log2 : Nat) : Int))).toNat = 23 - m.log2 := by omega
    have d2 : (0 - ((23 - m.log2 : Nat) : Int) - 0).toNat = 0 := by omega
    rw [d1, d2, cut_even0, Nat.shiftLeft_eq]
  have hE2 : 23 - m.log2 + (0 - ((23 - m.log2 : Nat) : Int) - -149).toNat = 149 := by omega
  generalize hE : (0 - ((23 - m.log2 : Nat) : Int) - -149).toNat = E at *
  have hv2 : m * 2 ^ 149 = m * 2 ^ (23 - m.log2) * 2 ^ E := by rw [Nat.mul_assoc, ← Nat.pow_add, hE2]
  rw [hv2]
  have hEb : E ≤ 149 := by omega
  clear hv2 hE2
  generalize m * 2 ^ (23 - m.log2) = K at *
  exact rung32 s m E K k1 k2 hEb hnear

/-- The word of a whole number of at most 24 digits: finite, of its sign, of its size. -/
theorem int32_word (y : Int) (hy : -16777216 ≤ y ∧ y ≤ 16777216) : ∃ b : Nat, floatOfInt .f32 y = b ∧ b < 4294967296 ∧ b % 2147483648 < 2139095040 ∧ sz b = y.natAbs * un1 ∧ (y ≠ 0 → sgn b = decide (y < 0)) := by
  have hf : floatOfInt .f32 y = Ieee.single.nearest (decide (y < 0)) y.natAbs 0 := rfl
  by_cases h0 : y = 0
  · subst h0; exact ⟨0, by decide +kernel, by decide, by decide, by unfold sz; rfl, fun h => absurd rfl h⟩
  · by_cases hb : y = 16777216
    · subst hb; exact ⟨1266679808, by decide +kernel, by decide, by decide, by decide +kernel, fun _ => by decide +kernel⟩
    · by_cases hc : y = -16777216
      · subst hc; exact ⟨3414163456, by decide +kernel, by decide, by decide, by decide +kernel, fun _ => by decide +kernel⟩
      · obtain ⟨r, w1, w2, w3⟩ := write32 (decide (y < 0)) y.natAbs (by omega) (by omega)
        obtain ⟨a1, a2, a3⟩ := word32_mod (decide (y < 0)) r (by omega)
        refine ⟨_, hf.trans w1, a3, by rw [a1]; exact w2, ?_, fun _ => a2⟩
        unfold sz un1
        rw [a1, w3, Nat.mul_assoc, ← Nat.pow_add]

theorem there (y : Int) (hy : -16777216 ≤ y ∧ y ≤ 16777216) : chk 1 (tob (floatOfInt .f32 y)) = true ∧ f2i 6 (fb (tob (floatOfInt .f32 y))) = y := by
  obtain ⟨b, e, hb, hr, hs, hg⟩ := int32_word y hy
  rw [e]
  have hn : (FloatKind.f32.format.read b).isNaN = false := by rw [read32_nan b hb]; exact decide_eq_false (by omega)
  refine ⟨chk_tob b hb, ?_⟩
  rw [fb_tob b hb hn]
  have hq : sz b / un1 = y.natAbs := by rw [hs]; exact Nat.mul_div_cancel _ un1_pos
  have hb1 : below b 13970166044103278592 = false := by
    rw [below_of b _ 2147483648 (-21) hb hr c31n (by decide) k31 (by decide), hs]
    have : ¬ 2147483648 * un1 < y.natAbs * un1 := Nat.not_lt.2 (Nat.mul_le_mul_right _ (by omega))
    rw [decide_eq_false this]; simp
  have ha1 : above b 4746794007248502784 = false := by
    rw [above_of b _ 2147483648 (-21) hb hr c31 (by decide) k31 (by decide), hs]
    have : ¬ 2147483648 * un1 ≤ y.natAbs * un1 := Nat.not_le.2 (Nat.mul_lt_mul_of_pos_right (by omega) un1_pos)
    rw [decide_eq_false this]; simp
  have hi := cv_int b hb hr
  rw [hq] at hi
  have hv : floatToIntVal .f64 (cv b) .i64 = some y := by
    have hy' : (if sgn b then -((y.natAbs : Nat) : Int) else ((y.natAbs : Nat) : Int)) = y := by
      by_cases h0 : y = 0
      · subst h0; cases sgn b <;> rfl
      · rw [hg h0]
        by_cases h1 : y < 0
        · rw [decide_eq_true h1]; simp only [if_true]; omega
        · rw [decide_eq_false h1]; simp only [Bool.false_eq_true, if_false]; omega
    rw [hy'] at hi
    unfold floatToIntVal
    have h1' : (FloatKind.f64.decode (cv b)).toInt .zero = some y := hi
    rw [h1']
    have : IntKind.i64.min ≤ y ∧ y ≤ IntKind.i64.max := by
      simp only [IntKind.min, IntKind.max, IntKind.signed, IntKind.bits, if_true]; omega
    simp only [this, and_self, if_true]
  simp [f2i, hn, hb1, ha1, hv]

set_option maxHeartbeats 1000000 in
theorem there_walk (x y : Int) (w : World) (hx : -2147483648 ≤ x ∧ x ≤ 2147483647) (hm : x.tmod 16777217 = y) (hy0 : -16777216 ≤ y) (hy1 : y ≤ 16777216) (h1 : cst 6 7 x = (x, 0)) (h2 : cst 7 6 x = (x, 0)) (h3 : (cst 6 1 y).2 = 0) (h4 : cst 1 6 (cst 6 1 y).1 = (y, 0)) : Calls Try.prog 4 #[.int .i32 x] w fun e w' => e = .returned (.bool true) ∧ Grown w w' := by
  obtain ⟨ha, hb⟩ := hx
  go_enter Try.func4, Try.ntmps4
  go_wp2_with fail
  refine (cast_code _ _ _ _).mono ?_
  rintro e w' ⟨rfl, n1, rfl⟩
  go_wp2_with fail
  refine (cast_code _ _ _ _).mono ?_
  rintro e w' ⟨rfl, n2, rfl⟩
  go_wp2_with fail
  refine (cast_code _ _ _ _).mono ?_
  rintro e w' ⟨rfl, n3, rfl⟩
  go_wp2_with fail
  refine (cast_code _ _ _ _).mono ?_
  rintro e w' ⟨rfl, n4, rfl⟩
  go_wp2_with fail
  refine (live_any _).mono ?_
  rintro e w' ⟨rfl, n5, rfl⟩
  go_wp2_with fail
  go_ret
  exact ⟨rfl, by repeat (first | exact Grown.refl _ | apply grown_drewN | apply Grown.alloc)⟩

theorem there_ends (x : Int) (hx : (Lit.int .i32 x).wf = true) (w : World) : Calls Try.prog 4 #[.int .i32 x] w fun e w' => e = .returned (.bool true) ∧ Grown w w' := by
  have hw : -2147483648 ≤ x ∧ x ≤ 2147483647 := by
    simpa [Lit.wf, IntKind.min, IntKind.max, IntKind.signed, IntKind.bits] using hx
  have c6 : chk 6 x = true := by simpa [chk] using hw
  have c7 : chk 7 x = true := by simp [chk]
  have hy : -16777216 ≤ x.tmod 16777217 ∧ x.tmod 16777217 ≤ 16777216 := by
    have h1 := Int.tmod_lt_of_pos x (show (0 : Int) < 16777217 by decide)
    have h2 := Int.lt_tmod_of_pos x (show (0 : Int) < 16777217 by decide)
    omega
  have cy : chk 6 (x.tmod 16777217) = true := by simp [chk]; omega
  obtain ⟨t1, t2⟩ := there _ hy
  refine there_walk x _ w hw rfl hy.1 hy.2 ?_ ?_ ?_ ?_
  · simp [cst, c6, isT, wrapT]
  · simp only [cst, c7, isT, wrapT]
    simp
    unfold wrap64 wrap32; omega
  · simp [cst, cy, isT]
  · have e : (cst 6 1 (x.tmod 16777217)).1 = tob (floatOfInt .f32 (x.tmod 16777217)) := by simp [cst, cy, isT]
    rw [e]
    simp [cst, t1, isT, t2]
end Go.Proofs.Ytcfgnhjoajibkac
