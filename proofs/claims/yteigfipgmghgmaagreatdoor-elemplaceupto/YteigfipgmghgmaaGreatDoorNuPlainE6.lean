/- Tanh's steps: of a number up to 10 each has an answer. Nothing here names the program. -/
import Derived.Test.YteigfipgmghgmaaGreatDoorNuWalkE2
namespace Go.Proofs.YteigfipgmghgmaaGreatDoor.Nu
open Go.RowKit Mo

def sv32 (s : Bool) (r : Nat) : Int := if s then -(val r : Int) else (val r : Int)

theorem signed32 (s : Bool) (r m d : Nat) (base : Int) (hb : base ≤ -149 + (d : Int)) (h0 : -149 ≤ base) (e : val r = m * 2 ^ d) : Ieee.signed s m (-149 + (d : Int) - base).toNat * ((2 ^ (base + 149).toNat : Nat) : Int) = sv32 s r := by
  have hh : m <<< (-149 + (d : Int) - base).toNat * 2 ^ (base + 149).toNat = val r := by
    rw [Nat.shiftLeft_eq, Nat.mul_assoc, ← Nat.pow_add, e, show (-149 + (d : Int) - base).toNat + (base + 149).toNat = d from by omega]
  unfold Ieee.signed sv32
  rw [← hh]
  cases s
  · simp
  · simp [Int.neg_mul]

theorem sum32 (s t : Bool) (r q : Nat) (hr : r < 2139095040) (hq : q < 2139095040) : ∃ (g : Bool) (T : Nat) (B : Int), (rdm s r).sum (rdm t q) = some (.number g T B) ∧ -149 ≤ B ∧ T * 2 ^ (B + 149).toNat = (sv32 s r + sv32 t q).natAbs := by
  obtain ⟨m, d, e1, v1⟩ := rdm_num s r hr
  obtain ⟨n, e, e2, v2⟩ := rdm_num t q hq
  have g1 := signed32 s r m d (min (-149 + (d : Int)) (-149 + (e : Int))) (by omega) (by omega) v1
  have g2 := signed32 t q n e (min (-149 + (d : Int)) (-149 + (e : Int))) (by omega) (by omega) v2
  rw [e1, e2]
  unfold Ieee.Datum.sum
  refine ⟨_, _, _, rfl, by omega, ?_⟩
  rw [← g1, ← g2, ← Int.add_mul, Int.natAbs_mul]
  simp

/-- Where a number of a given size comes to lie. -/
theorem near32_hi (s : Bool) (m : Nat) (p B : Int) (h : m = 0 ∨ p + m.log2 ≤ B) (h1 : -126 ≤ B) (h2 : B ≤ 126) : ∃ r, Ieee.single.nearest s m p = Ieee.single.word s r ∧ r ≤ (B + 128).toNat * 8388608 ∧ (m ≠ 0 → 0 ≤ p + m.log2 → 1 ≤ r) := by
  unfold Ieee.Format.nearest
  by_cases h0 : m = 0
  · rw [if_pos h0]; exact ⟨0, rfl, by omega, fun hc => absurd h0 hc⟩
  rw [if_neg h0]
  have hB : p + m.log2 ≤ B := by omega
  obtain ⟨l1, l2⟩ : 2 ^ m.log2 ≤ m ∧ m < 2 ^ (m.log2 + 1) := ⟨Nat.log2_self_le h0, Nat.lt_log2_self⟩
  have c1 : Ieee.single.leastPlace = -149 := rfl
  have c2 : Ieee.single.binade = 8388608 := rfl
  have c3 : Ieee.single.infRung = 2139095040 := rfl
  have c4 : ((Ieee.single.fractionBits : Nat) : Int) = 23 := rfl
  simp only [c1, c2, c3, c4]
  generalize hl : max (p + (m.log2 : Int) - 23) (-149) = last
  obtain ⟨k1, -⟩ := cut_half s (m <<< (p - last).toNat) (last - p).toNat
  have hM : m <<< (p - last).toNat < 2 ^ 24 * 2 ^ (last - p).toNat := by
    rw [Nat.shiftLeft_eq, ← Nat.pow_add]
    refine Nat.lt_of_lt_of_le (Nat.mul_lt_mul_of_pos_right l2 (Nat.two_pow_pos _)) ?_
    rw [← Nat.pow_add]
    exact Nat.pow_le_pow_right (by decide) (by omega)
  have hd : 0 < 2 ^ (last - p).toNat := Nat.two_pow_pos _
  generalize Ieee.Toward.even.cut s (m <<< (p - last).toNat) (last - p).toNat = K at *
  generalize m <<< (p - last).toNat = M at *
  have hK : K ≤ 16777216 := by
    generalize 2 ^ (last - p).toNat = G at *
    have h3 : K * G * 2 < (16777216 + 1) * G * 2 := by
      have : 2 * K * G = K * G * 2 := by rw [Nat.mul_assoc, Nat.mul_comm]
      rw [Nat.add_mul]; omega
    have h4 := Nat.lt_of_mul_lt_mul_right (Nat.lt_of_mul_lt_mul_right h3)
    omega
  refine ⟨_, rfl, ?_, fun _ hp => ?_⟩
  · refine Nat.le_trans (Nat.min_le_left _ _) ?_
    have : (last - -149).toNat ≤ (B + 126).toNat := by omega
    omega
  · have h8 : 126 ≤ (last - -149).toNat := by omega
    generalize (last - -149).toNat = z at h8 ⊢
    exact Nat.le_min.2 ⟨by omega, by decide⟩

/-- A size, out of a bound on the number. -/
theorem log_of {T : Nat} {B : Int} {k : Nat} (hB : -149 ≤ B) (h : T * 2 ^ (B + 149).toNat < 2 ^ k) : T = 0 ∨ B + T.log2 ≤ (k : Int) - 150 := by
  by_cases h0 : T = 0
  · exact .inl h0
  · refine .inr ?_
    have l1 : 2 ^ T.log2 ≤ T := Nat.log2_self_le h0
    have h2 : 2 ^ (T.log2 + (B + 149).toNat) < 2 ^ k := by rw [Nat.pow_add]; exact Nat.lt_of_le_of_lt (Nat.mul_le_mul_right _ l1) h
    have := (Nat.pow_lt_pow_iff_right (a := 2) (by decide)).1 h2
    omega

theorem read_pos (r : Nat) (h : r ≤ 2139095040) : FloatKind.f32.format.read r = rdm false r := by
  have := read_eq r (by omega)
  rw [decide_eq_false (by omega), Nat.mod_eq_of_lt (by omega)] at this
  exact this

theorem val_mono {r s : Nat} (h : r ≤ s) : val r ≤ val s := by
  rcases Nat.lt_or_eq_of_le h with h | h
  · exact Nat.le_of_lt (val_lt _ _ h)
  · rw [h]; exact Nat.le_refl _

/-- exp of a number from 0 to 32. -/
theorem exW_small (d : Nat) (h : d ≤ 1107296256) : exW d ≤ 1585446912 := by
  have hd := read_pos d (by omega)
  have h1 : (FloatKind.f32.format.order d d != some .eq) = false := by rw [order_self, read32_nan d (by omega), decide_eq_false (by omega)]; rfl
  have h2 : (FloatKind.f32.format.order d 1118961664 == some .gt) = false := by
    unfold Ieee.Format.order
    rw [hd, read_pos 1118961664 (by decide), order_same false _ _ (by omega) (by decide), if_neg (by decide), cmp_lt (by exact_mod_cast val_lt _ _ (by omega))]
    rfl
  have h3 : (FloatKind.f32.format.order d 3268542464 == some .lt) = false := by
    unfold Ieee.Format.order
    have c2 : FloatKind.f32.format.read 3268542464 = rdm true 1121058816 := read_eq 3268542464 (by decide)
    obtain ⟨m, e, e1, v1⟩ := rdm_num false d (by omega)
    obtain ⟨n, f, e2, v2⟩ := rdm_num true 1121058816 (by decide)
    rw [hd, c2, e1, e2]
    unfold Ieee.Datum.order
    simp only
    have : ¬ Ieee.signed false m (-149 + (e : Int) - min (-149 + (e : Int)) (-149 + (f : Int))).toNat < Ieee.signed true n (-149 + (f : Int) - min (-149 + (e : Int)) (-149 + (f : Int))).toNat := by
      unfold Ieee.signed
      simp only [Bool.false_eq_true, if_false, if_true]
      exact Int.not_lt.2 (Int.le_trans (Int.neg_nonpos_of_nonneg (Int.natCast_nonneg _)) (Int.natCast_nonneg _))
    rcases Int.lt_trichotomy (Ieee.signed false m (-149 + (e : Int) - min (-149 + (e : Int)) (-149 + (f : Int))).toNat) (Ieee.signed true n (-149 + (f : Int) - min (-149 + (e : Int)) (-149 + (f : Int))).toNat) with g | g | g
    · exact absurd g this
    · rw [cmp_eq g]; rfl
    · rw [cmp_gt g]; rfl
  have X := exp_facts d (by omega) (by rw [Nat.mod_eq_of_lt (by omega)]; omega)
  obtain ⟨s, M, rk, q1, q2, q3, q4, q5, q6⟩ := X.kw
  obtain ⟨rp, p1, p2, p3⟩ := X.p
  have hM := q6 (by rw [Nat.mod_eq_of_lt (by omega)]; exact h)
  rw [show Ieee.double.word false rp = rp from rfl] at p1
  have hE : eB (cv d) ≤ 4880213146209353728 := by
    have hk : kI (cv d) ≤ 60 := by
      rw [q5]
      cases s
      · simp only [Bool.false_eq_true, if_false]; omega
      · simp only [if_true]; omega
    unfold eB
    rw [p1]
    generalize kI (cv d) = k at hk ⊢
    clear X q1 q2 q3 q4 q5 q6 p1 h1 h2 h3 hd
    omega
  unfold exW
  rw [if_neg (by rw [h1]; decide), if_neg (by rw [h2]; decide), if_neg (by rw [h3]; decide), if_neg (by omega)]
  obtain ⟨m, p, f1, f2, f3, f4, f5⟩ := read_word false (eB (cv d)) (by omega)
  rw [show Ieee.double.word false (eB (cv d)) = eB (cv d) from rfl] at f1
  rw [f1]
  have hv : m * 2 ^ (p + 1074).toNat < pw 1136 := by
    rw [f5]
    refine Nat.lt_of_le_of_lt (v64_le hE) ?_
    decide +kernel
  have hlog : m = 0 ∨ p + m.log2 ≤ 61 := by
    by_cases h0 : m = 0
    · exact .inl h0
    · refine .inr ?_
      obtain ⟨c, hc⟩ : ∃ c : Nat, c = 1136 := ⟨_, rfl⟩
      rw [← hc, pw_eq] at hv
      have l1 : 2 ^ m.log2 ≤ m := Nat.log2_self_le h0
      have h2 : 2 ^ (m.log2 + (p + 1074).toNat) < 2 ^ c := by rw [Nat.pow_add]; exact Nat.lt_of_le_of_lt (Nat.mul_le_mul_right _ l1) hv
      have := (Nat.pow_lt_pow_iff_right (a := 2) (by decide)).1 h2
      omega
  obtain ⟨r, g1, g2, -⟩ := near32_hi false m p 61 hlog (by decide) (by decide)
  show Ieee.single.nearest false m p ≤ _
  rw [g1]
  exact g2

theorem word32 (s : Bool) (r : Nat) (h : r < 2139095040) : FloatKind.f32.format.read (Ieee.single.word s r) = rdm s r := by
  have e5 : Ieee.single.signWeight = 2147483648 := rfl
  have hlt : Ieee.single.word s r < 4294967296 := by unfold Ieee.Format.word; rw [e5]; split <;> omega
  rw [read_eq _ hlt]
  unfold Ieee.Format.word
  rw [e5]
  cases s with
  | false => simp only [Bool.false_eq_true, if_false]; rw [decide_eq_false (by omega), Nat.mod_eq_of_lt (by omega)]
  | true => simp only [if_true]; rw [decide_eq_true (by omega), show (2147483648 + r) % 2147483648 = r from by omega]

/-- Tanh's steps, of a number up to 10. -/
theorem th_core (a : Nat) (ha : a ≤ 1092616192) : ∃ d s1 s2 q, floatBits .add .f32 a a = some d ∧ d ≤ 1107296256 ∧ floatBits .sub .f32 (exW d) 1065353216 = some s1 ∧ floatBits .add .f32 (exW d) 1065353216 = some s2 ∧ floatBits .quo .f32 s1 s2 = some q := by
  obtain ⟨g, T, B, e1, e2, e3⟩ := sum32 false false a a (by omega) (by omega)
  have hva : val a ≤ 10 * 2 ^ 149 := by rw [← show val 1092616192 = 10 * 2 ^ 149 from by decide +kernel]; exact val_mono ha
  have hlog := log_of (k := 154) e2 (by rw [e3]; unfold sv32; simp only [Bool.false_eq_true, if_false]; have : (10 : Nat) * 2 ^ 149 * 2 < 2 ^ 154 := by decide
                                        omega)
  obtain ⟨r, g1, g2, -⟩ := near32_hi g T B 4 (by omega) (by decide) (by decide)
  have hadd : floatBits .add .f32 a a = some (Ieee.single.word g r) := by
    show Option.map _ (Ieee.Datum.sum (FloatKind.f32.format.read a) (FloatKind.f32.format.read a)) = _
    rw [read_pos a (by omega), e1]
    exact congrArg some g1
  have hg : g = false := by
    obtain ⟨m, d, f1, f2⟩ := rdm_num false a (by omega)
    rw [f1] at e1
    unfold Ieee.Datum.sum at e1
    simp only [Option.some.injEq, Ieee.Datum.number.injEq] at e1
    rw [← e1.1]
    unfold Ieee.signed
    simp only [Bool.false_eq_true, if_false]
    split
    · rfl
    · exact decide_eq_false (Int.not_lt.2 (Int.add_nonneg (Int.natCast_nonneg _) (Int.natCast_nonneg _)))
  subst hg
  have hr : r ≤ 1107296256 := g2
  rw [show Ieee.single.word false r = r from rfl] at hadd
  have hE := exW_small r hr
  have hone : FloatKind.f32.format.read 1065353216 = rdm false 1065353216 := read_pos _ (by decide)
  have hEr : FloatKind.f32.format.read (exW r) = rdm false (exW r) := read_pos _ (by omega)
  have hvE : val (exW r) ≤ 2 ^ 211 := by rw [← show val 1585446912 = 2 ^ 211 from by decide +kernel]; exact val_mono hE
  have hv1 : val 1065353216 = 2 ^ 149 := by decide +kernel
  have hp : (2 : Nat) ^ 211 + 2 ^ 149 < 2 ^ 212 := by decide
  obtain ⟨ga, Ta, Ba, a1, a2, a3⟩ := sum32 false false (exW r) 1065353216 (by omega) (by decide)
  obtain ⟨gs, Ts, Bs, b1, b2, b3⟩ := sum32 false true (exW r) 1065353216 (by omega) (by decide)
  have la := log_of (k := 212) a2 (by rw [a3]; unfold sv32; simp only [Bool.false_eq_true, if_false]; rw [hv1]; omega)
  have lb := log_of (k := 212) b2 (by rw [b3]; unfold sv32; simp only [Bool.false_eq_true, if_false, if_true]; rw [hv1]; omega)
  obtain ⟨ra, c1, c2, c3⟩ := near32_hi ga Ta Ba 62 (by omega) (by decide) (by decide)
  obtain ⟨rs, d1, d2, -⟩ := near32_hi gs Ts Bs 62 (by omega) (by decide) (by decide)
  have hge : 2 ^ 149 ≤ Ta * 2 ^ (Ba + 149).toNat := by rw [a3]; unfold sv32; simp only [Bool.false_eq_true, if_false]; rw [hv1]; omega
  have hTa : Ta ≠ 0 := by intro hc; rw [hc, Nat.zero_mul] at hge; have := Nat.two_pow_pos 149; omega
  have hlo : 0 ≤ Ba + Ta.log2 := by
    have l2 : Ta < 2 ^ (Ta.log2 + 1) := Nat.lt_log2_self
    have h2 : 2 ^ 149 < 2 ^ (Ta.log2 + 1 + (Ba + 149).toNat) := by rw [Nat.pow_add]; exact Nat.lt_of_le_of_lt hge (Nat.mul_lt_mul_of_pos_right l2 (Nat.two_pow_pos _))
    have := (Nat.pow_lt_pow_iff_right (a := 2) (by decide)).1 h2
    omega
  have hra := c3 hTa hlo
  have hs2 : floatBits .add .f32 (exW r) 1065353216 = some (Ieee.single.word ga ra) := by
    show Option.map _ (Ieee.Datum.sum (FloatKind.f32.format.read (exW r)) (FloatKind.f32.format.read 1065353216)) = _
    rw [hEr, hone, a1]
    exact congrArg some c1
  have hs1 : floatBits .sub .f32 (exW r) 1065353216 = some (Ieee.single.word gs rs) := by
    show Option.map _ (Ieee.Datum.sum (FloatKind.f32.format.read (exW r)) (FloatKind.f32.format.read 1065353216).opposite) = _
    rw [hEr, hone, rdm_opposite, show (!false) = true from rfl, b1]
    exact congrArg some d1
  have n1 : ra ≤ 1593835520 := c2
  have n2 : rs ≤ 1593835520 := d2
  clear c2 d2
  obtain ⟨m1, i1, f1, -⟩ := rdm_num gs rs (by omega)
  obtain ⟨m2, i2, f2, w2⟩ := rdm_num ga ra (by omega)
  have hm2 : m2 ≠ 0 := by
    intro hc
    rw [hc, Nat.zero_mul] at w2
    have := val_lt 0 ra (by omega)
    omega
  have hq : ∃ q, floatBits .quo .f32 (Ieee.single.word gs rs) (Ieee.single.word ga ra) = some q := by
    show ∃ q, Option.map _ (Ieee.Datum.quotient _ (FloatKind.f32.format.read (Ieee.single.word gs rs)) (FloatKind.f32.format.read (Ieee.single.word ga ra))) = some q
    rw [word32 gs rs (by omega), word32 ga ra (by omega), f1, f2]
    unfold Ieee.Datum.quotient
    simp only
    rw [if_neg hm2]
    exact ⟨_, rfl⟩
  obtain ⟨q, hq⟩ := hq
  exact ⟨r, _, _, q, hadd, hr, hs1, hs2, hq⟩
end Go.Proofs.YteigfipgmghgmaaGreatDoor.Nu
