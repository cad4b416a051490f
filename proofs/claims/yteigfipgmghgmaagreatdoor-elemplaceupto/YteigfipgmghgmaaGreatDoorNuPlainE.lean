/- Rounding to 64 bits goes upwards with the number; Exp's steps stay small. Nothing here names the program. -/
import Derived.Test.YteigfipgmghgmaaGreatDoorNuPlain
namespace Go.Proofs.YteigfipgmghgmaaGreatDoor.Nu.Mo
open Ieee

/-- A power of two that is not to be reckoned out. -/
def pw (n : Nat) : Nat := 2 ^ n

theorem pw_eq (n : Nat) : pw n = 2 ^ n := rfl

theorem pw_pos (n : Nat) : 0 < pw n := Nat.two_pow_pos n

theorem le_pw {a b : Nat} (h : a ≤ b) : 2 ^ a ≤ pw b := Nat.pow_le_pow_right (by omega) h

/-- A rung's value, in units of 2^-1074. -/
def v64 (r : Nat) : Nat := if r < 4503599627370496 then r else (4503599627370496 + r % 4503599627370496) * 2 ^ (r / 4503599627370496 - 1)

theorem v64_of (E K : Nat) (h : E = 0 ∨ 4503599627370496 ≤ K) (hk : K ≤ 9007199254740992) : v64 (E * 4503599627370496 + K) = K * 2 ^ E := by
  unfold v64
  by_cases h1 : K < 4503599627370496
  · have h0 : E = 0 := by omega
    subst h0
    rw [if_pos (by omega)]; simp
  · rw [if_neg (by omega)]
    by_cases h2 : K = 9007199254740992
    · subst h2
      have e1 : (E * 4503599627370496 + 9007199254740992) % 4503599627370496 = 0 := by omega
      have e2 : (E * 4503599627370496 + 9007199254740992) / 4503599627370496 - 1 = E + 1 := by omega
      rw [e1, e2, Nat.pow_succ]; omega
    · have e1 : 4503599627370496 + (E * 4503599627370496 + K) % 4503599627370496 = K := by omega
      have e2 : (E * 4503599627370496 + K) / 4503599627370496 - 1 = E := by omega
      rw [e1, e2]

theorem v64_lo (r : Nat) (h : 4503599627370496 ≤ r) : 2 ^ (51 + r / 4503599627370496) ≤ v64 r := by
  unfold v64
  rw [if_neg (by omega), show 51 + r / 4503599627370496 = 52 + (r / 4503599627370496 - 1) from by omega, Nat.pow_add]
  exact Nat.mul_le_mul_right _ (by omega)

theorem v64_hi (r : Nat) : v64 r < 2 ^ (52 + r / 4503599627370496) := by
  unfold v64
  split
  · rename_i h
    rw [Nat.div_eq_of_lt h]; omega
  · rw [show 52 + r / 4503599627370496 = 53 + (r / 4503599627370496 - 1) from by omega, Nat.pow_add]
    exact Nat.mul_lt_mul_of_pos_right (by omega) (Nat.two_pow_pos _)

theorem v64_lt (r s : Nat) (h : r < s) : v64 r < v64 s := by
  by_cases hq : r / 4503599627370496 = s / 4503599627370496
  · unfold v64
    by_cases h1 : s < 4503599627370496
    · rw [if_pos (by omega), if_pos h1]; exact h
    · rw [if_neg h1, if_neg (by omega), hq]
      exact Nat.mul_lt_mul_of_pos_right (by omega) (Nat.two_pow_pos _)
  · have hs : 4503599627370496 ≤ s := by omega
    refine Nat.lt_of_lt_of_le (v64_hi r) (Nat.le_trans (Nat.pow_le_pow_right (by omega) ?_) (v64_lo s hs))
    omega

theorem v64_le {r s : Nat} (h : r ≤ s) : v64 r ≤ v64 s := by
  rcases Nat.lt_or_eq_of_le h with h | h
  · exact Nat.le_of_lt (v64_lt _ _ h)
  · rw [h]; exact Nat.le_refl _

theorem cut_half (s : Bool) (n d : Nat) : 2 * Toward.even.cut s n d * 2 ^ d ≤ 2 * n + 2 ^ d ∧ 2 * n ≤ 2 * Toward.even.cut s n d * 2 ^ d + 2 ^ d := by
  unfold Toward.cut
  simp only [Nat.one_shiftLeft]
  by_cases hd : d ≤ n.log2 + 2
  · rw [Nat.min_eq_left hd]
    have hG : 0 < 2 ^ d := Nat.two_pow_pos d
    generalize 2 ^ d = G at *
    have h1 := Nat.div_add_mod n G
    have h2 := Nat.mod_lt n hG
    generalize n / G = q at *
    generalize n % G = t at *
    have e0 : 2 * q * G = 2 * (G * q) := by rw [Nat.mul_assoc, Nat.mul_comm q G]
    have e1 : 2 * (q + 1) * G = 2 * (G * q) + 2 * G := by rw [Nat.mul_assoc, Nat.add_mul, Nat.mul_comm q G]; omega
    generalize G * q = A at *
    by_cases h3 : G < 2 * t
    · simp only [h3, decide_true, Bool.true_or, Bool.toNat_true]
      rw [e1]; omega
    · simp only [h3, decide_false, Bool.false_or]
      by_cases h4 : G = 2 * t
      · cases hb : (G == 2 * t && q % 2 == 1) with
        | true => simp only [Bool.toNat_true]; rw [e1]; omega
        | false => simp only [Bool.toNat_false, Nat.add_zero]; rw [e0]; omega
      · have : (G == 2 * t) = false := by simpa using h4
        simp only [this, Bool.false_and, Bool.toNat_false, Nat.add_zero]
        rw [e0]; omega
  · rw [Nat.min_eq_right (by omega)]
    have hn : n < 2 ^ (n.log2 + 1) := Nat.lt_log2_self
    have hg : 2 ^ (n.log2 + 2) = 2 * 2 ^ (n.log2 + 1) := by rw [Nat.pow_succ 2 (n.log2 + 1)]; omega
    have hle : 2 ^ (n.log2 + 2) ≤ 2 ^ d := Nat.pow_le_pow_right (by omega) (by omega)
    have e1 : n / 2 ^ (n.log2 + 2) = 0 := Nat.div_eq_of_lt (by omega)
    have e2 : n % 2 ^ (n.log2 + 2) = n := Nat.mod_eq_of_lt (by omega)
    rw [e1, e2]
    have e3 : decide (2 ^ (n.log2 + 2) < 2 * n) = false := by simp; omega
    have e4 : (2 ^ (n.log2 + 2) == 2 * n) = false := by
      have : ¬ 2 ^ (n.log2 + 2) = 2 * n := by omega
      simpa using this
    simp only [e3, e4, Bool.false_and, Bool.or_false, Bool.toNat_false, Nat.add_zero, Nat.mul_zero, Nat.zero_mul]
    omega

/-- The rung nearest to m * 2^p, if there were no end. -/
def rg (m : Nat) (p : Int) : Nat := if m = 0 then 0 else
  (max (p + m.log2 - 52) (-1074) + 1074).toNat * 4503599627370496 + Toward.even.cut false (m <<< (p - max (p + m.log2 - 52) (-1074)).toNat) (max (p + m.log2 - 52) (-1074) - p).toNat

theorem near_rg (s : Bool) (m : Nat) (p : Int) : double.nearest s m p = double.word s (min (rg m p) 9218868437227405312) := by
  unfold Format.nearest rg
  by_cases h : m = 0
  · rw [if_pos h, if_pos h]; rfl
  · rw [if_neg h, if_neg h]
    have e1 : double.leastPlace = -1074 := rfl
    have e2 : double.binade = 4503599627370496 := rfl
    have e3 : double.infRung = 9218868437227405312 := rfl
    have e4 : ((double.fractionBits : Nat) : Int) = 52 := rfl
    simp only [e1, e2, e3, e4]
    have e5 : ∀ n d, Toward.even.cut s n d = Toward.even.cut false n d := fun n d => by cases s <;> rfl
    rw [e5]
    have e6 : max (p + (m.log2 : Int) - 52) (-1074) - -1074 = max (p + (m.log2 : Int) - 52) (-1074) + 1074 := by omega
    rw [e6]

/-- What the rung is, and how it stands to the number. -/
theorem rg_parts (m : Nat) (p : Int) (h0 : m ≠ 0) (b : Nat) (hb : 1074 ≤ b) (hp : -p ≤ b) : ∃ E K d M T : Nat, rg m p = E * 4503599627370496 + K ∧ T = E + (b - 1074) ∧ M * 2 ^ T = m * 2 ^ (p + b).toNat * 2 ^ d ∧
    2 * K * 2 ^ d ≤ 2 * M + 2 ^ d ∧ 2 * M ≤ 2 * K * 2 ^ d + 2 ^ d ∧ m * 2 ^ (p + b).toNat < 2 ^ (T + 53) ∧ (E = 0 ∨ 2 ^ (T + 52) ≤ m * 2 ^ (p + b).toNat) := by
  obtain ⟨l1, l2⟩ : 2 ^ m.log2 ≤ m ∧ m < 2 ^ (m.log2 + 1) := ⟨Nat.log2_self_le h0, Nat.lt_log2_self⟩
  unfold rg
  rw [if_neg h0]
  generalize hl : max (p + (m.log2 : Int) - 52) (-1074) = last
  refine ⟨(last + 1074).toNat, _, (last - p).toNat, m <<< (p - last).toNat, _, rfl, rfl, ?_, (cut_half _ _ _).1, (cut_half _ _ _).2, ?_, ?_⟩
  · rw [Nat.shiftLeft_eq, Nat.mul_assoc, Nat.mul_assoc, ← Nat.pow_add, ← Nat.pow_add, show (p - last).toNat + ((last + 1074).toNat + (b - 1074)) = (p + b).toNat + (last - p).toNat from by omega]
  · refine Nat.lt_of_lt_of_le (Nat.mul_lt_mul_of_pos_right l2 (Nat.two_pow_pos _)) ?_
    rw [← Nat.pow_add]
    exact Nat.pow_le_pow_right (by omega) (by omega)
  · by_cases hE : (last + 1074).toNat = 0
    · exact .inl hE
    · refine .inr (Nat.le_trans ?_ (Nat.mul_le_mul_right _ l1))
      rw [← Nat.pow_add]
      exact Nat.pow_le_pow_right (by omega) (by omega)

theorem rg_K {x E K d M T : Nat} (hx : M * 2 ^ T = x * 2 ^ d) (k1 : 2 * K * 2 ^ d ≤ 2 * M + 2 ^ d) (k2 : 2 * M ≤ 2 * K * 2 ^ d + 2 ^ d) (b1 : x < 2 ^ (T + 53)) (b2 : E = 0 ∨ 2 ^ (T + 52) ≤ x) : K ≤ 9007199254740992 ∧ (E = 0 ∨ 4503599627370496 ≤ K) := by
  have hT : 0 < 2 ^ T := Nat.two_pow_pos _
  have hd : 0 < 2 ^ d := Nat.two_pow_pos _
  constructor
  · have h1 : M * 2 ^ T < 2 ^ 53 * 2 ^ d * 2 ^ T := by
      rw [hx, Nat.mul_assoc, Nat.mul_comm (2 ^ d) (2 ^ T), ← Nat.mul_assoc]
      refine Nat.mul_lt_mul_of_pos_right ?_ hd
      rw [Nat.pow_add, Nat.mul_comm] at b1; exact b1
    have h2 := Nat.lt_of_mul_lt_mul_right h1
    generalize 2 ^ d = G at *
    have h3 : K * G * 2 < (9007199254740992 + 1) * G * 2 := by
      have : 2 * K * G = K * G * 2 := by rw [Nat.mul_assoc, Nat.mul_comm]
      rw [Nat.add_mul]; omega
    have h4 := Nat.lt_of_mul_lt_mul_right (Nat.lt_of_mul_lt_mul_right h3)
    omega
  · rcases b2 with h | h
    · exact .inl h
    · have h1 : 2 ^ 52 * 2 ^ d * 2 ^ T ≤ M * 2 ^ T := by
        rw [hx, Nat.mul_assoc, Nat.mul_comm (2 ^ d) (2 ^ T), ← Nat.mul_assoc]
        refine Nat.mul_le_mul_right _ ?_
        rw [Nat.pow_add, Nat.mul_comm] at h; exact h
      have h2 := Nat.le_of_mul_le_mul_right h1 hT
      generalize 2 ^ d = G at *
      refine .inr ?_
      by_cases hc : 4503599627370496 ≤ K
      · exact hc
      · exfalso
        have h3 : K * G ≤ 4503599627370495 * G := Nat.mul_le_mul_right _ (by omega)
        have : 2 * K * G = K * G * 2 := by rw [Nat.mul_assoc, Nat.mul_comm]
        omega

theorem near_le (m : Nat) (p : Int) (r b : Nat) (c : Nat) (hc : b - 1074 = c) (hb : 1074 ≤ b) (hp : -p ≤ b) (h : m * 2 ^ (p + b).toNat ≤ v64 r * pw c) : rg m p ≤ r := by
  rw [pw_eq] at h
  subst hc
  by_cases h0 : m = 0
  · unfold rg; rw [if_pos h0]; omega
  obtain ⟨E, K, d, M, T, e1, e2, e3, k1, k2, b1, b2⟩ := rg_parts m p h0 b hb hp
  obtain ⟨q1, q2⟩ := rg_K e3 k1 k2 b1 b2
  rw [e1]
  generalize m * 2 ^ (p + b).toNat = x at *
  have hT : 0 < 2 ^ T := Nat.two_pow_pos _
  have hd : 0 < 2 ^ d := Nat.two_pow_pos _
  apply Decidable.byContradiction
  intro hc
  by_cases hk : K ≥ 1 ∧ (E = 0 ∨ 4503599627370496 ≤ K - 1)
  · have h1 : v64 r ≤ (K - 1) * 2 ^ E := by
      rw [← v64_of E (K - 1) hk.2 (by omega)]
      exact v64_le (by omega)
    have h2 : x ≤ (K - 1) * 2 ^ T := by
      refine Nat.le_trans h (Nat.le_trans (Nat.mul_le_mul_right _ h1) ?_)
      rw [e2, Nat.mul_assoc, ← Nat.pow_add]; exact Nat.le_refl _
    have h3 : M * 2 ^ T ≤ (K - 1) * 2 ^ d * 2 ^ T := by
      rw [e3, Nat.mul_assoc (K - 1), Nat.mul_comm (2 ^ d) (2 ^ T), ← Nat.mul_assoc]
      exact Nat.mul_le_mul_right _ h2
    have h4 := Nat.le_of_mul_le_mul_right h3 hT
    generalize 2 ^ d = G at *
    have h5 : K * G = (K - 1) * G + G := by rw [← Nat.succ_mul, Nat.succ_eq_add_one, Nat.sub_add_cancel hk.1]
    have : 2 * K * G = K * G * 2 := by rw [Nat.mul_assoc, Nat.mul_comm]
    omega
  · have hE : E ≠ 0 := by omega
    have hK : K = 4503599627370496 := by omega
    subst hK
    have h1 : v64 r < 4503599627370496 * 2 ^ E := by
      rw [← v64_of E 4503599627370496 (.inr (Nat.le_refl _)) (by omega)]
      exact v64_lt _ _ (by omega)
    have h2 : x < 4503599627370496 * 2 ^ T := by
      refine Nat.lt_of_le_of_lt h (Nat.lt_of_lt_of_le (Nat.mul_lt_mul_of_pos_right h1 (Nat.two_pow_pos _)) ?_)
      rw [e2, Nat.mul_assoc, ← Nat.pow_add]; exact Nat.le_refl _
    rcases b2 with b2 | b2
    · exact hE b2
    · rw [Nat.pow_add] at b2; omega

theorem near_ge (m : Nat) (p : Int) (r b : Nat) (c : Nat) (hc : b - 1074 = c) (hb : 1074 ≤ b) (hp : -p ≤ b) (h : v64 r * pw c ≤ m * 2 ^ (p + b).toNat) : r ≤ rg m p := by
  rw [pw_eq] at h
  subst hc
  by_cases h0 : m = 0
  · subst h0
    rw [Nat.zero_mul] at h
    apply Decidable.byContradiction
    intro hc
    have h1 : 0 < v64 r := Nat.lt_of_le_of_lt (Nat.zero_le _) (v64_lt 0 r (by omega))
    have := Nat.mul_pos h1 (Nat.two_pow_pos (b - 1074))
    omega
  obtain ⟨E, K, d, M, T, e1, e2, e3, k1, k2, b1, b2⟩ := rg_parts m p h0 b hb hp
  obtain ⟨q1, q2⟩ := rg_K e3 k1 k2 b1 b2
  rw [e1]
  generalize m * 2 ^ (p + b).toNat = x at *
  have hT : 0 < 2 ^ T := Nat.two_pow_pos _
  apply Decidable.byContradiction
  intro hc
  by_cases hk : K + 1 ≤ 9007199254740992
  · have h1 : (K + 1) * 2 ^ E ≤ v64 r := by
      rw [← v64_of E (K + 1) (by omega) hk]
      exact v64_le (by omega)
    have h2 : (K + 1) * 2 ^ T ≤ x := by
      refine Nat.le_trans ?_ (Nat.le_trans (Nat.mul_le_mul_right _ h1) h)
      rw [e2, Nat.mul_assoc, ← Nat.pow_add]; exact Nat.le_refl _
    have h3 : (K + 1) * 2 ^ d * 2 ^ T ≤ M * 2 ^ T := by
      rw [e3, Nat.mul_assoc (K + 1), Nat.mul_comm (2 ^ d) (2 ^ T), ← Nat.mul_assoc]
      exact Nat.mul_le_mul_right _ h2
    have h4 := Nat.le_of_mul_le_mul_right h3 hT
    have hd : 0 < 2 ^ d := Nat.two_pow_pos _
    generalize 2 ^ d = G at *
    rw [Nat.add_mul] at h4
    have : 2 * K * G = K * G * 2 := by rw [Nat.mul_assoc, Nat.mul_comm]
    omega
  · have hK : K = 9007199254740992 := by omega
    subst hK
    have h1 : 9007199254740992 * 2 ^ E < v64 r := by
      rw [← v64_of E 9007199254740992 (.inr (by omega)) (by omega)]
      exact v64_lt _ _ (by omega)
    have h2 : 9007199254740992 * 2 ^ T < x := by
      refine Nat.lt_of_lt_of_le (Nat.lt_of_le_of_lt ?_ (Nat.mul_lt_mul_of_pos_right h1 (Nat.two_pow_pos (b - 1074)))) h
      rw [e2, Nat.mul_assoc, ← Nat.pow_add]; exact Nat.le_refl _
    rw [Nat.pow_add] at b1; omega

theorem word64_mod' (s : Bool) (r : Nat) (h : r < 9223372036854775808) : double.word s r % 9223372036854775808 = r ∧ (double.word s r / 9223372036854775808 % 2 == 1) = s := by
  have e5 : double.signWeight = 9223372036854775808 := rfl
  unfold Format.word
  rw [e5]
  cases s with
  | false =>
    rw [if_neg (by decide)]
    exact ⟨Nat.mod_eq_of_lt h, by rw [Nat.div_eq_of_lt h]; rfl⟩
  | true =>
    rw [if_pos rfl]
    have : (9223372036854775808 + r) / 9223372036854775808 = 1 := by omega
    exact ⟨by omega, by rw [this]; rfl⟩

theorem read_word (s : Bool) (r : Nat) (hr : r < 9218868437227405312) : ∃ (m : Nat) (p : Int), double.read (double.word s r) = .number s m p ∧ -1074 ≤ p ∧ p ≤ 971 ∧ m < 9007199254740992 ∧ m * 2 ^ (p + 1074).toNat = v64 r := by
  have e1 : double.leastPlace = -1074 := rfl
  have e2 : double.binade = 4503599627370496 := rfl
  have e3 : double.infRung = 9218868437227405312 := rfl
  have e5 : double.signWeight = 9223372036854775808 := rfl
  obtain ⟨w1, w2⟩ := word64_mod' s r (by omega)
  unfold Format.read v64
  simp only [e1, e2, e3, e5]
  rw [w1, w2]
  by_cases h : r < 4503599627370496
  · rw [if_pos h, if_pos h]
    exact ⟨r, -1074, rfl, by omega, by omega, by omega, by simp⟩
  · rw [if_neg h, if_neg h, if_pos hr]
    exact ⟨_, _, rfl, by omega, by omega, by omega, by congr 2; omega⟩

theorem mul_near (s t : Bool) (r q : Nat) (hr : r < 9218868437227405312) (hq : q < 9218868437227405312) : ∃ n, double.mul (double.word s r) (double.word t q) = some (double.word (s ^^ t) (min n 9218868437227405312)) ∧
    (∀ c, v64 r * v64 q ≤ v64 c * pw 1074 → n ≤ c) ∧ (∀ c, v64 c * pw 1074 ≤ v64 r * v64 q → c ≤ n) := by
  obtain ⟨m, p, e1, p1, p2, -, e2⟩ := read_word s r hr
  obtain ⟨m', p', e1', p1', p2', -, e2'⟩ := read_word t q hq
  have hx : m * m' * 2 ^ (p + p' + 2148).toNat = v64 r * v64 q := by
    rw [← e2, ← e2', show (p + p' + 2148).toNat = (p + 1074).toNat + (p' + 1074).toNat from by omega, Nat.pow_add]
    simp only [Nat.mul_assoc, Nat.mul_left_comm]
  refine ⟨rg (m * m') (p + p'), ?_, fun c hc => near_le _ _ c 2148 1074 rfl (by omega) (by omega) ?_, fun c hc => near_ge _ _ c 2148 1074 rfl (by omega) (by omega) ?_⟩
  · unfold Format.mul
    rw [e1, e1']
    show some (double.nearest _ _ _) = _
    rw [near_rg]
  · rw [show ((2148 : Nat) : Int) = 2148 from rfl, hx]; exact hc
  · rw [show ((2148 : Nat) : Int) = 2148 from rfl, hx]; exact hc

/-- A number's value with its sign, in units of 2^-1074. -/
def sv (s : Bool) (r : Nat) : Int := if s then -(v64 r : Int) else (v64 r : Int)

theorem signed_sv (s : Bool) (r m : Nat) (p base : Int) (hb : base ≤ p) (h0 : -1074 ≤ base) (e : m * 2 ^ (p + 1074).toNat = v64 r) : signed s m (p - base).toNat * ((2 ^ (base + 1074).toNat : Nat) : Int) = sv s r := by
  have hh : m <<< (p - base).toNat * 2 ^ (base + 1074).toNat = v64 r := by
    rw [Nat.shiftLeft_eq, Nat.mul_assoc, ← Nat.pow_add, ← e, show (p - base).toNat + (base + 1074).toNat = (p + 1074).toNat from by omega]
  unfold signed sv
  rw [← hh]
  cases s
  · simp
  · simp [Int.neg_mul]

theorem sum_near (s t : Bool) (r q m m' : Nat) (p p' : Int) (p1 : -1074 ≤ p) (p1' : -1074 ≤ p') (e2 : m * 2 ^ (p + 1074).toNat = v64 r) (e2' : m' * 2 ^ (p' + 1074).toNat = v64 q) : ∃ n, ((Datum.number s m p).sum (.number t m' p')).map double.write = some (double.word (if sv s r + sv t q = 0 then s && t else decide (sv s r + sv t q < 0)) (min n 9218868437227405312)) ∧
    (∀ c, (sv s r + sv t q).natAbs ≤ v64 c → n ≤ c) ∧ (∀ c, v64 c ≤ (sv s r + sv t q).natAbs → c ≤ n) := by
  have hb0 : -1074 ≤ min p p' := by omega
  have g1 := signed_sv s r m p (min p p') (by omega) hb0 e2
  have g2 := signed_sv t q m' p' (min p p') (by omega) hb0 e2'
  generalize hT : signed s m (p - min p p').toNat + signed t m' (p' - min p p').toNat = T
  have hS : T * ((2 ^ (min p p' + 1074).toNat : Nat) : Int) = sv s r + sv t q := by rw [← hT, Int.add_mul, g1, g2]
  have hpos : (0 : Int) < ((2 ^ (min p p' + 1074).toNat : Nat) : Int) := Int.ofNat_lt.2 (Nat.two_pow_pos _)
  have hab : T.natAbs * 2 ^ (min p p' + 1074).toNat = (sv s r + sv t q).natAbs := by rw [← hS, Int.natAbs_mul]; simp
  have hz : (T = 0) ↔ (sv s r + sv t q = 0) := by
    rw [← hS]
    constructor
    · intro h; rw [h]; simp
    · intro h; rcases Int.mul_eq_zero.1 h with h | h
      · exact h
      · omega
  have hn : (T < 0) ↔ (sv s r + sv t q < 0) := by
    rw [← hS]
    constructor
    · intro h; exact Int.mul_neg_of_neg_of_pos h hpos
    · intro h
      apply Decidable.byContradiction
      intro hc
      have := Int.mul_nonneg (show 0 ≤ T by omega) (Int.le_of_lt hpos)
      omega
  refine ⟨rg T.natAbs (min p p'), ?_, fun c hc => near_le _ _ c 1074 0 rfl (by omega) (by omega) ?_, fun c hc => near_ge _ _ c 1074 0 rfl (by omega) (by omega) ?_⟩
  · unfold Datum.sum
    simp only [hT, Option.map_some]
    show some (double.nearest _ _ _) = _
    rw [near_rg]
    simp only [hz, hn]
  · rw [show ((1074 : Nat) : Int) = 1074 from rfl, hab, pw_eq, Nat.pow_zero, Nat.mul_one]; exact hc
  · rw [show ((1074 : Nat) : Int) = 1074 from rfl, hab, pw_eq, Nat.pow_zero, Nat.mul_one]; exact hc

theorem add_near (s t : Bool) (r q : Nat) (hr : r < 9218868437227405312) (hq : q < 9218868437227405312) : ∃ n, double.add (double.word s r) (double.word t q) = some (double.word (if sv s r + sv t q = 0 then s && t else decide (sv s r + sv t q < 0)) (min n 9218868437227405312)) ∧
    (∀ c, (sv s r + sv t q).natAbs ≤ v64 c → n ≤ c) ∧ (∀ c, v64 c ≤ (sv s r + sv t q).natAbs → c ≤ n) := by
  obtain ⟨m, p, e1, p1, p2, -, e2⟩ := read_word s r hr
  obtain ⟨m', p', e1', p1', p2', -, e2'⟩ := read_word t q hq
  unfold Format.add
  rw [e1, e1']
  exact sum_near s t r q m m' p p' p1 p1' e2 e2'

theorem sub_near (s t : Bool) (r q : Nat) (hr : r < 9218868437227405312) (hq : q < 9218868437227405312) : ∃ n, double.sub (double.word s r) (double.word t q) = some (double.word (if sv s r + sv (!t) q = 0 then s && !t else decide (sv s r + sv (!t) q < 0)) (min n 9218868437227405312)) ∧
    (∀ c, (sv s r + sv (!t) q).natAbs ≤ v64 c → n ≤ c) ∧ (∀ c, v64 c ≤ (sv s r + sv (!t) q).natAbs → c ≤ n) := by
  obtain ⟨m, p, e1, p1, p2, -, e2⟩ := read_word s r hr
  obtain ⟨m', p', e1', p1', p2', -, e2'⟩ := read_word t q hq
  unfold Format.sub
  rw [e1, e1']
  exact sum_near s (!t) r q m m' p p' p1 p1' e2 e2'

/-- What is divided by a number that is not below 1 is not greater. -/
theorem div_near (s : Bool) (r q : Nat) (hr : r < 9218868437227405312) (hq : q < 9218868437227405312) (h1 : pw 1074 ≤ v64 q) : ∃ n, double.div (double.word s r) (double.word false q) = some (double.word s (min n 9218868437227405312)) ∧ n ≤ r := by
  obtain ⟨m, p, e1, p1, p2, hm, e2⟩ := read_word s r hr
  obtain ⟨n, j, e1', p1', p2', hn, e2'⟩ := read_word false q hq
  have hn0 : n ≠ 0 := by
    intro h; rw [h, Nat.zero_mul] at e2'; rw [← e2'] at h1
    have := pw_pos 1074; omega
  obtain ⟨l1, l2⟩ : 2 ^ n.log2 ≤ n ∧ n < 2 ^ (n.log2 + 1) := ⟨Nat.log2_self_le hn0, Nat.lt_log2_self⟩
  have hj : 0 ≤ j + n.log2 := by
    apply Decidable.byContradiction
    intro hc
    have h2 : n * 2 ^ (j + 1074).toNat < 2 ^ (n.log2 + 1) * 2 ^ (j + 1074).toNat := Nat.mul_lt_mul_of_pos_right l2 (Nat.two_pow_pos _)
    rw [← Nat.pow_add, e2'] at h2
    have h3 : 2 ^ (n.log2 + 1 + (j + 1074).toNat) ≤ pw 1074 := le_pw (by omega)
    omega
  have hml : m.log2 ≤ 52 := by
    by_cases h : m = 0
    · rw [h]; decide
    · have := (Nat.log2_lt h (k := 53)).2 (by simpa using hm); omega
  have hnl : n.log2 ≤ 52 := by have := (Nat.log2_lt hn0 (k := 53)).2 (by simpa using hn); omega
  generalize hmo : 54 + n.log2 - m.log2 = more
  obtain ⟨a, ha⟩ : ∃ a : Nat, (a : Int) = more + j := ⟨(more + j).toNat, by omega⟩
  have hJ : m <<< more ≤ n * (m * 2 ^ a) := by
    rw [Nat.shiftLeft_eq, Nat.mul_left_comm]
    refine Nat.mul_le_mul_left _ ?_
    refine Nat.le_trans ?_ (Nat.mul_le_mul_right _ l1)
    rw [← Nat.pow_add]
    exact Nat.pow_le_pow_right (by omega) (by omega)
  generalize hD : m <<< more = D at hJ
  have hM : 2 * (D / n) + (D % n != 0).toNat ≤ 2 * (m * 2 ^ a) := by
    have hdm := Nat.div_add_mod D n
    have hq1 : D / n ≤ m * 2 ^ a := by
      have := Nat.div_le_div_right (c := n) hJ
      rwa [Nat.mul_div_cancel_left _ (Nat.pos_of_ne_zero hn0)] at this
    by_cases h : D % n = 0
    · rw [h]; have e0 : ((0 : Nat) != 0).toNat = 0 := rfl
      omega
    · have : D / n ≠ m * 2 ^ a := by
        intro he
        rw [he] at hdm
        omega
      have h5 : (D % n != 0).toNat ≤ 1 := Bool.toNat_le _
      omega
  refine ⟨rg (2 * (D / n) + (D % n != 0).toNat) (p - j - more - 1), ?_, ?_⟩
  · unfold Format.div Datum.quotient
    rw [e1, e1']
    simp only
    rw [if_neg hn0]
    show some (double.nearest _ _ _) = _
    rw [near_rg]
    have e52 : double.fractionBits + 2 = 54 := rfl
    rw [e52, hmo, hD]
    simp
  · obtain ⟨b, hb⟩ : ∃ b : Nat, b = 4000 := ⟨_, rfl⟩
    refine near_le _ _ r b (b - 1074) rfl (by omega) (by omega) ?_
    refine Nat.le_trans (Nat.mul_le_mul_right _ hM) ?_
    rw [← e2, pw_eq, show (2 : Nat) * (m * 2 ^ a) = m * 2 ^ (a + 1) from by rw [Nat.pow_succ]; simp only [Nat.mul_left_comm, Nat.mul_comm], Nat.mul_assoc, Nat.mul_assoc, ← Nat.pow_add, ← Nat.pow_add]
    refine Nat.mul_le_mul_left _ (Nat.pow_le_pow_right (by omega) (by omega))

theorem v64_up (r : Nat) (h : 4503599627370496 ≤ r) : v64 (r + 4503599627370496) = 2 * v64 r := by
  unfold v64
  rw [if_neg (by omega), if_neg (by omega)]
  have e1 : (r + 4503599627370496) % 4503599627370496 = r % 4503599627370496 := by omega
  have e2 : (r + 4503599627370496) / 4503599627370496 - 1 = (r / 4503599627370496 - 1) + 1 := by omega
  rw [e1, e2, Nat.pow_succ]
  simp only [Nat.mul_left_comm, Nat.mul_comm]

theorem eq_rung {n c : Nat} (h1 : n ≤ c) (h2 : c ≤ n) : n = c := by omega

theorem mul_two (s : Bool) (r : Nat) (h : 4503599627370496 ≤ r) (hr : r + 4503599627370496 < 9218868437227405312) : double.mul (double.word s r) 4611686018427387904 = some (double.word s (r + 4503599627370496)) := by
  have h2 : v64 4611686018427387904 = 2 * pw 1074 := by decide +kernel
  obtain ⟨n, e, b1, b2⟩ := mul_near s false r 4611686018427387904 (by omega) (by decide)
  have hw : double.word false 4611686018427387904 = 4611686018427387904 := rfl
  have hx : v64 r * v64 4611686018427387904 = v64 (r + 4503599627370496) * pw 1074 := by rw [h2, v64_up r h]; simp only [Nat.mul_left_comm, Nat.mul_assoc]
  have hn := eq_rung (b1 _ (Nat.le_of_eq hx)) (b2 _ (Nat.le_of_eq hx.symm))
  rw [hw] at e
  rw [e, hn, Nat.min_eq_left (by omega)]
  simp

theorem div_two (s : Bool) (r : Nat) (h : 9007199254740992 ≤ r) (hr : r < 9218868437227405312) : double.div (double.word s r) 4611686018427387904 = some (double.word s (r - 4503599627370496)) := by
  obtain ⟨m, p, e1, p1, p2, hm, e2⟩ := read_word s r hr
  have hv : v64 r = 2 * v64 (r - 4503599627370496) := by
    have := v64_up (r - 4503599627370496) (by omega)
    rwa [Nat.sub_add_cancel (by omega)] at this
  have hml : m.log2 ≤ 52 := by
    by_cases h : m = 0
    · rw [h]; decide
    · have := (Nat.log2_lt h (k := 53)).2 (by simpa using hm); omega
  have e1' : double.read 4611686018427387904 = .number false 4503599627370496 (-51) := by decide +kernel
  have hl : Nat.log2 4503599627370496 = 52 := by decide +kernel
  have hD : m <<< (106 - m.log2) = 4503599627370496 * (m * 2 ^ (54 - m.log2)) := by
    rw [Nat.shiftLeft_eq, show (106 - m.log2) = 52 + (54 - m.log2) from by omega, Nat.pow_add]
    simp only [Nat.mul_left_comm]
  unfold Format.div Datum.quotient
  rw [e1, e1']
  simp only
  rw [if_neg (by decide)]
  show some (double.nearest _ _ _) = _
  rw [near_rg]
  have e52 : double.fractionBits + 2 = 54 := rfl
  rw [e52, hl, show 54 + 52 - m.log2 = 106 - m.log2 from by omega, hD, Nat.mul_div_cancel_left _ (by decide), Nat.mul_mod_right]
  simp only [bne_self_eq_false, Bool.toNat_false, Nat.add_zero, Bool.xor_false]
  obtain ⟨b, hb⟩ : ∃ b : Nat, b = 4000 := ⟨_, rfl⟩
  have hx : 2 * (m * 2 ^ (54 - m.log2)) * 2 ^ (p - -51 - ((106 - m.log2 : Nat) : Int) - 1 + b).toNat = v64 (r - 4503599627370496) * pw (b - 1074) := by
    have h3 : 2 * (2 * (m * 2 ^ (54 - m.log2)) * 2 ^ (p - -51 - ((106 - m.log2 : Nat) : Int) - 1 + b).toNat) = 2 * (v64 (r - 4503599627370496) * pw (b - 1074)) := by
      rw [← Nat.mul_assoc 2 (v64 _), ← hv, ← e2, pw_eq]
      rw [show 2 * (2 * (m * 2 ^ (54 - m.log2)) * 2 ^ (p - -51 - ((106 - m.log2 : Nat) : Int) - 1 + b).toNat) = m * (2 ^ 2 * 2 ^ (54 - m.log2) * 2 ^ (p - -51 - ((106 - m.log2 : Nat) : Int) - 1 + b).toNat) from by rw [show (2 : Nat) ^ 2 = 2 * 2 from rfl]; simp only [Nat.mul_assoc, Nat.mul_left_comm], ← Nat.pow_add, ← Nat.pow_add, Nat.mul_assoc, ← Nat.pow_add]
      rw [show 2 + (54 - m.log2) + (p - -51 - ((106 - m.log2 : Nat) : Int) - 1 + b).toNat = (p + 1074).toNat + (b - 1074) from by omega]
    omega
  have hn := eq_rung (near_le _ _ (r - 4503599627370496) b (b - 1074) rfl (by omega) (by omega) (Nat.le_of_eq hx)) (near_ge _ _ (r - 4503599627370496) b (b - 1074) rfl (by omega) (by omega) (Nat.le_of_eq hx.symm))
  rw [hn, Nat.min_eq_left (by omega)]

theorem le_of_v64 {r s : Nat} (h : v64 r ≤ v64 s) : r ≤ s := by
  apply Decidable.byContradiction
  intro hc
  have := v64_lt s r (by omega)
  omega

theorem rung_of (g a : Nat) (hg : g < 9007199254740992) : ∃ r, v64 r = g * pw a := by
  by_cases h0 : g = 0
  · exact ⟨0, by rw [h0, Nat.zero_mul]; rfl⟩
  obtain ⟨l1, l2⟩ : 2 ^ g.log2 ≤ g ∧ g < 2 ^ (g.log2 + 1) := ⟨Nat.log2_self_le h0, Nat.lt_log2_self⟩
  have hl : g.log2 ≤ 52 := by have := (Nat.log2_lt h0 (k := 53)).2 (by simpa using hg); omega
  rw [pw_eq]
  by_cases ha : a ≤ 52 - g.log2
  · refine ⟨0 * 4503599627370496 + g * 2 ^ a, ?_⟩
    rw [v64_of 0 (g * 2 ^ a) (.inl rfl) ?_]
    · simp
    · refine Nat.le_trans (Nat.mul_le_mul_right _ (Nat.le_of_lt l2)) ?_
      rw [← Nat.pow_add]
      exact Nat.pow_le_pow_right (by decide) (show g.log2 + 1 + a ≤ 53 by omega)
  · refine ⟨(a - (52 - g.log2)) * 4503599627370496 + g * 2 ^ (52 - g.log2), ?_⟩
    rw [v64_of _ _ (.inr ?_) ?_, Nat.mul_assoc, ← Nat.pow_add, show 52 - g.log2 + (a - (52 - g.log2)) = a from by omega]
    · refine Nat.le_trans ?_ (Nat.mul_le_mul_right _ l1)
      rw [← Nat.pow_add]
      rw [show g.log2 + (52 - g.log2) = 52 from by omega]
      decide
    · refine Nat.le_trans (Nat.mul_le_mul_right _ (Nat.le_of_lt l2)) ?_
      rw [← Nat.pow_add]
      exact Nat.pow_le_pow_right (by decide) (show g.log2 + 1 + (52 - g.log2) ≤ 53 by omega)

/-- A rounded number is near, and not too great. -/
theorem grid {X U n : Nat} (hU : 0 < U) (hb : ∀ c, X ≤ v64 c * U → n ≤ c) (ha : ∀ c, v64 c * U ≤ X → c ≤ n) (hX : X < 4503599627370496 * pw 1034 * U) : X ≤ (v64 n + pw 1034) * U ∧ v64 n * U ≤ X + pw 1034 * U ∧ n < 9218868437227405312 := by
  have he := pw_pos 1034
  have h1034 : v64 4661225614328463360 = 4503599627370496 * pw 1034 := by decide +kernel
  have hR : ∀ g, g < 9007199254740992 → ∃ r, v64 r = g * pw 1034 := fun g hg => rung_of g 1034 hg
  generalize pw 1034 = e at *
  have heU : 0 < e * U := Nat.mul_pos he hU
  have hdm := Nat.div_add_mod X (e * U)
  have hml := Nat.mod_lt X heU
  have hg : X / (e * U) < 4503599627370496 := by
    rw [Nat.div_lt_iff_lt_mul heU, ← Nat.mul_assoc]; exact hX
  generalize X / (e * U) = g at *
  generalize X % (e * U) = t at *
  obtain ⟨r1, h1⟩ := hR g (by omega)
  obtain ⟨r2, h2⟩ := hR (g + 1) (by omega)
  have eg : g * e * U = e * U * g := by rw [Nat.mul_assoc, Nat.mul_comm]
  have eg1 : (g + 1) * e * U = e * U * g + e * U := by rw [Nat.mul_assoc, Nat.add_mul, Nat.one_mul, Nat.mul_comm]
  have q1 := v64_le (ha r1 (by rw [h1, eg]; omega))
  have q2 := v64_le (hb r2 (by rw [h2, eg1]; omega))
  rw [h1] at q1
  rw [h2] at q2
  have q3 := Nat.mul_le_mul_right U q1
  have q4 := Nat.mul_le_mul_right U q2
  rw [eg] at q3
  rw [eg1] at q4
  refine ⟨by rw [Nat.add_mul]; omega, by omega, ?_⟩
  have q5 : n ≤ 4661225614328463360 := le_of_v64 (by
    rw [h1034]
    exact Nat.le_trans q2 (Nat.mul_le_mul_right _ (by omega)))
  omega

theorem cut_down (s : Bool) (n d : Nat) : (s = false → Toward.down.cut s n d * 2 ^ d ≤ n ∧ n < (Toward.down.cut s n d + 1) * 2 ^ d) ∧ (s = true → n ≤ Toward.down.cut s n d * 2 ^ d ∧ Toward.down.cut s n d * 2 ^ d < n + 2 ^ d) := by
  have hG : 0 < 2 ^ d := Nat.two_pow_pos d
  unfold Toward.cut
  simp only [Nat.one_shiftLeft]
  by_cases hd : d ≤ n.log2 + 2
  · rw [Nat.min_eq_left hd]
    generalize 2 ^ d = G at *
    have h1 := Nat.div_add_mod n G
    have h2 := Nat.mod_lt n hG
    generalize n / G = q at *
    generalize n % G = t at *
    have e0 : q * G = G * q := Nat.mul_comm _ _
    have e1 : (q + 1) * G = G * q + G := by rw [Nat.add_mul, Nat.one_mul, Nat.mul_comm]
    generalize G * q = A at *
    refine ⟨fun hs => ?_, fun hs => ?_⟩ <;> subst hs
    · simp only [Bool.false_and, Bool.toNat_false, Nat.add_zero]
      rw [e0, e1]; omega
    · by_cases ht : t = 0
      · subst ht
        have e5 : (true && ((0 : Nat) != 0)).toNat = 0 := rfl
        rw [e5, Nat.add_zero, e0]; omega
      · have e5 : (true && (t != 0)).toNat = 1 := by simp [ht]
        rw [e5, e1]; omega
  · rw [Nat.min_eq_right (by omega)]
    have hn : n < 2 ^ (n.log2 + 1) := Nat.lt_log2_self
    have hg : 2 ^ (n.log2 + 2) = 2 * 2 ^ (n.log2 + 1) := by rw [Nat.pow_succ 2 (n.log2 + 1)]; omega
    have hle : 2 ^ (n.log2 + 2) ≤ 2 ^ d := Nat.pow_le_pow_right (by omega) (by omega)
    have e1 : n / 2 ^ (n.log2 + 2) = 0 := Nat.div_eq_of_lt (by omega)
    have e2 : n % 2 ^ (n.log2 + 2) = n := Nat.mod_eq_of_lt (by omega)
    rw [e1, e2]
    refine ⟨fun hs => ?_, fun hs => ?_⟩ <;> subst hs
    · simp only [Bool.false_and, Bool.toNat_false, Nat.add_zero, Nat.zero_mul, Nat.zero_add, Nat.one_mul]; omega
    · by_cases ht : n = 0
      · subst ht
        have e5 : (true && ((0 : Nat) != 0)).toNat = 0 := rfl
        rw [e5]; omega
      · have e5 : (true && (n != 0)).toNat = 1 := by simp [ht]
        rw [e5]; omega

/-- The greatest whole number that is not above: as a number of units, and as a word. -/
theorem floor_near (s : Bool) (r : Nat) (hr : r < 9218868437227405312) (hv : v64 r < 4503599627370496 * pw 1074) : ∃ M rk : Nat, double.write ((double.read (double.word s r)).integral .down) = double.word s rk ∧ rk < 9218868437227405312 ∧ v64 rk = M * pw 1074 ∧ M ≤ 4503599627370496 ∧
    sv s rk ≤ sv s r ∧ sv s r < sv s rk + pw 1074 ∧ (double.read (double.word s r)).integral .down = .number s M 0 := by
  obtain ⟨m, p, e1, p1, p2, hm, e2⟩ := read_word s r hr
  have hpp := pw_pos 1074
  obtain ⟨M, hM⟩ : ∃ M, M = Toward.down.cut s (m <<< p.toNat) (-p).toNat := ⟨_, rfl⟩
  have key : (s = false → M * pw 1074 ≤ v64 r ∧ v64 r < (M + 1) * pw 1074) ∧ (s = true → v64 r ≤ M * pw 1074 ∧ M * pw 1074 < v64 r + pw 1074) := by
    obtain ⟨c1, c2⟩ := cut_down s (m <<< p.toNat) (-p).toNat
    rw [← hM, Nat.shiftLeft_eq] at c1 c2
    obtain ⟨c, hc⟩ : ∃ c : Nat, c = 1074 := ⟨_, rfl⟩
    have hx : m * 2 ^ p.toNat * 2 ^ (c - (-p).toNat) = v64 r := by rw [Nat.mul_assoc, ← Nat.pow_add, ← e2, show p.toNat + (c - (-p).toNat) = (p + 1074).toNat from by omega]
    have hw : 2 ^ (-p).toNat * 2 ^ (c - (-p).toNat) = pw c := by rw [← Nat.pow_add, pw_eq, show (-p).toNat + (c - (-p).toNat) = c from by omega]
    rw [← hc]
    have hq := Nat.two_pow_pos (c - (-p).toNat)
    rw [← hw, ← hx]
    generalize 2 ^ (c - (-p).toNat) = Q at *
    generalize 2 ^ (-p).toNat = G at *
    generalize m * 2 ^ p.toNat = n at *
    refine ⟨fun hs => ?_, fun hs => ?_⟩
    · obtain ⟨a1, a2⟩ := c1 hs
      rw [← Nat.mul_assoc, ← Nat.mul_assoc]
      exact ⟨Nat.mul_le_mul_right _ a1, Nat.mul_lt_mul_of_pos_right a2 hq⟩
    · obtain ⟨a1, a2⟩ := c2 hs
      rw [← Nat.mul_assoc, ← Nat.add_mul]
      exact ⟨Nat.mul_le_mul_right _ a1, Nat.mul_lt_mul_of_pos_right a2 hq⟩
  have hMle : M ≤ 4503599627370496 := by
    apply Decidable.byContradiction
    intro hc
    have h5 : (4503599627370496 + 1) * pw 1074 ≤ M * pw 1074 := Nat.mul_le_mul_right _ (by omega)
    rw [Nat.add_mul, Nat.one_mul] at h5
    cases s with
    | false => have := (key.1 rfl).1; omega
    | true => have := (key.2 rfl).2; omega
  obtain ⟨rk, hrk⟩ := rung_of M 1074 (by omega)
  have hint : (double.read (double.word s r)).integral .down = .number s M 0 := by rw [e1, hM]; rfl
  have hcc : v64 9218868437227405311 = 9007199254740991 * pw 2045 := by decide +kernel
  have hrk2 : rk ≤ 4841369599423283200 := le_of_v64 (by
    rw [hrk, show v64 4841369599423283200 = 4503599627370496 * pw 1074 from by decide +kernel]
    exact Nat.mul_le_mul_right _ hMle)
  have hn : rg M 0 = rk := by
    have hz : ((0 : Int) + ((2148 : Nat) : Int)).toNat = 2148 := rfl
    obtain ⟨c, hc⟩ : ∃ c : Nat, c = 1074 := ⟨_, rfl⟩
    have hb : ((0 : Int) + ((c + c : Nat) : Int)).toNat = c + c := by omega
    have hx : M * 2 ^ ((0 : Int) + ((c + c : Nat) : Int)).toNat = v64 rk * pw c := by rw [hb, hrk, ← hc, pw_eq, Nat.pow_add, Nat.mul_assoc]
    exact eq_rung (near_le M 0 rk (c + c) c (by omega) (by omega) (by omega) (Nat.le_of_eq hx)) (near_ge M 0 rk (c + c) c (by omega) (by omega) (by omega) (Nat.le_of_eq hx.symm))
  refine ⟨M, rk, ?_, by omega, hrk, hMle, ?_, ?_, hint⟩
  · rw [hint]
    show double.nearest s M 0 = _
    rw [near_rg, hn, Nat.min_eq_left (by omega)]
  · unfold sv
    rw [hrk]
    cases s with
    | false => have := (key.1 rfl).1; simp only [Bool.false_eq_true, if_false]; omega
    | true => have := (key.2 rfl).1; simp only [if_true]; omega
  · unfold sv
    rw [hrk]
    cases s with
    | false => have := (key.1 rfl).2; rw [Nat.add_mul, Nat.one_mul] at this; simp only [Bool.false_eq_true, if_false]; omega
    | true => have := (key.2 rfl).2; simp only [if_true]; omega

theorem min_inf {n : Nat} (h : n < 9218868437227405312) : min n 9218868437227405312 = n := Nat.min_eq_left (by omega)

theorem sv_abs (s : Bool) (r : Nat) : (sv s r).natAbs = v64 r := by unfold sv; cases s <;> simp

/-- What is rounded has the sign of what it was, and is near. -/
theorem near_sv {S : Int} {s : Bool} {n : Nat} (hs : s = if S = 0 then s else decide (S < 0)) (h1 : S.natAbs ≤ v64 n + pw 1034) (h2 : v64 n ≤ S.natAbs + pw 1034) : S - pw 1034 ≤ sv s n ∧ sv s n ≤ S + pw 1034 := by
  have he := pw_pos 1034
  generalize pw 1034 = e at *
  unfold sv
  by_cases h0 : S = 0
  · subst h0
    simp only [Int.natAbs_zero, Nat.zero_add] at h1 h2
    cases s
    · simp only [Bool.false_eq_true, if_false]; omega
    · simp only [if_true]; omega
  · rw [if_neg h0] at hs
    by_cases hn : S < 0
    · rw [hs]; simp only [hn, decide_true, if_true]; omega
    · rw [hs]; simp only [hn, decide_false, Bool.false_eq_true, if_false]; omega

theorem pw74 : pw 1074 = 1099511627776 * pw 1034 := by decide +kernel

set_option maxHeartbeats 1000000 in
/-- How great what is left can be. -/
theorem reduced {Y Z1 Z2 A KL e : Int} (h1 : 4503599627370496 * Z1 - 6497320848556798 * Y ≤ 4503599627370496 * e) (h2 : 6497320848556798 * Y - 4503599627370496 * Z1 ≤ 4503599627370496 * e)
    (h3 : Z2 - (Z1 + 549755813888 * e) ≤ e) (h4 : Z1 + 549755813888 * e - Z2 ≤ e) (h5 : A ≤ Z2) (h6 : Z2 < A + 1099511627776 * e)
    (h7 : 9007199254740992 * KL - 6243314768165359 * A ≤ 9007199254740992 * e) (h8 : 6243314768165359 * A - 9007199254740992 * KL ≤ 9007199254740992 * e) (h9 : Y ≤ 115448720916480 * e) (h10 : -(115448720916480 * e) ≤ Y) :
    Y - KL ≤ 412316860416 * e ∧ KL - Y ≤ 412316860416 * e := by
  constructor <;> omega

theorem sv_not (s : Bool) (r : Nat) : sv (!s) r = -sv s r := by unfold sv; cases s <;> simp

theorem near_same {s : Bool} {x n c d : Nat} {e : Int} (h1 : (c : Int) * x ≤ d * (v64 n + e)) (h2 : (d : Int) * v64 n ≤ c * x + d * e) {Y : Int} (hY : Y = if s then -(x : Int) else x) : (d : Int) * sv s n - c * Y ≤ d * e ∧ (c : Int) * Y - d * sv s n ≤ d * e := by
  rw [Int.mul_add] at h1
  unfold sv
  subst hY
  cases s
  · simp only [Bool.false_eq_true, if_false]; omega
  · simp only [if_true, Int.mul_neg]; omega

set_option maxHeartbeats 1000000 in
/-- Exp's first steps: what is left is small, and nothing is too great. -/
theorem exp_core (sy : Bool) (ry : Nat) (hry : ry < 9218868437227405312) (hy : v64 ry ≤ 105 * pw 1074) :
    ∃ z1 z2 r2 : Nat, ∃ s2 : Bool, double.mul (double.word sy ry) 4609176140021203710 = some z1 ∧ double.add z1 4602678819172646912 = some z2 ∧ z2 = double.word s2 r2 ∧ r2 < 9218868437227405312 ∧
    ∃ M rk kl r : Nat, double.write ((double.read z2).integral .down) = double.word s2 rk ∧ (double.read z2).integral .down = .number s2 M 0 ∧ M ≤ 160 ∧ (v64 ry ≤ 32 * pw 1074 → M ≤ 60) ∧ rk < 9218868437227405312 ∧ v64 rk = M * pw 1074 ∧
    double.mul (double.word s2 rk) 4604418534313441775 = some kl ∧ double.sub (double.word sy ry) kl = some r ∧ ∃ (sr : Bool) (rr : Nat), r = double.word sr rr ∧ rr ≤ 4600427019358961664 := by
  have he := pw_pos 1034
  have hU := pw74
  have hUp := pw_pos 1074
  have hC : v64 4609176140021203710 = 6497320848556798 * pw 1022 := by decide +kernel
  have hC2 : pw 1074 = 4503599627370496 * pw 1022 := by decide +kernel
  have hC4 : pw 1034 = 4096 * pw 1022 := by decide +kernel
  have hCp := pw_pos 1022
  have hL : v64 4604418534313441775 = 6243314768165359 * pw 1021 := by decide +kernel
  have hL2 : pw 1074 = 9007199254740992 * pw 1021 := by decide +kernel
  have hLp := pw_pos 1021
  have hH : v64 4602678819172646912 = 549755813888 * pw 1034 := by decide +kernel
  have hR : v64 4600427019358961664 = 412316860416 * pw 1034 := by decide +kernel
  obtain ⟨n1, m1, b1, a1⟩ := mul_near sy false ry 4609176140021203710 hry (by decide)
  rw [show double.word false 4609176140021203710 = 4609176140021203710 from rfl, Bool.xor_false] at m1
  have hX1 : v64 ry * v64 4609176140021203710 < 4503599627370496 * pw 1034 * pw 1074 := by
    rw [hC]
    refine Nat.lt_of_le_of_lt (Nat.mul_le_mul_right _ hy) ?_
    rw [Nat.mul_assoc, Nat.mul_comm (pw 1074), ← Nat.mul_assoc]
    refine Nat.mul_lt_mul_of_pos_right ?_ hUp
    omega
  obtain ⟨g1, g2, g3⟩ := grid hUp b1 a1 hX1
  rw [min_inf g3] at m1
  have k1 : v64 ry * 6497320848556798 ≤ (v64 n1 + pw 1034) * 4503599627370496 := by
    rw [hC, hC2, ← Nat.mul_assoc, ← Nat.mul_assoc] at g1
    exact Nat.le_of_mul_le_mul_right g1 hCp
  have k2 : v64 n1 * 4503599627370496 ≤ v64 ry * 6497320848556798 + pw 1034 * 4503599627370496 := by
    rw [hC, hC2, ← Nat.mul_assoc, ← Nat.mul_assoc, ← Nat.mul_assoc, ← Nat.add_mul] at g2
    exact Nat.le_of_mul_le_mul_right g2 hCp
  have q1 := near_same (s := sy) (x := v64 ry) (n := n1) (c := 6497320848556798) (d := 4503599627370496) (e := (pw 1034 : Nat)) (by omega) (by omega) (Y := sv sy ry) rfl
  have hY1 : sv sy ry ≤ 115448720916480 * (pw 1034 : Nat) := by unfold sv; split <;> omega
  have hY2 : -(115448720916480 * ((pw 1034 : Nat) : Int)) ≤ sv sy ry := by unfold sv; split <;> omega
  obtain ⟨n2, m2, b2, a2⟩ := add_near sy false n1 4602678819172646912 g3 (by decide)
  rw [show double.word false 4602678819172646912 = 4602678819172646912 from rfl] at m2
  have hS : sv false 4602678819172646912 = 549755813888 * (pw 1034 : Nat) := by unfold sv; rw [hH]; simp
  rw [hS] at m2 b2 a2
  obtain ⟨S2, hS2⟩ : ∃ S, S = sv sy n1 + 549755813888 * ((pw 1034 : Nat) : Int) := ⟨_, rfl⟩
  rw [← hS2] at m2 b2 a2
  have q1a := q1.1
  have q1b := q1.2
  have hS2b : S2.natAbs < 4503599627370496 * pw 1034 * 1 := by omega
  obtain ⟨g4, g5, g6⟩ := grid (U := 1) (by omega) (fun c hc => b2 c (by omega)) (fun c hc => a2 c (by omega)) hS2b
  rw [min_inf g6] at m2
  obtain ⟨s2, hs2⟩ : ∃ s2 : Bool, s2 = if S2 = 0 then (sy && false) else decide (S2 < 0) := ⟨_, rfl⟩
  rw [← hs2] at m2
  have q2 := near_sv (S := S2) (s := s2) (n := n2) (by by_cases h : S2 = 0; rw [if_pos h]; rw [if_neg h]; rw [hs2, if_neg h]) (by omega) (by omega)
  have hn2 : v64 n2 < 4503599627370496 * pw 1074 := by omega
  obtain ⟨M, rk, f1, f2, f3, f4, f5, f6, f7⟩ := floor_near s2 n2 g6 hn2
  have hMs : v64 rk ≤ 160 * pw 1074 := by
    have := sv_abs s2 rk
    omega
  have hM : M ≤ 160 := by
    apply Decidable.byContradiction
    intro hc
    have h5 : 161 * pw 1074 ≤ M * pw 1074 := Nat.mul_le_mul_right _ (by omega)
    omega
  have hM2 : v64 ry ≤ 32 * pw 1074 → M ≤ 60 := fun h20 => by
    have hMt : v64 rk ≤ 60 * pw 1074 := by
      have := sv_abs s2 rk
      have y1 : sv sy ry ≤ 35184372088832 * (pw 1034 : Nat) := by unfold sv; split <;> omega
      have y2 : -(35184372088832 * ((pw 1034 : Nat) : Int)) ≤ sv sy ry := by unfold sv; split <;> omega
      omega
    apply Decidable.byContradiction
    intro hc
    have h5 : 61 * pw 1074 ≤ M * pw 1074 := Nat.mul_le_mul_right _ (by omega)
    omega
  obtain ⟨n3, m3, b3, a3⟩ := mul_near s2 false rk 4604418534313441775 f2 (by decide)
  rw [show double.word false 4604418534313441775 = 4604418534313441775 from rfl, Bool.xor_false] at m3
  have hX3 : v64 rk * v64 4604418534313441775 < 4503599627370496 * pw 1034 * pw 1074 := by
    rw [hL]
    refine Nat.lt_of_le_of_lt (Nat.mul_le_mul_right _ hMs) ?_
    rw [Nat.mul_assoc, Nat.mul_comm (pw 1074), ← Nat.mul_assoc]
    refine Nat.mul_lt_mul_of_pos_right ?_ hUp
    omega
  obtain ⟨g7, g8, g9⟩ := grid hUp b3 a3 hX3
  rw [min_inf g9] at m3
  have k3 : v64 rk * 6243314768165359 ≤ (v64 n3 + pw 1034) * 9007199254740992 := by
    rw [hL, hL2, ← Nat.mul_assoc, ← Nat.mul_assoc] at g7
    exact Nat.le_of_mul_le_mul_right g7 hLp
  have k4 : v64 n3 * 9007199254740992 ≤ v64 rk * 6243314768165359 + pw 1034 * 9007199254740992 := by
    rw [hL, hL2, ← Nat.mul_assoc, ← Nat.mul_assoc, ← Nat.mul_assoc, ← Nat.add_mul] at g8
    exact Nat.le_of_mul_le_mul_right g8 hLp
  have q3 := near_same (s := s2) (x := v64 rk) (n := n3) (c := 6243314768165359) (d := 9007199254740992) (e := (pw 1034 : Nat)) (by omega) (by omega) (Y := sv s2 rk) rfl
  have q3a := q3.1
  have q3b := q3.2
  have q2a := q2.1
  have q2b := q2.2
  have hUi : ((pw 1074 : Nat) : Int) = 1099511627776 * ((pw 1034 : Nat) : Int) := by omega
  rw [hUi] at f6
  have red := reduced (Y := sv sy ry) (Z1 := sv sy n1) (Z2 := sv s2 n2) (A := sv s2 rk) (KL := sv s2 n3) (e := (pw 1034 : Nat)) (by omega) (by omega) (by omega) (by omega) f5 f6 (by omega) (by omega) hY1 hY2
  obtain ⟨n4, m4, b4, -⟩ := sub_near sy s2 ry n3 hry g9
  have hn4 : n4 ≤ 4600427019358961664 := b4 _ (by rw [hR, sv_not]; have := red.1; have := red.2; omega)
  rw [min_inf (by omega)] at m4
  exact ⟨_, _, n2, s2, m1, m2, rfl, g6, M, rk, _, _, f1, f7, hM, hM2, f2, f3, m3, m4, _, n4, rfl, hn4⟩

/-- One step of the sum that Exp makes. -/
theorem horner (rp : Nat) (h1 : 4600427019358961664 ≤ rp) (h2 : rp ≤ 4609997168567123968) (sr : Bool) (rr : Nat) (h3 : rr ≤ 4600427019358961664) (q : Nat) (hq : q < 9218868437227405312) (hq1 : pw 1074 ≤ v64 q) :
    ∃ a b c : Nat, double.mul (double.word false rp) (double.word sr rr) = some a ∧ double.div a (double.word false q) = some b ∧ double.add 4607182418800017408 b = some (double.word false c) ∧ 4600427019358961664 ≤ c ∧ c ≤ 4609997168567123968 := by
  have v1 : v64 4600427019358961664 = 3 * pw 1071 := by decide +kernel
  have v2 : v64 4603804719079489536 = 5 * pw 1071 := by decide +kernel
  have v3 : v64 4609997168567123968 = 13 * pw 1071 := by decide +kernel
  have v4 : v64 4607182418800017408 = 8 * pw 1071 := by decide +kernel
  have v5 : pw 1074 = 8 * pw 1071 := by decide +kernel
  have hp := pw_pos 1071
  obtain ⟨n, m1, b1, -⟩ := mul_near false sr rp rr (by omega) (by omega)
  have hn : n ≤ 4603804719079489536 := b1 _ (by
    refine Nat.le_trans (Nat.mul_le_mul (v64_le h2) (v64_le h3)) ?_
    rw [v1, v2, v3, v5]
    generalize pw 1071 = e at *
    rw [show 13 * e * (3 * e) = 39 * (e * e) from by simp only [Nat.mul_left_comm, Nat.mul_comm, ← Nat.mul_assoc]; omega, show 5 * e * (8 * e) = 40 * (e * e) from by simp only [Nat.mul_left_comm, Nat.mul_comm, ← Nat.mul_assoc]; omega]
    omega)
  rw [min_inf (by omega), Bool.false_xor] at m1
  obtain ⟨nb, m2, b2⟩ := div_near sr n q (by omega) hq hq1
  rw [min_inf (by omega)] at m2
  obtain ⟨c, m3, b3, a3⟩ := add_near false sr 4607182418800017408 nb (by decide) (by omega)
  rw [show double.word false 4607182418800017408 = 4607182418800017408 from rfl] at m3
  have hb : v64 nb ≤ 5 * pw 1071 := by rw [← v2]; exact v64_le (by omega)
  have hS : sv false 4607182418800017408 = 8 * ((pw 1071 : Nat) : Int) := by unfold sv; rw [v4]; simp
  have hs1 : -(5 * ((pw 1071 : Nat) : Int)) ≤ sv sr nb := by unfold sv; split <;> omega
  have hs2 : sv sr nb ≤ 5 * ((pw 1071 : Nat) : Int) := by unfold sv; split <;> omega
  rw [hS] at m3 b3 a3
  have c1 : c ≤ 4609997168567123968 := b3 _ (by rw [v3]; omega)
  have c2 : 4600427019358961664 ≤ c := a3 _ (by rw [v1]; omega)
  rw [min_inf (by omega), if_neg (by omega), decide_eq_false (by omega)] at m3
  exact ⟨_, _, c, m1, m2, m3, c2, c1⟩
end Go.Proofs.YteigfipgmghgmaaGreatDoor.Nu.Mo
