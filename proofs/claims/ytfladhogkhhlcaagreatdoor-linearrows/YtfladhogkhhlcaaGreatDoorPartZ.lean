/- Joined texts: LnFloat, LnPure. -/
import Derived.Test.YtfladhogkhhlcaaGreatDoorPartA
import Derived.Laws.FloatArith
/- Floats: products with 1 and with 0, sums with 0. No program stands here. -/
namespace Go.Proofs.YtfladhogkhhlcaaGreatDoor
open Go.RowKit

theorem log2_scaled (m j : Nat) (h : m ≠ 0) : (m * 2 ^ j).log2 = m.log2 + j := by
  have h1 := Nat.log2_self_le h
  have h2 : m < 2 ^ (m.log2 + 1) := Nat.lt_log2_self
  have p := Nat.two_pow_pos j
  have h0 : m * 2 ^ j ≠ 0 := Nat.mul_ne_zero h (by omega)
  rw [Nat.log2_eq_iff h0]
  constructor
  · rw [Nat.pow_add]; exact Nat.mul_le_mul_right _ h1
  · have := Nat.mul_lt_mul_of_pos_right h2 p
    rw [show m.log2 + j + 1 = m.log2 + 1 + j from by omega, Nat.pow_add]
    exact this

theorem cut_nil (way : Ieee.Toward) (s : Bool) (n : Nat) : way.cut s n 0 = n := by
  unfold Ieee.Toward.cut
  have e : min 0 (n.log2 + 2) = 0 := by omega
  rw [e]
  have e2 : (1 : Nat) <<< 0 = 1 := rfl
  rw [e2]
  simp only [Nat.mod_one, Nat.div_one]
  cases way <;> simp

/-- A cut hangs on the value alone. -/
theorem cut_scaled (way : Ieee.Toward) (s : Bool) (n j d : Nat) (hn : n ≠ 0) : way.cut s (n * 2 ^ j) (d + j) = way.cut s n d := by
  unfold Ieee.Toward.cut
  rw [log2_scaled n j hn]
  have p := Nat.two_pow_pos j
  have eg : (1 : Nat) <<< min (d + j) (n.log2 + j + 2) = (1 <<< min d (n.log2 + 2)) * 2 ^ j := by
    rw [Nat.shiftLeft_eq, Nat.shiftLeft_eq, Nat.one_mul, Nat.one_mul, ← Nat.pow_add]
    congr 1
    omega
  rw [eg]
  generalize (1 : Nat) <<< min d (n.log2 + 2) = g
  have e1 : n * 2 ^ j / (g * 2 ^ j) = n / g := Nat.mul_div_mul_right _ _ p
  have e2 : n * 2 ^ j % (g * 2 ^ j) = n % g * 2 ^ j := Nat.mul_mod_mul_right _ _ _
  simp only [e1, e2]
  generalize n % g = r
  generalize n / g = l
  generalize 2 ^ j = q at p
  have c1 : (g * q < 2 * (r * q)) ↔ (g < 2 * r) := by
    rw [← Nat.mul_assoc]; exact Nat.mul_lt_mul_right p
  have c2 : (g * q == 2 * (r * q)) = (g == 2 * r) := by
    rw [← Nat.mul_assoc, Bool.eq_iff_iff, beq_iff_eq, beq_iff_eq]
    exact ⟨fun e => Nat.eq_of_mul_eq_mul_right p e, fun e => by rw [e]⟩
  have c3 : (r * q != 0) = (r != 0) := by
    rw [Bool.eq_iff_iff, bne_iff_ne, bne_iff_ne]
    exact ⟨fun e h => e (by rw [h, Nat.zero_mul]), fun e => Nat.mul_ne_zero e (by omega)⟩
  cases way <;> simp [c1, c2, c3]

theorem cut_exact (way : Ieee.Toward) (s : Bool) (n j d : Nat) (hn : n ≠ 0) (h : d ≤ j) : way.cut s (n * 2 ^ j) d = n * 2 ^ (j - d) := by
  have e : n * 2 ^ j = n * 2 ^ (j - d) * 2 ^ d := by
    rw [Nat.mul_assoc, ← Nat.pow_add]; congr 2; omega
  rw [e]
  have h0 : n * 2 ^ (j - d) ≠ 0 := Nat.mul_ne_zero hn (by have := Nat.two_pow_pos (j - d); omega)
  have := cut_scaled way s (n * 2 ^ (j - d)) d 0 h0
  rw [Nat.zero_add] at this
  rw [this, cut_nil]

/-- A number shifted and cut: by its value alone. -/
theorem cut_place (way : Ieee.Toward) (s : Bool) (m j : Nat) (p : Int) (hm : m ≠ 0) : way.cut s ((m * 2 ^ j) <<< p.toNat) (-p).toNat = way.cut s (m <<< (p + j).toNat) (-(p + j)).toNat := by
  rw [Nat.shiftLeft_eq, Nat.shiftLeft_eq]
  by_cases h1 : 0 ≤ p
  · have a1 : (-p).toNat = 0 := by omega
    have a2 : (-(p + (j : Int))).toNat = 0 := by omega
    have a3 : (p + (j : Int)).toNat = j + p.toNat := by omega
    rw [a1, a2, a3, cut_nil, cut_nil, Nat.mul_assoc, ← Nat.pow_add]
  · have a1 : p.toNat = 0 := by omega
    rw [a1, Nat.pow_zero, Nat.mul_one]
    by_cases h2 : 0 ≤ p + (j : Int)
    · have a2 : (-(p + (j : Int))).toNat = 0 := by omega
      rw [a2, cut_nil, cut_exact way s m j (-p).toNat hm (by omega)]
      congr 2
      omega
    · have a2 : (p + (j : Int)).toNat = 0 := by omega
      have a3 : (-p).toNat = (-(p + (j : Int))).toNat + j := by omega
      rw [a2, Nat.pow_zero, Nat.mul_one, a3, cut_scaled way s m j _ hm]

/-- The nearest word hangs on the value alone. -/
theorem nearest_scaled (f : Ieee.Format) (s : Bool) (m j : Nat) (p : Int) (hm : m ≠ 0) : f.nearest s (m * 2 ^ j) p = f.nearest s m (p + j) := by
  have h0 : m * 2 ^ j ≠ 0 := Nat.mul_ne_zero hm (by have := Nat.two_pow_pos j; omega)
  unfold Ieee.Format.nearest
  rw [if_neg h0, if_neg hm, log2_scaled m j hm]
  have e1 : p + ((m.log2 + j : Nat) : Int) - (f.fractionBits : Int) = p + (j : Int) + (m.log2 : Int) - (f.fractionBits : Int) := by omega
  simp only [e1]
  generalize max (p + (j : Int) + (m.log2 : Int) - (f.fractionBits : Int)) f.leastPlace = last
  have e2 := cut_place .even s m j (p - last) hm
  rw [show -(p - last) = last - p from by omega, show p - last + (j : Int) = p + j - last from by omega, show -(p + (j : Int) - last) = last - (p + j) from by omega] at e2
  rw [e2]

theorem near_nilD (f : Ieee.Format) (s : Bool) (p : Int) : f.nearest s 0 p = f.word s 0 := by unfold Ieee.Format.nearest; rw [if_pos rfl]

theorem tob_rng (o : Option Nat) (h : ∀ r, o = some r → r < 4294967296) : -9223372036854775808 ≤ Nu.tobO o ∧ Nu.tobO o ≤ 9223372036854775807 := by
  cases o with
  | none => simp [Nu.tobO]
  | some r =>
    have := h r rfl
    simp only [Nu.tobO, Nu.tob]
    split
    · omega
    · omega

theorem bits_lt {op : BinOp} {x y r : Nat} (h : floatBits op .f32 x y = some r) : r < 4294967296 := by
  have := floatBits_wf h
  simpa [Lit.wf] using this

theorem add1_rng (a b : Int) : -9223372036854775808 ≤ (Nu.bin 0 1 a b).1 ∧ (Nu.bin 0 1 a b).1 ≤ 9223372036854775807 := by
  unfold Nu.bin
  split
  · exact tob_rng _ fun r h => bits_lt h
  · simp

theorem mul1_rng (a b : Int) : -9223372036854775808 ≤ (Nu.bin 2 1 a b).1 ∧ (Nu.bin 2 1 a b).1 ≤ 9223372036854775807 := by
  unfold Nu.bin
  split
  · exact tob_rng _ fun r h => bits_lt h
  · simp

theorem word_sign (s : Bool) (r : Nat) : Ieee.single.word s r = if s = true then 2147483648 + r else r := rfl

/-- What was read, written, is as it was. -/
theorem write_read (b : Nat) (hb : b < 4294967296) (h : b % 2147483648 ≤ 2139095040) : Ieee.single.write (Ieee.single.read b) = b := by
  have e0 : Ieee.single.signWeight = 2147483648 := rfl
  have e1 : Ieee.single.leastPlace = -149 := rfl
  have e2 : Ieee.single.binade = 8388608 := rfl
  have e3 : Ieee.single.infRung = 2139095040 := rfl
  have e4 : Ieee.single.fractionBits = 23 := rfl
  have hs : ∀ r, b % 2147483648 = r → Ieee.single.word (b / 2147483648 % 2 == 1) r = b := by
    intro r hr
    rw [word_sign]
    by_cases h2 : 2147483648 ≤ b
    · have : b / 2147483648 % 2 = 1 := by omega
      rw [if_pos (by simp [this])]
      omega
    · have : b / 2147483648 % 2 = 0 := by omega
      rw [if_neg (by simp [this])]
      omega
  unfold Ieee.Format.read
  simp only [e0, e1, e2, e3]
  obtain ⟨r, hr⟩ : ∃ r, b % 2147483648 = r := ⟨_, rfl⟩
  have hw := hs r hr
  rw [hr] at h ⊢
  generalize (b / 2147483648 % 2 == 1) = s at *
  by_cases c1 : r < 8388608
  · rw [if_pos c1]
    simp only [Ieee.Format.write, Ieee.Format.nearest, e1, e2, e3, e4]
    by_cases c0 : r = 0
    · rw [if_pos c0]
      rw [c0] at hw
      exact hw
    · rw [if_neg c0]
      have hl : r.log2 < 23 := (Nat.log2_lt c0).2 (by omega)
      have em : max (-149 + (r.log2 : Int) - ((23 : Nat) : Int)) (-149) = -149 := by omega
      rw [em]
      simp only [Int.sub_self, Int.toNat_zero, Nat.shiftLeft_zero, cut_nil, Nat.zero_mul, Nat.zero_add]
      rw [Nat.min_eq_left (by omega)]
      exact hw
  · rw [if_neg c1]
    by_cases c2 : r < 2139095040
    · rw [if_pos c2]
      simp only [Ieee.Format.write, Ieee.Format.nearest, e1, e2, e3, e4]
      have n0 : 8388608 + r % 8388608 ≠ 0 := by omega
      rw [if_neg n0]
      have hl : (8388608 + r % 8388608).log2 = 23 := by
        have a := (Nat.log2_lt n0 (k := 24)).2 (by omega)
        have b := (Nat.le_log2 n0 (k := 23)).2 (by omega)
        omega
      rw [hl]
      have em : max (-149 + ((r / 8388608 - 1 : Nat) : Int) + ((23 : Nat) : Int) - ((23 : Nat) : Int)) (-149) = -149 + ((r / 8388608 - 1 : Nat) : Int) := by omega
      rw [em]
      simp only [Int.sub_self, Int.toNat_zero, Nat.shiftLeft_zero, cut_nil]
      have ek : (-149 + ((r / 8388608 - 1 : Nat) : Int) - -149).toNat = r / 8388608 - 1 := by omega
      rw [ek]
      have er : (r / 8388608 - 1) * 8388608 + (8388608 + r % 8388608) = r := by omega
      rw [er, Nat.min_eq_left (by omega)]
      exact hw
    · rw [if_neg c2, if_pos (by omega)]
      simp only [Ieee.Format.write, e3]
      have : r = 2139095040 := by omega
      rw [this] at hw
      exact hw

theorem read_kind (b : Nat) (h : b % 2147483648 ≤ 2139095040) : (∃ s m i, Ieee.single.read b = .number s m i ∧ -149 ≤ i ∧ b % 2147483648 < 2139095040) ∨ (∃ s, Ieee.single.read b = .infinity s ∧ b % 2147483648 = 2139095040) := by
  have e0 : Ieee.single.signWeight = 2147483648 := rfl
  have e1 : Ieee.single.leastPlace = -149 := rfl
  have e2 : Ieee.single.binade = 8388608 := rfl
  have e3 : Ieee.single.infRung = 2139095040 := rfl
  unfold Ieee.Format.read
  simp only [e0, e1, e2, e3]
  by_cases c1 : b % 2147483648 < 8388608
  · exact .inl ⟨_, _, _, if_pos c1, by omega, by omega⟩
  · rw [if_neg c1]
    by_cases c2 : b % 2147483648 < 2139095040
    · exact .inl ⟨_, _, _, if_pos c2, by omega, c2⟩
    · rw [if_neg c2, if_pos (by omega)]
      exact .inr ⟨_, rfl, by omega⟩

theorem one_read : Ieee.single.read 1065353216 = .number false 8388608 (-23) := by decide +kernel
theorem zero_read (t : Bool) : Ieee.single.read (if t = true then 2147483648 else 0) = .number t 0 (-149) := by cases t <;> decide +kernel

theorem near_one (s : Bool) (m : Nat) (i : Int) : Ieee.single.nearest s (m * 8388608) (i + -23) = Ieee.single.nearest s m i := by
  by_cases hm : m = 0
  · subst hm
    rw [Nat.zero_mul, near_nilD, near_nilD]
  · rw [show m * 8388608 = m * 2 ^ 23 from rfl, nearest_scaled _ _ _ _ _ hm]
    congr 1
    omega

theorem mul_one_bits (b : Nat) (hb : b < 4294967296) (h : b % 2147483648 ≤ 2139095040) : floatBits .mul .f32 b 1065353216 = some b ∧ floatBits .mul .f32 1065353216 b = some b := by
  have hw := write_read b hb h
  have key : ((Ieee.single.read b).product (Ieee.single.read 1065353216)).map Ieee.single.write = some b ∧ ((Ieee.single.read 1065353216).product (Ieee.single.read b)).map Ieee.single.write = some b := by
    rw [one_read]
    rcases read_kind b h with ⟨s, m, i, e, -, -⟩ | ⟨s, e, -⟩
    · rw [e] at hw ⊢
      simp only [Ieee.Format.write] at hw
      refine ⟨?_, ?_⟩
      · simp only [Ieee.Datum.product, Option.map_some, Ieee.Format.write, Bool.xor_false]
        rw [near_one, hw]
      · simp only [Ieee.Datum.product, Option.map_some, Ieee.Format.write, Bool.false_xor]
        rw [Nat.mul_comm, Int.add_comm, near_one, hw]
    · rw [e] at hw ⊢
      simp only [Ieee.Datum.product, Bool.xor_false]
      rw [if_neg (by decide)]
      simp only [Option.map_some, hw, and_self]
  exact key

theorem mul_zero_bits (b : Nat) (h : b % 2147483648 < 2139095040) : ∃ t : Bool, floatBits .mul .f32 b 0 = some (if t = true then 2147483648 else 0) := by
  have key : ∃ t : Bool, ((Ieee.single.read b).product (Ieee.single.read 0)).map Ieee.single.write = some (if t = true then 2147483648 else 0) := by
    rw [show Ieee.single.read 0 = .number false 0 (-149) from zero_read false]
    rcases read_kind b (by omega) with ⟨s, m, i, e, -, -⟩ | ⟨s, -, e⟩
    · rw [e]
      refine ⟨s, ?_⟩
      simp only [Ieee.Datum.product, Option.map_some, Ieee.Format.write, Bool.xor_false, Nat.mul_zero, near_nilD]
      rw [word_sign]
    · omega
  exact key

theorem signed_abs (s : Bool) (m k : Nat) : (Ieee.signed s m k).natAbs = m * 2 ^ k := by
  rw [← Nat.shiftLeft_eq]
  cases s
  · show ((m <<< k : Nat) : Int).natAbs = _
    rw [Int.natAbs_natCast]
  · show (-((m <<< k : Nat) : Int)).natAbs = _
    rw [Int.natAbs_neg, Int.natAbs_natCast]

theorem signed_zero (s : Bool) (m k : Nat) : Ieee.signed s m k = 0 ↔ m = 0 := by
  rw [← Int.natAbs_eq_zero, signed_abs]
  have := Nat.two_pow_pos k
  constructor
  · intro h
    rcases Nat.mul_eq_zero.1 h with h | h
    · exact h
    · omega
  · rintro rfl
    simp

theorem signed_neg (s : Bool) (m k : Nat) (hm : m ≠ 0) : decide (Ieee.signed s m k < 0) = s := by
  have h0 : m <<< k ≠ 0 := by
    rw [Nat.shiftLeft_eq]
    exact Nat.mul_ne_zero hm (by have := Nat.two_pow_pos k; omega)
  generalize hn : m <<< k = n at h0
  cases s
  · show decide (((m <<< k : Nat) : Int) < 0) = false
    rw [hn]
    exact decide_eq_false (by omega)
  · show decide (-((m <<< k : Nat) : Int) < 0) = true
    rw [hn]
    exact decide_eq_true (by omega)

theorem near_up (s : Bool) (m : Nat) (i : Int) (h : -149 ≤ i) : Ieee.single.nearest s (m * 2 ^ (i - -149).toNat) (-149) = Ieee.single.nearest s m i := by
  by_cases hm : m = 0
  · subst hm
    rw [Nat.zero_mul, near_nilD, near_nilD]
  · rw [nearest_scaled _ _ _ _ _ hm]
    congr 1
    omega

theorem word_zero {s : Bool} {b : Nat} (h : Ieee.single.word s 0 = b) (h0 : b ≠ 2147483648) : s = false ∧ b = 0 := by
  rw [word_sign] at h
  cases s
  · exact ⟨rfl, by simpa using h.symm⟩
  · simp at h; omega

/-- A sum with nought. -/
theorem add_zero_bits (b : Nat) (t : Bool) (hb : b < 4294967296) (h : b % 2147483648 ≤ 2139095040) (h0 : b ≠ 2147483648) : floatBits .add .f32 b (if t = true then 2147483648 else 0) = some b := by
  have hw := write_read b hb h
  have key : ((Ieee.single.read b).sum (Ieee.single.read (if t = true then 2147483648 else 0))).map Ieee.single.write = some b := by
    rw [zero_read]
    rcases read_kind b h with ⟨s, m, i, e, hi, -⟩ | ⟨s, e, -⟩
    · rw [e] at hw ⊢
      simp only [Ieee.Format.write] at hw
      simp only [Ieee.Datum.sum, Option.map_some, Ieee.Format.write]
      have e1 : min i (-149) = -149 := by omega
      rw [e1]
      have e2 : Ieee.signed t 0 (-149 - -149 : Int).toNat = 0 := (signed_zero t 0 _).2 rfl
      rw [e2, Int.add_zero, signed_abs, near_up _ _ _ hi]
      by_cases hm : m = 0
      · rw [if_pos ((signed_zero s m _).2 hm)]
        rw [hm, near_nilD] at hw
        obtain ⟨h1, h2⟩ := word_zero hw h0
        rw [hm, near_nilD, h1, h2]
        rfl
      · rw [if_neg (fun h => hm ((signed_zero s m _).1 h)), signed_neg s m _ hm, hw]
    · rw [e] at hw ⊢
      simp only [Ieee.Datum.sum, Option.map_some, hw]
  exact key

/-- A sum of nought and a number. -/
theorem zero_add_bits (b : Nat) (hb : b < 4294967296) (h : b % 2147483648 ≤ 2139095040) : floatBits .add .f32 0 b = some (if b = 2147483648 then 0 else b) := by
  have hw := write_read b hb h
  have key : ((Ieee.single.read 0).sum (Ieee.single.read b)).map Ieee.single.write = some (if b = 2147483648 then 0 else b) := by
    rw [show Ieee.single.read 0 = .number false 0 (-149) from zero_read false]
    rcases read_kind b h with ⟨s, m, i, e, hi, -⟩ | ⟨s, e, hf⟩
    · rw [e] at hw ⊢
      simp only [Ieee.Format.write] at hw
      simp only [Ieee.Datum.sum, Option.map_some, Ieee.Format.write]
      have e1 : min (-149) i = -149 := by omega
      rw [e1]
      have e2 : Ieee.signed false 0 (-149 - -149 : Int).toNat = 0 := (signed_zero false 0 _).2 rfl
      rw [e2, Int.zero_add, signed_abs, near_up _ _ _ hi]
      by_cases hm : m = 0
      · rw [if_pos ((signed_zero s m _).2 hm)]
        rw [hm, near_nilD] at hw
        rw [hm, near_nilD]
        by_cases hb0 : b = 2147483648
        · rw [if_pos hb0]
          rfl
        · rw [if_neg hb0, (word_zero hw hb0).2]
          rfl
      · rw [if_neg (fun h => hm ((signed_zero s m _).1 h)), signed_neg s m _ hm, hw, if_neg]
        rintro rfl
        have er : Ieee.single.read 2147483648 = .number true 0 (-149) := zero_read true
        rw [er] at e
        cases e
        exact hm rfl
    · rw [e] at hw ⊢
      simp only [Ieee.Datum.sum, Option.map_some, hw]
      rw [if_neg (by omega)]
  exact key

theorem chk1_of {z : Int} (h : Nu.chk 1 z = true) (hn : z ≠ 2143289344) : 0 ≤ z ∧ z < 4294967296 ∧ z % 2147483648 ≤ 2139095040 := by
  unfold Nu.chk at h
  simp only [if_true, decide_eq_true_eq] at h
  omega

theorem fb_parts {z : Int} (h : Nu.chk 1 z = true) (hn : z ≠ 2143289344) : Nu.fb z < 4294967296 ∧ Nu.fb z % 2147483648 ≤ 2139095040 ∧ (Nu.fb z : Int) = z := by
  have := chk1_of h hn
  unfold Nu.fb
  omega

theorem tobO_chk (o : Option Nat) (h : ∀ r, o = some r → r < 4294967296) : Nu.chk 1 (Nu.tobO o) = true := by
  cases o with
  | none => rfl
  | some r => exact Nu.chk_tob r (h r rfl)

def fadd (a b : Int) : Int := (Nu.bin 0 1 a b).1
def fmul (a b : Int) : Int := (Nu.bin 2 1 a b).1

theorem fadd_chk (a b : Int) : Nu.chk 1 (fadd a b) = true := by
  unfold fadd Nu.bin
  split
  · exact tobO_chk _ fun r h => bits_lt h
  · rfl

theorem fmul_chk (a b : Int) : Nu.chk 1 (fmul a b) = true := by
  unfold fmul Nu.bin
  split
  · exact tobO_chk _ fun r h => bits_lt h
  · rfl

theorem fadd_eq {a b : Int} (ha : Nu.chk 1 a = true) (hb : Nu.chk 1 b = true) : fadd a b = Nu.tobO (floatBits .add .f32 (Nu.fb a) (Nu.fb b)) := by
  unfold fadd Nu.bin
  rw [ha, hb]
  rfl

theorem fmul_eq {a b : Int} (ha : Nu.chk 1 a = true) (hb : Nu.chk 1 b = true) : fmul a b = Nu.tobO (floatBits .mul .f32 (Nu.fb a) (Nu.fb b)) := by
  unfold fmul Nu.bin
  rw [ha, hb]
  rfl

theorem tobO_same {z : Int} (h : Nu.chk 1 z = true) : Nu.tobO (some (Nu.fb z)) = z := Nu.tob_fb z h

theorem nan_mul : floatBits .mul .f32 1065353216 2143289344 = none ∧ floatBits .mul .f32 2143289344 1065353216 = none := by decide +kernel

theorem one_fmul {z : Int} (h : Nu.chk 1 z = true) : fmul 1065353216 z = z ∧ fmul z 1065353216 = z := by
  have h1 : Nu.chk 1 1065353216 = true := by decide
  have e1 : Nu.fb 1065353216 = 1065353216 := by decide
  rw [fmul_eq h1 h, fmul_eq h h1, e1]
  by_cases hn : z = 2143289344
  · subst hn
    rw [show Nu.fb 2143289344 = 2143289344 from by decide, nan_mul.1, nan_mul.2]
    exact ⟨rfl, rfl⟩
  · obtain ⟨a, b, -⟩ := fb_parts h hn
    obtain ⟨m1, m2⟩ := mul_one_bits _ a b
    rw [m1, m2, tobO_same h]
    exact ⟨rfl, rfl⟩

/-- Finite. -/
def fin (z : Int) : Prop := 0 ≤ z ∧ z < 4294967296 ∧ z % 2147483648 < 2139095040

theorem fin_chk {z : Int} (h : fin z) : Nu.chk 1 z = true := by
  unfold fin at h
  unfold Nu.chk
  simp only [if_true, decide_eq_true_eq]
  omega

theorem fin_fb {z : Int} (h : fin z) : Nu.fb z < 4294967296 ∧ Nu.fb z % 2147483648 < 2139095040 ∧ (Nu.fb z : Int) = z := by
  unfold fin at h
  unfold Nu.fb
  omega

def nought (z : Int) : Prop := z = 0 ∨ z = 2147483648

theorem fmul_zero {z : Int} (h : fin z) : nought (fmul z 0) := by
  have h1 : Nu.chk 1 0 = true := by decide
  rw [fmul_eq (fin_chk h) h1, show Nu.fb 0 = 0 from by decide]
  obtain ⟨t, ht⟩ := mul_zero_bits (Nu.fb z) (fin_fb h).2.1
  rw [ht]
  show nought (Nu.tob _)
  have : Nu.tob (if t = true then 2147483648 else 0) = if t = true then 2147483648 else 0 := by cases t <;> decide +kernel
  rw [this]
  unfold nought
  cases t <;> simp

theorem fadd_nought {s z : Int} (h : fin s) (hs : s ≠ 2147483648) (hz : nought z) : fadd s z = s := by
  have hf := fin_fb h
  have hc : Nu.chk 1 z = true := by rcases hz with rfl | rfl <;> decide
  rw [fadd_eq (fin_chk h) hc]
  obtain ⟨t, ht⟩ : ∃ t : Bool, Nu.fb z = if t = true then 2147483648 else 0 := by
    rcases hz with rfl | rfl
    · exact ⟨false, by decide⟩
    · exact ⟨true, by decide⟩
  rw [ht, add_zero_bits _ t hf.1 (by omega) (by omega), tobO_same (fin_chk h)]

theorem zero_fadd {z : Int} (h : fin z) : fadd 0 z = if z = 2147483648 then 0 else z := by
  have hf := fin_fb h
  rw [fadd_eq (by decide) (fin_chk h), show Nu.fb 0 = 0 from by decide, zero_add_bits _ hf.1 (by omega)]
  by_cases hz : z = 2147483648
  · rw [if_pos hz, if_pos (by omega)]
    decide
  · rw [if_neg hz, if_neg (by omega), tobO_same (fin_chk h)]
end Go.Proofs.YtfladhogkhhlcaaGreatDoor

/- Products of matrices, as plain functions of lists. No program stands here. -/
namespace Go.Proofs.YtfladhogkhhlcaaGreatDoor
open Go.RowKit

/-- A row by a column, from a sum on. -/
def dotF : Int → List Int → List Int → Int
  | s, x :: xs, y :: ys => dotF (fadd s (fmul x y)) xs ys
  | s, _, _ => s

/-- The rows of the matrix number i. -/
def blk (zs : List Int) (i h k : Nat) : List (List Int) := (List.range h).map fun r => ((zs.drop (i * (h * k))).drop (r * k)).take k

def tms (a b : List (List Int)) : List Int := a.flatMap fun r => b.map fun c => dotF 0 r c

def matL (xs yt : List Int) (n a k b : Nat) : List Int := (List.range n).flatMap fun i => tms (blk xs i a k) (blk yt i b k)

/-- A matrix, turned. -/
def trn (k b : Nat) (ys : List Int) : List Int := (List.range b).flatMap fun j => (List.range k).map fun i => ys.getD (i * b + j) 0

theorem dotF_chk : ∀ (xs ys : List Int) (s : Int), Nu.chk 1 s = true → Nu.chk 1 (dotF s xs ys) = true
  | [], _, _, h => by simpa [dotF] using h
  | _ :: _, [], _, h => by simpa [dotF] using h
  | x :: xs, y :: ys, s, _ => by simp only [dotF]; exact dotF_chk xs ys _ (fadd_chk _ _)

theorem dotF_rng (xs ys : List Int) : 0 ≤ dotF 0 xs ys ∧ dotF 0 xs ys < 4294967296 := by
  have h := dotF_chk xs ys 0 rfl
  unfold Nu.chk at h
  simp only [if_true, decide_eq_true_eq] at h
  omega

theorem dotF_snoc : ∀ (xs ys : List Int) (s x y : Int), xs.length = ys.length → dotF s (xs ++ [x]) (ys ++ [y]) = fadd (dotF s xs ys) (fmul x y)
  | [], [], s, x, y, _ => by simp [dotF]
  | a :: xs, b :: ys, s, x, y, h => by simp only [List.cons_append, dotF]; exact dotF_snoc xs ys _ x y (by simpa using h)
  | [], _ :: _, _, _, _, h => by simp at h
  | _ :: _, [], _, _, _, h => by simp at h

theorem blk_length (zs : List Int) (i h k : Nat) : (blk zs i h k).length = h := by simp [blk]

theorem tms_length (a b : List (List Int)) : (tms a b).length = a.length * b.length := by
  unfold tms
  induction a with
  | nil => simp
  | cons r a ih => rw [List.flatMap_cons, List.length_append, ih, List.length_map, List.length_cons, Nat.add_mul]; omega

theorem tms_all (a b : List (List Int)) : ∀ z ∈ tms a b, Nu.chk 1 z = true ∧ 0 ≤ z ∧ z < 4294967296 := by
  intro z hz
  unfold tms at hz
  obtain ⟨r, -, hz⟩ := List.mem_flatMap.1 hz
  obtain ⟨c, -, rfl⟩ := List.mem_map.1 hz
  exact ⟨dotF_chk _ _ _ rfl, dotF_rng _ _⟩

theorem mat_all (xs yt : List Int) (n a k b : Nat) : ∀ z ∈ matL xs yt n a k b, Nu.chk 1 z = true ∧ 0 ≤ z ∧ z < 4294967296 := by
  intro z hz
  unfold matL at hz
  obtain ⟨i, -, hz⟩ := List.mem_flatMap.1 hz
  exact tms_all _ _ z hz

theorem flat_len' {α : Type} (f : Nat → List α) (L : Nat) : ∀ n, (∀ i, i < n → (f i).length = L) → ((List.range n).flatMap f).length = n * L
  | 0, _ => by simp
  | n + 1, h => by
    rw [List.range_succ, List.flatMap_append, List.length_append, flat_len' f L n (fun i hi => h i (by omega))]
    simp [h n (by omega), Nat.add_mul]

theorem mat_length (xs yt : List Int) (n a k b : Nat) : (matL xs yt n a k b).length = n * (a * b) := flat_len' _ _ _ fun i _ => by rw [tms_length, blk_length, blk_length]

/-- A part of parts that are equally long. -/
theorem flat_part {α : Type} (f : Nat → List α) (L : Nat) : ∀ n, (∀ i, i < n → (f i).length = L) → ∀ t, t < n → (((List.range n).flatMap f).drop (t * L)).take L = f t
  | 0, _, t, ht => by omega
  | n + 1, h, t, ht => by
    have hl := flat_len' f L n (fun i hi => h i (by omega))
    rw [List.range_succ, List.flatMap_append]
    by_cases hn : t < n
    · have ih := flat_part f L n (fun i hi => h i (by omega)) t hn
      have e : t * L + L ≤ n * L := by
        rw [show t * L + L = (t + 1) * L from by rw [Nat.add_mul]; omega]
        exact Nat.mul_le_mul_right _ (by omega)
      rw [List.drop_append_of_le_length (by omega), List.take_append_of_le_length (by rw [List.length_drop]; omega)]
      exact ih
    · obtain rfl : t = n := by omega
      rw [List.drop_append, hl, List.drop_of_length_le (by omega), Nat.sub_self]
      simp only [List.flatMap_cons, List.flatMap_nil, List.append_nil, List.nil_append, List.drop_zero]
      exact List.take_of_length_le (by rw [h t ht]; exact Nat.le_refl _)

theorem tms_flat (a b : List (List Int)) : tms a b = (List.range a.length).flatMap fun r => b.map fun c => dotF 0 (a.getD r []) c := by
  unfold tms
  conv => lhs; rw [show a = (List.range a.length).map (fun r => a.getD r []) from List.ext_getElem (by simp) fun i h1 h2 => by simp [List.getD, show i < a.length from h1]]
  rw [List.flatMap_map]

/-- A row of a product. -/
theorem tms_row (a b : List (List Int)) (r : Nat) (hr : r < a.length) : ((tms a b).drop (r * b.length)).take b.length = b.map fun c => dotF 0 (a.getD r []) c := by
  rw [tms_flat]
  exact flat_part _ b.length a.length (fun i _ => by simp) r hr

theorem blk_row (zs : List Int) (i h k r : Nat) (hr : r < h) : (blk zs i h k).getD r [] = ((zs.drop (i * (h * k))).drop (r * k)).take k := by
  simp [blk, List.getD, hr]

theorem mat_one (xs yt : List Int) (a k b : Nat) : matL xs yt 1 a k b = tms (blk xs 0 a k) (blk yt 0 b k) := by simp [matL]

/-- What LinearRows says. -/
theorem rows_law (xs yt : List Int) (a k b row : Nat) (hr : row < a) : ((matL xs yt 1 a k b).drop (row * b)).take b = matL ((xs.drop (row * k)).take k) yt 1 1 k b := by
  rw [mat_one, mat_one]
  have h := tms_row (blk xs 0 a k) (blk yt 0 b k) row (by rw [blk_length]; exact hr)
  rw [blk_length] at h
  rw [h, blk_row _ _ _ _ _ hr]
  have e : blk ((xs.drop (row * k)).take k) 0 1 k = [(xs.drop (row * k)).take k] := by
    simp [blk, List.take_take]
  rw [e]
  simp [tms]

/-- What LinearBatch says. -/
theorem batch_law (xs yt : List Int) (n a k b t : Nat) (ht : t < n) : ((matL xs yt n a k b).drop (t * (a * b))).take (a * b) = matL ((xs.drop (t * (a * k))).take (a * k)) ((yt.drop (t * (b * k))).take (b * k)) 1 a k b := by
  rw [mat_one]
  unfold matL
  rw [flat_part _ (a * b) n (fun i _ => by rw [tms_length, blk_length, blk_length]) t ht]
  have e : ∀ (zs : List Int) (h : Nat), blk ((zs.drop (t * (h * k))).take (h * k)) 0 h k = blk zs t h k := by
    intro zs h
    unfold blk
    refine List.map_congr_left fun r hr => ?_
    have hr : r < h := by simpa using hr
    have hb : r * k + k ≤ h * k := by
      rw [show r * k + k = (r + 1) * k from by rw [Nat.add_mul]; omega]
      exact Nat.mul_le_mul_right _ (by omega)
    simp only [Nat.zero_mul, List.drop_zero]
    rw [List.drop_take, List.take_take, Nat.min_eq_left (by omega)]
  rw [e, e]

/-- What LinearGemm says. -/
theorem gemm_law (xs yt : List Int) (n a k b : Nat) : (matL xs yt n a k b).map (fmul 1065353216) = matL xs yt n a k b := by
  conv => rhs; rw [← List.map_id (matL xs yt n a k b)]
  refine List.map_congr_left fun z hz => ?_
  exact (one_fmul (mat_all _ _ _ _ _ _ z hz).1).1

theorem trn_length (k b : Nat) (ys : List Int) : (trn k b ys).length = b * k := flat_len' _ _ _ fun j _ => by simp

theorem trn_row (k b : Nat) (ys : List Int) (j : Nat) (hj : j < b) : ((trn k b ys).drop (j * k)).take k = (List.range k).map fun i => ys.getD (i * b + j) 0 := flat_part _ k b (fun j _ => by simp) j hj

theorem blk_trn (k b : Nat) (ys : List Int) : blk (trn k b ys) 0 b k = (List.range b).map fun j => (List.range k).map fun i => ys.getD (i * b + j) 0 := by
  unfold blk
  refine List.map_congr_left fun j hj => ?_
  rw [Nat.zero_mul, List.drop_zero]
  exact trn_row k b ys j (by simpa using hj)

theorem trn_at (k b : Nat) (ys : List Int) (i j : Nat) (hi : i < k) (hj : j < b) : (trn k b ys).getD (j * k + i) 0 = ys.getD (i * b + j) 0 := by
  have h : (((trn k b ys).drop (j * k)).take k).getD i 0 = ((List.range k).map fun i => ys.getD (i * b + j) 0).getD i 0 := by rw [trn_row k b ys j hj]
  have hl : j * k + k ≤ (trn k b ys).length := by
    rw [trn_length, show j * k + k = (j + 1) * k from by rw [Nat.add_mul]; omega]
    exact Nat.mul_le_mul_right _ (by omega)
  have e1 : (((trn k b ys).drop (j * k)).take k).getD i 0 = (trn k b ys).getD (j * k + i) 0 := by
    simp only [List.getD]
    rw [List.getElem?_take_of_lt hi, List.getElem?_drop]
  have e2 : ((List.range k).map fun i => ys.getD (i * b + j) 0).getD i 0 = ys.getD (i * b + j) 0 := by simp [List.getD, hi]
  rw [← e1, h, e2]

/-- Turned twice. -/
theorem trn_trn (a k : Nat) (xs : List Int) (h : xs.length = a * k) : trn k a (trn a k xs) = xs := by
  refine List.ext_getElem (by rw [trn_length, h]) fun p h1 h2 => ?_
  have hp : p < a * k := by rw [← h]; exact h2
  have hk : 0 < k := by
    rcases Nat.eq_zero_or_pos k with rfl | hk
    · simp at hp
    · exact hk
  have hi : p % k < k := Nat.mod_lt _ hk
  have hj : p / k < a := by rw [Nat.div_lt_iff_lt_mul hk]; exact hp
  have e := trn_at k a (trn a k xs) (p % k) (p / k) hi hj
  rw [trn_at a k xs (p / k) (p % k) hj hi] at e
  have ep : p / k * k + p % k = p := by rw [Nat.mul_comm]; exact Nat.div_add_mod p k
  rw [ep] at e
  simpa [List.getD, h1, h2] using e

def normF (z : Int) : Int := if z = 2147483648 then 0 else z

def unitC (j i n : Nat) : List Int := (List.range' i n).map fun t => if t = j then 1065353216 else 0

theorem norm_fin {z : Int} (h : fin z) : fin (normF z) ∧ normF z ≠ 2147483648 := by
  unfold normF fin at *
  split <;> omega

theorem dot_after (j : Nat) : ∀ (xs : List Int) (i n : Nat) (s : Int), (∀ x ∈ xs, fin x) → j < i → fin s → s ≠ 2147483648 → dotF s xs (unitC j i n) = s
  | [], _, _, _, _, _, _, _ => by simp [dotF]
  | x :: xs, i, 0, s, _, _, _, _ => by simp [unitC, dotF]
  | x :: xs, i, n + 1, s, hx, hi, hs, h0 => by
    have e : unitC j i (n + 1) = 0 :: unitC j (i + 1) n := by simp [unitC, List.range'_succ]; omega
    rw [e]
    simp only [dotF]
    rw [fadd_nought hs h0 (fmul_zero (hx x (by simp)))]
    exact dot_after j xs (i + 1) n s (fun y hy => hx y (by simp [hy])) (by omega) hs h0

/-- A row by a column that has 1 at one place. -/
theorem dot_unit (j : Nat) : ∀ (xs : List Int) (i n : Nat), (∀ x ∈ xs, fin x) → i ≤ j → j < i + n → xs.length = n → dotF 0 xs (unitC j i n) = normF (xs.getD (j - i) 0)
  | [], i, n, _, h1, h2, h3 => by simp at h3; omega
  | x :: xs, i, 0, _, h1, h2, h3 => by simp at h3
  | x :: xs, i, n + 1, hx, h1, h2, h3 => by
    have fx := hx x (by simp)
    by_cases hij : i = j
    · have e : unitC j i (n + 1) = 1065353216 :: unitC j (i + 1) n := by simp [unitC, List.range'_succ, hij]
      rw [e]
      simp only [dotF]
      rw [(one_fmul (fin_chk fx)).2, zero_fadd fx]
      have hn := norm_fin fx
      rw [show (if x = 2147483648 then 0 else x) = normF x from rfl, dot_after j xs (i + 1) n _ (fun y hy => hx y (by simp [hy])) (by omega) hn.1 hn.2, hij]
      simp
    · have e : unitC j i (n + 1) = 0 :: unitC j (i + 1) n := by simp [unitC, List.range'_succ, hij]
      rw [e]
      simp only [dotF]
      rw [fadd_nought (by unfold fin; omega) (by omega) (fmul_zero fx), dot_unit j xs (i + 1) n (fun y hy => hx y (by simp [hy])) (by omega) (by omega) (by simpa using h3)]
      rw [show j - i = (j - (i + 1)) + 1 from by omega]
      simp

/-- What LinearOne says. -/
theorem one_law (xs one : List Int) (a d : Nat) (hx : ∀ x ∈ xs, fin x) (hl : xs.length = a * d) (ho : ∀ i j, i < d → j < d → one.getD (i * d + j) 0 = if i = j then 1065353216 else 0) : matL xs (trn d d one) 1 a d d = xs.map normF := by
  rw [mat_one, blk_trn]
  have hc : ((List.range d).map fun j => (List.range d).map fun i => one.getD (i * d + j) 0) = (List.range d).map fun j => unitC j 0 d := by
    refine List.map_congr_left fun j hj => ?_
    unfold unitC
    rw [← List.range_eq_range']
    refine List.map_congr_left fun i hi => ?_
    rw [ho i j (by simpa using hi) (by simpa using hj)]
  rw [hc]
  unfold tms blk
  rw [List.flatMap_map]
  have hr : ∀ r, r < a → r * d + d ≤ xs.length := fun r h => by
    rw [hl, show r * d + d = (r + 1) * d from by rw [Nat.add_mul]; omega]
    exact Nat.mul_le_mul_right _ (by omega)
  have key : (List.range a).flatMap (fun r => ((List.range d).map fun j => unitC j 0 d).map fun c => dotF 0 (((xs.drop (0 * (a * d))).drop (r * d)).take d) c) = (List.range a).flatMap (fun r => (((xs.drop (r * d)).take d).map normF)) := by
    unfold List.flatMap
    congr 1
    refine List.map_congr_left fun r h => ?_
    have hra := hr r (by simpa using h)
    rw [Nat.zero_mul, List.drop_zero, List.map_map]
    have hlen : ((xs.drop (r * d)).take d).length = d := by rw [List.length_take, List.length_drop]; omega
    refine List.ext_getElem (by rw [List.length_map, List.length_map, hlen, List.length_range]) fun j h1 h2 => ?_
    have hj : j < d := by simpa using h1
    simp only [List.getElem_map, List.getElem_range, Function.comp_apply]
    rw [dot_unit j _ 0 d (fun x hx' => hx x (List.mem_of_mem_drop (List.mem_of_mem_take hx'))) (by omega) (by omega) hlen]
    simp [List.getD, hlen, hj]
  rw [key]
  refine List.ext_getElem ?_ fun p h1 h2 => ?_
  · rw [flat_len' _ d a fun i hi => by rw [List.length_map, List.length_take, List.length_drop]; have := hr i hi; omega]
    rw [List.length_map, hl]
  · have hp : p < a * d := by rw [← hl]; simpa using h2
    have hd : 0 < d := by
      rcases Nat.eq_zero_or_pos d with rfl | hd
      · simp at hp
      · exact hd
    have hj : p / d < a := by rw [Nat.div_lt_iff_lt_mul hd]; exact hp
    have hm : p % d < d := Nat.mod_lt _ hd
    have hh := flat_part (fun r => ((xs.drop (r * d)).take d).map normF) d a (fun i hi => by rw [List.length_map, List.length_take, List.length_drop]; have := hr i hi; omega) (p / d) hj
    have ep : p / d * d + p % d = p := by rw [Nat.mul_comm]; exact Nat.div_add_mod p d
    have h3 : ((((List.range a).flatMap fun r => ((xs.drop (r * d)).take d).map normF).drop (p / d * d)).take d)[p % d]? = (((xs.drop (p / d * d)).take d).map normF)[p % d]? := by rw [hh]
    rw [List.getElem?_take_of_lt hm, List.getElem?_drop, ep, List.getElem?_map, List.getElem?_take_of_lt hm, List.getElem?_drop, ep] at h3
    have hpx : p < xs.length := by omega
    rw [List.getElem?_eq_getElem h1, List.getElem?_eq_getElem hpx, Option.map_some, Option.some.injEq] at h3
    rw [h3, List.getElem_map]
end Go.Proofs.YtfladhogkhhlcaaGreatDoor
