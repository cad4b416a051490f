/- Plain facts on Floor: what it gives hangs on the number alone, and given once more it is the same. Nothing here names the program. -/
import Derived.Test.YteigfipgmghgmaaGreatDoorNuPlainV
import Derived.Test.YteigfipgmghgmaaGreatDoorNuPlainK
namespace Go.Proofs.YteigfipgmghgmaaGreatDoor.Nu
open Go.RowKit

theorem log2_scaled (m j : Nat) (h : m ≠ 0) : (m * 2 ^ j).log2 = m.log2 + j := by
  have h1 := Nat.log2_self_le h
  have h2 : m < 2 ^ (m.log2 + 1) := Nat.lt_log2_self
  have p := Nat.two_pow_pos j
  have h0 : m * 2 ^ j ≠ 0 := Nat.mul_ne_zero h (by omega)
  rw [Nat.log2_eq_iff h0]
  constructor
  · rw [Nat.pow_add]; exact Nat.mul_le_mul_right _ h1
  · have := Nat.mul_lt_mul_of_pos_right h2 p
    rw [show m.log2 + j + 1 = m.log2 + 1 + j from by omega, Nat.pow_add]
    exact this

theorem cut_nil (way : Ieee.Toward) (s : Bool) (n : Nat) : way.cut s n 0 = n := by
  unfold Ieee.Toward.cut
  have e : min 0 (n.log2 + 2) = 0 := by omega
  rw [e]
  have e2 : (1 : Nat) <<< 0 = 1 := rfl
  rw [e2]
  simp only [Nat.mod_one, Nat.div_one]
  cases way <;> simp

/-- A cut hangs on the value alone. -/
theorem cut_scaled (way : Ieee.Toward) (s : Bool) (n j d : Nat) (hn : n ≠ 0) : way.cut s (n * 2 ^ j) (d + j) = way.cut s n d := by
  unfold Ieee.Toward.cut
  rw [log2_scaled n j hn]
  have p := Nat.two_pow_pos j
  have eg : (1 : Nat) <<< min (d + j) (n.log2 + j + 2) = (1 <<< min d (n.log2 + 2)) * 2 ^ j := by
    rw [Nat.shiftLeft_eq, Nat.shiftLeft_eq, Nat.one_mul, Nat.one_mul, ← Nat.pow_add]
    congr 1
    omega
  rw [eg]
  generalize (1 : Nat) <<< min d (n.log2 + 2) = g
  have e1 : n * 2 ^ j / (g * 2 ^ j) = n / g := Nat.mul_div_mul_right _ _ p
  have e2 : n * 2 ^ j % (g * 2 ^ j) = n % g * 2 ^ j := Nat.mul_mod_mul_right _ _ _
  simp only [e1, e2]
  generalize n % g = r
  generalize n / g = l
  generalize 2 ^ j = q at p
  have c1 : (g * q < 2 * (r * q)) ↔ (g < 2 * r) := by
    rw [← Nat.mul_assoc]; exact Nat.mul_lt_mul_right p
  have c2 : (g * q == 2 * (r * q)) = (g == 2 * r) := by
    rw [← Nat.mul_assoc, Bool.eq_iff_iff, beq_iff_eq, beq_iff_eq]
    exact ⟨fun e => Nat.eq_of_mul_eq_mul_right p e, fun e => by rw [e]⟩
  have c3 : (r * q != 0) = (r != 0) := by
    rw [Bool.eq_iff_iff, bne_iff_ne, bne_iff_ne]
    exact ⟨fun e h => e (by rw [h, Nat.zero_mul]), fun e => Nat.mul_ne_zero e (by omega)⟩
  cases way <;> simp [c1, c2, c3]

theorem cut_exact (way : Ieee.Toward) (s : Bool) (n j d : Nat) (hn : n ≠ 0) (h : d ≤ j) : way.cut s (n * 2 ^ j) d = n * 2 ^ (j - d) := by
  have e : n * 2 ^ j = n * 2 ^ (j - d) * 2 ^ d := by
    rw [Nat.mul_assoc, ← Nat.pow_add]; congr 2; omega
  rw [e]
  have h0 : n * 2 ^ (j - d) ≠ 0 := Nat.mul_ne_zero hn (by have := Nat.two_pow_pos (j - d); omega)
  have := cut_scaled way s (n * 2 ^ (j - d)) d 0 h0
  rw [Nat.zero_add] at this
  rw [this, cut_nil]

/-- A number shifted and cut: by its value alone. -/
theorem cut_place (way : Ieee.Toward) (s : Bool) (m j : Nat) (p : Int) (hm : m ≠ 0) : way.cut s ((m * 2 ^ j) <<< p.toNat) (-p).toNat = way.cut s (m <<< (p + j).toNat) (-(p + j)).toNat := by
  rw [Nat.shiftLeft_eq, Nat.shiftLeft_eq]
  by_cases h1 : 0 ≤ p
  · have a1 : (-p).toNat = 0 := by omega
    have a2 : (-(p + (j : Int))).toNat = 0 := by omega
    have a3 : (p + (j : Int)).toNat = j + p.toNat := by omega
    rw [a1, a2, a3, cut_nil, cut_nil, Nat.mul_assoc, ← Nat.pow_add]
  · have a1 : p.toNat = 0 := by omega
    rw [a1, Nat.pow_zero, Nat.mul_one]
    by_cases h2 : 0 ≤ p + (j : Int)
    · have a2 : (-(p + (j : Int))).toNat = 0 := by omega
      rw [a2, cut_nil, cut_exact way s m j (-p).toNat hm (by omega)]
      congr 2
      omega
    · have a2 : (p + (j : Int)).toNat = 0 := by omega
      have a3 : (-p).toNat = (-(p + (j : Int))).toNat + j := by omega
      rw [a2, Nat.pow_zero, Nat.mul_one, a3, cut_scaled way s m j _ hm]

/-- The nearest word hangs on the value alone. -/
theorem nearest_scaled (f : Ieee.Format) (s : Bool) (m j : Nat) (p : Int) (hm : m ≠ 0) : f.nearest s (m * 2 ^ j) p = f.nearest s m (p + j) := by
  have h0 : m * 2 ^ j ≠ 0 := Nat.mul_ne_zero hm (by have := Nat.two_pow_pos j; omega)
  unfold Ieee.Format.nearest
  rw [if_neg h0, if_neg hm, log2_scaled m j hm]
  have e1 : p + ((m.log2 + j : Nat) : Int) - (f.fractionBits : Int) = p + (j : Int) + (m.log2 : Int) - (f.fractionBits : Int) := by omega
  simp only [e1]
  generalize max (p + (j : Int) + (m.log2 : Int) - (f.fractionBits : Int)) f.leastPlace = last
  have e2 := cut_place .even s m j (p - last) hm
  rw [show -(p - last) = last - p from by omega, show p - last + (j : Int) = p + j - last from by omega, show -(p + (j : Int) - last) = last - (p + j) from by omega] at e2
  rw [e2]

/-- What a number is, made whole downwards. -/
def fl (s : Bool) (m : Nat) (i : Int) : Nat := Ieee.Toward.down.cut s (m <<< i.toNat) (-i).toNat

theorem fl_scaled (s : Bool) (m j : Nat) (p : Int) (hm : m ≠ 0) : fl s (m * 2 ^ j) p = fl s m (p + j) := cut_place .down s m j p hm

theorem fl_whole (s : Bool) (m : Nat) (i : Int) (h : 0 ≤ i) : fl s m i = m * 2 ^ i.toNat := by
  unfold fl
  rw [show (-i).toNat = 0 from by omega, cut_nil, Nat.shiftLeft_eq]

theorem fl_part (s : Bool) (m : Nat) (i : Int) (h : i < 0) (hm : m < 16777216) : fl s m i < 16777216 := by
  unfold fl Ieee.Toward.cut
  rw [show i.toNat = 0 from by omega, Nat.shiftLeft_zero]
  generalize hg : (1 : Nat) <<< min (-i).toNat (m.log2 + 2) = g
  have hg2 : 2 ≤ g := by
    rw [← hg, Nat.shiftLeft_eq, Nat.one_mul]
    have : 2 ^ 1 ≤ 2 ^ min (-i).toNat (m.log2 + 2) := Nat.pow_le_pow_right (by decide) (by omega)
    simpa using this
  have h1 : m / g ≤ m / 2 := Nat.div_le_div_left hg2 (by decide)
  simp only
  cases hq : (s && m % g != 0) <;> simp <;> omega

/-- What comes out whole has at most 24 digits. -/
theorem fl_digits (s : Bool) (m : Nat) (i : Int) (hm : m < 16777216) (hi : i ≤ 104) : ∃ a k : Nat, fl s m i = a * 2 ^ k ∧ a < 16777216 ∧ k ≤ 104 := by
  by_cases h : 0 ≤ i
  · exact ⟨m, i.toNat, fl_whole s m i h, hm, by omega⟩
  · exact ⟨fl s m i, 0, by rw [Nat.pow_zero, Nat.mul_one], fl_part s m i (by omega) hm, by omega⟩

theorem word32_parts (s : Bool) (r : Nat) (h : r < 2147483648) : Ieee.single.word s r % 2147483648 = r ∧ (Ieee.single.word s r / 2147483648 % 2 == 1) = s := by
  have e5 : Ieee.single.signWeight = 2147483648 := rfl
  unfold Ieee.Format.word
  rw [e5]
  cases s with
  | false =>
    rw [if_neg (by decide)]
    exact ⟨Nat.mod_eq_of_lt h, by rw [Nat.div_eq_of_lt h]; rfl⟩
  | true =>
    rw [if_pos rfl]
    have : (2147483648 + r) / 2147483648 = 1 := by omega
    exact ⟨by omega, by rw [this]; rfl⟩

theorem read32_of (s : Bool) (E K : Nat) (k1 : 8388608 ≤ K) (k2 : K < 16777216) (hE : E ≤ 253) : Ieee.single.read (Ieee.single.word s (E * 8388608 + K)) = .number s K (-149 + (E : Int)) := by
  have e1 : Ieee.single.leastPlace = -149 := rfl
  have e2 : Ieee.single.binade = 8388608 := rfl
  have e3 : Ieee.single.infRung = 2139095040 := rfl
  have e5 : Ieee.single.signWeight = 2147483648 := rfl
  obtain ⟨w1, w2⟩ := word32_parts s (E * 8388608 + K) (by omega)
  unfold Ieee.Format.read
  simp only [e1, e2, e3, e5]
  rw [w1, w2, if_neg (by omega), if_pos (by omega)]
  have q1 : 8388608 + (E * 8388608 + K) % 8388608 = K := by omega
  have q2 : (E * 8388608 + K) / 8388608 - 1 = E := by omega
  rw [q1, q2]

/-- A number of at most 24 digits, written in 32 bits: read again it is the same. -/
theorem near32 (s : Bool) (m : Nat) (p : Int) (h0 : m ≠ 0) (hm : m < 16777216) (hp : -100 ≤ p) (hq : p ≤ 104) :
    Ieee.single.read (Ieee.single.nearest s m p) = .number s (m * 2 ^ (23 - m.log2)) (p - (23 - m.log2 : Nat)) ∧ ∃ r, Ieee.single.nearest s m p = Ieee.single.word s r ∧ r < 2139095040 := by
  have l1 := Nat.log2_self_le h0
  have l2 : m < 2 ^ (m.log2 + 1) := Nat.lt_log2_self
  have hl : m.log2 ≤ 23 := by
    have := (Nat.log2_lt h0).2 (show m < 2 ^ 24 from hm); omega
  have e1 : Ieee.single.leastPlace = -149 := rfl
  have e2 : Ieee.single.binade = 8388608 := rfl
  have e3 : Ieee.single.infRung = 2139095040 := rfl
  have e4 : Ieee.single.fractionBits = 23 := rfl
  have k1 : 8388608 ≤ m * 2 ^ (23 - m.log2) := by
    have : 2 ^ m.log2 * 2 ^ (23 - m.log2) ≤ m * 2 ^ (23 - m.log2) := Nat.mul_le_mul_right _ l1
    rw [← Nat.pow_add, show m.log2 + (23 - m.log2) = 23 from by omega] at this
    simpa using this
  have k2 : m * 2 ^ (23 - m.log2) < 16777216 := by
    have : m * 2 ^ (23 - m.log2) < 2 ^ (m.log2 + 1) * 2 ^ (23 - m.log2) := Nat.mul_lt_mul_of_pos_right l2 (Nat.two_pow_pos _)
    rw [← Nat.pow_add, show m.log2 + 1 + (23 - m.log2) = 24 from by omega] at this
    simpa using this
  have hnear : Ieee.single.nearest s m p = Ieee.single.word s (min ((p - ((23 - m.log2 : Nat) : Int) - -149).toNat * 8388608 + m * 2 ^ (23 - m.log2)) 2139095040) := by
    unfold Ieee.Format.nearest
    rw [if_neg h0]
    simp only [e1, e2, e3, e4]
    have hc : max (p + (m.log2 : Int) - ((23 : Nat) : Int)) (-149) = p - ((23 - m.log2 : Nat) : Int) := by omega
    rw [hc]
    have d1 : (p - (p - ((23 - m.log2 : Nat) : Int))).toNat = 23 - m.log2 := by omega
    have d2 : (p - ((23 - m.log2 : Nat) : Int) - p).toNat = 0 := by omega
    rw [d1, d2, cut_nil, Nat.shiftLeft_eq]
  generalize hK : m * 2 ^ (23 - m.log2) = K at *
  generalize hE : (p - ((23 - m.log2 : Nat) : Int) - -149).toNat = E at *
  have hEb : E ≤ 253 := by omega
  have hEp : p - ((23 - m.log2 : Nat) : Int) = -149 + (E : Int) := by omega
  have hlt : E * 8388608 + K < 2139095040 := by omega
  rw [Nat.min_eq_left (Nat.le_of_lt hlt)] at hnear
  rw [hnear, hEp]
  exact ⟨read32_of s E K k1 k2 hEb, _, rfl, hlt⟩

theorem fl_zero (s : Bool) (i : Int) : fl s 0 i = 0 := by
  unfold fl Ieee.Toward.cut
  rw [Nat.zero_shiftLeft]
  simp

theorem fl_nought (s : Bool) (m : Nat) (i : Int) (h : m = 0) : fl s m i = 0 := by rw [h, fl_zero]

/-- The word of 32 bits that Floor gives of one that is no NaN. -/
def flW (b : Nat) : Nat := match FloatKind.f32.decode b with
  | .number s m i => Ieee.single.nearest s (fl s m i) 0
  | _ => b

/-- What Floor gives of a float of 64 bits. -/
def FlS (x r : Nat) : Prop := match FloatKind.f64.decode x with
  | .nan _ _ => (FloatKind.f64.decode r).isNaN = true
  | d => r = FloatKind.f64.encode (d.integral .down)

theorem dec32_fin (b : Nat) (hb : b < 4294967296) (h : b % 2147483648 < 2139095040) : ∃ (m : Nat) (i : Int), FloatKind.f32.decode b = .number (decide (2147483648 ≤ b)) m i ∧ m < 16777216 ∧ -149 ≤ i ∧ i ≤ 104 := by
  have hd : FloatKind.f32.decode b = rdm (decide (2147483648 ≤ b)) (b % 2147483648) := read_eq b hb
  rw [hd]
  unfold rdm
  by_cases h1 : b % 2147483648 < 8388608
  · rw [if_pos h1]; exact ⟨_, _, rfl, by omega, by omega, by omega⟩
  · rw [if_neg h1, if_pos h]; exact ⟨_, _, rfl, by omega, by omega, by omega⟩

theorem read64_nil (s : Bool) : FloatKind.f64.decode (Ieee.double.word s 0) = .number s 0 (-1074) := by cases s <;> decide +kernel

theorem read32_nil (s : Bool) : FloatKind.f32.decode (Ieee.single.word s 0) = .number s 0 (-149) := by cases s <;> decide +kernel

theorem near_nil (f : Ieee.Format) (s : Bool) (p : Int) : f.nearest s 0 p = f.word s 0 := by unfold Ieee.Format.nearest; rw [if_pos rfl]

theorem up_some (b : Nat) (s : Bool) (m : Nat) (i : Int) (hd : FloatKind.f32.decode b = .number s m i) (hm : m < 16777216) (h1 : -149 ≤ i) (h2 : i ≤ 104) : ∃ r, floatToFloatBits .f32 b .f64 = some r ∧ ((m = 0 ∧ FloatKind.f64.decode r = .number s 0 (-1074)) ∨ (m ≠ 0 ∧ ∃ k : Nat, FloatKind.f64.decode r = .number s (m * 2 ^ k) (i - k))) := by
  unfold floatToFloatBits
  rw [if_neg (by decide), hd]
  simp only
  by_cases h0 : m = 0
  · subst h0
    have ew : FloatKind.f64.encode (.number s 0 i) = Ieee.double.word s 0 := near_nil Ieee.double s i
    rw [ew, read64_nil]
    exact ⟨_, rfl, .inl ⟨rfl, read64_nil s⟩⟩
  · obtain ⟨r, w1, w2, w3⟩ := write64 s m i h0 (by omega) (by omega) (by omega)
    have ew : FloatKind.f64.encode (.number s m i) = Ieee.double.word s r := w1
    have er : FloatKind.f64.decode (Ieee.double.word s r) = .number s (m * 2 ^ (52 - m.log2)) (i - (52 - m.log2 : Nat)) := w3
    rw [ew, er]
    exact ⟨_, rfl, .inr ⟨h0, _, er⟩⟩

/-- A number of at most 24 digits, at 64 bits, turned into 32. -/
theorem down_some (r : Nat) (s : Bool) (a k : Nat) (ha : a < 16777216) (hk : k ≤ 104) (hr : r = FloatKind.f64.encode (.number s (a * 2 ^ k) 0)) : floatToFloatBits .f64 r .f32 = some (Ieee.single.nearest s (a * 2 ^ k) 0) := by
  unfold floatToFloatBits
  rw [if_neg (by decide)]
  by_cases h0 : a = 0
  · subst h0
    rw [Nat.zero_mul] at hr ⊢
    have ew : FloatKind.f64.encode (.number s 0 0) = Ieee.double.word s 0 := near_nil Ieee.double s 0
    rw [hr, ew, read64_nil]
    simp only
    have e2 : FloatKind.f32.encode (.number s 0 (-1074)) = Ieee.single.word s 0 := near_nil Ieee.single s (-1074)
    rw [e2, read32_nil, near_nil]
    rfl
  · have e1 : FloatKind.f64.encode (.number s (a * 2 ^ k) 0) = Ieee.double.nearest s a (0 + k) := nearest_scaled Ieee.double s a k 0 h0
    rw [Int.zero_add] at e1
    obtain ⟨r', w1, w2, w3⟩ := write64 s a k h0 (by omega) (by omega) (by omega)
    have er : FloatKind.f64.decode r = .number s (a * 2 ^ (52 - a.log2)) (k - (52 - a.log2 : Nat)) := by rw [hr, e1, w1]; exact w3
    rw [er]
    simp only
    have e3 : FloatKind.f32.encode (.number s (a * 2 ^ (52 - a.log2)) ((k : Int) - (52 - a.log2 : Nat))) = Ieee.single.nearest s a k := by
      have := nearest_scaled Ieee.single s a (52 - a.log2) ((k : Int) - (52 - a.log2 : Nat)) h0
      rw [show (k : Int) - ((52 - a.log2 : Nat) : Int) + ((52 - a.log2 : Nat) : Int) = k from by omega] at this
      exact this
    obtain ⟨n1, -⟩ := near32 s a k h0 ha (by omega) (by omega)
    have n2 : FloatKind.f32.decode (Ieee.single.nearest s a k) = .number s (a * 2 ^ (23 - a.log2)) ((k : Int) - (23 - a.log2 : Nat)) := n1
    rw [e3, n2]
    have e4 := nearest_scaled Ieee.single s a k 0 h0
    rw [Int.zero_add] at e4
    rw [e4]
    rfl

theorem fl_in (b : Nat) (hb : b < 4294967296) (h : b % 2147483648 < 2139095040) (w1 w2 : World) (r : Nat) (hr : FlS (cval .f32 .f64 b w1) r) : cval .f64 .f32 r w2 = flW b := by
  obtain ⟨m, i, hd, hm, i1, i2⟩ := dec32_fin b hb h
  generalize decide (2147483648 ≤ b) = s at hd
  obtain ⟨x, hx, hc⟩ := up_some b s m i hd hm i1 i2
  have ec : cval .f32 .f64 b w1 = x := by unfold cval; rw [hx]
  rw [ec] at hr
  have eW : flW b = Ieee.single.nearest s (fl s m i) 0 := by unfold flW; rw [hd]
  obtain ⟨a, k, e1, ha, hk⟩ := fl_digits s m i hm i2
  have hrr : r = FloatKind.f64.encode (.number s (a * 2 ^ k) 0) := by
    unfold FlS at hr
    rcases hc with ⟨h0, hdx⟩ | ⟨h0, q, hdx⟩
    · rw [hdx] at hr
      simp only [Ieee.Datum.integral] at hr
      have e2 : Ieee.Toward.down.cut s (0 <<< (-1074 : Int).toNat) (-(-1074 : Int)).toNat = fl s 0 (-1074) := rfl
      rw [e2, fl_zero] at hr
      rw [← e1, fl_nought s m i h0]
      exact hr
    · rw [hdx] at hr
      simp only [Ieee.Datum.integral] at hr
      have e2 : Ieee.Toward.down.cut s ((m * 2 ^ q) <<< (i - (q : Int)).toNat) (-(i - (q : Int))).toNat = fl s m i := by
        have := fl_scaled s m q (i - q) h0
        rw [show i - (q : Int) + (q : Int) = i from by omega] at this
        exact this
      rw [e2, e1] at hr
      exact hr
  have ed := down_some r s a k ha hk hrr
  rw [eW, e1]
  unfold cval
  rw [ed]

theorem inf_dec (b : Nat) (hb : b < 4294967296) (h : b % 2147483648 = 2139095040) : ∃ s, FloatKind.f32.decode b = .infinity s ∧ FloatKind.f32.encode (.infinity s) = b := by
  have hd : FloatKind.f32.decode b = rdm (decide (2147483648 ≤ b)) (b % 2147483648) := read_eq b hb
  rw [hd, h]
  refine ⟨decide (2147483648 ≤ b), by unfold rdm; rw [if_neg (by decide), if_neg (by decide), if_pos rfl], ?_⟩
  by_cases hs : 2147483648 ≤ b
  · rw [decide_eq_true hs]
    have : b = 4286578688 := by omega
    rw [this]; decide +kernel
  · rw [decide_eq_false hs]
    have : b = 2139095040 := by omega
    rw [this]; decide +kernel

theorem inf64 (s : Bool) : FloatKind.f64.decode (FloatKind.f64.encode (.infinity s)) = .infinity s := by cases s <;> decide +kernel

theorem fl_inf (b : Nat) (hb : b < 4294967296) (h : b % 2147483648 = 2139095040) (w1 w2 : World) (r : Nat) (hr : FlS (cval .f32 .f64 b w1) r) : cval .f64 .f32 r w2 = flW b := by
  obtain ⟨s, hd, he⟩ := inf_dec b hb h
  have e1 : floatToFloatBits .f32 b .f64 = some (FloatKind.f64.encode (.infinity s)) := by unfold floatToFloatBits; rw [if_neg (by decide), hd]
  have ec : cval .f32 .f64 b w1 = FloatKind.f64.encode (.infinity s) := by unfold cval; rw [e1]
  rw [ec] at hr
  unfold FlS at hr
  rw [inf64] at hr
  simp only [Ieee.Datum.integral] at hr
  have e2 : floatToFloatBits .f64 r .f32 = some b := by unfold floatToFloatBits; rw [if_neg (by decide), hr, inf64]; simp only [he]
  have eW : flW b = b := by unfold flW; rw [hd]
  rw [eW]
  unfold cval
  rw [e2]

theorem nan64 (t b : Nat) : (FloatKind.f64.decode ((Question.nanConv .f64 b).cut t)).isNaN = true := by
  have h1 := Nat.mod_lt t (show 0 < 2 by decide)
  have h2 := Nat.mod_lt (t / 2) (show 0 < 4503599627370495 by decide)
  have e : (Question.nanConv .f64 b).cut t = (t % 2) * 9223372036854775808 + 9218868437227405312 + 1 + (t / 2) % 4503599627370495 := rfl
  rw [e]
  generalize t % 2 = x at *
  generalize t / 2 % 4503599627370495 = y at *
  have e1 : Ieee.double.leastPlace = -1074 := rfl
  have e2 : Ieee.double.binade = 4503599627370496 := rfl
  have e3 : Ieee.double.infRung = 9218868437227405312 := rfl
  have e5 : Ieee.double.signWeight = 9223372036854775808 := rfl
  show (Ieee.double.read _).isNaN = true
  unfold Ieee.Format.read
  simp only [e1, e2, e3, e5]
  rw [if_neg (by omega), if_neg (by omega), if_neg (by omega)]
  rfl

theorem fl_nan (b : Nat) (hb : b < 4294967296) (h : 2139095040 < b % 2147483648) (w1 w2 : World) (r : Nat) (hr : FlS (cval .f32 .f64 b w1) r) : tob (cval .f64 .f32 r w2) = 2143289344 := by
  have hn : (FloatKind.f32.decode b).isNaN = true := by
    have := read32_nan b hb
    rw [decide_eq_true h] at this
    exact this
  have e1 : floatToFloatBits .f32 b .f64 = none := by
    unfold floatToFloatBits
    rw [if_neg (by decide)]
    cases hd : FloatKind.f32.decode b with
    | nan s t => rfl
    | number s m i => rw [hd] at hn; cases hn
    | infinity s => rw [hd] at hn; cases hn
  have hx : (FloatKind.f64.decode (cval .f32 .f64 b w1)).isNaN = true := by
    unfold cval cq
    rw [e1, if_pos hn]
    exact nan64 _ b
  have hrn : (FloatKind.f64.decode r).isNaN = true := by
    unfold FlS at hr
    cases hd : FloatKind.f64.decode (cval .f32 .f64 b w1) with
    | nan s t => rw [hd] at hr; exact hr
    | number s m i => rw [hd] at hx; cases hx
    | infinity s => rw [hd] at hx; cases hx
  have e2 : floatToFloatBits .f64 r .f32 = none := by
    unfold floatToFloatBits
    rw [if_neg (by decide)]
    cases hd : FloatKind.f64.decode r with
    | nan s t => rfl
    | number s m i => rw [hd] at hrn; cases hrn
    | infinity s => rw [hd] at hrn; cases hrn
  unfold cval cq
  rw [e2, if_pos hrn]
  exact nan_cut _ r r

/-- What Floor gives of an element of Float. -/
def flB (b : Nat) : Int := if 2139095040 < b % 2147483648 then 2143289344 else (flW b : Int)
def flT (x : Int) : Int := flB (fb x)

theorem flW_fin (b : Nat) (hb : b < 4294967296) (h : b % 2147483648 < 2139095040) : flW b < 4294967296 ∧ flW b % 2147483648 < 2139095040 ∧ flW (flW b) = flW b := by
  obtain ⟨m, i, hd, hm, i1, i2⟩ := dec32_fin b hb h
  generalize decide (2147483648 ≤ b) = s at hd
  have eW : flW b = Ieee.single.nearest s (fl s m i) 0 := by unfold flW; rw [hd]
  obtain ⟨a, k, e1, ha, hk⟩ := fl_digits s m i hm i2
  rw [eW, e1]
  have wd : ∀ r, r < 2139095040 → Ieee.single.word s r < 4294967296 ∧ Ieee.single.word s r % 2147483648 < 2139095040 := by
    intro r hr
    have e5 : Ieee.single.signWeight = 2147483648 := rfl
    unfold Ieee.Format.word
    rw [e5]
    cases s with
    | false => rw [if_neg (by decide)]; omega
    | true => rw [if_pos rfl]; omega
  by_cases h0 : a = 0
  · subst h0
    rw [Nat.zero_mul, near_nil]
    obtain ⟨d1, d2⟩ := wd 0 (by omega)
    refine ⟨d1, d2, ?_⟩
    unfold flW
    rw [read32_nil]
    simp only [fl_zero, near_nil]
  · have e4 := nearest_scaled Ieee.single s a k 0 h0
    rw [Int.zero_add] at e4
    obtain ⟨n1, r, n2, n3⟩ := near32 s a k h0 ha (by omega) (by omega)
    have hw := wd r n3
    rw [e4]
    refine ⟨by rw [n2]; exact hw.1, by rw [n2]; exact hw.2, ?_⟩
    have n4 : FloatKind.f32.decode (Ieee.single.nearest s a k) = .number s (a * 2 ^ (23 - a.log2)) ((k : Int) - (23 - a.log2 : Nat)) := n1
    unfold flW
    rw [n4]
    simp only
    have e6 := fl_scaled s a (23 - a.log2) ((k : Int) - (23 - a.log2 : Nat)) h0
    rw [show (k : Int) - ((23 - a.log2 : Nat) : Int) + ((23 - a.log2 : Nat) : Int) = k from by omega] at e6
    rw [e6, fl_whole s a k (by omega), Int.toNat_natCast, e4]

theorem fb_nat (b : Nat) (hb : b < 4294967296) : fb (b : Int) = b := by unfold fb; omega

theorem flT_twice (x : Int) (hx : chk 1 x = true) : chk 1 (flT x) = true ∧ flT (flT x) = flT x := by
  have hb := fb_lt x
  unfold flT flB
  by_cases h1 : 2139095040 < fb x % 2147483648
  · rw [if_pos h1]
    exact ⟨by decide, by decide +kernel⟩
  · rw [if_neg h1]
    by_cases h2 : fb x % 2147483648 = 2139095040
    · obtain ⟨s, hd, he⟩ := inf_dec (fb x) hb h2
      have eW : flW (fb x) = fb x := by unfold flW; rw [hd]
      rw [eW, fb_nat _ hb, if_neg h1, eW]
      refine ⟨?_, rfl⟩
      have := fb_of x hx
      rw [this]; exact hx
    · obtain ⟨f1, f2, f3⟩ := flW_fin (fb x) hb (by omega)
      rw [fb_nat _ f1, if_neg (by omega), f3]
      refine ⟨?_, rfl⟩
      rw [chk_float 1 _ rfl]
      simp
      omega
end Go.Proofs.YteigfipgmghgmaaGreatDoor.Nu
