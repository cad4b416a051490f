/- Plain facts on what is the same in either order, and on less and greater. Nothing here names the program. -/
import Derived.Test.YteigfipgmghgmaaGreatDoorNuPlainM
namespace Go.Proofs.YteigfipgmghgmaaGreatDoor.Nu
open Go.RowKit

theorem cmp_swap (a b : Int) : compare b a = (compare a b).swap := by
  rcases Int.lt_trichotomy a b with h | h | h
  · rw [cmp_lt h, cmp_gt h]; rfl
  · rw [cmp_eq h, cmp_eq h.symm]; rfl
  · rw [cmp_gt h, cmp_lt h]; rfl

theorem cmpN_swap (a b : Nat) : compare b a = (compare a b).swap := by
  rcases Nat.lt_trichotomy a b with h | h | h
  · simp [compare, compareOfLessAndEq, h, show ¬ b < a from by omega, show ¬ b = a from by omega]
  · subst h; simp [compare, compareOfLessAndEq]
  · simp [compare, compareOfLessAndEq, h, show ¬ a < b from by omega, show ¬ a = b from by omega]

theorem datum_swap (x y : Ieee.Datum) : y.order x = (x.order y).map Ordering.swap := by
  cases x with
  | nan s t => cases y <;> rfl
  | infinity s => cases y with
    | nan => rfl
    | infinity t => cases s <;> cases t <;> rfl
    | number => cases s <;> rfl
  | number s m i => cases y with
    | nan => rfl
    | infinity t => cases t <;> rfl
    | number t n j =>
      simp only [Ieee.Datum.order, Option.map]
      rw [Int.min_comm j i, cmp_swap]

theorem ord_swap (x y : Nat) : ord y x = (ord x y).map Ordering.swap := datum_swap _ _

theorem sum_comm (x y : Ieee.Datum) : x.sum y = y.sum x := by
  cases x with
  | nan s t => cases y <;> rfl
  | infinity s => cases y with
    | nan => rfl
    | infinity t => cases s <;> cases t <;> rfl
    | number => rfl
  | number s m i => cases y with
    | nan => rfl
    | infinity t => rfl
    | number t n j =>
      simp only [Ieee.Datum.sum]
      rw [Int.min_comm j i, Int.add_comm, Bool.and_comm]

theorem product_comm (x y : Ieee.Datum) : x.product y = y.product x := by
  cases x with
  | nan s t => cases y <;> rfl
  | infinity s => cases y with
    | nan => rfl
    | infinity t => cases s <;> cases t <;> rfl
    | number => rfl
  | number s m i => cases y with
    | nan => rfl
    | infinity t => rfl
    | number t n j =>
      simp only [Ieee.Datum.product]
      rw [Nat.mul_comm, Int.add_comm, Bool.xor_comm]

/-- The number of a rung, in units of the least one. -/
def val (r : Nat) : Nat := if r < 8388608 then r else (8388608 + r % 8388608) * 2 ^ (r / 8388608 - 1)

theorem val_lo (r : Nat) (h : 8388608 ≤ r) : 2 ^ (22 + r / 8388608) ≤ val r := by
  unfold val; rw [if_neg (by omega)]
  have e : 22 + r / 8388608 = 23 + (r / 8388608 - 1) := by omega
  rw [e, Nat.pow_add]
  exact Nat.mul_le_mul_right _ (by omega)

theorem val_hi (r : Nat) : val r < 2 ^ (23 + r / 8388608) := by
  unfold val
  by_cases h : r < 8388608
  · rw [if_pos h, show r / 8388608 = 0 from by omega]; omega
  · rw [if_neg h]
    have e : 23 + r / 8388608 = 24 + (r / 8388608 - 1) := by omega
    rw [e, Nat.pow_add]
    exact Nat.mul_lt_mul_of_pos_right (by have := Nat.mod_lt r (show 0 < 8388608 by decide); omega) (Nat.two_pow_pos _)

theorem val_lt (r s : Nat) (h : r < s) : val r < val s := by
  by_cases he : r / 8388608 = s / 8388608
  · unfold val
    by_cases h1 : s < 8388608
    · rw [if_pos (by omega), if_pos h1]; exact h
    · rw [if_neg (by omega), if_neg h1, he]
      exact Nat.mul_lt_mul_of_pos_right (by omega) (Nat.two_pow_pos _)
  · have hlt : r / 8388608 < s / 8388608 := by omega
    have h1 := val_hi r
    have h2 := val_lo s (by omega)
    have h3 : 2 ^ (23 + r / 8388608) ≤ 2 ^ (22 + s / 8388608) := Nat.pow_le_pow_right (by decide) (by omega)
    omega

theorem val_inj (r s : Nat) (h : val r = val s) : r = s := by
  rcases Nat.lt_trichotomy r s with h1 | h1 | h1
  · have := val_lt r s h1; omega
  · exact h1
  · have := val_lt s r h1; omega

/-- A finite rung's number, in units of the least one. -/
theorem rdm_num (s : Bool) (r : Nat) (h : r < 2139095040) : ∃ (m : Nat) (d : Nat), rdm s r = .number s m (-149 + (d : Int)) ∧ val r = m * 2 ^ d := by
  unfold rdm val
  by_cases h1 : r < 8388608
  · rw [if_pos h1, if_pos h1]; exact ⟨r, 0, by simp, by simp⟩
  · rw [if_neg h1, if_neg h1, if_pos h]; exact ⟨_, r / 8388608 - 1, rfl, rfl⟩

theorem scaled (m n d e : Nat) (b : Int) (hb : b = min (-149 + (d : Int)) (-149 + (e : Int))) :
    ∃ k : Nat, m * 2 ^ d = (m <<< (-149 + (d : Int) - b).toNat) * 2 ^ k ∧ n * 2 ^ e = (n <<< (-149 + (e : Int) - b).toNat) * 2 ^ k := by
  refine ⟨(b + 149).toNat, ?_, ?_⟩
  · rw [Nat.shiftLeft_eq, Nat.mul_assoc, ← Nat.pow_add]; congr 2; omega
  · rw [Nat.shiftLeft_eq, Nat.mul_assoc, ← Nat.pow_add]; congr 2; omega

/-- Two finite words of one sign are ordered as their numbers are. -/
theorem order_same (s : Bool) (r t : Nat) (hr : r < 2139095040) (ht : t < 2139095040) : (rdm s r).order (rdm s t) = some (if s then compare (val t : Int) (val r) else compare (val r : Int) (val t)) := by
  obtain ⟨m, d, e1, v1⟩ := rdm_num s r hr
  obtain ⟨n, e, e2, v2⟩ := rdm_num s t ht
  rw [e1, e2, v1, v2]
  simp only [Ieee.Datum.order, Option.some.injEq, Ieee.signed]
  obtain ⟨k, h1, h2⟩ := scaled m n d e _ rfl
  rw [h1, h2]
  generalize m <<< (-149 + (d : Int) - min (-149 + (d : Int)) (-149 + (e : Int))).toNat = a
  generalize n <<< (-149 + (e : Int) - min (-149 + (d : Int)) (-149 + (e : Int))).toNat = b
  have pk : 0 < 2 ^ k := Nat.two_pow_pos k
  have key : ∀ a b : Nat, compare (a : Int) b = compare ((a * 2 ^ k : Nat) : Int) ((b * 2 ^ k : Nat) : Int) := by
    intro a b
    rcases Nat.lt_trichotomy a b with h | h | h
    · have := Nat.mul_lt_mul_of_pos_right h pk
      rw [cmp_lt (by omega), cmp_lt (by omega)]
    · subst h; rw [cmp_eq rfl, cmp_eq rfl]
    · have := Nat.mul_lt_mul_of_pos_right h pk
      rw [cmp_gt (by omega), cmp_gt (by omega)]
  cases s with
  | false => exact key a b
  | true =>
    have : compare (-(a : Int)) (-(b : Int)) = compare (b : Int) a := by
      rcases Int.lt_trichotomy (a : Int) b with h | h | h
      · rw [cmp_gt (by omega), cmp_gt (by omega)]
      · rw [cmp_eq (by omega), cmp_eq (by omega)]
      · rw [cmp_lt (by omega), cmp_lt (by omega)]
    simp only [if_true]
    rw [this]; exact key b a

/-- Two words of one sign that are equal as numbers are the same. -/
theorem order_eq_same (s : Bool) (r t : Nat) (hr : r ≤ 2139095040) (ht : t ≤ 2139095040) (h : (rdm s r).order (rdm s t) = some .eq) : r = t := by
  have inf : ∀ s : Bool, rdm s 2139095040 = .infinity s := fun s => by simp [rdm]
  have key : ∀ p q : Int, compare p q = .eq → p = q := by
    intro p q hpq
    rcases Int.lt_trichotomy p q with h | h | h
    · rw [cmp_lt h] at hpq; cases hpq
    · exact h
    · rw [cmp_gt h] at hpq; cases hpq
  by_cases h1 : r = 2139095040
  · by_cases h2 : t = 2139095040
    · omega
    · obtain ⟨n, e, e2, _⟩ := rdm_num s t (by omega)
      rw [h1, inf, e2] at h
      cases s <;> simp [Ieee.Datum.order] at h
  · by_cases h2 : t = 2139095040
    · obtain ⟨n, e, e2, _⟩ := rdm_num s r (by omega)
      rw [h2, inf, e2] at h
      cases s <;> simp [Ieee.Datum.order] at h
    · rw [order_same s r t (by omega) (by omega)] at h
      simp only [Option.some.injEq] at h
      cases s
      · exact val_inj _ _ (by have := key _ _ h; omega)
      · exact (val_inj _ _ (by have := key _ _ h; omega)).symm

theorem eq_sign (x y : Int) (hx : chk 1 x = true) (hy : chk 1 y = true) (h : ord (fb x) (fb y) = some .eq) (hs : decide (2147483648 ≤ fb x) = decide (2147483648 ≤ fb y)) : x = y := by
  have hlx := fb_lt x
  have hly := fb_lt y
  have fx := fb_of x hx
  have fy := fb_of y hy
  have hnn : ¬ (x = 2143289344 ∨ y = 2143289344) := by
    intro hh; rw [(ord_none x y hx hy).2 hh] at h; cases h
  have nx : fb x % 2147483648 ≤ 2139095040 := by
    have := not_nan x hx
    rw [read32_nan _ hlx] at this
    simp at this; omega
  have ny : fb y % 2147483648 ≤ 2139095040 := by
    have := not_nan y hy
    rw [read32_nan _ hly] at this
    simp at this; omega
  unfold ord Ieee.Format.order at h
  rw [read_eq _ hlx, read_eq _ hly, hs] at h
  have := order_eq_same _ _ _ nx ny h
  simp at hs
  omega

theorem neg_flag (x : Int) : (FloatKind.f32.decode (fb x)).neg = decide (2147483648 ≤ fb x) := by
  show (FloatKind.f32.format.read (fb x)).neg = _
  rw [read_eq _ (fb_lt x), rdm_sign]

theorem maxF_comm (x y : Int) (hx : chk 1 x = true) (hy : chk 1 y = true) : maxF (fb x) (fb y) = maxF (fb y) (fb x) := by
  unfold maxF
  rw [ord_swap (fb x) (fb y)]
  cases h : ord (fb x) (fb y) with
  | none => rfl
  | some c =>
    cases c with
    | lt => rfl
    | gt => rfl
    | eq =>
      simp only [Option.map, Ordering.swap, neg_flag]
      by_cases hs : decide (2147483648 ≤ fb x) = decide (2147483648 ≤ fb y)
      · have := eq_sign x y hx hy h hs
        subst this; rfl
      · cases h1 : decide (2147483648 ≤ fb x) <;> cases h2 : decide (2147483648 ≤ fb y) <;> simp_all

theorem minF_comm (x y : Int) (hx : chk 1 x = true) (hy : chk 1 y = true) : minF (fb x) (fb y) = minF (fb y) (fb x) := by
  unfold minF
  rw [ord_swap (fb x) (fb y)]
  cases h : ord (fb x) (fb y) with
  | none => rfl
  | some c =>
    cases c with
    | lt => rfl
    | gt => rfl
    | eq =>
      simp only [Option.map, Ordering.swap, neg_flag]
      by_cases hs : decide (2147483648 ≤ fb x) = decide (2147483648 ≤ fb y)
      · have := eq_sign x y hx hy h hs
        subst this; rfl
      · cases h1 : decide (2147483648 ≤ fb x) <;> cases h2 : decide (2147483648 ≤ fb y) <;> simp_all

/-- Which operators go in either order. -/
theorem turns_all (k : Nat) (t x y : Int) (hk : k = 0 ∨ k = 2 ∨ k = 4 ∨ k = 5 ∨ k = 6 ∨ k = 7 ∨ k = 8 ∨ k = 9) : bin k t y x = bin k t x y := by
  cases hx : chk t x with
  | false => simp [bin, hx]
  | true =>
    cases hy : chk t y with
    | false => simp [bin, hy]
    | true =>
      by_cases h1 : t = 1
      · subst h1
        have e : ∀ a b : Int, chk 1 a = true → chk 1 b = true → bin k 1 a b = binFl k (fb a) (fb b) := fun a b ha hb => by simp [bin, ha, hb]
        rw [e _ _ hy hx, e _ _ hx hy]
        rcases hk with rfl | rfl | rfl | rfl | rfl | rfl | rfl | rfl
        · simp only [binFl]; congr 2
          show ((FloatKind.f32.format.read (fb y)).sum (FloatKind.f32.format.read (fb x))).map _ = ((FloatKind.f32.format.read (fb x)).sum (FloatKind.f32.format.read (fb y))).map _
          rw [sum_comm]
        · simp only [binFl]; congr 2
          show ((FloatKind.f32.format.read (fb y)).product (FloatKind.f32.format.read (fb x))).map _ = ((FloatKind.f32.format.read (fb x)).product (FloatKind.f32.format.read (fb y))).map _
          rw [product_comm]
        · simp only [binFl]; rw [maxF_comm y x hy hx]
        · simp only [binFl]; rw [minF_comm y x hy hx]
        · rfl
        · rfl
        · rfl
        · simp only [binFl]
          rw [ord_swap (fb x) (fb y)]
          cases ord (fb x) (fb y) with
          | none => rfl
          | some c => cases c <;> rfl
      · by_cases h9 : t = 9
        · subst h9
          have e : ∀ a b : Int, chk 9 a = true → chk 9 b = true → bin k 9 a b = binBo k a b := fun a b ha hb => by simp [bin, ha, hb]
          rw [e _ _ hy hx, e _ _ hx hy]
          have hm : y * x = x * y := Int.mul_comm y x
          have hb : (y == x) = (x == y) := by rw [Bool.eq_iff_iff]; simp; exact eq_comm
          rcases hk with rfl | rfl | rfl | rfl | rfl | rfl | rfl | rfl <;> simp only [binBo, hm, hb, Int.add_comm y x]
        · have e : ∀ a b : Int, chk t a = true → chk t b = true → bin k t a b = binIn k t a b := fun a b ha hb => by simp [bin, ha, hb, h1, h9]
          rw [e _ _ hy hx, e _ _ hx hy]
          have hb : (y == x) = (x == y) := by rw [Bool.eq_iff_iff]; simp; exact eq_comm
          have hM : maxI y x = maxI x y := by unfold maxI; split <;> split <;> omega
          have hN : minI y x = minI x y := by unfold minI; split <;> split <;> omega
          rcases hk with rfl | rfl | rfl | rfl | rfl | rfl | rfl | rfl <;> simp only [binIn, hb, hM, hN, Int.add_comm y x, Int.mul_comm y x]

/-- What the statement on Less, Greater and Equal asks. -/
theorem less_all (t x y : Int) : ((bin 10 t x y).2 = 1 ∧ (bin 11 t x y).2 = 1 ∧ (bin 10 t y x).2 = 1) ∨
    ((bin 10 t x y).2 = 0 ∧ (bin 11 t x y).2 = 0 ∧ (bin 9 t x y).2 = 0 ∧ (bin 10 t y x).2 = 0 ∧ (bin 10 t y x).1 = (bin 11 t x y).1 ∧
      (((bin 10 t x y).1 = 1 ∧ (bin 11 t x y).1 = 0 ∧ (bin 9 t x y).1 = 0) ∨ ((bin 10 t x y).1 = 0 ∧ (bin 11 t x y).1 = 1 ∧ (bin 9 t x y).1 = 0) ∨ ((bin 10 t x y).1 = 0 ∧ (bin 11 t x y).1 = 0 ∧ (bin 9 t x y).1 = 1) ∨
        ((bin 10 t x y).1 = 0 ∧ (bin 11 t x y).1 = 0 ∧ (bin 9 t x y).1 = 0 ∧ t = 1 ∧ (x = 2143289344 ∨ y = 2143289344)))) := by
  cases hx : chk t x with
  | false => left; simp [bin, hx]
  | true =>
    cases hy : chk t y with
    | false => left; simp [bin, hy]
    | true =>
      by_cases h1 : t = 1
      · subst h1
        right
        have e : ∀ k, ∀ a b : Int, chk 1 a = true → chk 1 b = true → bin k 1 a b = binFl k (fb a) (fb b) := fun k a b ha hb => by simp [bin, ha, hb]
        rw [e _ _ _ hx hy, e _ _ _ hx hy, e _ _ _ hx hy, e _ _ _ hy hx]
        simp only [binFl]
        rw [ord_swap (fb x) (fb y)]
        cases h : ord (fb x) (fb y) with
        | none => refine ⟨?_, ?_, ?_, ?_, ?_, .inr (.inr (.inr ⟨?_, ?_, ?_, ?_, (ord_none x y hx hy).1 h⟩))⟩ <;> first | exact trivial | rfl
        | some c =>
          cases c with
          | lt => refine ⟨?_, ?_, ?_, ?_, ?_, .inl ⟨?_, ?_, ?_⟩⟩ <;> first | exact trivial | rfl
          | gt => refine ⟨?_, ?_, ?_, ?_, ?_, .inr (.inl ⟨?_, ?_, ?_⟩)⟩ <;> first | exact trivial | rfl
          | eq => refine ⟨?_, ?_, ?_, ?_, ?_, .inr (.inr (.inl ⟨?_, ?_, ?_⟩))⟩ <;> first | exact trivial | rfl
      · by_cases h9 : t = 9
        · subst h9; left; simp [bin, hx, hy, binBo]
        · right
          have e : ∀ k, ∀ a b : Int, chk t a = true → chk t b = true → bin k t a b = binIn k t a b := fun k a b ha hb => by simp [bin, ha, hb, h1, h9]
          rw [e _ _ _ hx hy, e _ _ _ hx hy, e _ _ _ hx hy, e _ _ _ hy hx]
          simp only [binIn]
          rcases Int.lt_trichotomy x y with h | h | h
          · rw [decide_eq_true h, decide_eq_false (show ¬ y < x by omega), show (x == y) = false from by simp; omega]
            refine ⟨?_, ?_, ?_, ?_, ?_, .inl ⟨?_, ?_, ?_⟩⟩ <;> first | exact trivial | rfl
          · subst h
            rw [decide_eq_false (show ¬ x < x by omega), show (x == x) = true from by simp]
            refine ⟨?_, ?_, ?_, ?_, ?_, .inr (.inr (.inl ⟨?_, ?_, ?_⟩))⟩ <;> first | exact trivial | rfl
          · rw [decide_eq_true h, decide_eq_false (show ¬ x < y by omega), show (x == y) = false from by simp; omega]
            refine ⟨?_, ?_, ?_, ?_, ?_, .inr (.inl ⟨?_, ?_, ?_⟩)⟩ <;> first | exact trivial | rfl
end Go.Proofs.YteigfipgmghgmaaGreatDoor.Nu
