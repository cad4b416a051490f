/- Plain facts on the greater and the less one, and on Abs and Relu. Nothing here names the program. -/
import Derived.Test.YteigfipgmghgmaaGreatDoorNuPlainL
namespace Go.Proofs.YteigfipgmghgmaaGreatDoor.Nu
open Go.RowKit

theorem ints_of (t x : Int) (h : chk t x = true) (h1 : ¬ t = 1) (h9 : ¬ t = 9) : t = 6 ∨ t = 7 := by
  unfold chk at h; rw [if_neg h1] at h
  by_cases h6 : t = 6
  · exact .inl h6
  · by_cases h7 : t = 7
    · exact .inr h7
    · rw [if_neg h6, if_neg h7, if_neg h9] at h; cases h

theorem wrapT_id (t x : Int) (h : chk t x = true) (ht : t = 6 ∨ t = 7) : wrapT t x = x := by
  rcases ht with rfl | rfl
  · have : -2147483648 ≤ x ∧ x ≤ 2147483647 := by simpa [chk] using h
    simp only [wrapT, if_true]; unfold wrap64 wrap32; omega
  · rfl

theorem both_all (t x y : Int) : ((bin 4 t x y).2 = 1 ∧ (bin 5 t x y).2 = 1) ∨
    ((bin 4 t x y).2 = 0 ∧ (bin 5 t x y).2 = 0 ∧
      ((t = 1 ∧ (x = 2143289344 ∨ y = 2143289344) ∧ (bin 4 t x y).1 = 2143289344 ∧ (bin 5 t x y).1 = 2143289344) ∨
       (¬ (t = 1 ∧ (x = 2143289344 ∨ y = 2143289344)) ∧ ((bin 4 t x y).1 = x ∧ (bin 5 t x y).1 = y ∨ (bin 4 t x y).1 = y ∧ (bin 5 t x y).1 = x)))) := by
  cases hx : chk t x with
  | false => left; simp [bin, hx]
  | true =>
    cases hy : chk t y with
    | false => left; simp [bin, hy]
    | true =>
      by_cases h1 : t = 1
      · subst h1
        right
        have e4 : bin 4 1 x y = (maxF (fb x) (fb y), 0) := by simp [bin, hx, hy, binFl]
        have e5 : bin 5 1 x y = (minF (fb x) (fb y), 0) := by simp [bin, hx, hy, binFl]
        rw [e4, e5]
        refine ⟨rfl, rfl, ?_⟩
        have tx := tob_fb x hx
        have ty := tob_fb y hy
        cases h : ord (fb x) (fb y) with
        | none =>
          left
          exact ⟨rfl, (ord_none x y hx hy).1 h, by simp [maxF, h], by simp [minF, h]⟩
        | some c =>
          right
          refine ⟨fun hh => ?_, ?_⟩
          · rw [(ord_none x y hx hy).2 hh.2] at h; cases h
          · cases c with
            | lt => right; exact ⟨by simp [maxF, h, ty], by simp [minF, h, tx]⟩
            | gt => left; exact ⟨by simp [maxF, h, tx], by simp [minF, h, ty]⟩
            | eq =>
              cases hn : (FloatKind.f32.decode (fb x)).neg with
              | true => right; exact ⟨by simp [maxF, h, hn, ty], by simp [minF, h, hn, tx]⟩
              | false => left; exact ⟨by simp [maxF, h, hn, tx], by simp [minF, h, hn, ty]⟩
      · by_cases h9 : t = 9
        · subst h9; left; simp [bin, hx, hy, binBo]
        · right
          have ht := ints_of t x hx h1 h9
          have e4 : bin 4 t x y = (wrapT t (maxI x y), 0) := by simp [bin, hx, hy, h1, h9, binIn]
          have e5 : bin 5 t x y = (wrapT t (minI x y), 0) := by simp [bin, hx, hy, h1, h9, binIn]
          rw [e4, e5]
          refine ⟨rfl, rfl, .inr ⟨fun hh => h1 hh.1, ?_⟩⟩
          have wx := wrapT_id t x hx ht
          have wy := wrapT_id t y hy ht
          simp only [maxI, minI]
          by_cases hlt : x < y
          · right; rw [if_pos hlt, if_neg (by omega)]; exact ⟨wy, wx⟩
          · left; rw [if_neg hlt]
            by_cases hgt : y < x
            · rw [if_pos hgt]; exact ⟨wx, wy⟩
            · rw [if_neg hgt]; have : x = y := by omega
              subst this; exact ⟨wx, wx⟩

theorem cmp_lt {a b : Int} (h : a < b) : compare a b = .lt := by simp [compare, compareOfLessAndEq, h]
theorem cmp_gt {a b : Int} (h : b < a) : compare a b = .gt := by
  have h1 : ¬ a < b := by omega
  have h2 : ¬ a = b := by omega
  simp [compare, compareOfLessAndEq, h1, h2]
theorem cmp_eq {a b : Int} (h : a = b) : compare a b = .eq := by simp [compare, compareOfLessAndEq, h]

theorem num_opp (s : Bool) (m : Nat) (i : Int) : (Ieee.Datum.number s m i).order (.number (!s) m i) = some (if m = 0 then .eq else if s then .lt else .gt) := by
  have e : (i - min i i).toNat = 0 := by omega
  simp only [Ieee.Datum.order, e, Ieee.signed, Nat.shiftLeft_zero]
  by_cases h : m = 0
  · subst h; cases s <;> rfl
  · rw [if_neg h]
    cases s
    · exact congrArg some (cmp_gt (by simp; omega))
    · exact congrArg some (cmp_lt (by simp; omega))

theorem num_zero (s : Bool) (m : Nat) (i j : Int) (h : j ≤ i) : (Ieee.Datum.number s m i).order (.number false 0 j) = some (if m = 0 then .eq else if s then .lt else .gt) := by
  have e : min i j = j := by omega
  have e0 : ∀ n : Nat, (0 : Nat) <<< n = 0 := fun n => Nat.zero_shiftLeft n
  simp only [Ieee.Datum.order, e, Ieee.signed, e0]
  generalize (i - j).toNat = n
  by_cases h : m = 0
  · subst h; rw [e0]; cases s <;> rfl
  · rw [if_neg h]
    have p : 0 < m <<< n := by rw [Nat.shiftLeft_eq]; exact Nat.mul_pos (by omega) (Nat.two_pow_pos _)
    cases s
    · exact congrArg some (cmp_gt (by simp only [Bool.false_eq_true, if_false]; omega))
    · exact congrArg some (cmp_lt (by simp only [if_true, Bool.false_eq_true, if_false]; omega))

/-- An element and it with the sign turned: how they stand to one another. -/
theorem order_opposite (s : Bool) (r : Nat) (h : r ≤ 2139095040) : (rdm s r).order (rdm (!s) r) = some (if r = 0 then .eq else if s then .lt else .gt) := by
  unfold rdm
  by_cases h1 : r < 8388608
  · rw [if_pos h1, if_pos h1, num_opp]
  · rw [if_neg h1, if_neg h1]
    by_cases h2 : r < 2139095040
    · rw [if_pos h2, if_pos h2, num_opp, if_neg (show ¬ 8388608 + r % 8388608 = 0 from by omega), if_neg (show ¬ r = 0 from by omega)]
    · rw [if_neg h2, if_neg h2, if_pos (by omega), if_pos (by omega), if_neg (by omega)]
      cases s <;> rfl

theorem rdm_sign (s : Bool) (r : Nat) : (rdm s r).neg = s := by
  unfold rdm
  split
  · rfl
  · split
    · rfl
    · split <;> rfl

theorem abs_f_max (x : Int) (hx : chk 1 x = true) : tob (absF (fb x)) = maxF (fb x) (fb (tob (negF (fb x)))) := by
  have hl := fb_lt x
  have hb := fb_of x hx
  by_cases hN : x = 2143289344
  · subst hN; decide +kernel
  · have hn : (FloatKind.f32.format.read (fb x)).isNaN = false := by rw [not_nan x hx]; simpa using hN
    rw [fb_tob _ (negF_lt _ hl) (by rw [neg_nan _ hl]; exact hn)]
    have hr : fb x % 2147483648 ≤ 2139095040 := by
      rw [read32_nan _ hl] at hn; simp at hn; exact hn
    have ho : ord (fb x) (negF (fb x)) = some (if fb x % 2147483648 = 0 then .eq else if decide (2147483648 ≤ fb x) then .lt else .gt) := by
      unfold ord Ieee.Format.order
      rw [read_neg _ hl, read_eq _ hl, rdm_opposite]
      exact order_opposite _ _ hr
    have hneg : (FloatKind.f32.decode (fb x)).neg = decide (2147483648 ≤ fb x) := by
      show (FloatKind.f32.format.read (fb x)).neg = _
      rw [read_eq _ hl, rdm_sign]
    have ha : absF (fb x) = if 2147483648 ≤ fb x then negF (fb x) else fb x := by
      unfold absF; rw [xor_top _ hl]; split
      · rw [if_neg (by omega)]; omega
      · omega
    unfold maxF
    rw [ho, hneg, ha]
    by_cases h0 : fb x % 2147483648 = 0 <;> by_cases hs : 2147483648 ≤ fb x <;> simp [h0, hs]

theorem order_zero (s : Bool) (r : Nat) (h : r ≤ 2139095040) : (rdm s r).order (.number false 0 (-149)) = some (if r = 0 then .eq else if s then .lt else .gt) := by
  unfold rdm
  by_cases h1 : r < 8388608
  · rw [if_pos h1, num_zero _ _ _ _ (by omega)]
  · rw [if_neg h1]
    by_cases h2 : r < 2139095040
    · rw [if_pos h2, num_zero _ _ _ _ (by omega), if_neg (show ¬ 8388608 + r % 8388608 = 0 from by omega), if_neg (show ¬ r = 0 from by omega)]
    · rw [if_neg h2, if_pos (by omega), if_neg (by omega)]
      cases s <;> rfl

theorem relu_f_max (x : Int) (hx : chk 1 x = true) : tob (reluF (fb x)) = maxF (fb x) (fb 0) := by
  have hl := fb_lt x
  by_cases hN : x = 2143289344
  · subst hN; decide +kernel
  · have hn : (FloatKind.f32.format.read (fb x)).isNaN = false := by rw [not_nan x hx]; simpa using hN
    have hr : fb x % 2147483648 ≤ 2139095040 := by
      rw [read32_nan _ hl] at hn; simp at hn; exact hn
    have e0 : fb 0 = 0 := by decide
    have z : FloatKind.f32.format.read 0 = .number false 0 (-149) := rfl
    have ho : FloatKind.f32.format.order (fb x) 0 = some (if fb x % 2147483648 = 0 then .eq else if decide (2147483648 ≤ fb x) then .lt else .gt) := by
      unfold Ieee.Format.order
      rw [read_eq _ hl, z]
      exact order_zero _ _ hr
    have hs : FloatKind.f32.format.order (fb x) (fb x) = some .eq := by rw [order_self, hn]; rfl
    have hneg : (FloatKind.f32.decode (fb x)).neg = decide (2147483648 ≤ fb x) := by
      show (FloatKind.f32.format.read (fb x)).neg = _
      rw [read_eq _ hl, rdm_sign]
    have t0 : tob 0 = 0 := by decide +kernel
    rw [e0]
    unfold maxF reluF ord
    rw [ho, hs, hneg]
    by_cases h0 : fb x % 2147483648 = 0 <;> by_cases hb : 2147483648 ≤ fb x <;> simp [h0, hb, t0]
    have : fb x = 0 := by omega
    rw [this, t0]

theorem absI_max (t x : Int) (hx : chk t x = true) (ht : t = 6 ∨ t = 7) (hw : -9223372036854775808 ≤ x ∧ x ≤ 9223372036854775807) : absI t x = wrapT t (maxI x (wrapT t (wrap64 (-x)))) := by
  rcases ht with rfl | rfl
  · have : -2147483648 ≤ x ∧ x ≤ 2147483647 := by simpa [chk] using hx
    simp only [absI, wrapT, maxI, if_true]
    unfold wrap64 wrap32
    split <;> split <;> omega
  · simp only [absI, wrapT, maxI, show ¬ (7 : Int) = 6 from by decide, if_false]
    unfold wrap64
    split <;> split <;> omega

theorem abs_all (t x : Int) (hw : -9223372036854775808 ≤ x ∧ x ≤ 9223372036854775807) :
    ((un 2 t x).2 = 1 ∧ (un 1 t x).2 = 1) ∨
    ((un 2 t x).2 = 0 ∧ (un 1 t x).2 = 0 ∧ (bin 4 t x (un 1 t x).1).2 = 0 ∧ (bin 4 t x (un 1 t x).1).1 = (un 2 t x).1 ∧
      ((un 4 t x).2 = 1 ∨ (un 4 t x).2 = 0 ∧ (bin 4 t x 0).2 = 0 ∧ (bin 4 t x 0).1 = (un 4 t x).1)) := by
  cases hx : chk t x with
  | false => left; simp [un, hx]
  | true =>
    by_cases h1 : t = 1
    · subst h1
      right
      have e2 : un 2 1 x = (tob (absF (fb x)), 0) := by simp [un, hx, unFl]
      have e1 : un 1 1 x = (tob (negF (fb x)), 0) := by simp [un, hx, unFl]
      have e4 : bin 4 1 x (tob (negF (fb x))) = (maxF (fb x) (fb (tob (negF (fb x)))), 0) := by simp [bin, hx, neg_val x, binFl]
      have e5 : un 4 1 x = (tob (reluF (fb x)), 0) := by simp [un, hx, unFl]
      have c0 : chk 1 0 = true := by decide
      have e6 : bin 4 1 x 0 = (maxF (fb x) (fb 0), 0) := by simp [bin, hx, c0, binFl]
      rw [e2, e1]
      simp only [e4, e5, e6]
      exact ⟨trivial, trivial, trivial, (abs_f_max x hx).symm, .inr ⟨trivial, trivial, (relu_f_max x hx).symm⟩⟩
    · by_cases h9 : t = 9
      · subst h9; left; simp [un, hx, unBo]
      · right
        have ht := ints_of t x hx h1 h9
        have e2 : un 2 t x = (absI t x, 0) := by simp [un, hx, h1, h9, unIn]
        have e1 : un 1 t x = (wrapT t (wrap64 (-x)), 0) := by simp [un, hx, h1, h9, unIn]
        have e4 : bin 4 t x (wrapT t (wrap64 (-x))) = (wrapT t (maxI x (wrapT t (wrap64 (-x)))), 0) := by simp [bin, hx, wrapT_chk t _ ht, h1, h9, binIn]
        have e5 : (un 4 t x).2 = 1 := by simp [un, hx, h1, h9, unIn]
        rw [e2, e1]
        simp only [e4, e5]
        exact ⟨trivial, trivial, trivial, (absI_max t x hx ht hw).symm, .inl trivial⟩
end Go.Proofs.YteigfipgmghgmaaGreatDoor.Nu
