/- Plain facts by which the document's own answers are those of package num. Nothing here names the program. -/
import Derived.Test.YteigfipgmghgmaaGreatDoorNuPlainN
namespace Go.Proofs.YteigfipgmghgmaaGreatDoor.Nu
open Go.RowKit

theorem rchk1 (x : Int) (h0 : 0 ≤ x) (h1 : x < 4294967296) : chk 1 x = ((FloatKind.f32.format.order (fb x) (fb x) == some .eq) || x == 2143289344) := by
  rw [order_self, read32_nan _ (fb_lt x), chk_float 1 x rfl]
  have hf : (fb x : Int) = x := by unfold fb; omega
  by_cases hn : 2139095040 < fb x % 2147483648
  · rw [decide_eq_true hn]
    rw [Bool.eq_iff_iff]; simp; omega
  · rw [decide_eq_false hn]
    rw [Bool.eq_iff_iff]; simp; omega

theorem zero_iff (x : Int) (hx : chk 1 x = true) : (FloatKind.f32.format.order (fb x) 0 == some .eq) = decide (x = 0 ∨ x = 2147483648) := by
  have hl := fb_lt x
  have hf := fb_of x hx
  by_cases hN : x = 2143289344
  · subst hN; decide +kernel
  · have hn : (FloatKind.f32.format.read (fb x)).isNaN = false := by rw [not_nan x hx]; simpa using hN
    have hr : fb x % 2147483648 ≤ 2139095040 := by
      rw [read32_nan _ hl] at hn; simp at hn; exact hn
    have z : FloatKind.f32.format.read 0 = .number false 0 (-149) := rfl
    have ho : FloatKind.f32.format.order (fb x) 0 = some (if fb x % 2147483648 = 0 then .eq else if decide (2147483648 ≤ fb x) then .lt else .gt) := by
      unfold Ieee.Format.order
      rw [read_eq _ hl, z]
      exact order_zero _ _ hr
    rw [ho]
    by_cases h0 : fb x % 2147483648 = 0
    · rw [if_pos h0, decide_eq_true (show x = 0 ∨ x = 2147483648 by omega)]; rfl
    · rw [if_neg h0, decide_eq_false (show ¬ (x = 0 ∨ x = 2147483648) by omega)]
      cases decide (2147483648 ≤ fb x) <;> rfl

theorem unlike_zero (s t : Bool) (r q : Nat) (hr : r ≤ 2139095040) (hq : q ≤ 2139095040) (hs : ¬ s = t) (h : (rdm s r).order (rdm t q) = some .eq) : r = 0 ∧ q = 0 := by
  have inf : ∀ s : Bool, rdm s 2139095040 = .infinity s := fun s => by simp [rdm]
  by_cases h1 : r = 2139095040
  · by_cases h2 : q = 2139095040
    · rw [h1, h2, inf, inf] at h
      cases s <;> cases t <;> simp [Ieee.Datum.order, compare, compareOfLessAndEq] at h hs
    · obtain ⟨n, e, e2, _⟩ := rdm_num t q (by omega)
      rw [h1, inf, e2] at h
      cases s <;> simp [Ieee.Datum.order] at h
  · by_cases h2 : q = 2139095040
    · obtain ⟨n, e, e2, _⟩ := rdm_num s r (by omega)
      rw [h2, inf, e2] at h
      cases t <;> simp [Ieee.Datum.order] at h
    · obtain ⟨m, d, e1, v1⟩ := rdm_num s r (by omega)
      obtain ⟨n, e, e2, v2⟩ := rdm_num t q (by omega)
      rw [e1, e2] at h
      simp only [Ieee.Datum.order, Option.some.injEq, Ieee.signed] at h
      obtain ⟨k, k1, k2⟩ := scaled m n d e _ rfl
      rw [k1] at v1
      rw [k2] at v2
      generalize m <<< (-149 + (d : Int) - min (-149 + (d : Int)) (-149 + (e : Int))).toNat = a at *
      generalize n <<< (-149 + (e : Int) - min (-149 + (d : Int)) (-149 + (e : Int))).toNat = b at *
      have hz : a = 0 ∧ b = 0 := by
        cases s <;> cases t <;> simp at hs h <;> omega
      rw [hz.1, Nat.zero_mul] at v1
      rw [hz.2, Nat.zero_mul] at v2
      exact ⟨val_inj r 0 (by rw [v1]; rfl), val_inj q 0 (by rw [v2]; rfl)⟩

/-- Of two zeros: the greater one has the less number. -/
theorem zeros_max (x y : Int) (hx : x = 0 ∨ x = 2147483648) (hy : y = 0 ∨ y = 2147483648) : maxF (fb x) (fb y) = minI x y ∧ minF (fb x) (fb y) = maxI x y := by
  rcases hx with rfl | rfl <;> rcases hy with rfl | rfl <;> decide +kernel

theorem eq_zeros (x y : Int) (hx : chk 1 x = true) (hy : chk 1 y = true) (ho : ord (fb x) (fb y) = some .eq) (hs : ¬ decide (2147483648 ≤ fb x) = decide (2147483648 ≤ fb y)) : (x = 0 ∨ x = 2147483648) ∧ (y = 0 ∨ y = 2147483648) := by
  have hlx := fb_lt x
  have hly := fb_lt y
  have fx := fb_of x hx
  have fy := fb_of y hy
  have hnn : ¬ (x = 2143289344 ∨ y = 2143289344) := by
    intro hh; rw [(ord_none x y hx hy).2 hh] at ho; cases ho
  have nx : fb x % 2147483648 ≤ 2139095040 := by
    have := not_nan x hx
    rw [read32_nan _ hlx] at this
    simp at this; omega
  have ny : fb y % 2147483648 ≤ 2139095040 := by
    have := not_nan y hy
    rw [read32_nan _ hly] at this
    simp at this; omega
  unfold ord Ieee.Format.order at ho
  rw [read_eq _ hlx, read_eq _ hly] at ho
  have key := unlike_zero _ _ _ _ nx ny hs ho
  omega

theorem max_gt (x y : Int) (hx : chk 1 x = true) (h : ord (fb x) (fb y) = some .gt) : maxF (fb x) (fb y) = x := by
  simp [maxF, h, tob_fb x hx]
theorem max_ngt (x y : Int) (hx : chk 1 x = true) (hy : chk 1 y = true) (hn : ¬ (x = 2143289344 ∨ y = 2143289344)) (hz : ¬ ((x = 0 ∨ x = 2147483648) ∧ (y = 0 ∨ y = 2147483648))) (h : ord (fb x) (fb y) ≠ some .gt) : maxF (fb x) (fb y) = y := by
  cases ho : ord (fb x) (fb y) with
  | none => exact absurd ((ord_none x y hx hy).1 ho) hn
  | some c =>
    cases c with
    | lt => simp [maxF, ho, tob_fb y hy]
    | gt => exact absurd ho h
    | eq =>
      by_cases hs : decide (2147483648 ≤ fb x) = decide (2147483648 ≤ fb y)
      · have := eq_sign x y hx hy ho hs
        subst this
        simp [maxF, ho, tob_fb x hx]
      · exact absurd (eq_zeros x y hx hy ho hs) hz

theorem min_gt (x y : Int) (hy : chk 1 y = true) (h : ord (fb x) (fb y) = some .gt) : minF (fb x) (fb y) = y := by
  simp [minF, h, tob_fb y hy]
theorem min_ngt (x y : Int) (hx : chk 1 x = true) (hy : chk 1 y = true) (hn : ¬ (x = 2143289344 ∨ y = 2143289344)) (hz : ¬ ((x = 0 ∨ x = 2147483648) ∧ (y = 0 ∨ y = 2147483648))) (h : ord (fb x) (fb y) ≠ some .gt) : minF (fb x) (fb y) = x := by
  cases ho : ord (fb x) (fb y) with
  | none => exact absurd ((ord_none x y hx hy).1 ho) hn
  | some c =>
    cases c with
    | lt => simp [minF, ho, tob_fb x hx]
    | gt => exact absurd ho h
    | eq =>
      by_cases hs : decide (2147483648 ≤ fb x) = decide (2147483648 ≤ fb y)
      · have := eq_sign x y hx hy ho hs
        subst this
        simp [minF, ho, tob_fb x hx]
      · exact absurd (eq_zeros x y hx hy ho hs) hz

/-- A quotient of elements that is no turned sign stays within its type. -/
theorem div_in (t x y : Int) (hx : chk t x = true) (ht : t = 6 ∨ t = 7) (hw : -9223372036854775808 ≤ x ∧ x ≤ 9223372036854775807) (h0 : y ≠ 0) (h1 : y ≠ -1) : wrapT t (wrap64 (x.tdiv y)) = x.tdiv y := by
  have ha : (x.tdiv y).natAbs = x.natAbs / y.natAbs := Int.natAbs_tdiv x y
  by_cases hy1 : y = 1
  · subst hy1
    rw [Int.tdiv_one]
    rcases ht with rfl | rfl
    · have : -2147483648 ≤ x ∧ x ≤ 2147483647 := by simpa [chk] using hx
      simp only [wrapT, if_true]; unfold wrap64 wrap32; omega
    · simp only [wrapT, show ¬ (7 : Int) = 6 from by decide, if_false]; unfold wrap64; omega
  · have h2 : 2 ≤ y.natAbs := by omega
    have h3 : x.natAbs / y.natAbs ≤ x.natAbs / 2 := Nat.div_le_div_left h2 (by decide)
    generalize x.tdiv y = q at *
    rcases ht with rfl | rfl
    · have : -2147483648 ≤ x ∧ x ≤ 2147483647 := by simpa [chk] using hx
      simp only [wrapT, if_true]; unfold wrap64 wrap32; omega
    · simp only [wrapT, show ¬ (7 : Int) = 6 from by decide, if_false]; unfold wrap64; omega

theorem div_neg (x : Int) : x.tdiv (-1) = -x := by rw [Int.tdiv_neg, Int.tdiv_one]
end Go.Proofs.YteigfipgmghgmaaGreatDoor.Nu
