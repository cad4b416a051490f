/- Plain facts that the statements of package num rest on: signs, the order of floats, the greater and the less one. Nothing here names the program. -/
import Derived.Test.YteigfipgmghgmaaGreatDoorNuPlainU
namespace Go.Proofs.YteigfipgmghgmaaGreatDoor.Nu
open Go.RowKit

/-- What a word stands for, by its sign and its rung. -/
def rdm (neg : Bool) (rung : Nat) : Ieee.Datum :=
  if rung < 8388608 then .number neg rung (-149)
  else if rung < 2139095040 then .number neg (8388608 + rung % 8388608) (-149 + (rung / 8388608 - 1 : Nat))
  else if rung = 2139095040 then .infinity neg
  else .nan neg (rung - 2139095040)

theorem read_eq (b : Nat) (h : b < 4294967296) : FloatKind.f32.format.read b = rdm (decide (2147483648 ≤ b)) (b % 2147483648) := by
  have e1 : FloatKind.f32.format.signWeight = 2147483648 := rfl
  have e2 : FloatKind.f32.format.binade = 8388608 := rfl
  have e3 : FloatKind.f32.format.infRung = 2139095040 := rfl
  have e4 : FloatKind.f32.format.leastPlace = -149 := rfl
  have e5 : (b / 2147483648 % 2 == 1) = decide (2147483648 ≤ b) := by
    rw [Bool.eq_iff_iff]; simp only [beq_iff_eq, decide_eq_true_eq]; omega
  unfold Ieee.Format.read rdm
  simp only [e1, e2, e3, e4, e5]

theorem rdm_opposite (s : Bool) (r : Nat) : (rdm s r).opposite = rdm (!s) r := by
  unfold rdm
  split
  · rfl
  · split
    · rfl
    · split <;> rfl

theorem rdm_nan (s : Bool) (r : Nat) (h : 2139095040 < r) : (rdm s r).isNaN = true := by
  unfold rdm
  rw [if_neg (by omega), if_neg (by omega), if_neg (by omega)]; rfl

theorem read_neg (b : Nat) (h : b < 4294967296) : FloatKind.f32.format.read (negF b) = (FloatKind.f32.format.read b).opposite := by
  rw [read_eq _ (negF_lt b h), read_eq b h, rdm_opposite, xor_top b h]
  have e : ∀ c : Nat, c < 2147483648 → (c + 2147483648) % 2147483648 = c % 2147483648 := fun c _ => by omega
  split
  · rename_i hb
    rw [e b hb]
    have hs : decide (2147483648 ≤ b + 2147483648) = !decide (2147483648 ≤ b) := by
      rw [decide_eq_true (by omega), decide_eq_false (by omega)]; rfl
    rw [hs]
  · rename_i hb
    have : (b - 2147483648) % 2147483648 = b % 2147483648 := by omega
    rw [this]
    have hs : decide (2147483648 ≤ b - 2147483648) = !decide (2147483648 ≤ b) := by
      rw [decide_eq_false (by omega), decide_eq_true (by omega)]; rfl
    rw [hs]

/-- A number of its own: not the NaN. -/
theorem not_nan (x : Int) (h : chk 1 x = true) : (FloatKind.f32.format.read (fb x)).isNaN = decide (x = 2143289344) := by
  rw [read32_nan _ (fb_lt x), Bool.eq_iff_iff]
  have := fb_of x h
  rw [chk_float 1 _ rfl] at h; simp at h
  simp only [decide_eq_true_eq]
  omega

theorem order_none (x y : Ieee.Datum) : x.order y = none ↔ x.isNaN = true ∨ y.isNaN = true := by
  cases x <;> cases y <;> simp [Ieee.Datum.order, Ieee.Datum.isNaN]

theorem ord_none (x y : Int) (hx : chk 1 x = true) (hy : chk 1 y = true) : ord (fb x) (fb y) = none ↔ x = 2143289344 ∨ y = 2143289344 := by
  unfold ord Ieee.Format.order
  rw [order_none, not_nan x hx, not_nan y hy]; simp

theorem tobO_some (r : Nat) : tobO (some r) = tob r := rfl

theorem neg_val (y : Int) : chk 1 (tob (negF (fb y))) = true := chk_tob _ (negF_lt _ (fb_lt y))

theorem fb_tob (b : Nat) (h : b < 4294967296) (hn : (FloatKind.f32.format.read b).isNaN = false) : fb (tob b) = b := by
  rw [tob_eq, hn]
  unfold fb; simp; omega

theorem neg_nan (b : Nat) (h : b < 4294967296) : (FloatKind.f32.format.read (negF b)).isNaN = (FloatKind.f32.format.read b).isNaN := by
  rw [read_neg b h]
  cases FloatKind.f32.format.read b <;> rfl

theorem sum_nan (x y : Ieee.Datum) (h : y.isNaN = true) : x.sum y = none := by
  cases y with
  | nan s t => cases x <;> rfl
  | _ => cases h

theorem fb_nan : FloatKind.f32.format.read 2143289344 = .nan false 4194304 := rfl

/-- A difference is the sum with the sign turned. -/
theorem minus_f (x y : Int) (_hx : chk 1 x = true) (_hy : chk 1 y = true) : tobO (floatBits .sub .f32 (fb x) (fb y)) = tobO (floatBits .add .f32 (fb x) (fb (tob (negF (fb y))))) := by
  have hl := fb_lt y
  cases hn : (FloatKind.f32.format.read (fb y)).isNaN with
  | true =>
    have e1 : floatBits .sub .f32 (fb x) (fb y) = none := by
      show ((FloatKind.f32.format.read (fb x)).sum (FloatKind.f32.format.read (fb y)).opposite).map _ = none
      rw [← read_neg _ hl, sum_nan _ _ (by rw [neg_nan _ hl]; exact hn)]; rfl
    have e2 : tob (negF (fb y)) = 2143289344 := by rw [tob_eq, neg_nan _ hl, hn]; rfl
    have e3 : fb 2143289344 = 2143289344 := by decide
    have e4 : floatBits .add .f32 (fb x) (fb (tob (negF (fb y)))) = none := by
      rw [e2, e3]
      show ((FloatKind.f32.format.read (fb x)).sum (FloatKind.f32.format.read 2143289344)).map _ = none
      rw [sum_nan _ _ (by rw [fb_nan]; rfl)]; rfl
    rw [e1, e4]
  | false =>
    rw [fb_tob _ (negF_lt _ hl) (by rw [neg_nan _ hl]; exact hn)]
    show tobO (((FloatKind.f32.format.read (fb x)).sum (FloatKind.f32.format.read (fb y)).opposite).map _) = tobO (((FloatKind.f32.format.read (fb x)).sum (FloatKind.f32.format.read (negF (fb y)))).map _)
    rw [read_neg _ hl]

theorem wrapT_chk (t n : Int) (h : t = 6 ∨ t = 7) : chk t (wrapT t n) = true := by
  rcases h with rfl | rfl
  · simp only [chk, wrapT, if_true]
    simp only [show ¬ (6 : Int) = 1 from by decide, if_false, decide_eq_true_eq]
    unfold wrap64 wrap32; omega
  · simp [chk]

/-- What the statement on differences asks: of the sum with the sign turned. -/
theorem minus_all (t x y : Int) : ((bin 1 t x y).2 ≠ 0 ∨ (un 1 t y).2 ≠ 0) ∨ ((bin 1 t x y).2 = 0 ∧ (un 1 t y).2 = 0 ∧ (bin 0 t x (un 1 t y).1).2 = 0 ∧ (bin 0 t x (un 1 t y).1).1 = (bin 1 t x y).1) := by
  cases hx : chk t x with
  | false => left; left; simp [bin, hx]
  | true =>
    cases hy : chk t y with
    | false => left; left; simp [bin, hy]
    | true =>
      by_cases h1 : t = 1
      · subst h1
        right
        have e1 : bin 1 1 x y = (tobO (floatBits .sub .f32 (fb x) (fb y)), 0) := by simp [bin, hx, hy, binFl]
        have e2 : un 1 1 y = (tob (negF (fb y)), 0) := by simp [un, hy, unFl]
        have e3 : bin 0 1 x (tob (negF (fb y))) = (tobO (floatBits .add .f32 (fb x) (fb (tob (negF (fb y))))), 0) := by simp [bin, hx, neg_val y, binFl]
        rw [e1, e2]
        simp only [e3]
        exact ⟨trivial, trivial, trivial, (minus_f x y hx hy).symm⟩
      · by_cases h9 : t = 9
        · subst h9; left; left; simp [bin, hx, hy, binBo]
        · right
          have ht : t = 6 ∨ t = 7 := by
            unfold chk at hx; rw [if_neg h1] at hx
            by_cases h6 : t = 6
            · exact .inl h6
            · by_cases h7 : t = 7
              · exact .inr h7
              · rw [if_neg h6, if_neg h7, if_neg h9] at hx; cases hx
          have e1 : bin 1 t x y = (wrapT t (wrap64 (x - y)), 0) := by simp [bin, hx, hy, h1, h9, binIn]
          have e2 : un 1 t y = (wrapT t (wrap64 (-y)), 0) := by simp [un, hy, h1, h9, unIn]
          have e3 : bin 0 t x (wrapT t (wrap64 (-y))) = (wrapT t (wrap64 (x + wrapT t (wrap64 (-y)))), 0) := by simp [bin, hx, wrapT_chk t _ ht, h1, h9, binIn]
          rw [e1, e2]
          simp only [e3]
          refine ⟨trivial, trivial, trivial, ?_⟩
          rcases ht with rfl | rfl
          · simp only [wrapT, if_true]; unfold wrap64 wrap32; omega
          · simp only [wrapT, show ¬ (7 : Int) = 6 from by decide, if_false]; unfold wrap64; omega
end Go.Proofs.YteigfipgmghgmaaGreatDoor.Nu
