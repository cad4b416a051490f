/- The document's operators of one, of a float. -/
import Derived.Test.YteigfipgmghgmaaGreatDoorNuWalkE6
namespace Go.Proofs.YteigfipgmghgmaaGreatDoor.Nu
open Go.RowKit Mo
attribute [local go_sem] conv_up conv_down ext_bits64 ext_from64 ext_from ext_bits negF_eq

theorem nan_or (x : Int) (hx : chk 1 x = true) : x = 2143289344 ∨ (¬ x = 2143289344 ∧ (fb x : Int) = x ∧ fb x % 2147483648 ≤ 2139095040) := by
  have h0 := chk_lt x hx
  have h1 := fb_of x hx
  rw [chk_float 1 x rfl, decide_eq_true_eq] at hx
  by_cases h : x = 2143289344
  · exact .inl h
  · refine .inr ⟨h, h1, ?_⟩
    have := hx.2.2
    omega

theorem tob_id (b : Nat) (hb : b < 4294967296) (h : b % 2147483648 ≤ 2139095040) : tob b = (b : Int) := by rw [tob_num b hb, if_neg (by omega)]

theorem ng_eq (x : Int) (hx : chk 1 x = true) : ngI x = tob (negF (fb x)) := by
  unfold ngI
  rcases nan_or x hx with h | ⟨h, h1, h2⟩
  · subst h; decide +kernel
  · have hn := xor_top (fb x) (fb_lt x)
    have hl := fb_lt x
    rw [if_neg h, tob_id _ (negF_lt _ hl) (by rw [hn]; split <;> omega), hn]
    split <;> omega

theorem ab_eq (x : Int) (hx : chk 1 x = true) : x % 2147483648 = tob (absF (fb x)) := by
  rcases nan_or x hx with h | ⟨h, h1, h2⟩
  · subst h; decide +kernel
  · unfold absF
    rw [tob_id _ (by omega) (by omega)]
    omega

theorem add_nan (x y : Nat) (h : (FloatKind.f32.format.read y).isNaN = true) : floatBits .add .f32 x y = none := by
  show (Option.map _ (Ieee.Datum.sum (FloatKind.f32.format.read x) (FloatKind.f32.format.read y))) = none
  rw [sum_nan _ _ h]; rfl

theorem exW_nan (b : Nat) (h : (FloatKind.f32.format.read b).isNaN = true) : exW b = b := by
  unfold exW
  rw [if_pos (by rw [order_self, h]; rfl)]

theorem exW_num (b : Nat) (hb : b < 4294967296) (h : b % 2147483648 ≤ 2139095040) : exW b ≤ 2139095040 := by
  unfold exW
  rw [if_neg (by rw [order_self, read32_nan b hb, decide_eq_false (by omega)]; decide)]
  split
  · decide
  · split
    · decide
    · split
      · decide
      · rename_i h
        have := (down_fin _ (Nat.lt_of_not_le h)).2
        omega

/-- The document's Sigmoid, which makes the one NaN of each step, is the program's. -/
theorem sg_same (x : Int) (hx : chk 1 x = true) : tobO (floatBits .quo .f32 1065353216 (fb (tobO (floatBits .add .f32 1065353216 (fb (tob (exW (fb (ngI x)))))))) ) = sgI (exW (negF (fb x))) := by
  have hl := fb_lt x
  rcases nan_or x hx with h | ⟨h, h1, h2⟩
  · have hn : (FloatKind.f32.format.read (negF (fb x))).isNaN = true := by rw [h]; decide +kernel
    rw [exW_nan _ hn]
    have e1 : fb (tob (exW (fb (ngI x)))) = 2143289344 := by
      rw [show fb (ngI x) = 2143289344 from by rw [h]; decide +kernel, exW_nan 2143289344 (by decide +kernel)]; decide +kernel
    rw [e1]
    unfold sgI
    rw [add_nan _ _ hn, add_nan _ 2143289344 (by decide +kernel)]
    show tobO (floatBits .quo .f32 1065353216 (fb 2143289344)) = 2143289344
    rw [quo_nan _ _ (by decide +kernel)]; rfl
  · have hx2 := xor_top (fb x) hl
    have hnl := negF_lt (fb x) hl
    have hnm : negF (fb x) % 2147483648 ≤ 2139095040 := by rw [hx2]; split <;> omega
    have e0 : fb (ngI x) = negF (fb x) := by
      rw [ng_eq x hx, tob_id _ hnl hnm]
      exact fb_nat _ hnl
    have hE := exW_num _ hnl hnm
    have e1 : fb (tob (exW (negF (fb x)))) = exW (negF (fb x)) := by
      rw [tob_id _ (by omega) (by omega)]
      exact fb_nat _ (by omega)
    rw [e0, e1]
    unfold sgI
    cases ha : floatBits .add .f32 1065353216 (exW (negF (fb x))) with
    | none =>
      show tobO (floatBits .quo .f32 1065353216 (fb 2143289344)) = 2143289344
      rw [quo_nan _ _ (by decide +kernel)]; rfl
    | some a =>
      obtain ⟨a1, a2⟩ := some_num ha
      show tobO (floatBits .quo .f32 1065353216 (fb (tob a))) = _
      rw [tob_id a a2 a1, fb_nat a a2]

end Go.Proofs.YteigfipgmghgmaaGreatDoor.Nu
