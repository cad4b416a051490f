/- The document's operators of one, of a float. -/
import Derived.Test.YtlehjdjhikgffaaWalkE6
namespace Go.Proofs.Ytlehjdjhikgffaa
open Go.RowKit Mo
attribute [local go_sem] conv_up conv_down ext_bits64 ext_from64 ext_from ext_bits negF_eq

theorem nan_or (x : Int) (hx : chk 1 x = true) : x = 2143289344 ∨ (¬ x = 2143289344 ∧ (fb x : Int) = x ∧ fb x % 2147483648 ≤ 2139095040) := by
  have h0 := chk_lt x hx
  have h1 := fb_of x hx
  rw [chk_float 1 x rfl, decide_eq_true_eq] at hx
  by_cases h : x = 2143289344
  · exact .inl h
  · refine .inr ⟨h, h1, ?_⟩
    have := hx.2.2
    omega

theorem tob_id (b : Nat) (hb : b < 4294967296) (h : b % 2147483648 ≤ 2139095040) : tob b = (b : Int) := by rw [tob_num b hb, if_neg (by omega)]

theorem ng_eq (x : Int) (hx : chk 1 x = true) : ngI x = tob (negF (fb x)) := by
  unfold ngI
  rcases nan_or x hx with h | ⟨h, h1, h2⟩
  · subst h; decide +kernel
  · have hn := xor_top (fb x) (fb_lt x)
    have hl := fb_lt x
    rw [if_neg h, tob_id _ (negF_lt _ hl) (by rw [hn]; split <;> omega), hn]
    split <;> omega

theorem ab_eq (x : Int) (hx : chk 1 x = true) : x % 2147483648 = tob (absF (fb x)) := by
  rcases nan_or x hx with h | ⟨h, h1, h2⟩
  · subst h; decide +kernel
  · unfold absF
    rw [tob_id _ (by omega) (by omega)]
    omega

set_option maxHeartbeats 400000 in
theorem rone2 (x : Int) (w : World) (hx : chk 1 x = true) : Calls Try.prog 15 #[.string ⟨#[65, 98, 115]⟩, .int .i64 x] w fun e w' => ∃ n, e = .returned (.tuple #[.int .i64 (tob (absF (fb x))), .bool true]) ∧ w' = w.drewN n := by
  have RF : Hid (∀ w, Calls Try.prog 16 #[.int .i64 x] w fun e w' => e = .returned (.float .f32 (fb x)) ∧ w' = w) := fun w => rf_any x w
  have HA : Hid (x % 2147483648 = tob (absF (fb x))) := ab_eq x hx
  obtain ⟨h0, h1⟩ := chk_lt x hx
  have e3 : x.tmod 2147483648 = x % 2147483648 := Int.tmod_eq_emod_of_nonneg h0
  clear hx
  go_enter Try.func15, Try.ntmps15
  go_wp2_with (first | (go_at_call 16; refine (RF.out _).mono ?_; rintro e w' ⟨rfl, rfl⟩) | fail)
  go_ret2
  exact ⟨0, by rw [← HA.out]; first | rfl | simp [e3], rfl⟩

set_option maxHeartbeats 400000 in
theorem rone4 (x : Int) (w : World) (hx : chk 1 x = true) : Calls Try.prog 15 #[.string ⟨#[82, 101, 108, 117]⟩, .int .i64 x] w fun e w' => ∃ n, e = .returned (.tuple #[.int .i64 (tob (reluF (fb x))), .bool true]) ∧ w' = w.drewN n := by
  have RF : Hid (∀ w, Calls Try.prog 16 #[.int .i64 x] w fun e w' => e = .returned (.float .f32 (fb x)) ∧ w' = w) := fun w => rf_any x w
  cases h1 : (FloatKind.f32.format.order (fb x) 0 == some .gt) with
  | true =>
    have HA : Hid (tob (reluF (fb x)) = x) := by show tob (reluF (fb x)) = x; unfold reluF; rw [if_pos h1, tob_fb x hx]
    clear hx
    go_enter Try.func15, Try.ntmps15
    go_wp2_with (first | (go_at_call 16; refine (RF.out _).mono ?_; rintro e w' ⟨rfl, rfl⟩) | fail)
    go_ret2
    exact ⟨0, by rw [HA.out]; rfl, rfl⟩
  | false =>
    rcases nan_or x hx with h | ⟨h, h2, h3⟩
    · have e1 : (x == 2143289344) = true := by simpa using h
      have HA : Hid (tob (reluF (fb x)) = x) := by
        show tob (reluF (fb x)) = x
        rw [h]; decide +kernel
      clear hx h
      go_enter Try.func15, Try.ntmps15
      go_wp2_with (first | (go_at_call 16; refine (RF.out _).mono ?_; rintro e w' ⟨rfl, rfl⟩) | fail)
      go_ret2
      exact ⟨0, by rw [HA.out]; rfl, rfl⟩
    · have e1 : (x == 2143289344) = false := by simpa using h
      have HA : Hid (tob (reluF (fb x)) = 0) := by
        show tob (reluF (fb x)) = 0
        unfold reluF
        rw [if_neg (by rw [h1]; decide), if_neg ?_]
        · decide +kernel
        · rw [order_self, read32_nan _ (fb_lt x), decide_eq_false (by omega)]; decide
      clear hx h h2 h3
      go_enter Try.func15, Try.ntmps15
      go_wp2_with (first | (go_at_call 16; refine (RF.out _).mono ?_; rintro e w' ⟨rfl, rfl⟩) | fail)
      go_ret2
      exact ⟨0, by rw [HA.out]; rfl, rfl⟩

set_option maxHeartbeats 400000 in
theorem rone5 (x : Int) (w : World) : Calls Try.prog 15 #[.string ⟨#[83, 113, 114, 116]⟩, .int .i64 x] w fun e w' => ∃ n, e = .returned (.tuple #[.int .i64 (sqB (fb x)), .bool true]) ∧ w' = w.drewN n := by
  have RF : Hid (∀ w, Calls Try.prog 16 #[.int .i64 x] w fun e w' => e = .returned (.float .f32 (fb x)) ∧ w' = w) := fun w => rf_any x w
  have FA : Hid (∀ w1 w2 r, SqS (cval .f32 .f64 (fb x) w1) r → tob (cval .f64 .f32 r w2) = sqB (fb x)) := fun w1 w2 r hr => sq_all _ (fb_lt x) w1 w2 r hr
  go_enter Try.func15, Try.ntmps15
  go_wp2_with (first | (go_at_call 16; refine (RF.out _).mono ?_; rintro e w' ⟨rfl, rfl⟩) | (go_at_call 22; refine (sqrt_s _ _).mono ?_; rintro e w' ⟨r, n, hs, rfl, rfl⟩) | (go_at_call 29; refine (rbits_any _ _ (cval_lt _ _)).mono ?_; rintro e w' ⟨rfl, rfl⟩) | fail)
  go_ret2
  exact ⟨_, congrArg (fun z => Ending.returned (Value.tuple #[.int .i64 z, .bool true])) (FA.out _ _ _ hs.out), rfl⟩

set_option maxHeartbeats 400000 in
theorem rone6 (x : Int) (w : World) : Calls Try.prog 15 #[.string ⟨#[70, 108, 111, 111, 114]⟩, .int .i64 x] w fun e w' => ∃ n, e = .returned (.tuple #[.int .i64 (flB (fb x)), .bool true]) ∧ w' = w.drewN n := by
  have RF : Hid (∀ w, Calls Try.prog 16 #[.int .i64 x] w fun e w' => e = .returned (.float .f32 (fb x)) ∧ w' = w) := fun w => rf_any x w
  have FA : Hid (∀ w1 w2 r, FlS (cval .f32 .f64 (fb x) w1) r → tob (cval .f64 .f32 r w2) = flB (fb x)) := fun w1 w2 r hr => fl_all _ (fb_lt x) w1 w2 r hr
  go_enter Try.func15, Try.ntmps15
  go_wp2_with (first | (go_at_call 16; refine (RF.out _).mono ?_; rintro e w' ⟨rfl, rfl⟩) | (go_at_call 23; refine (floor_s _ _).mono ?_; rintro e w' ⟨r, n, hs, rfl, rfl⟩) | (go_at_call 29; refine (rbits_any _ _ (cval_lt _ _)).mono ?_; rintro e w' ⟨rfl, rfl⟩) | fail)
  go_ret2
  exact ⟨_, congrArg (fun z => Ending.returned (Value.tuple #[.int .i64 z, .bool true])) (FA.out _ _ _ hs.out), rfl⟩

set_option maxHeartbeats 400000 in
theorem rone7 (x : Int) (w : World) : Calls Try.prog 15 #[.string ⟨#[69, 120, 112]⟩, .int .i64 x] w fun e w' => ∃ n, e = .returned (.tuple #[.int .i64 (tob (exW (fb x))), .bool true]) ∧ w' = w.drewN n := by
  have RF : Hid (∀ w, Calls Try.prog 16 #[.int .i64 x] w fun e w' => e = .returned (.float .f32 (fb x)) ∧ w' = w) := fun w => rf_any x w
  go_enter Try.func15, Try.ntmps15
  go_wp2_with (first | (go_at_call 16; refine (RF.out _).mono ?_; rintro e w' ⟨rfl, rfl⟩) | (go_at_call 30; refine (rexp_e _ _).mono ?_; rintro e w' ⟨rfl, n, rfl⟩) | fail)
  go_ret2
  exact ⟨_, rfl, rfl⟩

theorem add_nan (x y : Nat) (h : (FloatKind.f32.format.read y).isNaN = true) : floatBits .add .f32 x y = none := by
  show (Option.map _ (Ieee.Datum.sum (FloatKind.f32.format.read x) (FloatKind.f32.format.read y))) = none
  rw [sum_nan _ _ h]; rfl

theorem exW_nan (b : Nat) (h : (FloatKind.f32.format.read b).isNaN = true) : exW b = b := by
  unfold exW
  rw [if_pos (by rw [order_self, h]; rfl)]

theorem exW_num (b : Nat) (hb : b < 4294967296) (h : b % 2147483648 ≤ 2139095040) : exW b ≤ 2139095040 := by
  unfold exW
  rw [if_neg (by rw [order_self, read32_nan b hb, decide_eq_false (by omega)]; decide)]
  split
  · decide
  · split
    · decide
    · split
      · decide
      · rename_i h
        have := (down_fin _ (Nat.lt_of_not_le h)).2
        omega

/-- The document's Sigmoid, which makes the one NaN of each step, is the program's. -/
theorem sg_same (x : Int) (hx : chk 1 x = true) : tobO (floatBits .quo .f32 1065353216 (fb (tobO (floatBits .add .f32 1065353216 (fb (tob (exW (fb (ngI x)))))))) ) = sgI (exW (negF (fb x))) := by
  have hl := fb_lt x
  rcases nan_or x hx with h | ⟨h, h1, h2⟩
  · have hn : (FloatKind.f32.format.read (negF (fb x))).isNaN = true := by rw [h]; decide +kernel
    rw [exW_nan _ hn]
    have e1 : fb (tob (exW (fb (ngI x)))) = 2143289344 := by
      rw [show fb (ngI x) = 2143289344 from by rw [h]; decide +kernel, exW_nan 2143289344 (by decide +kernel)]; decide +kernel
    rw [e1]
    unfold sgI
    rw [add_nan _ _ hn, add_nan _ 2143289344 (by decide +kernel)]
    show tobO (floatBits .quo .f32 1065353216 (fb 2143289344)) = 2143289344
    rw [quo_nan _ _ (by decide +kernel)]; rfl
  · have hx2 := xor_top (fb x) hl
    have hnl := negF_lt (fb x) hl
    have hnm : negF (fb x) % 2147483648 ≤ 2139095040 := by rw [hx2]; split <;> omega
    have e0 : fb (ngI x) = negF (fb x) := by
      rw [ng_eq x hx, tob_id _ hnl hnm]
      exact fb_nat _ hnl
    have hE := exW_num _ hnl hnm
    have e1 : fb (tob (exW (negF (fb x)))) = exW (negF (fb x)) := by
      rw [tob_id _ (by omega) (by omega)]
      exact fb_nat _ (by omega)
    rw [e0, e1]
    unfold sgI
    cases ha : floatBits .add .f32 1065353216 (exW (negF (fb x))) with
    | none =>
      show tobO (floatBits .quo .f32 1065353216 (fb 2143289344)) = 2143289344
      rw [quo_nan _ _ (by decide +kernel)]; rfl
    | some a =>
      obtain ⟨a1, a2⟩ := some_num ha
      show tobO (floatBits .quo .f32 1065353216 (fb (tob a))) = _
      rw [tob_id a a2 a1, fb_nat a a2]

set_option maxHeartbeats 400000 in
theorem rone8 (x : Int) (w : World) (hx : chk 1 x = true) : Calls Try.prog 15 #[.string ⟨#[83, 105, 103, 109, 111, 105, 100]⟩, .int .i64 x] w fun e w' => ∃ n, e = .returned (.tuple #[.int .i64 (sgI (exW (negF (fb x)))), .bool true]) ∧ w' = w.drewN n := by
  have RF : Hid (∀ w, Calls Try.prog 16 #[.int .i64 x] w fun e w' => e = .returned (.float .f32 (fb x)) ∧ w' = w) := fun w => rf_any x w
  have HS : Hid (tobO (floatBits .quo .f32 1065353216 (fb (tobO (floatBits .add .f32 1065353216 (fb (tob (exW (fb (ngI x)))))))) ) = sgI (exW (negF (fb x)))) := sg_same x hx
  have RN : Hid (∀ w, Calls Try.prog 15 #[.string ⟨#[78, 101, 103]⟩, .int .i64 x] w fun e w' => e = .returned (.tuple #[.int .i64 (ngI x), .bool true]) ∧ w' = w) := fun w => rneg_any x w (chk_lt x hx).1 (chk_lt x hx).2
  clear hx
  go_enter Try.func15, Try.ntmps15
  go_wp2_with (first | (go_at_call 16; refine (RF.out _).mono ?_; rintro e w' ⟨rfl, rfl⟩) | (go_at_call 15; refine (RN.out _).mono ?_; rintro e w' ⟨rfl, rfl⟩) | (go_at_call 30; refine (rexp_e _ _).mono ?_; rintro e w' ⟨rfl, n1, rfl⟩) | (go_at_call 32; refine (radd_any _ _ _).mono ?_; rintro e w' ⟨rfl, n2, rfl⟩) | (go_at_call 31; refine (rdiv_any _ _ _).mono ?_; rintro e w' ⟨rfl, n3, rfl⟩) | fail)
  go_ret2
  exact ⟨_, congrArg (fun z => Ending.returned (Value.tuple #[.int .i64 z, .bool true])) HS.out, rfl⟩
end Go.Proofs.Ytlehjdjhikgffaa
