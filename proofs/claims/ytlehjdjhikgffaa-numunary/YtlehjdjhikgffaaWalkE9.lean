/- The document's Tanh; and Unary of both sides, of a float. -/
import Derived.Test.YtlehjdjhikgffaaWalkE8
namespace Go.Proofs.Ytlehjdjhikgffaa
open Go.RowKit Mo
attribute [local go_sem] ext_bits64 ext_from64 ext_from ext_bits negF_eq

theorem leq_of (b : Nat) (hn : b % 2147483648 ≤ 2139095040) : (FloatKind.f32.format.order (absF b) 1092616192 == some .lt || FloatKind.f32.format.order (absF b) 1092616192 == some .eq) = !(FloatKind.f32.format.order (absF b) 1092616192 == some .gt) := by
  cases ho : FloatKind.f32.format.order (absF b) 1092616192 with
  | none =>
    exfalso
    unfold Ieee.Format.order at ho
    rcases (order_none _ _).1 ho with h | h
    · rw [read32_nan _ (absF_lt b)] at h
      unfold absF at h
      rw [decide_eq_true_eq] at h
      omega
    · exact absurd h (by decide +kernel)
  | some o => cases o <;> rfl

theorem ws_val (q b : Nat) (hb : b < 4294967296) : wrap64 ((q : Int) % 2147483648 + wrap64 (wrap64 ((b : Int) / 2147483648) * 2147483648)) = (wsF q b : Int) := by
  have e0 : ∀ z : Int, 0 ≤ z → z < 4294967296 → wrap64 z = z := fun z h1 h2 => by unfold wrap64; omega
  rw [e0 ((b : Int) / 2147483648) (by omega) (by omega), e0 ((b : Int) / 2147483648 * 2147483648) (by omega) (by omega), e0 _ (by omega) (by omega)]
  unfold wsF; omega

set_option maxHeartbeats 1000000 in
theorem rtanh_e (x : Int) (w : World) (hx : chk 1 x = true) : Calls Try.prog 33 #[.int .i64 x] w fun e w' => ∃ n, e = .returned (.int .i64 (thI (fb x))) ∧ w' = w.drewN n := by
  rcases nan_or x hx with h | ⟨h, h1, h2⟩
  · have HT : Hid (thI (fb x) = 2143289344) := by show thI (fb x) = _; rw [h]; unfold thI; rw [if_pos (by decide +kernel)]
    have e1 : (x == 2143289344) = true := by simpa using h
    clear hx h
    go_enter Try.func33, Try.ntmps33
    go_wp2_with fail
    go_ret
    exact ⟨0, by rw [HT.out]; rfl, rfl⟩
  · obtain ⟨b, hb⟩ : ∃ b, b = fb x := ⟨_, rfl⟩
    have hbl := fb_lt x
    obtain ⟨h0, h0'⟩ := chk_lt x hx
    rw [← hb] at h1 h2 hbl ⊢
    have e1 : (x == 2143289344) = false := by simpa using h
    have a1 : x.tmod 2147483648 = ((absF b : Nat) : Int) := by rw [Int.tmod_eq_emod_of_nonneg h0]; unfold absF; omega
    have a2 : fb ((absF b : Nat) : Int) = absF b := fb_nat _ (absF_lt b)
    have a3 : x.tdiv 2147483648 = ((b / 2147483648 : Nat) : Int) := by rw [Int.tdiv_eq_ediv_of_nonneg h0]; omega
    have a4 : wrap64 (((b / 2147483648 : Nat) : Int) * 2147483648) = ((b / 2147483648 * 2147483648 : Nat) : Int) := by unfold wrap64; omega
    have hle := leq_of b h2
    have RF : Hid (∀ w, Calls Try.prog 16 #[.int .i64 ((absF b : Nat) : Int)] w fun e w' => e = .returned (.float .f32 (absF b)) ∧ w' = w) := fun w => by
      have := rf_any ((absF b : Nat) : Int) w
      rw [a2] at this
      exact this
    cases hg : (FloatKind.f32.format.order (absF b) 1092616192 == some .gt) with
    | true =>
      rw [hg, show (!true) = false from rfl] at hle
      have HT : Hid (thI b = (wsF 1065353216 b : Int)) := by show thI b = _; unfold thI; rw [if_neg (by omega), if_pos hg]
      have HV : Hid (wrap64 (1065353216 + wrap64 (wrap64 ((b : Int) / 2147483648) * 2147483648)) = thI b) := by
        show _ = thI b
        rw [HT.out]
        exact ws_val 1065353216 b hbl
      have HL : Hid (b < 4294967296) := hbl
      obtain ⟨a, ha⟩ : ∃ a, a = absF b := ⟨_, rfl⟩
      rw [← ha] at a1 hle RF
      clear hx h h0 h0' h1 h2 hbl hb hg ha a2
      go_enter Try.func33, Try.ntmps33
      go_wp2_with (first | (go_at_call 16; refine (RF.out _).mono ?_; rintro e w' ⟨rfl, rfl⟩) | fail)
      go_ret
      exact ⟨0, congrArg (fun z => Ending.returned (Value.int .i64 z)) HV.out, rfl⟩
    | false =>
      rw [hg, show (!false) = true from rfl] at hle
      obtain ⟨d, s1, s2, q, k1, k2, k3, k4, k5⟩ := th_core (absF b) (abs_le_ten b h2 hg)
      have hq : qT (absF b) = q := by unfold qT; rw [k1]; show oD (floatBits .quo .f32 (oD (floatBits .sub .f32 (exW d) 1065353216)) (oD (floatBits .add .f32 (exW d) 1065353216))) = q; rw [k3, k4]; show oD (floatBits .quo .f32 s1 s2) = q; rw [k5]; rfl
      obtain ⟨q1, q2⟩ := some_num k5
      obtain ⟨s11, s12⟩ := some_num k3
      obtain ⟨s21, s22⟩ := some_num k4
      have hE := exW_small d k2
      have HT : Hid (thI b = (wsF q b : Int)) := by show thI b = _; unfold thI; rw [if_neg (by omega), if_neg (by rw [hg]; decide), hq]
      have HV : Hid (wrap64 ((q : Int) % 2147483648 + wrap64 (wrap64 ((b : Int) / 2147483648) * 2147483648)) = thI b) := by
        show _ = thI b
        rw [HT.out]
        exact ws_val q b hbl
      have c1 : Hid (∀ w, Calls Try.prog 32 #[.int .i64 ((absF b : Nat) : Int), .int .i64 ((absF b : Nat) : Int)] w fun e w' => e = .returned (.int .i64 (d : Int)) ∧ ∃ n, w' = w.drewN n) := fun w => by
        have := radd_any ((absF b : Nat) : Int) ((absF b : Nat) : Int) w
        rw [a2, k1, show tobO (some d) = (d : Int) from tob_id d (by omega) (by omega)] at this
        exact this
      have c2 : Hid (∀ w, Calls Try.prog 30 #[.int .i64 (d : Int)] w fun e w' => e = .returned (.int .i64 ((exW d : Nat) : Int)) ∧ ∃ n, w' = w.drewN n) := fun w => by
        have := rexp_e (d : Int) w
        rw [fb_nat d (by omega), tob_id (exW d) (by omega) (by omega)] at this
        exact this
      have c3 : Hid (∀ w, Calls Try.prog 46 #[.int .i64 ((exW d : Nat) : Int), .int .i64 1065353216] w fun e w' => e = .returned (.int .i64 (s1 : Int)) ∧ ∃ n, w' = w.drewN n) := fun w => by
        have := rsub_any ((exW d : Nat) : Int) 1065353216 w
        rw [fb_nat (exW d) (by omega), show fb 1065353216 = 1065353216 from rfl, k3, show tobO (some s1) = (s1 : Int) from tob_id s1 s12 s11] at this
        exact this
      have c4 : Hid (∀ w, Calls Try.prog 32 #[.int .i64 ((exW d : Nat) : Int), .int .i64 1065353216] w fun e w' => e = .returned (.int .i64 (s2 : Int)) ∧ ∃ n, w' = w.drewN n) := fun w => by
        have := radd_any ((exW d : Nat) : Int) 1065353216 w
        rw [fb_nat (exW d) (by omega), show fb 1065353216 = 1065353216 from rfl, k4, show tobO (some s2) = (s2 : Int) from tob_id s2 s22 s21] at this
        exact this
      have c5 : Hid (∀ w, Calls Try.prog 31 #[.int .i64 (s1 : Int), .int .i64 (s2 : Int)] w fun e w' => e = .returned (.int .i64 (q : Int)) ∧ ∃ n, w' = w.drewN n) := fun w => by
        have := rdiv_any (s1 : Int) (s2 : Int) w
        rw [fb_nat s1 s12, fb_nat s2 s22, k5, show tobO (some q) = (q : Int) from tob_id q q2 q1] at this
        exact this
      obtain ⟨a, ha⟩ : ∃ a, a = absF b := ⟨_, rfl⟩
      obtain ⟨E, hEe⟩ : ∃ E, E = exW d := ⟨_, rfl⟩
      rw [← ha] at a1 hle RF c1
      rw [← hEe] at c2 c3 c4
      have aq : ((q : Int)).tmod 2147483648 = (q : Int) % 2147483648 := Int.tmod_eq_emod_of_nonneg (by omega)
      clear hx h h0 h0' h1 h2 hbl hb hg ha a2 k1 k2 k3 k4 k5 hq q1 q2 s11 s12 s21 s22 hE hEe
      go_enter Try.func33, Try.ntmps33
      go_wp2_with (first | (go_at_call 16; refine (RF.out _).mono ?_; rintro e w' ⟨rfl, rfl⟩) | (go_at_call 32; have := done1; refine (c4.out _).mono ?_; rintro e w' ⟨rfl, n4, rfl⟩) | (go_at_call 32; refine (c1.out _).mono ?_; rintro e w' ⟨rfl, n1, rfl⟩; have done1 : True := trivial) | (go_at_call 30; refine (c2.out _).mono ?_; rintro e w' ⟨rfl, n2, rfl⟩) | (go_at_call 46; refine (c3.out _).mono ?_; rintro e w' ⟨rfl, n3, rfl⟩) | (go_at_call 31; refine (c5.out _).mono ?_; rintro e w' ⟨rfl, n5, rfl⟩) | fail)
      go_ret
      exact ⟨_, congrArg (fun z => Ending.returned (Value.int .i64 z)) HV.out, rfl⟩

set_option maxHeartbeats 400000 in
theorem rone9 (x : Int) (w : World) (hx : chk 1 x = true) : Calls Try.prog 15 #[.string ⟨#[84, 97, 110, 104]⟩, .int .i64 x] w fun e w' => ∃ n, e = .returned (.tuple #[.int .i64 (thI (fb x)), .bool true]) ∧ w' = w.drewN n := by
  have RF : Hid (∀ w, Calls Try.prog 16 #[.int .i64 x] w fun e w' => e = .returned (.float .f32 (fb x)) ∧ w' = w) := fun w => rf_any x w
  have RT : Hid (∀ w, Calls Try.prog 33 #[.int .i64 x] w fun e w' => ∃ n, e = .returned (.int .i64 (thI (fb x))) ∧ w' = w.drewN n) := fun w => rtanh_e x w hx
  clear hx
  go_enter Try.func15, Try.ntmps15
  go_wp2_with (first | (go_at_call 16; refine (RF.out _).mono ?_; rintro e w' ⟨rfl, rfl⟩) | (go_at_call 33; refine (RT.out _).mono ?_; rintro e w' ⟨n, rfl, rfl⟩) | fail)
  go_ret2
  exact ⟨_, rfl, rfl⟩

theorem rone1 (x : Int) (w : World) (hx : chk 1 x = true) : Calls Try.prog 15 #[.string ⟨#[78, 101, 103]⟩, .int .i64 x] w fun e w' => ∃ n, e = .returned (.tuple #[.int .i64 (tob (negF (fb x))), .bool true]) ∧ w' = w.drewN n := by
  refine (rneg_any x w (chk_lt x hx).1 (chk_lt x hx).2).mono ?_
  rintro e w' ⟨rfl, rfl⟩
  exact ⟨0, by rw [ng_eq x hx], rfl⟩

set_option maxHeartbeats 400000 in
theorem round9_s (b : Nat) (w : World) (hb : b < 4294967296) : Calls Try.prog 9 #[.string ⟨#[84, 97, 110, 104]⟩, .float .f32 b] w fun e w' => ∃ n, e = .returned (.tuple #[.int .i64 (thI b), .int .i64 0]) ∧ w' = w.drewN n := by
  have SG : Hid (∀ w, Calls Try.prog 26 #[.float .f32 b] w fun e w' => ∃ r n, Hid (tob r = thI b ∧ r < 4294967296) ∧ e = .returned (.float .f32 r) ∧ w' = w.drewN n) := fun w => tanh_e b w hb
  clear hb
  go_enter Try.func9, Try.ntmps9
  go_wp2_with (first | (go_at_call 26; refine (SG.out _).mono ?_; rintro e w' ⟨r, n, hr, rfl, rfl⟩) | (go_at_call 19; refine (to_any _ _ hr.out.2).mono ?_; rintro e w' ⟨rfl, rfl⟩) | fail)
  go_ret2
  exact ⟨_, congrArg (fun z => Ending.returned (Value.tuple #[.int .i64 z, .int .i64 0])) hr.out.1, rfl⟩
end Go.Proofs.Ytlehjdjhikgffaa
