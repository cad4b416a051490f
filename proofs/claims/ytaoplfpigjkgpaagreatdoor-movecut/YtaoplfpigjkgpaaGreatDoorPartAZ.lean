/- Joined texts: NuWalkK, NuWalkK2, NuWalkK3. -/
import Derived.Test.YtaoplfpigjkgpaaGreatDoorPartAO
import Derived.Test.YtaoplfpigjkgpaaGreatDoorPartAN
namespace Go.Proofs.YtaoplfpigjkgpaaGreatDoor.Nu

open Go.RowKit

theorem sqrt_eq (x : Nat) : Extern.MathSqrt.sqrt #[.float .f64 x] = (match FloatKind.f64.format.sqrt x with
    | some r => pure (.float .f64 r)
    | none => do pure (.float .f64 (← choose (.nanBits .f64 x x)))) := rfl

theorem ext_sqrt_ex (x : Nat) (w : World) : ∃ r n, (callFunc 180 #[.float .f64 x]).run Tryz.prog w = .ok (.value (.float .f64 r)) (w.drewN n) := by
  have e : (callFunc 180 #[.float .f64 x]).run Tryz.prog w = ((Extern.MathSqrt.sqrt #[.float .f64 x]).run Tryz.prog w).andThen fun v w' => .ok (.value v) w' :=
    run_callFunc_extern (fn := Tryz.f180) (by kernel_rfl) (by kernel_rfl) (by kernel_rfl) (by kernel_rfl) (by kernel_rfl) _ _
  rw [e, sqrt_eq]
  cases h : FloatKind.f64.format.sqrt x with
  | some r => exact ⟨r, 0, by simp; rfl⟩
  | none => exact ⟨_, 1, by simp [Question.forced]; exact ⟨rfl, rfl⟩⟩

theorem ext_floor_ex (x : Nat) (w : World) : ∃ r n, (callFunc 181 #[.float .f64 x]).run Tryz.prog w = .ok (.value (.float .f64 r)) (w.drewN n) := by
  have e : (callFunc 181 #[.float .f64 x]).run Tryz.prog w = ((Extern.MathFloor.toIntegral "math.archFloor" .down #[.float .f64 x]).run Tryz.prog w).andThen fun v w' => .ok (.value v) w' :=
    run_callFunc_extern (fn := Tryz.f181) (by kernel_rfl) (by kernel_rfl) (by kernel_rfl) (by kernel_rfl) (by kernel_rfl) _ _
  rw [e]
  have e2 : ∃ q : Question, q.forced = false ∧ Extern.MathFloor.toIntegral "math.archFloor" .down #[.float .f64 x] = (match FloatKind.f64.decode x with
    | .nan s t =>
      if FloatKind.f64.format.quiet t = t then pure (.float .f64 x) else do
      let kept ← choose q
      pure (.float .f64 (if kept == 1 then x else FloatKind.f64.encode (.nan s (FloatKind.f64.format.quiet t))))
    | d => pure (.float .f64 (FloatKind.f64.encode (d.integral .down)))) := ⟨_, by decide, rfl⟩
  obtain ⟨q, hq, e2⟩ := e2
  rw [e2]
  cases h : FloatKind.f64.decode x with
  | number s m i => exact ⟨_, 0, by simp; exact ⟨rfl, rfl⟩⟩
  | infinity s => exact ⟨_, 0, by simp; exact ⟨rfl, rfl⟩⟩
  | nan s t =>
    by_cases ht : FloatKind.f64.format.quiet t = t
    · exact ⟨_, 0, by simp [ht]; exact ⟨rfl, rfl⟩⟩
    · exact ⟨_, 1, by simp [ht, hq]; exact ⟨rfl, rfl⟩⟩

theorem ext_sqrt : ∃ (r : Nat → World → Nat) (n : Nat → World → Nat), ∀ x w, (callFunc 180 #[.float .f64 x]).run Tryz.prog w = .ok (.value (.float .f64 (r x w))) (w.drewN (n x w)) :=
  ⟨fun x w => Classical.choose (ext_sqrt_ex x w), fun x w => Classical.choose (Classical.choose_spec (ext_sqrt_ex x w)), fun x w => Classical.choose_spec (Classical.choose_spec (ext_sqrt_ex x w))⟩
theorem ext_floor : ∃ (r : Nat → World → Nat) (n : Nat → World → Nat), ∀ x w, (callFunc 181 #[.float .f64 x]).run Tryz.prog w = .ok (.value (.float .f64 (r x w))) (w.drewN (n x w)) :=
  ⟨fun x w => Classical.choose (ext_floor_ex x w), fun x w => Classical.choose (Classical.choose_spec (ext_floor_ex x w)), fun x w => Classical.choose_spec (Classical.choose_spec (ext_floor_ex x w))⟩

theorem conv_up (b : Nat) (w : World) : (convert 145 200 (.float .f32 b)).run Tryz.prog w = .ok (.float .f64 (cval .f32 .f64 b w)) (w.drewN (cdr .f32 .f64 b)) := run_cval w _ _ _ _ _ (by kernel_rfl) (by kernel_rfl)
theorem conv_down (b : Nat) (w : World) : (convert 200 145 (.float .f64 b)).run Tryz.prog w = .ok (.float .f32 (cval .f64 .f32 b w)) (w.drewN (cdr .f64 .f32 b)) := run_cval w _ _ _ _ _ (by kernel_rfl) (by kernel_rfl)
theorem conv_int (b : Nat) (w : World) : (convert 200 3 (.float .f64 b)).run Tryz.prog w = .ok (.int .i64 (ival .f64 .i64 b w)) (w.drewN (idr .f64 .i64 b)) := run_ival w _ _ _ _ _ (by kernel_rfl) (by kernel_rfl)
theorem ext_bits64 (b : Nat) (w : World) : (callFunc 196 #[.float .f64 b]).run Tryz.prog w = .ok (.value (.int .u64 b)) w := by kernel_rfl
theorem ext_from64 (n : Int) (w : World) : (callFunc 198 #[.int .u64 n]).run Tryz.prog w = .ok (.value (.float .f64 n.toNat)) w := by kernel_rfl

attribute [local go_sem] conv_up conv_down conv_int ext_bits64 ext_from64 ext_from ext_bits run_fadd run_fsub run_fmul run_fquo negF_eq

set_option maxHeartbeats 400000 in
theorem floor_w (x : Nat) (w : World) : Calls Tryz.prog 172 #[.float .f64 x] w fun e w' => ∃ r n, e = .returned (.float .f64 r) ∧ w' = w.drewN n := by
  obtain ⟨r, n, h⟩ := ext_floor
  go_enter Tryz.func172, Tryz.ntmps172
  go_wp2
  go_ret
  exact ⟨_, _, rfl, rfl⟩

set_option maxHeartbeats 400000 in
theorem sqrt_w (x : Nat) (w : World) : Calls Tryz.prog 171 #[.float .f64 x] w fun e w' => ∃ r n, e = .returned (.float .f64 r) ∧ w' = w.drewN n := by
  obtain ⟨r, n, h⟩ := ext_sqrt
  go_enter Tryz.func171, Tryz.ntmps171
  go_wp2
  go_ret
  exact ⟨_, _, rfl, rfl⟩

set_option maxHeartbeats 1000000 in
theorem normalize_w (x : Nat) (w : World) : Calls Tryz.prog 195 #[.float .f64 x] w fun e w' => ∃ r m n, e = .returned (.tuple #[.float .f64 r, .int .i64 m]) ∧ w' = w.drewN n := by
  go_enter Tryz.func195, Tryz.ntmps195
  go_wp2
  all_goals
    go_ret2
    first | exact ⟨_, _, 0, rfl, rfl⟩ | exact ⟨_, _, _, rfl, rfl⟩

set_option maxHeartbeats 1000000 in
theorem copysign_w (x y : Nat) (w : World) : Calls Tryz.prog 194 #[.float .f64 x, .float .f64 y] w fun e w' => ∃ r n, e = .returned (.float .f64 r) ∧ w' = w.drewN n := by
  go_enter Tryz.func194, Tryz.ntmps194
  go_wp2
  all_goals
    go_ret
    exact ⟨_, 0, rfl, rfl⟩

end Go.Proofs.YtaoplfpigjkgpaaGreatDoor.Nu

namespace Go.Proofs.YtaoplfpigjkgpaaGreatDoor.Nu

open Go.RowKit

attribute [local go_sem] conv_up conv_down conv_int ext_bits64 ext_from64 ext_from ext_bits run_fadd run_fsub run_fmul run_fquo negF_eq

set_option maxHeartbeats 2000000 in
theorem ldexp_w (x : Nat) (m : Int) (w : World) : Calls Tryz.prog 191 #[.float .f64 x, .int .i64 m] w fun e w' => ∃ r n, e = .returned (.float .f64 r) ∧ w' = w.drewN n := by
  go_enter Tryz.func191, Tryz.ntmps191
  go_wp2_with (first | (go_at_call 195; refine (normalize_w _ _).mono ?_; rintro e w' ⟨r, m, n, rfl, rfl⟩) | (go_at_call 194; refine (copysign_w _ _ _).mono ?_; rintro e w' ⟨r, n, rfl, rfl⟩) | go_in)
  all_goals
    go_ret
    first | exact ⟨_, 0, rfl, rfl⟩ | exact ⟨_, _, rfl, rfl⟩

set_option maxHeartbeats 400000 in
theorem Ldexp_w (x : Nat) (m : Int) (w : World) : Calls Tryz.prog 183 #[.float .f64 x, .int .i64 m] w fun e w' => ∃ r n, e = .returned (.float .f64 r) ∧ w' = w.drewN n := by
  go_enter Tryz.func183, Tryz.ntmps183
  go_wp2_with (first | (go_at_call 191; refine (ldexp_w _ _ _).mono ?_; rintro e w' ⟨r, n, rfl, rfl⟩) | go_in)
  go_ret
  exact ⟨_, _, rfl, rfl⟩

set_option maxHeartbeats 1000000 in
theorem exp_w (x : Nat) (w : World) (hx : x < 4294967296) : Calls Tryz.prog 173 #[.float .f32 x] w fun e w' => ∃ r n, r < 4294967296 ∧ e = .returned (.float .f32 r) ∧ w' = w.drewN n := by
  cases h1 : (FloatKind.f32.format.order x x != some .eq) with
  | true =>
    go_enter Tryz.func173, Tryz.ntmps173
    go_wp2
    go_ret
    exact ⟨x, 0, hx, rfl, rfl⟩
  | false =>
    cases h2 : (FloatKind.f32.format.order x 1118961664 == some .gt) with
    | true =>
      go_enter Tryz.func173, Tryz.ntmps173
      go_wp2_with (first | (go_at_call 102; refine (from_any _ _).mono ?_; rintro e w' ⟨rfl, rfl⟩) | go_in)
      go_ret
      exact ⟨_, 0, fb_lt _, rfl, rfl⟩
    | false =>
      cases h3 : (FloatKind.f32.format.order x 3268542464 == some .lt) with
      | true =>
        go_enter Tryz.func173, Tryz.ntmps173
        go_wp2
        go_ret
        exact ⟨0, 0, by decide, rfl, rfl⟩
      | false =>
        go_enter Tryz.func173, Tryz.ntmps173
        go_wp2_with (first | (go_at_call 172; refine (floor_w _ _).mono ?_; rintro e w' ⟨kf, n1, rfl, rfl⟩) | fail)
        go_loopw [6, 7] (fun p i w' => ∃ (k r n : Nat), k ≤ 13 ∧ i = .int .i64 k ∧ p = .float .f64 r ∧ w' = w.drewN n) (fun _ i _ => (intOf i).toNat)
        case atStart => exact ⟨13, _, _, Nat.le_refl _, rfl, rfl, rfl⟩
        case round =>
          obtain ⟨k, r, n, hk, rfl, rfl, rfl⟩ := hrel
          by_cases hlt : 1 ≤ k
          · go_wp2
            go_roundw
            case rel => exact ⟨k - 1, _, _, by omega, by go_num, rfl, rfl⟩
            case measure => simp [intOf]; omega
          · go_wp2_with (first | (go_at_call 183; refine (Ldexp_w _ _ _).mono ?_; rintro e w' ⟨rl, nl, rfl, rfl⟩) | (go_at_call 102; refine (from_any _ _).mono ?_; rintro e w' ⟨rfl, rfl⟩) | go_in)
            all_goals
              go_ret
              first | exact ⟨_, _, fb_lt _, rfl, rfl⟩ | exact ⟨_, _, cval_lt _ _, rfl, rfl⟩

end Go.Proofs.YtaoplfpigjkgpaaGreatDoor.Nu

namespace Go.Proofs.YtaoplfpigjkgpaaGreatDoor.Nu

open Go.RowKit

attribute [local go_sem] conv_up conv_down conv_int ext_bits64 ext_from64 ext_from ext_bits run_fadd run_fsub run_fmul run_fquo negF_eq

theorem bits_u32_lt (op : BinOp) (a b : Int) : (bits op .u32 a b).toNat < 4294967296 := by
  unfold bits
  rw [IntKind.wrap_u32']
  omega

set_option maxHeartbeats 400000 in
theorem sign_w (x y : Nat) (w : World) : Calls Tryz.prog 184 #[.float .f32 x, .float .f32 y] w fun e w' => ∃ r, r < 4294967296 ∧ e = .returned (.float .f32 r) ∧ w' = w := by
  go_enter Tryz.func184, Tryz.ntmps184
  go_wp2
  go_ret
  exact ⟨_, bits_u32_lt _ _ _, rfl, rfl⟩

set_option maxHeartbeats 400000 in
theorem sigmoid_w (x : Nat) (w : World) (hx : x < 4294967296) : Calls Tryz.prog 174 #[.float .f32 x] w fun e w' => ∃ r n, r < 4294967296 ∧ e = .returned (.float .f32 r) ∧ w' = w.drewN n := by
  have hn := negF_lt x hx
  go_enter Tryz.func174, Tryz.ntmps174
  go_wp2_with (first | (go_at_call 173; refine (exp_w _ _ hn).mono ?_; rintro e w' ⟨r, n, hr, rfl, rfl⟩) | go_in)
  go_ret
  exact ⟨_, _, fval_lt _ _ _ _, rfl, rfl⟩

set_option maxHeartbeats 1000000 in
theorem tanh_w (x : Nat) (w : World) (hx : x < 4294967296) : Calls Tryz.prog 175 #[.float .f32 x] w fun e w' => ∃ r n, r < 4294967296 ∧ e = .returned (.float .f32 r) ∧ w' = w.drewN n := by
  cases h1 : (FloatKind.f32.format.order (absF x) 1092616192 == some .gt) with
  | true =>
    go_enter Tryz.func175, Tryz.ntmps175
    go_wp2_with (first | (go_at_call 169; refine (absolute_any _ _ hx).mono ?_; rintro e w' ⟨rfl, rfl⟩) | (go_at_call 184; refine (sign_w _ _ _).mono ?_; rintro e w' ⟨rs, hs, rfl, rfl⟩) | go_in)
    go_ret
    exact ⟨_, 0, ‹_›, rfl, rfl⟩
  | false =>
    go_enter Tryz.func175, Tryz.ntmps175
    go_wp2_with (first | (go_at_call 169; refine (absolute_any _ _ hx).mono ?_; rintro e w' ⟨rfl, rfl⟩) | (go_at_call 173; refine (exp_w _ _ (fval_lt _ _ _ _)).mono ?_; rintro e w' ⟨r, n, hr, rfl, rfl⟩) | (go_at_call 184; refine (sign_w _ _ _).mono ?_; rintro e w' ⟨rs, hs, rfl, rfl⟩) | go_in)
    go_ret
    exact ⟨_, _, ‹_›, rfl, rfl⟩

set_option maxHeartbeats 400000 in
theorem round5_f (b : Nat) (w : World) (_hb : b < 4294967296) : Calls Tryz.prog 161 #[.string ⟨#[83, 113, 114, 116]⟩, .float .f32 b] w fun e w' => ∃ r n, r < 4294967296 ∧ e = .returned (.tuple #[.int .i64 (tob r), .int .i64 0]) ∧ w' = w.drewN n := by
  go_enter Tryz.func161, Tryz.ntmps161
  go_wp2_with (first | (go_at_call 171; refine (sqrt_w _ _).mono ?_; rintro e w' ⟨r, n, rfl, rfl⟩) | (go_at_call 136; refine (to_any _ _ (cval_lt _ _)).mono ?_; rintro e w' ⟨rfl, rfl⟩) | go_in)
  go_ret2
  exact ⟨_, _, cval_lt _ _, rfl, rfl⟩

set_option maxHeartbeats 400000 in
theorem round6_f (b : Nat) (w : World) (_hb : b < 4294967296) : Calls Tryz.prog 161 #[.string ⟨#[70, 108, 111, 111, 114]⟩, .float .f32 b] w fun e w' => ∃ r n, r < 4294967296 ∧ e = .returned (.tuple #[.int .i64 (tob r), .int .i64 0]) ∧ w' = w.drewN n := by
  go_enter Tryz.func161, Tryz.ntmps161
  go_wp2_with (first | (go_at_call 172; refine (floor_w _ _).mono ?_; rintro e w' ⟨r, n, rfl, rfl⟩) | (go_at_call 136; refine (to_any _ _ (cval_lt _ _)).mono ?_; rintro e w' ⟨rfl, rfl⟩) | go_in)
  go_ret2
  exact ⟨_, _, cval_lt _ _, rfl, rfl⟩

set_option maxHeartbeats 400000 in
theorem round7_f (b : Nat) (w : World) (hb : b < 4294967296) : Calls Tryz.prog 161 #[.string ⟨#[69, 120, 112]⟩, .float .f32 b] w fun e w' => ∃ r n, r < 4294967296 ∧ e = .returned (.tuple #[.int .i64 (tob r), .int .i64 0]) ∧ w' = w.drewN n := by
  go_enter Tryz.func161, Tryz.ntmps161
  go_wp2_with (first | (go_at_call 173; refine (exp_w _ _ hb).mono ?_; rintro e w' ⟨r, n, hr, rfl, rfl⟩) | (go_at_call 136; refine (to_any _ _ (by assumption)).mono ?_; rintro e w' ⟨rfl, rfl⟩) | go_in)
  go_ret2
  exact ⟨_, _, ‹_›, rfl, rfl⟩

set_option maxHeartbeats 400000 in
theorem round8_f (b : Nat) (w : World) (hb : b < 4294967296) : Calls Tryz.prog 161 #[.string ⟨#[83, 105, 103, 109, 111, 105, 100]⟩, .float .f32 b] w fun e w' => ∃ r n, r < 4294967296 ∧ e = .returned (.tuple #[.int .i64 (tob r), .int .i64 0]) ∧ w' = w.drewN n := by
  go_enter Tryz.func161, Tryz.ntmps161
  go_wp2_with (first | (go_at_call 174; refine (sigmoid_w _ _ hb).mono ?_; rintro e w' ⟨r, n, hr, rfl, rfl⟩) | (go_at_call 136; refine (to_any _ _ (by assumption)).mono ?_; rintro e w' ⟨rfl, rfl⟩) | go_in)
  go_ret2
  exact ⟨_, _, ‹_›, rfl, rfl⟩

set_option maxHeartbeats 400000 in
theorem round9_f (b : Nat) (w : World) (hb : b < 4294967296) : Calls Tryz.prog 161 #[.string ⟨#[84, 97, 110, 104]⟩, .float .f32 b] w fun e w' => ∃ r n, r < 4294967296 ∧ e = .returned (.tuple #[.int .i64 (tob r), .int .i64 0]) ∧ w' = w.drewN n := by
  go_enter Tryz.func161, Tryz.ntmps161
  go_wp2_with (first | (go_at_call 175; refine (tanh_w _ _ hb).mono ?_; rintro e w' ⟨r, n, hr, rfl, rfl⟩) | (go_at_call 136; refine (to_any _ _ (by assumption)).mono ?_; rintro e w' ⟨rfl, rfl⟩) | go_in)
  go_ret2
  exact ⟨_, _, ‹_›, rfl, rfl⟩

set_option maxHeartbeats 400000 in
theorem unary5_1 (x : Int) (w : World) (hx : chk 1 x = true) : Calls Tryz.prog 135 #[.string ⟨#[83, 113, 114, 116]⟩, .int .i64 1, .int .i64 x] w fun e w' => ∃ r n, r < 4294967296 ∧ e = .returned (.tuple #[.int .i64 (tob r), .int .i64 0]) ∧ w' = w.drewN n := by
  go_enter Tryz.func135, Tryz.ntmps135
  go_wp2_with (first | (go_at_call 69; refine (check_any _ _ _).mono ?_; rintro e w' ⟨rfl, rfl⟩) | (go_at_call 102; refine (from_any _ _).mono ?_; rintro e w' ⟨rfl, rfl⟩) | (go_at_call 161; refine (round5_f _ _ (fb_lt _)).mono ?_; rintro e w' ⟨r, n, hr, rfl, rfl⟩))
  go_ret2
  exact ⟨_, _, ‹_›, rfl, rfl⟩

set_option maxHeartbeats 400000 in
theorem unary6_1 (x : Int) (w : World) (hx : chk 1 x = true) : Calls Tryz.prog 135 #[.string ⟨#[70, 108, 111, 111, 114]⟩, .int .i64 1, .int .i64 x] w fun e w' => ∃ r n, r < 4294967296 ∧ e = .returned (.tuple #[.int .i64 (tob r), .int .i64 0]) ∧ w' = w.drewN n := by
  go_enter Tryz.func135, Tryz.ntmps135
  go_wp2_with (first | (go_at_call 69; refine (check_any _ _ _).mono ?_; rintro e w' ⟨rfl, rfl⟩) | (go_at_call 102; refine (from_any _ _).mono ?_; rintro e w' ⟨rfl, rfl⟩) | (go_at_call 161; refine (round6_f _ _ (fb_lt _)).mono ?_; rintro e w' ⟨r, n, hr, rfl, rfl⟩))
  go_ret2
  exact ⟨_, _, ‹_›, rfl, rfl⟩

set_option maxHeartbeats 400000 in
theorem unary7_1 (x : Int) (w : World) (hx : chk 1 x = true) : Calls Tryz.prog 135 #[.string ⟨#[69, 120, 112]⟩, .int .i64 1, .int .i64 x] w fun e w' => ∃ r n, r < 4294967296 ∧ e = .returned (.tuple #[.int .i64 (tob r), .int .i64 0]) ∧ w' = w.drewN n := by
  go_enter Tryz.func135, Tryz.ntmps135
  go_wp2_with (first | (go_at_call 69; refine (check_any _ _ _).mono ?_; rintro e w' ⟨rfl, rfl⟩) | (go_at_call 102; refine (from_any _ _).mono ?_; rintro e w' ⟨rfl, rfl⟩) | (go_at_call 161; refine (round7_f _ _ (fb_lt _)).mono ?_; rintro e w' ⟨r, n, hr, rfl, rfl⟩))
  go_ret2
  exact ⟨_, _, ‹_›, rfl, rfl⟩

set_option maxHeartbeats 400000 in
theorem unary8_1 (x : Int) (w : World) (hx : chk 1 x = true) : Calls Tryz.prog 135 #[.string ⟨#[83, 105, 103, 109, 111, 105, 100]⟩, .int .i64 1, .int .i64 x] w fun e w' => ∃ r n, r < 4294967296 ∧ e = .returned (.tuple #[.int .i64 (tob r), .int .i64 0]) ∧ w' = w.drewN n := by
  go_enter Tryz.func135, Tryz.ntmps135
  go_wp2_with (first | (go_at_call 69; refine (check_any _ _ _).mono ?_; rintro e w' ⟨rfl, rfl⟩) | (go_at_call 102; refine (from_any _ _).mono ?_; rintro e w' ⟨rfl, rfl⟩) | (go_at_call 161; refine (round8_f _ _ (fb_lt _)).mono ?_; rintro e w' ⟨r, n, hr, rfl, rfl⟩))
  go_ret2
  exact ⟨_, _, ‹_›, rfl, rfl⟩

set_option maxHeartbeats 400000 in
theorem unary9_1 (x : Int) (w : World) (hx : chk 1 x = true) : Calls Tryz.prog 135 #[.string ⟨#[84, 97, 110, 104]⟩, .int .i64 1, .int .i64 x] w fun e w' => ∃ r n, r < 4294967296 ∧ e = .returned (.tuple #[.int .i64 (tob r), .int .i64 0]) ∧ w' = w.drewN n := by
  go_enter Tryz.func135, Tryz.ntmps135
  go_wp2_with (first | (go_at_call 69; refine (check_any _ _ _).mono ?_; rintro e w' ⟨rfl, rfl⟩) | (go_at_call 102; refine (from_any _ _).mono ?_; rintro e w' ⟨rfl, rfl⟩) | (go_at_call 161; refine (round9_f _ _ (fb_lt _)).mono ?_; rintro e w' ⟨r, n, hr, rfl, rfl⟩))
  go_ret2
  exact ⟨_, _, ‹_›, rfl, rfl⟩

end Go.Proofs.YtaoplfpigjkgpaaGreatDoor.Nu
