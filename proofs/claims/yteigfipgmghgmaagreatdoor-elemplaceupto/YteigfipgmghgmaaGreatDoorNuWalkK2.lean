/- The walks of Ldexp, exp, sigmoid and tanh: each gives some float's bits, and draws some answers. -/
import Derived.Test.YteigfipgmghgmaaGreatDoorNuWalkK
namespace Go.Proofs.YteigfipgmghgmaaGreatDoor.Nu
open Go.RowKit
attribute [local go_sem] conv_up conv_down conv_int ext_bits64 ext_from64 ext_from ext_bits run_fadd run_fsub run_fmul run_fquo negF_eq

set_option maxHeartbeats 2000000 in
theorem ldexp_w (x : Nat) (m : Int) (w : World) : Calls Tryz.prog 163 #[.float .f64 x, .int .i64 m] w fun e w' => ∃ r n, e = .returned (.float .f64 r) ∧ w' = w.drewN n := by
  go_enter Tryz.func163, Tryz.ntmps163
  go_wp2_with (first | (go_at_call 172; refine (normalize_w _ _).mono ?_; rintro e w' ⟨r, m, n, rfl, rfl⟩) | (go_at_call 171; refine (copysign_w _ _ _).mono ?_; rintro e w' ⟨r, n, rfl, rfl⟩) | go_in)
  all_goals
    go_ret
    first | exact ⟨_, 0, rfl, rfl⟩ | exact ⟨_, _, rfl, rfl⟩

set_option maxHeartbeats 400000 in
theorem Ldexp_w (x : Nat) (m : Int) (w : World) : Calls Tryz.prog 134 #[.float .f64 x, .int .i64 m] w fun e w' => ∃ r n, e = .returned (.float .f64 r) ∧ w' = w.drewN n := by
  go_enter Tryz.func134, Tryz.ntmps134
  go_wp2_with (first | (go_at_call 163; refine (ldexp_w _ _ _).mono ?_; rintro e w' ⟨r, n, rfl, rfl⟩) | go_in)
  go_ret
  exact ⟨_, _, rfl, rfl⟩

set_option maxHeartbeats 1000000 in
theorem exp_w (x : Nat) (w : World) (hx : x < 4294967296) : Calls Tryz.prog 83 #[.float .f32 x] w fun e w' => ∃ r n, r < 4294967296 ∧ e = .returned (.float .f32 r) ∧ w' = w.drewN n := by
  cases h1 : (FloatKind.f32.format.order x x != some .eq) with
  | true =>
    go_enter Tryz.func83, Tryz.ntmps83
    go_wp2
    go_ret
    exact ⟨x, 0, hx, rfl, rfl⟩
  | false =>
    cases h2 : (FloatKind.f32.format.order x 1118961664 == some .gt) with
    | true =>
      go_enter Tryz.func83, Tryz.ntmps83
      go_wp2_with (first | (go_at_call 50; refine (from_any _ _).mono ?_; rintro e w' ⟨rfl, rfl⟩) | go_in)
      go_ret
      exact ⟨_, 0, fb_lt _, rfl, rfl⟩
    | false =>
      cases h3 : (FloatKind.f32.format.order x 3268542464 == some .lt) with
      | true =>
        go_enter Tryz.func83, Tryz.ntmps83
        go_wp2
        go_ret
        exact ⟨0, 0, by decide, rfl, rfl⟩
      | false =>
        go_enter Tryz.func83, Tryz.ntmps83
        go_wp2_with (first | (go_at_call 82; refine (floor_w _ _).mono ?_; rintro e w' ⟨kf, n1, rfl, rfl⟩) | fail)
        go_loopw [6, 7] (fun p i w' => ∃ (k r n : Nat), k ≤ 13 ∧ i = .int .i64 k ∧ p = .float .f64 r ∧ w' = w.drewN n) (fun _ i _ => (intOf i).toNat)
        case atStart => exact ⟨13, _, _, Nat.le_refl _, rfl, rfl, rfl⟩
        case round =>
          obtain ⟨k, r, n, hk, rfl, rfl, rfl⟩ := hrel
          by_cases hlt : 1 ≤ k
          · go_wp2
            go_roundw
            case rel => exact ⟨k - 1, _, _, by omega, by go_num, rfl, rfl⟩
            case measure => simp [intOf]; omega
          · go_wp2_with (first | (go_at_call 134; refine (Ldexp_w _ _ _).mono ?_; rintro e w' ⟨rl, nl, rfl, rfl⟩) | (go_at_call 50; refine (from_any _ _).mono ?_; rintro e w' ⟨rfl, rfl⟩) | go_in)
            all_goals
              go_ret
              first | exact ⟨_, _, fb_lt _, rfl, rfl⟩ | exact ⟨_, _, cval_lt _ _, rfl, rfl⟩
end Go.Proofs.YteigfipgmghgmaaGreatDoor.Nu
