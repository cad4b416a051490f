/- The walks of package num's operators of one, but for those of floats that round. -/
import Derived.Test.YteigfipgmghgmaaGreatDoorNuWalkF
import Derived.Test.YteigfipgmghgmaaGreatDoorNuPlainU
namespace Go.Proofs.YteigfipgmghgmaaGreatDoor.Nu
open Go.RowKit
attribute [local go_sem] ext_from ext_bits negF_eq

set_option maxHeartbeats 400000 in
theorem neg_f (b : Nat) (w : World) (hb : b < 4294967296) : Calls Tryz.prog 49 #[.string ⟨#[78, 101, 103]⟩, .float .f32 b] w fun e w' => e = .returned (.tuple #[.int .i64 (tob (negF b)), .int .i64 0]) ∧ w' = w := by
  have hn := negF_lt b hb
  go_enter Tryz.func49, Tryz.ntmps49
  go_wp2_with (first | (go_at_call 62; refine (to_any _ _ hn).mono ?_; rintro e w' ⟨rfl, rfl⟩) | go_in)
  go_ret2
  exact ⟨rfl, rfl⟩

set_option maxHeartbeats 400000 in
theorem absolute_any (b : Nat) (w : World) (hb : b < 4294967296) : Calls Tryz.prog 79 #[.float .f32 b] w fun e w' => e = .returned (.float .f32 (absF b)) ∧ w' = w := by
  have ha := andNot_u32 b hb
  go_enter Tryz.func79, Tryz.ntmps79
  go_wp2
  go_ret
  exact ⟨by simp [absF], rfl⟩

set_option maxHeartbeats 400000 in
theorem abs_f (b : Nat) (w : World) (hb : b < 4294967296) : Calls Tryz.prog 49 #[.string ⟨#[65, 98, 115]⟩, .float .f32 b] w fun e w' => e = .returned (.tuple #[.int .i64 (tob (absF b)), .int .i64 0]) ∧ w' = w := by
  go_enter Tryz.func49, Tryz.ntmps49
  go_wp2_with (first | (go_at_call 62; refine (to_any _ _ (absF_lt _)).mono ?_; rintro e w' ⟨rfl, rfl⟩) | (go_at_call 79; refine (absolute_any _ _ hb).mono ?_; rintro e w' ⟨rfl, rfl⟩) | go_in)
  go_ret2
  exact ⟨rfl, rfl⟩

set_option maxHeartbeats 400000 in
theorem relu_any (b : Nat) (w : World) : Calls Tryz.prog 80 #[.float .f32 b] w fun e w' => e = .returned (.float .f32 (reluF b)) ∧ w' = w := by
  cases h : (FloatKind.f32.format.order b 0 == some .gt) with
  | true =>
    have c : reluF b = b := by unfold reluF; rw [if_pos h]
    rw [c]; clear c
    go_enter Tryz.func80, Tryz.ntmps80
    go_wp2
    go_ret
    exact ⟨rfl, rfl⟩
  | false =>
    cases h' : (FloatKind.f32.format.order b b != some .eq) with
    | true =>
      have c : reluF b = b := by unfold reluF; rw [h, h']; rfl
      rw [c]; clear c
      go_enter Tryz.func80, Tryz.ntmps80
      go_wp2
      go_ret
      exact ⟨rfl, rfl⟩
    | false =>
      have c : reluF b = 0 := by unfold reluF; rw [h, h']; rfl
      rw [c]; clear c
      go_enter Tryz.func80, Tryz.ntmps80
      go_wp2
      go_ret
      exact ⟨rfl, rfl⟩

set_option maxHeartbeats 400000 in
theorem relu_f (b : Nat) (w : World) (hb : b < 4294967296) : Calls Tryz.prog 49 #[.string ⟨#[82, 101, 108, 117]⟩, .float .f32 b] w fun e w' => e = .returned (.tuple #[.int .i64 (tob (reluF b)), .int .i64 0]) ∧ w' = w := by
  go_enter Tryz.func49, Tryz.ntmps49
  go_wp2_with (first | (go_at_call 62; refine (to_any _ _ (reluF_lt _ hb)).mono ?_; rintro e w' ⟨rfl, rfl⟩) | (go_at_call 80; refine (relu_any _ _).mono ?_; rintro e w' ⟨rfl, rfl⟩) | go_in)
  go_ret2
  exact ⟨rfl, rfl⟩

set_option maxHeartbeats 400000 in
theorem not_f (b : Nat) (w : World) : Calls Tryz.prog 49 #[.string ⟨#[78, 111, 116]⟩, .float .f32 b] w fun e w' => e = .returned (.tuple #[.int .i64 0, .int .i64 1]) ∧ w' = w := by
  go_enter Tryz.func49, Tryz.ntmps49
  go_wp2
  go_ret2
  exact ⟨rfl, rfl⟩

set_option maxHeartbeats 400000 in
theorem uint1_f (t x : Int) (w : World) : Calls Tryz.prog 51 #[.string ⟨#[78, 101, 103]⟩, .int .i64 t, .int .i64 x] w fun e w' => e = .returned (.tuple #[.int .i64 (wrapT t (wrap64 (-x))), .int .i64 0]) ∧ w' = w := by
  cases h : (t == 6) with
  | true =>
    rw [wrapT6 t _ h]
    go_enter Tryz.func51, Tryz.ntmps51
    go_wp2
    go_ret2
    exact ⟨rfl, rfl⟩
  | false =>
    rw [wrapT7 t _ h]
    go_enter Tryz.func51, Tryz.ntmps51
    go_wp2
    go_ret2
    exact ⟨rfl, rfl⟩

set_option maxHeartbeats 400000 in
theorem uint2_f (t x : Int) (w : World) : Calls Tryz.prog 51 #[.string ⟨#[65, 98, 115]⟩, .int .i64 t, .int .i64 x] w fun e w' => e = .returned (.tuple #[.int .i64 (absI t x), .int .i64 0]) ∧ w' = w := by
  by_cases hx : x < 0
  · rw [show absI t x = wrapT t (wrap64 (-x)) from if_pos hx]
    cases h : (t == 6) with
    | true =>
      rw [wrapT6 t _ h]
      go_enter Tryz.func51, Tryz.ntmps51
      go_wp2
      go_ret2
      exact ⟨rfl, rfl⟩
    | false =>
      rw [wrapT7 t _ h]
      go_enter Tryz.func51, Tryz.ntmps51
      go_wp2
      go_ret2
      exact ⟨rfl, rfl⟩
  · rw [show absI t x = x from if_neg hx]
    go_enter Tryz.func51, Tryz.ntmps51
    go_wp2
    go_ret2
    exact ⟨rfl, rfl⟩

set_option maxHeartbeats 400000 in
theorem uint3_f (t x : Int) (w : World) : Calls Tryz.prog 51 #[.string ⟨#[78, 111, 116]⟩, .int .i64 t, .int .i64 x] w fun e w' => e = .returned (.tuple #[.int .i64 0, .int .i64 1]) ∧ w' = w := by
  go_enter Tryz.func51, Tryz.ntmps51
  go_wp2
  go_ret2
  exact ⟨rfl, rfl⟩

set_option maxHeartbeats 400000 in
theorem uint4_f (t x : Int) (w : World) : Calls Tryz.prog 51 #[.string ⟨#[82, 101, 108, 117]⟩, .int .i64 t, .int .i64 x] w fun e w' => e = .returned (.tuple #[.int .i64 0, .int .i64 1]) ∧ w' = w := by
  go_enter Tryz.func51, Tryz.ntmps51
  go_wp2
  go_ret2
  exact ⟨rfl, rfl⟩

set_option maxHeartbeats 400000 in
theorem uint5_f (t x : Int) (w : World) : Calls Tryz.prog 51 #[.string ⟨#[83, 113, 114, 116]⟩, .int .i64 t, .int .i64 x] w fun e w' => e = .returned (.tuple #[.int .i64 0, .int .i64 1]) ∧ w' = w := by
  go_enter Tryz.func51, Tryz.ntmps51
  go_wp2
  go_ret2
  exact ⟨rfl, rfl⟩

set_option maxHeartbeats 400000 in
theorem uint6_f (t x : Int) (w : World) : Calls Tryz.prog 51 #[.string ⟨#[70, 108, 111, 111, 114]⟩, .int .i64 t, .int .i64 x] w fun e w' => e = .returned (.tuple #[.int .i64 0, .int .i64 1]) ∧ w' = w := by
  go_enter Tryz.func51, Tryz.ntmps51
  go_wp2
  go_ret2
  exact ⟨rfl, rfl⟩

set_option maxHeartbeats 400000 in
theorem uint7_f (t x : Int) (w : World) : Calls Tryz.prog 51 #[.string ⟨#[69, 120, 112]⟩, .int .i64 t, .int .i64 x] w fun e w' => e = .returned (.tuple #[.int .i64 0, .int .i64 1]) ∧ w' = w := by
  go_enter Tryz.func51, Tryz.ntmps51
  go_wp2
  go_ret2
  exact ⟨rfl, rfl⟩

set_option maxHeartbeats 400000 in
theorem uint8_f (t x : Int) (w : World) : Calls Tryz.prog 51 #[.string ⟨#[83, 105, 103, 109, 111, 105, 100]⟩, .int .i64 t, .int .i64 x] w fun e w' => e = .returned (.tuple #[.int .i64 0, .int .i64 1]) ∧ w' = w := by
  go_enter Tryz.func51, Tryz.ntmps51
  go_wp2
  go_ret2
  exact ⟨rfl, rfl⟩

set_option maxHeartbeats 400000 in
theorem uint9_f (t x : Int) (w : World) : Calls Tryz.prog 51 #[.string ⟨#[84, 97, 110, 104]⟩, .int .i64 t, .int .i64 x] w fun e w' => e = .returned (.tuple #[.int .i64 0, .int .i64 1]) ∧ w' = w := by
  go_enter Tryz.func51, Tryz.ntmps51
  go_wp2
  go_ret2
  exact ⟨rfl, rfl⟩

set_option maxHeartbeats 400000 in
theorem ubool3_f (x : Int) (w : World) (hx : x = 0 ∨ x = 1) : Calls Tryz.prog 52 #[.string ⟨#[78, 111, 116]⟩, .int .i64 x] w fun e w' => e = .returned (.tuple #[.int .i64 (1 - x), .int .i64 0]) ∧ w' = w := by
  rcases hx with rfl | rfl
  all_goals
    go_enter Tryz.func52, Tryz.ntmps52
    go_wp2
    go_ret2
    exact ⟨rfl, rfl⟩

set_option maxHeartbeats 400000 in
theorem ubool1_f (x : Int) (w : World) : Calls Tryz.prog 52 #[.string ⟨#[78, 101, 103]⟩, .int .i64 x] w fun e w' => e = .returned (.tuple #[.int .i64 0, .int .i64 1]) ∧ w' = w := by
  go_enter Tryz.func52, Tryz.ntmps52
  go_wp2
  go_ret2
  exact ⟨rfl, rfl⟩

set_option maxHeartbeats 400000 in
theorem ubool2_f (x : Int) (w : World) : Calls Tryz.prog 52 #[.string ⟨#[65, 98, 115]⟩, .int .i64 x] w fun e w' => e = .returned (.tuple #[.int .i64 0, .int .i64 1]) ∧ w' = w := by
  go_enter Tryz.func52, Tryz.ntmps52
  go_wp2
  go_ret2
  exact ⟨rfl, rfl⟩

set_option maxHeartbeats 400000 in
theorem ubool4_f (x : Int) (w : World) : Calls Tryz.prog 52 #[.string ⟨#[82, 101, 108, 117]⟩, .int .i64 x] w fun e w' => e = .returned (.tuple #[.int .i64 0, .int .i64 1]) ∧ w' = w := by
  go_enter Tryz.func52, Tryz.ntmps52
  go_wp2
  go_ret2
  exact ⟨rfl, rfl⟩

set_option maxHeartbeats 400000 in
theorem ubool5_f (x : Int) (w : World) : Calls Tryz.prog 52 #[.string ⟨#[83, 113, 114, 116]⟩, .int .i64 x] w fun e w' => e = .returned (.tuple #[.int .i64 0, .int .i64 1]) ∧ w' = w := by
  go_enter Tryz.func52, Tryz.ntmps52
  go_wp2
  go_ret2
  exact ⟨rfl, rfl⟩

set_option maxHeartbeats 400000 in
theorem ubool6_f (x : Int) (w : World) : Calls Tryz.prog 52 #[.string ⟨#[70, 108, 111, 111, 114]⟩, .int .i64 x] w fun e w' => e = .returned (.tuple #[.int .i64 0, .int .i64 1]) ∧ w' = w := by
  go_enter Tryz.func52, Tryz.ntmps52
  go_wp2
  go_ret2
  exact ⟨rfl, rfl⟩

set_option maxHeartbeats 400000 in
theorem ubool7_f (x : Int) (w : World) : Calls Tryz.prog 52 #[.string ⟨#[69, 120, 112]⟩, .int .i64 x] w fun e w' => e = .returned (.tuple #[.int .i64 0, .int .i64 1]) ∧ w' = w := by
  go_enter Tryz.func52, Tryz.ntmps52
  go_wp2
  go_ret2
  exact ⟨rfl, rfl⟩

set_option maxHeartbeats 400000 in
theorem ubool8_f (x : Int) (w : World) : Calls Tryz.prog 52 #[.string ⟨#[83, 105, 103, 109, 111, 105, 100]⟩, .int .i64 x] w fun e w' => e = .returned (.tuple #[.int .i64 0, .int .i64 1]) ∧ w' = w := by
  go_enter Tryz.func52, Tryz.ntmps52
  go_wp2
  go_ret2
  exact ⟨rfl, rfl⟩

set_option maxHeartbeats 400000 in
theorem ubool9_f (x : Int) (w : World) : Calls Tryz.prog 52 #[.string ⟨#[84, 97, 110, 104]⟩, .int .i64 x] w fun e w' => e = .returned (.tuple #[.int .i64 0, .int .i64 1]) ∧ w' = w := by
  go_enter Tryz.func52, Tryz.ntmps52
  go_wp2
  go_ret2
  exact ⟨rfl, rfl⟩

theorem un_no (k : Nat) (t x : Int) (h : chk t x = false) : un k t x = (0, 1) := by simp [un, h]
theorem un_0 (t x : Int) (h : chk t x = true) : un 0 t x = (x, 0) := by simp [un, h]
theorem un_1 (k : Nat) (x : Int) (h : chk 1 x = true) (hk : k ≠ 0) : un k 1 x = unFl k (fb x) := by simp [un, h, hk]
theorem un_6 (k : Nat) (x : Int) (h : chk 6 x = true) (hk : k ≠ 0) : un k 6 x = unIn k 6 x := by simp [un, h, hk]
theorem un_7 (k : Nat) (x : Int) (h : chk 7 x = true) (hk : k ≠ 0) : un k 7 x = unIn k 7 x := by simp [un, h, hk]
theorem un_9 (k : Nat) (x : Int) (h : chk 9 x = true) (hk : k ≠ 0) : un k 9 x = unBo k x := by simp [un, h, hk]

set_option maxHeartbeats 400000 in
theorem unary0_no (t x : Int) (w : World) (hx : chk t x = false) : Calls Tryz.prog 29 #[.string ⟨#[73, 100, 101, 110, 116, 105, 116, 121]⟩, .int .i64 t, .int .i64 x] w fun e w' => e = .returned (.tuple #[.int .i64 (un 0 t x).1, .int .i64 (un 0 t x).2]) ∧ w' = w := by
  rw [un_no 0 t x hx]
  go_enter Tryz.func29, Tryz.ntmps29
  go_wp2_with (first | (go_at_call 45; refine (check_any _ _ _).mono ?_; rintro e w' ⟨rfl, rfl⟩))
  go_ret2
  exact ⟨rfl, rfl⟩

set_option maxHeartbeats 400000 in
theorem unary0_yes (t x : Int) (w : World) (hx : chk t x = true) : Calls Tryz.prog 29 #[.string ⟨#[73, 100, 101, 110, 116, 105, 116, 121]⟩, .int .i64 t, .int .i64 x] w fun e w' => e = .returned (.tuple #[.int .i64 (un 0 t x).1, .int .i64 (un 0 t x).2]) ∧ w' = w := by
  rw [un_0 t x hx]
  go_enter Tryz.func29, Tryz.ntmps29
  go_wp2_with (first | (go_at_call 45; refine (check_any _ _ _).mono ?_; rintro e w' ⟨rfl, rfl⟩))
  go_ret2
  exact ⟨rfl, rfl⟩

theorem unary0 (t x : Int) (w : World) : Calls Tryz.prog 29 #[.string ⟨#[73, 100, 101, 110, 116, 105, 116, 121]⟩, .int .i64 t, .int .i64 x] w fun e w' => e = .returned (.tuple #[.int .i64 (un 0 t x).1, .int .i64 (un 0 t x).2]) ∧ w' = w := by
  cases hx : chk t x with
  | false => exact unary0_no t x w hx
  | true => exact unary0_yes t x w hx

set_option maxHeartbeats 400000 in
theorem unary1_no (t x : Int) (w : World) (hx : chk t x = false) : Calls Tryz.prog 29 #[.string ⟨#[78, 101, 103]⟩, .int .i64 t, .int .i64 x] w fun e w' => e = .returned (.tuple #[.int .i64 (un 1 t x).1, .int .i64 (un 1 t x).2]) ∧ w' = w := by
  rw [un_no 1 t x hx]
  go_enter Tryz.func29, Tryz.ntmps29
  go_wp2_with (first | (go_at_call 45; refine (check_any _ _ _).mono ?_; rintro e w' ⟨rfl, rfl⟩))
  go_ret2
  exact ⟨rfl, rfl⟩

set_option maxHeartbeats 400000 in
theorem unary1_1 (x : Int) (w : World) (hx : chk 1 x = true) : Calls Tryz.prog 29 #[.string ⟨#[78, 101, 103]⟩, .int .i64 1, .int .i64 x] w fun e w' => e = .returned (.tuple #[.int .i64 (un 1 1 x).1, .int .i64 (un 1 1 x).2]) ∧ w' = w := by
  rw [un_1 1 x hx (by decide)]
  go_enter Tryz.func29, Tryz.ntmps29
  go_wp2_with (first | (go_at_call 45; refine (check_any _ _ _).mono ?_; rintro e w' ⟨rfl, rfl⟩) | (go_at_call 50; refine (from_any _ _).mono ?_; rintro e w' ⟨rfl, rfl⟩) | (go_at_call 49; refine (neg_f _ _ (fb_lt _)).mono ?_; rintro e w' ⟨rfl, rfl⟩))
  go_ret2
  exact ⟨rfl, rfl⟩

set_option maxHeartbeats 400000 in
theorem unary1_6 (x : Int) (w : World) (hx : chk 6 x = true) : Calls Tryz.prog 29 #[.string ⟨#[78, 101, 103]⟩, .int .i64 6, .int .i64 x] w fun e w' => e = .returned (.tuple #[.int .i64 (un 1 6 x).1, .int .i64 (un 1 6 x).2]) ∧ w' = w := by
  rw [un_6 1 x hx (by decide)]
  go_enter Tryz.func29, Tryz.ntmps29
  go_wp2_with (first | (go_at_call 45; refine (check_any _ _ _).mono ?_; rintro e w' ⟨rfl, rfl⟩) | (go_at_call 51; refine (uint1_f _ _ _).mono ?_; rintro e w' ⟨rfl, rfl⟩))
  go_ret2
  exact ⟨rfl, rfl⟩

set_option maxHeartbeats 400000 in
theorem unary1_7 (x : Int) (w : World) (hx : chk 7 x = true) : Calls Tryz.prog 29 #[.string ⟨#[78, 101, 103]⟩, .int .i64 7, .int .i64 x] w fun e w' => e = .returned (.tuple #[.int .i64 (un 1 7 x).1, .int .i64 (un 1 7 x).2]) ∧ w' = w := by
  rw [un_7 1 x hx (by decide)]
  go_enter Tryz.func29, Tryz.ntmps29
  go_wp2_with (first | (go_at_call 45; refine (check_any _ _ _).mono ?_; rintro e w' ⟨rfl, rfl⟩) | (go_at_call 51; refine (uint1_f _ _ _).mono ?_; rintro e w' ⟨rfl, rfl⟩))
  go_ret2
  exact ⟨rfl, rfl⟩

set_option maxHeartbeats 400000 in
theorem unary1_9 (x : Int) (w : World) (hx : chk 9 x = true) : Calls Tryz.prog 29 #[.string ⟨#[78, 101, 103]⟩, .int .i64 9, .int .i64 x] w fun e w' => e = .returned (.tuple #[.int .i64 (un 1 9 x).1, .int .i64 (un 1 9 x).2]) ∧ w' = w := by
  rw [un_9 1 x hx (by decide)]
  go_enter Tryz.func29, Tryz.ntmps29
  go_wp2_with (first | (go_at_call 45; refine (check_any _ _ _).mono ?_; rintro e w' ⟨rfl, rfl⟩) | (go_at_call 52; refine (ubool1_f _ _).mono ?_; rintro e w' ⟨rfl, rfl⟩))
  go_ret2
  exact ⟨rfl, rfl⟩

theorem unary1 (t x : Int) (w : World) : Calls Tryz.prog 29 #[.string ⟨#[78, 101, 103]⟩, .int .i64 t, .int .i64 x] w fun e w' => e = .returned (.tuple #[.int .i64 (un 1 t x).1, .int .i64 (un 1 t x).2]) ∧ w' = w := by
  cases hx : chk t x with
  | false => exact unary1_no t x w hx
  | true =>
    rcases chk_types t x hx with rfl | rfl | rfl | rfl
    · exact unary1_1 x w hx
    · exact unary1_6 x w hx
    · exact unary1_7 x w hx
    · exact unary1_9 x w hx

set_option maxHeartbeats 400000 in
theorem unary2_no (t x : Int) (w : World) (hx : chk t x = false) : Calls Tryz.prog 29 #[.string ⟨#[65, 98, 115]⟩, .int .i64 t, .int .i64 x] w fun e w' => e = .returned (.tuple #[.int .i64 (un 2 t x).1, .int .i64 (un 2 t x).2]) ∧ w' = w := by
  rw [un_no 2 t x hx]
  go_enter Tryz.func29, Tryz.ntmps29
  go_wp2_with (first | (go_at_call 45; refine (check_any _ _ _).mono ?_; rintro e w' ⟨rfl, rfl⟩))
  go_ret2
  exact ⟨rfl, rfl⟩

set_option maxHeartbeats 400000 in
theorem unary2_1 (x : Int) (w : World) (hx : chk 1 x = true) : Calls Tryz.prog 29 #[.string ⟨#[65, 98, 115]⟩, .int .i64 1, .int .i64 x] w fun e w' => e = .returned (.tuple #[.int .i64 (un 2 1 x).1, .int .i64 (un 2 1 x).2]) ∧ w' = w := by
  rw [un_1 2 x hx (by decide)]
  go_enter Tryz.func29, Tryz.ntmps29
  go_wp2_with (first | (go_at_call 45; refine (check_any _ _ _).mono ?_; rintro e w' ⟨rfl, rfl⟩) | (go_at_call 50; refine (from_any _ _).mono ?_; rintro e w' ⟨rfl, rfl⟩) | (go_at_call 49; refine (abs_f _ _ (fb_lt _)).mono ?_; rintro e w' ⟨rfl, rfl⟩))
  go_ret2
  exact ⟨rfl, rfl⟩

set_option maxHeartbeats 400000 in
theorem unary2_6 (x : Int) (w : World) (hx : chk 6 x = true) : Calls Tryz.prog 29 #[.string ⟨#[65, 98, 115]⟩, .int .i64 6, .int .i64 x] w fun e w' => e = .returned (.tuple #[.int .i64 (un 2 6 x).1, .int .i64 (un 2 6 x).2]) ∧ w' = w := by
  rw [un_6 2 x hx (by decide)]
  go_enter Tryz.func29, Tryz.ntmps29
  go_wp2_with (first | (go_at_call 45; refine (check_any _ _ _).mono ?_; rintro e w' ⟨rfl, rfl⟩) | (go_at_call 51; refine (uint2_f _ _ _).mono ?_; rintro e w' ⟨rfl, rfl⟩))
  go_ret2
  exact ⟨rfl, rfl⟩

set_option maxHeartbeats 400000 in
theorem unary2_7 (x : Int) (w : World) (hx : chk 7 x = true) : Calls Tryz.prog 29 #[.string ⟨#[65, 98, 115]⟩, .int .i64 7, .int .i64 x] w fun e w' => e = .returned (.tuple #[.int .i64 (un 2 7 x).1, .int .i64 (un 2 7 x).2]) ∧ w' = w := by
  rw [un_7 2 x hx (by decide)]
  go_enter Tryz.func29, Tryz.ntmps29
  go_wp2_with (first | (go_at_call 45; refine (check_any _ _ _).mono ?_; rintro e w' ⟨rfl, rfl⟩) | (go_at_call 51; refine (uint2_f _ _ _).mono ?_; rintro e w' ⟨rfl, rfl⟩))
  go_ret2
  exact ⟨rfl, rfl⟩

set_option maxHeartbeats 400000 in
theorem unary2_9 (x : Int) (w : World) (hx : chk 9 x = true) : Calls Tryz.prog 29 #[.string ⟨#[65, 98, 115]⟩, .int .i64 9, .int .i64 x] w fun e w' => e = .returned (.tuple #[.int .i64 (un 2 9 x).1, .int .i64 (un 2 9 x).2]) ∧ w' = w := by
  rw [un_9 2 x hx (by decide)]
  go_enter Tryz.func29, Tryz.ntmps29
  go_wp2_with (first | (go_at_call 45; refine (check_any _ _ _).mono ?_; rintro e w' ⟨rfl, rfl⟩) | (go_at_call 52; refine (ubool2_f _ _).mono ?_; rintro e w' ⟨rfl, rfl⟩))
  go_ret2
  exact ⟨rfl, rfl⟩

theorem unary2 (t x : Int) (w : World) : Calls Tryz.prog 29 #[.string ⟨#[65, 98, 115]⟩, .int .i64 t, .int .i64 x] w fun e w' => e = .returned (.tuple #[.int .i64 (un 2 t x).1, .int .i64 (un 2 t x).2]) ∧ w' = w := by
  cases hx : chk t x with
  | false => exact unary2_no t x w hx
  | true =>
    rcases chk_types t x hx with rfl | rfl | rfl | rfl
    · exact unary2_1 x w hx
    · exact unary2_6 x w hx
    · exact unary2_7 x w hx
    · exact unary2_9 x w hx

set_option maxHeartbeats 400000 in
theorem unary3_no (t x : Int) (w : World) (hx : chk t x = false) : Calls Tryz.prog 29 #[.string ⟨#[78, 111, 116]⟩, .int .i64 t, .int .i64 x] w fun e w' => e = .returned (.tuple #[.int .i64 (un 3 t x).1, .int .i64 (un 3 t x).2]) ∧ w' = w := by
  rw [un_no 3 t x hx]
  go_enter Tryz.func29, Tryz.ntmps29
  go_wp2_with (first | (go_at_call 45; refine (check_any _ _ _).mono ?_; rintro e w' ⟨rfl, rfl⟩))
  go_ret2
  exact ⟨rfl, rfl⟩

set_option maxHeartbeats 400000 in
theorem unary3_1 (x : Int) (w : World) (hx : chk 1 x = true) : Calls Tryz.prog 29 #[.string ⟨#[78, 111, 116]⟩, .int .i64 1, .int .i64 x] w fun e w' => e = .returned (.tuple #[.int .i64 (un 3 1 x).1, .int .i64 (un 3 1 x).2]) ∧ w' = w := by
  rw [un_1 3 x hx (by decide)]
  go_enter Tryz.func29, Tryz.ntmps29
  go_wp2_with (first | (go_at_call 45; refine (check_any _ _ _).mono ?_; rintro e w' ⟨rfl, rfl⟩) | (go_at_call 50; refine (from_any _ _).mono ?_; rintro e w' ⟨rfl, rfl⟩) | (go_at_call 49; refine (not_f _ _).mono ?_; rintro e w' ⟨rfl, rfl⟩))
  go_ret2
  exact ⟨rfl, rfl⟩

set_option maxHeartbeats 400000 in
theorem unary3_6 (x : Int) (w : World) (hx : chk 6 x = true) : Calls Tryz.prog 29 #[.string ⟨#[78, 111, 116]⟩, .int .i64 6, .int .i64 x] w fun e w' => e = .returned (.tuple #[.int .i64 (un 3 6 x).1, .int .i64 (un 3 6 x).2]) ∧ w' = w := by
  rw [un_6 3 x hx (by decide)]
  go_enter Tryz.func29, Tryz.ntmps29
  go_wp2_with (first | (go_at_call 45; refine (check_any _ _ _).mono ?_; rintro e w' ⟨rfl, rfl⟩) | (go_at_call 51; refine (uint3_f _ _ _).mono ?_; rintro e w' ⟨rfl, rfl⟩))
  go_ret2
  exact ⟨rfl, rfl⟩

set_option maxHeartbeats 400000 in
theorem unary3_7 (x : Int) (w : World) (hx : chk 7 x = true) : Calls Tryz.prog 29 #[.string ⟨#[78, 111, 116]⟩, .int .i64 7, .int .i64 x] w fun e w' => e = .returned (.tuple #[.int .i64 (un 3 7 x).1, .int .i64 (un 3 7 x).2]) ∧ w' = w := by
  rw [un_7 3 x hx (by decide)]
  go_enter Tryz.func29, Tryz.ntmps29
  go_wp2_with (first | (go_at_call 45; refine (check_any _ _ _).mono ?_; rintro e w' ⟨rfl, rfl⟩) | (go_at_call 51; refine (uint3_f _ _ _).mono ?_; rintro e w' ⟨rfl, rfl⟩))
  go_ret2
  exact ⟨rfl, rfl⟩

set_option maxHeartbeats 400000 in
theorem unary3_9 (x : Int) (w : World) (hx : chk 9 x = true) : Calls Tryz.prog 29 #[.string ⟨#[78, 111, 116]⟩, .int .i64 9, .int .i64 x] w fun e w' => e = .returned (.tuple #[.int .i64 (un 3 9 x).1, .int .i64 (un 3 9 x).2]) ∧ w' = w := by
  rw [un_9 3 x hx (by decide)]
  go_enter Tryz.func29, Tryz.ntmps29
  go_wp2_with (first | (go_at_call 45; refine (check_any _ _ _).mono ?_; rintro e w' ⟨rfl, rfl⟩) | (go_at_call 52; refine (ubool3_f _ _ (chk9 _ hx)).mono ?_; rintro e w' ⟨rfl, rfl⟩))
  go_ret2
  exact ⟨rfl, rfl⟩

theorem unary3 (t x : Int) (w : World) : Calls Tryz.prog 29 #[.string ⟨#[78, 111, 116]⟩, .int .i64 t, .int .i64 x] w fun e w' => e = .returned (.tuple #[.int .i64 (un 3 t x).1, .int .i64 (un 3 t x).2]) ∧ w' = w := by
  cases hx : chk t x with
  | false => exact unary3_no t x w hx
  | true =>
    rcases chk_types t x hx with rfl | rfl | rfl | rfl
    · exact unary3_1 x w hx
    · exact unary3_6 x w hx
    · exact unary3_7 x w hx
    · exact unary3_9 x w hx

set_option maxHeartbeats 400000 in
theorem unary4_no (t x : Int) (w : World) (hx : chk t x = false) : Calls Tryz.prog 29 #[.string ⟨#[82, 101, 108, 117]⟩, .int .i64 t, .int .i64 x] w fun e w' => e = .returned (.tuple #[.int .i64 (un 4 t x).1, .int .i64 (un 4 t x).2]) ∧ w' = w := by
  rw [un_no 4 t x hx]
  go_enter Tryz.func29, Tryz.ntmps29
  go_wp2_with (first | (go_at_call 45; refine (check_any _ _ _).mono ?_; rintro e w' ⟨rfl, rfl⟩))
  go_ret2
  exact ⟨rfl, rfl⟩

set_option maxHeartbeats 400000 in
theorem unary4_1 (x : Int) (w : World) (hx : chk 1 x = true) : Calls Tryz.prog 29 #[.string ⟨#[82, 101, 108, 117]⟩, .int .i64 1, .int .i64 x] w fun e w' => e = .returned (.tuple #[.int .i64 (un 4 1 x).1, .int .i64 (un 4 1 x).2]) ∧ w' = w := by
  rw [un_1 4 x hx (by decide)]
  go_enter Tryz.func29, Tryz.ntmps29
  go_wp2_with (first | (go_at_call 45; refine (check_any _ _ _).mono ?_; rintro e w' ⟨rfl, rfl⟩) | (go_at_call 50; refine (from_any _ _).mono ?_; rintro e w' ⟨rfl, rfl⟩) | (go_at_call 49; refine (relu_f _ _ (fb_lt _)).mono ?_; rintro e w' ⟨rfl, rfl⟩))
  go_ret2
  exact ⟨rfl, rfl⟩

set_option maxHeartbeats 400000 in
theorem unary4_6 (x : Int) (w : World) (hx : chk 6 x = true) : Calls Tryz.prog 29 #[.string ⟨#[82, 101, 108, 117]⟩, .int .i64 6, .int .i64 x] w fun e w' => e = .returned (.tuple #[.int .i64 (un 4 6 x).1, .int .i64 (un 4 6 x).2]) ∧ w' = w := by
  rw [un_6 4 x hx (by decide)]
  go_enter Tryz.func29, Tryz.ntmps29
  go_wp2_with (first | (go_at_call 45; refine (check_any _ _ _).mono ?_; rintro e w' ⟨rfl, rfl⟩) | (go_at_call 51; refine (uint4_f _ _ _).mono ?_; rintro e w' ⟨rfl, rfl⟩))
  go_ret2
  exact ⟨rfl, rfl⟩

set_option maxHeartbeats 400000 in
theorem unary4_7 (x : Int) (w : World) (hx : chk 7 x = true) : Calls Tryz.prog 29 #[.string ⟨#[82, 101, 108, 117]⟩, .int .i64 7, .int .i64 x] w fun e w' => e = .returned (.tuple #[.int .i64 (un 4 7 x).1, .int .i64 (un 4 7 x).2]) ∧ w' = w := by
  rw [un_7 4 x hx (by decide)]
  go_enter Tryz.func29, Tryz.ntmps29
  go_wp2_with (first | (go_at_call 45; refine (check_any _ _ _).mono ?_; rintro e w' ⟨rfl, rfl⟩) | (go_at_call 51; refine (uint4_f _ _ _).mono ?_; rintro e w' ⟨rfl, rfl⟩))
  go_ret2
  exact ⟨rfl, rfl⟩

set_option maxHeartbeats 400000 in
theorem unary4_9 (x : Int) (w : World) (hx : chk 9 x = true) : Calls Tryz.prog 29 #[.string ⟨#[82, 101, 108, 117]⟩, .int .i64 9, .int .i64 x] w fun e w' => e = .returned (.tuple #[.int .i64 (un 4 9 x).1, .int .i64 (un 4 9 x).2]) ∧ w' = w := by
  rw [un_9 4 x hx (by decide)]
  go_enter Tryz.func29, Tryz.ntmps29
  go_wp2_with (first | (go_at_call 45; refine (check_any _ _ _).mono ?_; rintro e w' ⟨rfl, rfl⟩) | (go_at_call 52; refine (ubool4_f _ _).mono ?_; rintro e w' ⟨rfl, rfl⟩))
  go_ret2
  exact ⟨rfl, rfl⟩

theorem unary4 (t x : Int) (w : World) : Calls Tryz.prog 29 #[.string ⟨#[82, 101, 108, 117]⟩, .int .i64 t, .int .i64 x] w fun e w' => e = .returned (.tuple #[.int .i64 (un 4 t x).1, .int .i64 (un 4 t x).2]) ∧ w' = w := by
  cases hx : chk t x with
  | false => exact unary4_no t x w hx
  | true =>
    rcases chk_types t x hx with rfl | rfl | rfl | rfl
    · exact unary4_1 x w hx
    · exact unary4_6 x w hx
    · exact unary4_7 x w hx
    · exact unary4_9 x w hx

set_option maxHeartbeats 400000 in
theorem unary5_no (t x : Int) (w : World) (hx : chk t x = false) : Calls Tryz.prog 29 #[.string ⟨#[83, 113, 114, 116]⟩, .int .i64 t, .int .i64 x] w fun e w' => e = .returned (.tuple #[.int .i64 (un 5 t x).1, .int .i64 (un 5 t x).2]) ∧ w' = w := by
  rw [un_no 5 t x hx]
  go_enter Tryz.func29, Tryz.ntmps29
  go_wp2_with (first | (go_at_call 45; refine (check_any _ _ _).mono ?_; rintro e w' ⟨rfl, rfl⟩))
  go_ret2
  exact ⟨rfl, rfl⟩

set_option maxHeartbeats 400000 in
theorem unary5_6 (x : Int) (w : World) (hx : chk 6 x = true) : Calls Tryz.prog 29 #[.string ⟨#[83, 113, 114, 116]⟩, .int .i64 6, .int .i64 x] w fun e w' => e = .returned (.tuple #[.int .i64 (un 5 6 x).1, .int .i64 (un 5 6 x).2]) ∧ w' = w := by
  rw [un_6 5 x hx (by decide)]
  go_enter Tryz.func29, Tryz.ntmps29
  go_wp2_with (first | (go_at_call 45; refine (check_any _ _ _).mono ?_; rintro e w' ⟨rfl, rfl⟩) | (go_at_call 51; refine (uint5_f _ _ _).mono ?_; rintro e w' ⟨rfl, rfl⟩))
  go_ret2
  exact ⟨rfl, rfl⟩

set_option maxHeartbeats 400000 in
theorem unary5_7 (x : Int) (w : World) (hx : chk 7 x = true) : Calls Tryz.prog 29 #[.string ⟨#[83, 113, 114, 116]⟩, .int .i64 7, .int .i64 x] w fun e w' => e = .returned (.tuple #[.int .i64 (un 5 7 x).1, .int .i64 (un 5 7 x).2]) ∧ w' = w := by
  rw [un_7 5 x hx (by decide)]
  go_enter Tryz.func29, Tryz.ntmps29
  go_wp2_with (first | (go_at_call 45; refine (check_any _ _ _).mono ?_; rintro e w' ⟨rfl, rfl⟩) | (go_at_call 51; refine (uint5_f _ _ _).mono ?_; rintro e w' ⟨rfl, rfl⟩))
  go_ret2
  exact ⟨rfl, rfl⟩

set_option maxHeartbeats 400000 in
theorem unary5_9 (x : Int) (w : World) (hx : chk 9 x = true) : Calls Tryz.prog 29 #[.string ⟨#[83, 113, 114, 116]⟩, .int .i64 9, .int .i64 x] w fun e w' => e = .returned (.tuple #[.int .i64 (un 5 9 x).1, .int .i64 (un 5 9 x).2]) ∧ w' = w := by
  rw [un_9 5 x hx (by decide)]
  go_enter Tryz.func29, Tryz.ntmps29
  go_wp2_with (first | (go_at_call 45; refine (check_any _ _ _).mono ?_; rintro e w' ⟨rfl, rfl⟩) | (go_at_call 52; refine (ubool5_f _ _).mono ?_; rintro e w' ⟨rfl, rfl⟩))
  go_ret2
  exact ⟨rfl, rfl⟩

set_option maxHeartbeats 400000 in
theorem unary6_no (t x : Int) (w : World) (hx : chk t x = false) : Calls Tryz.prog 29 #[.string ⟨#[70, 108, 111, 111, 114]⟩, .int .i64 t, .int .i64 x] w fun e w' => e = .returned (.tuple #[.int .i64 (un 6 t x).1, .int .i64 (un 6 t x).2]) ∧ w' = w := by
  rw [un_no 6 t x hx]
  go_enter Tryz.func29, Tryz.ntmps29
  go_wp2_with (first | (go_at_call 45; refine (check_any _ _ _).mono ?_; rintro e w' ⟨rfl, rfl⟩))
  go_ret2
  exact ⟨rfl, rfl⟩

set_option maxHeartbeats 400000 in
theorem unary6_6 (x : Int) (w : World) (hx : chk 6 x = true) : Calls Tryz.prog 29 #[.string ⟨#[70, 108, 111, 111, 114]⟩, .int .i64 6, .int .i64 x] w fun e w' => e = .returned (.tuple #[.int .i64 (un 6 6 x).1, .int .i64 (un 6 6 x).2]) ∧ w' = w := by
  rw [un_6 6 x hx (by decide)]
  go_enter Tryz.func29, Tryz.ntmps29
  go_wp2_with (first | (go_at_call 45; refine (check_any _ _ _).mono ?_; rintro e w' ⟨rfl, rfl⟩) | (go_at_call 51; refine (uint6_f _ _ _).mono ?_; rintro e w' ⟨rfl, rfl⟩))
  go_ret2
  exact ⟨rfl, rfl⟩

set_option maxHeartbeats 400000 in
theorem unary6_7 (x : Int) (w : World) (hx : chk 7 x = true) : Calls Tryz.prog 29 #[.string ⟨#[70, 108, 111, 111, 114]⟩, .int .i64 7, .int .i64 x] w fun e w' => e = .returned (.tuple #[.int .i64 (un 6 7 x).1, .int .i64 (un 6 7 x).2]) ∧ w' = w := by
  rw [un_7 6 x hx (by decide)]
  go_enter Tryz.func29, Tryz.ntmps29
  go_wp2_with (first | (go_at_call 45; refine (check_any _ _ _).mono ?_; rintro e w' ⟨rfl, rfl⟩) | (go_at_call 51; refine (uint6_f _ _ _).mono ?_; rintro e w' ⟨rfl, rfl⟩))
  go_ret2
  exact ⟨rfl, rfl⟩

set_option maxHeartbeats 400000 in
theorem unary6_9 (x : Int) (w : World) (hx : chk 9 x = true) : Calls Tryz.prog 29 #[.string ⟨#[70, 108, 111, 111, 114]⟩, .int .i64 9, .int .i64 x] w fun e w' => e = .returned (.tuple #[.int .i64 (un 6 9 x).1, .int .i64 (un 6 9 x).2]) ∧ w' = w := by
  rw [un_9 6 x hx (by decide)]
  go_enter Tryz.func29, Tryz.ntmps29
  go_wp2_with (first | (go_at_call 45; refine (check_any _ _ _).mono ?_; rintro e w' ⟨rfl, rfl⟩) | (go_at_call 52; refine (ubool6_f _ _).mono ?_; rintro e w' ⟨rfl, rfl⟩))
  go_ret2
  exact ⟨rfl, rfl⟩

set_option maxHeartbeats 400000 in
theorem unary7_no (t x : Int) (w : World) (hx : chk t x = false) : Calls Tryz.prog 29 #[.string ⟨#[69, 120, 112]⟩, .int .i64 t, .int .i64 x] w fun e w' => e = .returned (.tuple #[.int .i64 (un 7 t x).1, .int .i64 (un 7 t x).2]) ∧ w' = w := by
  rw [un_no 7 t x hx]
  go_enter Tryz.func29, Tryz.ntmps29
  go_wp2_with (first | (go_at_call 45; refine (check_any _ _ _).mono ?_; rintro e w' ⟨rfl, rfl⟩))
  go_ret2
  exact ⟨rfl, rfl⟩

set_option maxHeartbeats 400000 in
theorem unary7_6 (x : Int) (w : World) (hx : chk 6 x = true) : Calls Tryz.prog 29 #[.string ⟨#[69, 120, 112]⟩, .int .i64 6, .int .i64 x] w fun e w' => e = .returned (.tuple #[.int .i64 (un 7 6 x).1, .int .i64 (un 7 6 x).2]) ∧ w' = w := by
  rw [un_6 7 x hx (by decide)]
  go_enter Tryz.func29, Tryz.ntmps29
  go_wp2_with (first | (go_at_call 45; refine (check_any _ _ _).mono ?_; rintro e w' ⟨rfl, rfl⟩) | (go_at_call 51; refine (uint7_f _ _ _).mono ?_; rintro e w' ⟨rfl, rfl⟩))
  go_ret2
  exact ⟨rfl, rfl⟩

set_option maxHeartbeats 400000 in
theorem unary7_7 (x : Int) (w : World) (hx : chk 7 x = true) : Calls Tryz.prog 29 #[.string ⟨#[69, 120, 112]⟩, .int .i64 7, .int .i64 x] w fun e w' => e = .returned (.tuple #[.int .i64 (un 7 7 x).1, .int .i64 (un 7 7 x).2]) ∧ w' = w := by
  rw [un_7 7 x hx (by decide)]
  go_enter Tryz.func29, Tryz.ntmps29
  go_wp2_with (first | (go_at_call 45; refine (check_any _ _ _).mono ?_; rintro e w' ⟨rfl, rfl⟩) | (go_at_call 51; refine (uint7_f _ _ _).mono ?_; rintro e w' ⟨rfl, rfl⟩))
  go_ret2
  exact ⟨rfl, rfl⟩

set_option maxHeartbeats 400000 in
theorem unary7_9 (x : Int) (w : World) (hx : chk 9 x = true) : Calls Tryz.prog 29 #[.string ⟨#[69, 120, 112]⟩, .int .i64 9, .int .i64 x] w fun e w' => e = .returned (.tuple #[.int .i64 (un 7 9 x).1, .int .i64 (un 7 9 x).2]) ∧ w' = w := by
  rw [un_9 7 x hx (by decide)]
  go_enter Tryz.func29, Tryz.ntmps29
  go_wp2_with (first | (go_at_call 45; refine (check_any _ _ _).mono ?_; rintro e w' ⟨rfl, rfl⟩) | (go_at_call 52; refine (ubool7_f _ _).mono ?_; rintro e w' ⟨rfl, rfl⟩))
  go_ret2
  exact ⟨rfl, rfl⟩

set_option maxHeartbeats 400000 in
theorem unary8_no (t x : Int) (w : World) (hx : chk t x = false) : Calls Tryz.prog 29 #[.string ⟨#[83, 105, 103, 109, 111, 105, 100]⟩, .int .i64 t, .int .i64 x] w fun e w' => e = .returned (.tuple #[.int .i64 (un 8 t x).1, .int .i64 (un 8 t x).2]) ∧ w' = w := by
  rw [un_no 8 t x hx]
  go_enter Tryz.func29, Tryz.ntmps29
  go_wp2_with (first | (go_at_call 45; refine (check_any _ _ _).mono ?_; rintro e w' ⟨rfl, rfl⟩))
  go_ret2
  exact ⟨rfl, rfl⟩

set_option maxHeartbeats 400000 in
theorem unary8_6 (x : Int) (w : World) (hx : chk 6 x = true) : Calls Tryz.prog 29 #[.string ⟨#[83, 105, 103, 109, 111, 105, 100]⟩, .int .i64 6, .int .i64 x] w fun e w' => e = .returned (.tuple #[.int .i64 (un 8 6 x).1, .int .i64 (un 8 6 x).2]) ∧ w' = w := by
  rw [un_6 8 x hx (by decide)]
  go_enter Tryz.func29, Tryz.ntmps29
  go_wp2_with (first | (go_at_call 45; refine (check_any _ _ _).mono ?_; rintro e w' ⟨rfl, rfl⟩) | (go_at_call 51; refine (uint8_f _ _ _).mono ?_; rintro e w' ⟨rfl, rfl⟩))
  go_ret2
  exact ⟨rfl, rfl⟩

set_option maxHeartbeats 400000 in
theorem unary8_7 (x : Int) (w : World) (hx : chk 7 x = true) : Calls Tryz.prog 29 #[.string ⟨#[83, 105, 103, 109, 111, 105, 100]⟩, .int .i64 7, .int .i64 x] w fun e w' => e = .returned (.tuple #[.int .i64 (un 8 7 x).1, .int .i64 (un 8 7 x).2]) ∧ w' = w := by
  rw [un_7 8 x hx (by decide)]
  go_enter Tryz.func29, Tryz.ntmps29
  go_wp2_with (first | (go_at_call 45; refine (check_any _ _ _).mono ?_; rintro e w' ⟨rfl, rfl⟩) | (go_at_call 51; refine (uint8_f _ _ _).mono ?_; rintro e w' ⟨rfl, rfl⟩))
  go_ret2
  exact ⟨rfl, rfl⟩

set_option maxHeartbeats 400000 in
theorem unary8_9 (x : Int) (w : World) (hx : chk 9 x = true) : Calls Tryz.prog 29 #[.string ⟨#[83, 105, 103, 109, 111, 105, 100]⟩, .int .i64 9, .int .i64 x] w fun e w' => e = .returned (.tuple #[.int .i64 (un 8 9 x).1, .int .i64 (un 8 9 x).2]) ∧ w' = w := by
  rw [un_9 8 x hx (by decide)]
  go_enter Tryz.func29, Tryz.ntmps29
  go_wp2_with (first | (go_at_call 45; refine (check_any _ _ _).mono ?_; rintro e w' ⟨rfl, rfl⟩) | (go_at_call 52; refine (ubool8_f _ _).mono ?_; rintro e w' ⟨rfl, rfl⟩))
  go_ret2
  exact ⟨rfl, rfl⟩

set_option maxHeartbeats 400000 in
theorem unary9_no (t x : Int) (w : World) (hx : chk t x = false) : Calls Tryz.prog 29 #[.string ⟨#[84, 97, 110, 104]⟩, .int .i64 t, .int .i64 x] w fun e w' => e = .returned (.tuple #[.int .i64 (un 9 t x).1, .int .i64 (un 9 t x).2]) ∧ w' = w := by
  rw [un_no 9 t x hx]
  go_enter Tryz.func29, Tryz.ntmps29
  go_wp2_with (first | (go_at_call 45; refine (check_any _ _ _).mono ?_; rintro e w' ⟨rfl, rfl⟩))
  go_ret2
  exact ⟨rfl, rfl⟩

set_option maxHeartbeats 400000 in
theorem unary9_6 (x : Int) (w : World) (hx : chk 6 x = true) : Calls Tryz.prog 29 #[.string ⟨#[84, 97, 110, 104]⟩, .int .i64 6, .int .i64 x] w fun e w' => e = .returned (.tuple #[.int .i64 (un 9 6 x).1, .int .i64 (un 9 6 x).2]) ∧ w' = w := by
  rw [un_6 9 x hx (by decide)]
  go_enter Tryz.func29, Tryz.ntmps29
  go_wp2_with (first | (go_at_call 45; refine (check_any _ _ _).mono ?_; rintro e w' ⟨rfl, rfl⟩) | (go_at_call 51; refine (uint9_f _ _ _).mono ?_; rintro e w' ⟨rfl, rfl⟩))
  go_ret2
  exact ⟨rfl, rfl⟩

set_option maxHeartbeats 400000 in
theorem unary9_7 (x : Int) (w : World) (hx : chk 7 x = true) : Calls Tryz.prog 29 #[.string ⟨#[84, 97, 110, 104]⟩, .int .i64 7, .int .i64 x] w fun e w' => e = .returned (.tuple #[.int .i64 (un 9 7 x).1, .int .i64 (un 9 7 x).2]) ∧ w' = w := by
  rw [un_7 9 x hx (by decide)]
  go_enter Tryz.func29, Tryz.ntmps29
  go_wp2_with (first | (go_at_call 45; refine (check_any _ _ _).mono ?_; rintro e w' ⟨rfl, rfl⟩) | (go_at_call 51; refine (uint9_f _ _ _).mono ?_; rintro e w' ⟨rfl, rfl⟩))
  go_ret2
  exact ⟨rfl, rfl⟩

set_option maxHeartbeats 400000 in
theorem unary9_9 (x : Int) (w : World) (hx : chk 9 x = true) : Calls Tryz.prog 29 #[.string ⟨#[84, 97, 110, 104]⟩, .int .i64 9, .int .i64 x] w fun e w' => e = .returned (.tuple #[.int .i64 (un 9 9 x).1, .int .i64 (un 9 9 x).2]) ∧ w' = w := by
  rw [un_9 9 x hx (by decide)]
  go_enter Tryz.func29, Tryz.ntmps29
  go_wp2_with (first | (go_at_call 45; refine (check_any _ _ _).mono ?_; rintro e w' ⟨rfl, rfl⟩) | (go_at_call 52; refine (ubool9_f _ _).mono ?_; rintro e w' ⟨rfl, rfl⟩))
  go_ret2
  exact ⟨rfl, rfl⟩

end Go.Proofs.YteigfipgmghgmaaGreatDoor.Nu
