/- Joined texts: NuWalkK3, NuWalkR, NuWalkS. -/
import Derived.Test.YtahmmilhmoogbaaGreatDoorPartBA
import Derived.Test.YtahmmilhmoogbaaGreatDoorPartAZ
import Derived.Test.YtahmmilhmoogbaaGreatDoorPartAW
namespace Go.Proofs.YtahmmilhmoogbaaGreatDoor.Nu

open Go.RowKit

attribute [local go_sem] conv_up conv_down conv_int ext_bits64 ext_from64 ext_from ext_bits run_fadd run_fsub run_fmul run_fquo negF_eq

theorem bits_u32_lt (op : BinOp) (a b : Int) : (bits op .u32 a b).toNat < 4294967296 := by
  unfold bits
  rw [IntKind.wrap_u32']
  omega

set_option maxHeartbeats 400000 in
theorem sign_w (x y : Nat) (w : World) : Calls Tryz.prog 165 #[.float .f32 x, .float .f32 y] w fun e w' => ∃ r, r < 4294967296 ∧ e = .returned (.float .f32 r) ∧ w' = w := by
  go_enter Tryz.func165, Tryz.ntmps165
  go_wp2
  go_ret
  exact ⟨_, bits_u32_lt _ _ _, rfl, rfl⟩

set_option maxHeartbeats 400000 in
theorem sigmoid_w (x : Nat) (w : World) (hx : x < 4294967296) : Calls Tryz.prog 139 #[.float .f32 x] w fun e w' => ∃ r n, r < 4294967296 ∧ e = .returned (.float .f32 r) ∧ w' = w.drewN n := by
  have hn := negF_lt x hx
  go_enter Tryz.func139, Tryz.ntmps139
  go_wp2_with (first | (go_at_call 138; refine (exp_w _ _ hn).mono ?_; rintro e w' ⟨r, n, hr, rfl, rfl⟩) | go_in)
  go_ret
  exact ⟨_, _, fval_lt _ _ _ _, rfl, rfl⟩

set_option maxHeartbeats 1000000 in
theorem tanh_w (x : Nat) (w : World) (hx : x < 4294967296) : Calls Tryz.prog 140 #[.float .f32 x] w fun e w' => ∃ r n, r < 4294967296 ∧ e = .returned (.float .f32 r) ∧ w' = w.drewN n := by
  cases h1 : (FloatKind.f32.format.order (absF x) 1092616192 == some .gt) with
  | true =>
    go_enter Tryz.func140, Tryz.ntmps140
    go_wp2_with (first | (go_at_call 134; refine (absolute_any _ _ hx).mono ?_; rintro e w' ⟨rfl, rfl⟩) | (go_at_call 165; refine (sign_w _ _ _).mono ?_; rintro e w' ⟨rs, hs, rfl, rfl⟩) | go_in)
    go_ret
    exact ⟨_, 0, ‹_›, rfl, rfl⟩
  | false =>
    go_enter Tryz.func140, Tryz.ntmps140
    go_wp2_with (first | (go_at_call 134; refine (absolute_any _ _ hx).mono ?_; rintro e w' ⟨rfl, rfl⟩) | (go_at_call 138; refine (exp_w _ _ (fval_lt _ _ _ _)).mono ?_; rintro e w' ⟨r, n, hr, rfl, rfl⟩) | (go_at_call 165; refine (sign_w _ _ _).mono ?_; rintro e w' ⟨rs, hs, rfl, rfl⟩) | go_in)
    go_ret
    exact ⟨_, _, ‹_›, rfl, rfl⟩

set_option maxHeartbeats 400000 in
theorem round5_f (b : Nat) (w : World) (_hb : b < 4294967296) : Calls Tryz.prog 92 #[.string ⟨#[83, 113, 114, 116]⟩, .float .f32 b] w fun e w' => ∃ r n, r < 4294967296 ∧ e = .returned (.tuple #[.int .i64 (tob r), .int .i64 0]) ∧ w' = w.drewN n := by
  go_enter Tryz.func92, Tryz.ntmps92
  go_wp2_with (first | (go_at_call 136; refine (sqrt_w _ _).mono ?_; rintro e w' ⟨r, n, rfl, rfl⟩) | (go_at_call 67; refine (to_any _ _ (cval_lt _ _)).mono ?_; rintro e w' ⟨rfl, rfl⟩) | go_in)
  go_ret2
  exact ⟨_, _, cval_lt _ _, rfl, rfl⟩

set_option maxHeartbeats 400000 in
theorem round6_f (b : Nat) (w : World) (_hb : b < 4294967296) : Calls Tryz.prog 92 #[.string ⟨#[70, 108, 111, 111, 114]⟩, .float .f32 b] w fun e w' => ∃ r n, r < 4294967296 ∧ e = .returned (.tuple #[.int .i64 (tob r), .int .i64 0]) ∧ w' = w.drewN n := by
  go_enter Tryz.func92, Tryz.ntmps92
  go_wp2_with (first | (go_at_call 137; refine (floor_w _ _).mono ?_; rintro e w' ⟨r, n, rfl, rfl⟩) | (go_at_call 67; refine (to_any _ _ (cval_lt _ _)).mono ?_; rintro e w' ⟨rfl, rfl⟩) | go_in)
  go_ret2
  exact ⟨_, _, cval_lt _ _, rfl, rfl⟩

set_option maxHeartbeats 400000 in
theorem round7_f (b : Nat) (w : World) (hb : b < 4294967296) : Calls Tryz.prog 92 #[.string ⟨#[69, 120, 112]⟩, .float .f32 b] w fun e w' => ∃ r n, r < 4294967296 ∧ e = .returned (.tuple #[.int .i64 (tob r), .int .i64 0]) ∧ w' = w.drewN n := by
  go_enter Tryz.func92, Tryz.ntmps92
  go_wp2_with (first | (go_at_call 138; refine (exp_w _ _ hb).mono ?_; rintro e w' ⟨r, n, hr, rfl, rfl⟩) | (go_at_call 67; refine (to_any _ _ (by assumption)).mono ?_; rintro e w' ⟨rfl, rfl⟩) | go_in)
  go_ret2
  exact ⟨_, _, ‹_›, rfl, rfl⟩

set_option maxHeartbeats 400000 in
theorem round8_f (b : Nat) (w : World) (hb : b < 4294967296) : Calls Tryz.prog 92 #[.string ⟨#[83, 105, 103, 109, 111, 105, 100]⟩, .float .f32 b] w fun e w' => ∃ r n, r < 4294967296 ∧ e = .returned (.tuple #[.int .i64 (tob r), .int .i64 0]) ∧ w' = w.drewN n := by
  go_enter Tryz.func92, Tryz.ntmps92
  go_wp2_with (first | (go_at_call 139; refine (sigmoid_w _ _ hb).mono ?_; rintro e w' ⟨r, n, hr, rfl, rfl⟩) | (go_at_call 67; refine (to_any _ _ (by assumption)).mono ?_; rintro e w' ⟨rfl, rfl⟩) | go_in)
  go_ret2
  exact ⟨_, _, ‹_›, rfl, rfl⟩

set_option maxHeartbeats 400000 in
theorem round9_f (b : Nat) (w : World) (hb : b < 4294967296) : Calls Tryz.prog 92 #[.string ⟨#[84, 97, 110, 104]⟩, .float .f32 b] w fun e w' => ∃ r n, r < 4294967296 ∧ e = .returned (.tuple #[.int .i64 (tob r), .int .i64 0]) ∧ w' = w.drewN n := by
  go_enter Tryz.func92, Tryz.ntmps92
  go_wp2_with (first | (go_at_call 140; refine (tanh_w _ _ hb).mono ?_; rintro e w' ⟨r, n, hr, rfl, rfl⟩) | (go_at_call 67; refine (to_any _ _ (by assumption)).mono ?_; rintro e w' ⟨rfl, rfl⟩) | go_in)
  go_ret2
  exact ⟨_, _, ‹_›, rfl, rfl⟩

set_option maxHeartbeats 400000 in
theorem unary5_1 (x : Int) (w : World) (hx : chk 1 x = true) : Calls Tryz.prog 70 #[.string ⟨#[83, 113, 114, 116]⟩, .int .i64 1, .int .i64 x] w fun e w' => ∃ r n, r < 4294967296 ∧ e = .returned (.tuple #[.int .i64 (tob r), .int .i64 0]) ∧ w' = w.drewN n := by
  go_enter Tryz.func70, Tryz.ntmps70
  go_wp2_with (first | (go_at_call 54; refine (check_any _ _ _).mono ?_; rintro e w' ⟨rfl, rfl⟩) | (go_at_call 65; refine (from_any _ _).mono ?_; rintro e w' ⟨rfl, rfl⟩) | (go_at_call 92; refine (round5_f _ _ (fb_lt _)).mono ?_; rintro e w' ⟨r, n, hr, rfl, rfl⟩))
  go_ret2
  exact ⟨_, _, ‹_›, rfl, rfl⟩

set_option maxHeartbeats 400000 in
theorem unary6_1 (x : Int) (w : World) (hx : chk 1 x = true) : Calls Tryz.prog 70 #[.string ⟨#[70, 108, 111, 111, 114]⟩, .int .i64 1, .int .i64 x] w fun e w' => ∃ r n, r < 4294967296 ∧ e = .returned (.tuple #[.int .i64 (tob r), .int .i64 0]) ∧ w' = w.drewN n := by
  go_enter Tryz.func70, Tryz.ntmps70
  go_wp2_with (first | (go_at_call 54; refine (check_any _ _ _).mono ?_; rintro e w' ⟨rfl, rfl⟩) | (go_at_call 65; refine (from_any _ _).mono ?_; rintro e w' ⟨rfl, rfl⟩) | (go_at_call 92; refine (round6_f _ _ (fb_lt _)).mono ?_; rintro e w' ⟨r, n, hr, rfl, rfl⟩))
  go_ret2
  exact ⟨_, _, ‹_›, rfl, rfl⟩

set_option maxHeartbeats 400000 in
theorem unary7_1 (x : Int) (w : World) (hx : chk 1 x = true) : Calls Tryz.prog 70 #[.string ⟨#[69, 120, 112]⟩, .int .i64 1, .int .i64 x] w fun e w' => ∃ r n, r < 4294967296 ∧ e = .returned (.tuple #[.int .i64 (tob r), .int .i64 0]) ∧ w' = w.drewN n := by
  go_enter Tryz.func70, Tryz.ntmps70
  go_wp2_with (first | (go_at_call 54; refine (check_any _ _ _).mono ?_; rintro e w' ⟨rfl, rfl⟩) | (go_at_call 65; refine (from_any _ _).mono ?_; rintro e w' ⟨rfl, rfl⟩) | (go_at_call 92; refine (round7_f _ _ (fb_lt _)).mono ?_; rintro e w' ⟨r, n, hr, rfl, rfl⟩))
  go_ret2
  exact ⟨_, _, ‹_›, rfl, rfl⟩

set_option maxHeartbeats 400000 in
theorem unary8_1 (x : Int) (w : World) (hx : chk 1 x = true) : Calls Tryz.prog 70 #[.string ⟨#[83, 105, 103, 109, 111, 105, 100]⟩, .int .i64 1, .int .i64 x] w fun e w' => ∃ r n, r < 4294967296 ∧ e = .returned (.tuple #[.int .i64 (tob r), .int .i64 0]) ∧ w' = w.drewN n := by
  go_enter Tryz.func70, Tryz.ntmps70
  go_wp2_with (first | (go_at_call 54; refine (check_any _ _ _).mono ?_; rintro e w' ⟨rfl, rfl⟩) | (go_at_call 65; refine (from_any _ _).mono ?_; rintro e w' ⟨rfl, rfl⟩) | (go_at_call 92; refine (round8_f _ _ (fb_lt _)).mono ?_; rintro e w' ⟨r, n, hr, rfl, rfl⟩))
  go_ret2
  exact ⟨_, _, ‹_›, rfl, rfl⟩

set_option maxHeartbeats 400000 in
theorem unary9_1 (x : Int) (w : World) (hx : chk 1 x = true) : Calls Tryz.prog 70 #[.string ⟨#[84, 97, 110, 104]⟩, .int .i64 1, .int .i64 x] w fun e w' => ∃ r n, r < 4294967296 ∧ e = .returned (.tuple #[.int .i64 (tob r), .int .i64 0]) ∧ w' = w.drewN n := by
  go_enter Tryz.func70, Tryz.ntmps70
  go_wp2_with (first | (go_at_call 54; refine (check_any _ _ _).mono ?_; rintro e w' ⟨rfl, rfl⟩) | (go_at_call 65; refine (from_any _ _).mono ?_; rintro e w' ⟨rfl, rfl⟩) | (go_at_call 92; refine (round9_f _ _ (fb_lt _)).mono ?_; rintro e w' ⟨r, n, hr, rfl, rfl⟩))
  go_ret2
  exact ⟨_, _, ‹_›, rfl, rfl⟩

end Go.Proofs.YtahmmilhmoogbaaGreatDoor.Nu

namespace Go.Proofs.YtahmmilhmoogbaaGreatDoor.Nu

open Go.RowKit

attribute [local go_sem] ext_from ext_bits

set_option maxHeartbeats 400000 in
theorem rf_any (x : Int) (w : World) : Calls Tryz.prog 29 #[.int .i64 x] w fun e w' => e = .returned (.float .f32 (fb x)) ∧ w' = w := by
  go_enter Tryz.func29, Tryz.ntmps29
  go_wp2
  go_ret
  exact ⟨rfl, rfl⟩

set_option maxHeartbeats 400000 in
theorem rcheck_1 (x : Int) (w : World) : Calls Tryz.prog 15 #[.int .i64 1, .int .i64 x] w fun e w' => e = .returned (.bool (chk 1 x)) ∧ w' = w := by
  by_cases h0 : 0 ≤ x
  · by_cases h1 : x < 4294967296
    · rw [rchk1 x h0 h1]
      cases h : (FloatKind.f32.format.order (fb x) (fb x) == some .eq) with
      | true =>
        go_enter Tryz.func15, Tryz.ntmps15
        go_wp2_with (first | (go_at_call 29; refine (rf_any _ _).mono ?_; rintro e w' ⟨rfl, rfl⟩) | go_in)
        go_ret
        exact ⟨rfl, rfl⟩
      | false =>
        go_enter Tryz.func15, Tryz.ntmps15
        go_wp2_with (first | (go_at_call 29; refine (rf_any _ _).mono ?_; rintro e w' ⟨rfl, rfl⟩) | go_in)
        go_ret
        exact ⟨rfl, rfl⟩
    · have c : chk 1 x = false := by rw [chk_float 1 x rfl]; simp; omega
      rw [c]; clear c
      go_enter Tryz.func15, Tryz.ntmps15
      go_wp2_with (first | (go_at_call 29; refine (rf_any _ _).mono ?_; rintro e w' ⟨rfl, rfl⟩) | go_in)
      go_ret
      exact ⟨rfl, rfl⟩
  · have c : chk 1 x = false := by rw [chk_float 1 x rfl]; simp; omega
    rw [c]; clear c
    go_enter Tryz.func15, Tryz.ntmps15
    go_wp2_with (first | (go_at_call 29; refine (rf_any _ _).mono ?_; rintro e w' ⟨rfl, rfl⟩) | go_in)
    go_ret
    exact ⟨rfl, rfl⟩

set_option maxHeartbeats 400000 in
theorem rcheck_6 (x : Int) (w : World) : Calls Tryz.prog 15 #[.int .i64 6, .int .i64 x] w fun e w' => e = .returned (.bool (chk 6 x)) ∧ w' = w := by
  by_cases h0 : -2147483648 ≤ x
  · have c : chk 6 x = decide (x ≤ 2147483647) := by simp [chk, h0]
    rw [c]; clear c
    go_enter Tryz.func15, Tryz.ntmps15
    go_wp2
    go_ret
    exact ⟨rfl, rfl⟩
  · have c : chk 6 x = false := by simp [chk, h0]
    rw [c]; clear c
    go_enter Tryz.func15, Tryz.ntmps15
    go_wp2
    go_ret
    exact ⟨rfl, rfl⟩

set_option maxHeartbeats 400000 in
theorem rcheck_7 (x : Int) (w : World) : Calls Tryz.prog 15 #[.int .i64 7, .int .i64 x] w fun e w' => e = .returned (.bool (chk 7 x)) ∧ w' = w := by
  have c : chk 7 x = true := by simp [chk]
  rw [c]; clear c
  go_enter Tryz.func15, Tryz.ntmps15
  go_wp2
  go_ret
  exact ⟨rfl, rfl⟩

set_option maxHeartbeats 400000 in
theorem rcheck_9 (x : Int) (w : World) : Calls Tryz.prog 15 #[.int .i64 9, .int .i64 x] w fun e w' => e = .returned (.bool (chk 9 x)) ∧ w' = w := by
  by_cases h0 : x = 0
  · have c : chk 9 x = true := by simp [chk, h0]
    rw [c]; clear c; subst h0
    go_enter Tryz.func15, Tryz.ntmps15
    go_wp2
    go_ret
    exact ⟨rfl, rfl⟩
  · have c : chk 9 x = (x == 1) := by rw [Bool.eq_iff_iff]; simp [chk, h0]
    have h0' : (x == 0) = false := by simpa using h0
    rw [c]; clear c h0
    go_enter Tryz.func15, Tryz.ntmps15
    go_wp2
    go_ret
    exact ⟨rfl, rfl⟩

set_option maxHeartbeats 400000 in
theorem rcheck_no (t x : Int) (w : World) (h1 : (t == 1) = false) (h6 : (t == 6) = false) (h7 : (t == 7) = false) (h9 : (t == 9) = false) : Calls Tryz.prog 15 #[.int .i64 t, .int .i64 x] w fun e w' => e = .returned (.bool false) ∧ w' = w := by
  go_enter Tryz.func15, Tryz.ntmps15
  go_wp2
  go_ret
  exact ⟨rfl, rfl⟩

theorem rcheck_any (t x : Int) (w : World) : Calls Tryz.prog 15 #[.int .i64 t, .int .i64 x] w fun e w' => e = .returned (.bool (chk t x)) ∧ w' = w := by
  by_cases h1 : t = 1
  · subst h1; exact rcheck_1 x w
  · by_cases h6 : t = 6
    · subst h6; exact rcheck_6 x w
    · by_cases h7 : t = 7
      · subst h7; exact rcheck_7 x w
      · by_cases h9 : t = 9
        · subst h9; exact rcheck_9 x w
        · have c : chk t x = false := by simp [chk, h1, h6, h7, h9]
          rw [c]; exact rcheck_no t x w (by simpa using h1) (by simpa using h6) (by simpa using h7) (by simpa using h9)

set_option maxHeartbeats 400000 in
theorem rfl9 (x y : Int) (w : World) : Calls Tryz.prog 16 #[.string ⟨#[69, 113, 117, 97, 108]⟩, .int .i64 x, .int .i64 y] w fun e w' => e = .returned (.tuple #[.int .i64 (binFl 9 (fb x) (fb y)).1, .bool true]) ∧ ∃ n, w' = w.drewN n := by
  show Calls _ _ _ _ fun e w' => e = .returned (.tuple #[.int .i64 (b2i (ord (fb x) (fb y) == some .eq)), .bool true]) ∧ ∃ n, w' = w.drewN n
  cases h : (ord (fb x) (fb y) == some .eq) with
  | true =>
    have h' : (FloatKind.f32.format.order (fb x) (fb y) == some .eq) = true := h
    show Calls _ _ _ _ fun e w' => e = .returned (.tuple #[.int .i64 1, .bool true]) ∧ ∃ n, w' = w.drewN n
    clear h
    go_enter Tryz.func16, Tryz.ntmps16
    go_wp2_with (first | (go_at_call 29; refine (rf_any _ _).mono ?_; rintro e w' ⟨rfl, rfl⟩) | go_in)
    go_ret2
    exact ⟨rfl, 0, rfl⟩
  | false =>
    have h' : (FloatKind.f32.format.order (fb x) (fb y) == some .eq) = false := h
    show Calls _ _ _ _ fun e w' => e = .returned (.tuple #[.int .i64 0, .bool true]) ∧ ∃ n, w' = w.drewN n
    clear h
    go_enter Tryz.func16, Tryz.ntmps16
    go_wp2_with (first | (go_at_call 29; refine (rf_any _ _).mono ?_; rintro e w' ⟨rfl, rfl⟩) | go_in)
    go_ret2
    exact ⟨rfl, 0, rfl⟩

set_option maxHeartbeats 400000 in
theorem rint9 (t x y : Int) (w : World) : Calls Tryz.prog 18 #[.string ⟨#[69, 113, 117, 97, 108]⟩, .int .i64 t, .int .i64 x, .int .i64 y] w fun e w' => e = .returned (.tuple #[.int .i64 (b2i (x == y)), .int .i64 0, .bool true]) ∧ w' = w := by
  cases h : (x == y) with
  | true =>
    show Calls _ _ _ _ fun e w' => e = .returned (.tuple #[.int .i64 1, .int .i64 0, .bool true]) ∧ w' = w
    go_enter Tryz.func18, Tryz.ntmps18
    go_wp2
    go_ret3
    exact ⟨rfl, rfl⟩
  | false =>
    show Calls _ _ _ _ fun e w' => e = .returned (.tuple #[.int .i64 0, .int .i64 0, .bool true]) ∧ w' = w
    go_enter Tryz.func18, Tryz.ntmps18
    go_wp2
    go_ret3
    exact ⟨rfl, rfl⟩

end Go.Proofs.YtahmmilhmoogbaaGreatDoor.Nu

namespace Go.Proofs.YtahmmilhmoogbaaGreatDoor.Nu

open Go.RowKit

attribute [local go_sem] ext_from ext_bits

set_option maxHeartbeats 400000 in
theorem rbinary9_no (t x y : Int) (w : World) (h : chk t x = false ∨ chk t x = true ∧ chk t y = false) : Calls Tryz.prog 11 #[.string ⟨#[69, 113, 117, 97, 108]⟩, .int .i64 t, .int .i64 x, .int .i64 y] w fun e w' => e = .returned (.tuple #[.int .i64 0, .int .i64 1]) ∧ ∃ n, w' = w.drewN n := by
  rcases h with hx | ⟨hx, hy⟩
  all_goals
    go_enter Tryz.func11, Tryz.ntmps11
    go_wp2_with (first | (go_at_call 15; refine (rcheck_any _ _ _).mono ?_; rintro e w' ⟨rfl, rfl⟩) | go_in)
    go_ret2
    exact ⟨rfl, 0, rfl⟩

set_option maxHeartbeats 400000 in
theorem rbinary9_1 (x y : Int) (w : World) (hx : chk 1 x = true) (hy : chk 1 y = true) : Calls Tryz.prog 11 #[.string ⟨#[69, 113, 117, 97, 108]⟩, .int .i64 1, .int .i64 x, .int .i64 y] w fun e w' => e = .returned (.tuple #[.int .i64 (bin 9 1 x y).1, .int .i64 (bin 9 1 x y).2]) ∧ ∃ n, w' = w.drewN n := by
  rw [bin_1 9 x y hx hy]
  go_enter Tryz.func11, Tryz.ntmps11
  go_wp2_with (first | (go_at_call 15; refine (rcheck_any _ _ _).mono ?_; rintro e w' ⟨rfl, rfl⟩) | (go_at_call 16; refine (rfl9 _ _ _).mono ?_; rintro e w' ⟨rfl, n, rfl⟩) | go_in)
  go_ret2
  exact ⟨rfl, _, rfl⟩

set_option maxHeartbeats 400000 in
theorem rbinary9_6 (x y : Int) (w : World) (hx : chk 6 x = true) (hy : chk 6 y = true) : Calls Tryz.prog 11 #[.string ⟨#[69, 113, 117, 97, 108]⟩, .int .i64 6, .int .i64 x, .int .i64 y] w fun e w' => e = .returned (.tuple #[.int .i64 (bin 9 6 x y).1, .int .i64 (bin 9 6 x y).2]) ∧ ∃ n, w' = w.drewN n := by
  rw [bin_6 9 x y hx hy]
  go_enter Tryz.func11, Tryz.ntmps11
  go_wp2_with (first | (go_at_call 15; refine (rcheck_any _ _ _).mono ?_; rintro e w' ⟨rfl, rfl⟩) | (go_at_call 18; refine (rint9 _ _ _ _).mono ?_; rintro e w' ⟨rfl, rfl⟩) | go_in)
  go_ret2
  exact ⟨rfl, 0, rfl⟩

set_option maxHeartbeats 400000 in
theorem rbinary9_7 (x y : Int) (w : World) (hx : chk 7 x = true) (hy : chk 7 y = true) : Calls Tryz.prog 11 #[.string ⟨#[69, 113, 117, 97, 108]⟩, .int .i64 7, .int .i64 x, .int .i64 y] w fun e w' => e = .returned (.tuple #[.int .i64 (bin 9 7 x y).1, .int .i64 (bin 9 7 x y).2]) ∧ ∃ n, w' = w.drewN n := by
  rw [bin_7 9 x y hx hy]
  go_enter Tryz.func11, Tryz.ntmps11
  go_wp2_with (first | (go_at_call 15; refine (rcheck_any _ _ _).mono ?_; rintro e w' ⟨rfl, rfl⟩) | (go_at_call 18; refine (rint9 _ _ _ _).mono ?_; rintro e w' ⟨rfl, rfl⟩) | go_in)
  go_ret2
  exact ⟨rfl, 0, rfl⟩

set_option maxHeartbeats 400000 in
theorem rbinary9_9 (x y : Int) (w : World) (hx : chk 9 x = true) (hy : chk 9 y = true) : Calls Tryz.prog 11 #[.string ⟨#[69, 113, 117, 97, 108]⟩, .int .i64 9, .int .i64 x, .int .i64 y] w fun e w' => e = .returned (.tuple #[.int .i64 (bin 9 9 x y).1, .int .i64 (bin 9 9 x y).2]) ∧ ∃ n, w' = w.drewN n := by
  rw [bin_9 9 x y hx hy]
  rcases chk9 x hx with rfl | rfl <;> rcases chk9 y hy with rfl | rfl
  all_goals
    go_enter Tryz.func11, Tryz.ntmps11
    go_wp2_with (first | (go_at_call 15; refine (rcheck_any _ _ _).mono ?_; rintro e w' ⟨rfl, rfl⟩) | go_in)
    go_ret2
    exact ⟨rfl, 0, rfl⟩

theorem rbinary9 (t x y : Int) (w : World) : Calls Tryz.prog 11 #[.string ⟨#[69, 113, 117, 97, 108]⟩, .int .i64 t, .int .i64 x, .int .i64 y] w fun e w' => e = .returned (.tuple #[.int .i64 (bin 9 t x y).1, .int .i64 (bin 9 t x y).2]) ∧ ∃ n, w' = w.drewN n := by
  cases hx : chk t x with
  | false => rw [bin_nox 9 t x y hx]; exact rbinary9_no t x y w (.inl hx)
  | true =>
    cases hy : chk t y with
    | false => rw [bin_noy 9 t x y hy]; exact rbinary9_no t x y w (.inr ⟨hx, hy⟩)
    | true =>
      rcases chk_types t x hx with rfl | rfl | rfl | rfl
      · exact rbinary9_1 x y w hx hy
      · exact rbinary9_6 x y w hx hy
      · exact rbinary9_7 x y w hx hy
      · exact rbinary9_9 x y w hx hy

end Go.Proofs.YtahmmilhmoogbaaGreatDoor.Nu
