/- The walks of sigmoid and tanh, and of Unary at the operators that round: each gives some float's bits, and draws some answers. -/
import Derived.Test.YteigfipgmghgmaaGreatDoorNuWalkK2
namespace Go.Proofs.YteigfipgmghgmaaGreatDoor.Nu
open Go.RowKit
attribute [local go_sem] conv_up conv_down conv_int ext_bits64 ext_from64 ext_from ext_bits run_fadd run_fsub run_fmul run_fquo negF_eq

theorem bits_u32_lt (op : BinOp) (a b : Int) : (bits op .u32 a b).toNat < 4294967296 := by
  unfold bits
  rw [IntKind.wrap_u32']
  omega

set_option maxHeartbeats 400000 in
theorem sign_w (x y : Nat) (w : World) : Calls Tryz.prog 135 #[.float .f32 x, .float .f32 y] w fun e w' => ∃ r, r < 4294967296 ∧ e = .returned (.float .f32 r) ∧ w' = w := by
  go_enter Tryz.func135, Tryz.ntmps135
  go_wp2
  go_ret
  exact ⟨_, bits_u32_lt _ _ _, rfl, rfl⟩

set_option maxHeartbeats 400000 in
theorem sigmoid_w (x : Nat) (w : World) (hx : x < 4294967296) : Calls Tryz.prog 84 #[.float .f32 x] w fun e w' => ∃ r n, r < 4294967296 ∧ e = .returned (.float .f32 r) ∧ w' = w.drewN n := by
  have hn := negF_lt x hx
  go_enter Tryz.func84, Tryz.ntmps84
  go_wp2_with (first | (go_at_call 83; refine (exp_w _ _ hn).mono ?_; rintro e w' ⟨r, n, hr, rfl, rfl⟩) | go_in)
  go_ret
  exact ⟨_, _, fval_lt _ _ _ _, rfl, rfl⟩

set_option maxHeartbeats 1000000 in
theorem tanh_w (x : Nat) (w : World) (hx : x < 4294967296) : Calls Tryz.prog 85 #[.float .f32 x] w fun e w' => ∃ r n, r < 4294967296 ∧ e = .returned (.float .f32 r) ∧ w' = w.drewN n := by
  cases h1 : (FloatKind.f32.format.order (absF x) 1092616192 == some .gt) with
  | true =>
    go_enter Tryz.func85, Tryz.ntmps85
    go_wp2_with (first | (go_at_call 79; refine (absolute_any _ _ hx).mono ?_; rintro e w' ⟨rfl, rfl⟩) | (go_at_call 135; refine (sign_w _ _ _).mono ?_; rintro e w' ⟨rs, hs, rfl, rfl⟩) | go_in)
    go_ret
    exact ⟨_, 0, ‹_›, rfl, rfl⟩
  | false =>
    go_enter Tryz.func85, Tryz.ntmps85
    go_wp2_with (first | (go_at_call 79; refine (absolute_any _ _ hx).mono ?_; rintro e w' ⟨rfl, rfl⟩) | (go_at_call 83; refine (exp_w _ _ (fval_lt _ _ _ _)).mono ?_; rintro e w' ⟨r, n, hr, rfl, rfl⟩) | (go_at_call 135; refine (sign_w _ _ _).mono ?_; rintro e w' ⟨rs, hs, rfl, rfl⟩) | go_in)
    go_ret
    exact ⟨_, _, ‹_›, rfl, rfl⟩

set_option maxHeartbeats 400000 in
theorem round5_f (b : Nat) (w : World) (_hb : b < 4294967296) : Calls Tryz.prog 49 #[.string ⟨#[83, 113, 114, 116]⟩, .float .f32 b] w fun e w' => ∃ r n, r < 4294967296 ∧ e = .returned (.tuple #[.int .i64 (tob r), .int .i64 0]) ∧ w' = w.drewN n := by
  go_enter Tryz.func49, Tryz.ntmps49
  go_wp2_with (first | (go_at_call 81; refine (sqrt_w _ _).mono ?_; rintro e w' ⟨r, n, rfl, rfl⟩) | (go_at_call 62; refine (to_any _ _ (cval_lt _ _)).mono ?_; rintro e w' ⟨rfl, rfl⟩) | go_in)
  go_ret2
  exact ⟨_, _, cval_lt _ _, rfl, rfl⟩

set_option maxHeartbeats 400000 in
theorem round6_f (b : Nat) (w : World) (_hb : b < 4294967296) : Calls Tryz.prog 49 #[.string ⟨#[70, 108, 111, 111, 114]⟩, .float .f32 b] w fun e w' => ∃ r n, r < 4294967296 ∧ e = .returned (.tuple #[.int .i64 (tob r), .int .i64 0]) ∧ w' = w.drewN n := by
  go_enter Tryz.func49, Tryz.ntmps49
  go_wp2_with (first | (go_at_call 82; refine (floor_w _ _).mono ?_; rintro e w' ⟨r, n, rfl, rfl⟩) | (go_at_call 62; refine (to_any _ _ (cval_lt _ _)).mono ?_; rintro e w' ⟨rfl, rfl⟩) | go_in)
  go_ret2
  exact ⟨_, _, cval_lt _ _, rfl, rfl⟩

set_option maxHeartbeats 400000 in
theorem round7_f (b : Nat) (w : World) (hb : b < 4294967296) : Calls Tryz.prog 49 #[.string ⟨#[69, 120, 112]⟩, .float .f32 b] w fun e w' => ∃ r n, r < 4294967296 ∧ e = .returned (.tuple #[.int .i64 (tob r), .int .i64 0]) ∧ w' = w.drewN n := by
  go_enter Tryz.func49, Tryz.ntmps49
  go_wp2_with (first | (go_at_call 83; refine (exp_w _ _ hb).mono ?_; rintro e w' ⟨r, n, hr, rfl, rfl⟩) | (go_at_call 62; refine (to_any _ _ (by assumption)).mono ?_; rintro e w' ⟨rfl, rfl⟩) | go_in)
  go_ret2
  exact ⟨_, _, ‹_›, rfl, rfl⟩

set_option maxHeartbeats 400000 in
theorem round8_f (b : Nat) (w : World) (hb : b < 4294967296) : Calls Tryz.prog 49 #[.string ⟨#[83, 105, 103, 109, 111, 105, 100]⟩, .float .f32 b] w fun e w' => ∃ r n, r < 4294967296 ∧ e = .returned (.tuple #[.int .i64 (tob r), .int .i64 0]) ∧ w' = w.drewN n := by
  go_enter Tryz.func49, Tryz.ntmps49
  go_wp2_with (first | (go_at_call 84; refine (sigmoid_w _ _ hb).mono ?_; rintro e w' ⟨r, n, hr, rfl, rfl⟩) | (go_at_call 62; refine (to_any _ _ (by assumption)).mono ?_; rintro e w' ⟨rfl, rfl⟩) | go_in)
  go_ret2
  exact ⟨_, _, ‹_›, rfl, rfl⟩

set_option maxHeartbeats 400000 in
theorem round9_f (b : Nat) (w : World) (hb : b < 4294967296) : Calls Tryz.prog 49 #[.string ⟨#[84, 97, 110, 104]⟩, .float .f32 b] w fun e w' => ∃ r n, r < 4294967296 ∧ e = .returned (.tuple #[.int .i64 (tob r), .int .i64 0]) ∧ w' = w.drewN n := by
  go_enter Tryz.func49, Tryz.ntmps49
  go_wp2_with (first | (go_at_call 85; refine (tanh_w _ _ hb).mono ?_; rintro e w' ⟨r, n, hr, rfl, rfl⟩) | (go_at_call 62; refine (to_any _ _ (by assumption)).mono ?_; rintro e w' ⟨rfl, rfl⟩) | go_in)
  go_ret2
  exact ⟨_, _, ‹_›, rfl, rfl⟩

set_option maxHeartbeats 400000 in
theorem unary5_1 (x : Int) (w : World) (hx : chk 1 x = true) : Calls Tryz.prog 29 #[.string ⟨#[83, 113, 114, 116]⟩, .int .i64 1, .int .i64 x] w fun e w' => ∃ r n, r < 4294967296 ∧ e = .returned (.tuple #[.int .i64 (tob r), .int .i64 0]) ∧ w' = w.drewN n := by
  go_enter Tryz.func29, Tryz.ntmps29
  go_wp2_with (first | (go_at_call 45; refine (check_any _ _ _).mono ?_; rintro e w' ⟨rfl, rfl⟩) | (go_at_call 50; refine (from_any _ _).mono ?_; rintro e w' ⟨rfl, rfl⟩) | (go_at_call 49; refine (round5_f _ _ (fb_lt _)).mono ?_; rintro e w' ⟨r, n, hr, rfl, rfl⟩))
  go_ret2
  exact ⟨_, _, ‹_›, rfl, rfl⟩

set_option maxHeartbeats 400000 in
theorem unary6_1 (x : Int) (w : World) (hx : chk 1 x = true) : Calls Tryz.prog 29 #[.string ⟨#[70, 108, 111, 111, 114]⟩, .int .i64 1, .int .i64 x] w fun e w' => ∃ r n, r < 4294967296 ∧ e = .returned (.tuple #[.int .i64 (tob r), .int .i64 0]) ∧ w' = w.drewN n := by
  go_enter Tryz.func29, Tryz.ntmps29
  go_wp2_with (first | (go_at_call 45; refine (check_any _ _ _).mono ?_; rintro e w' ⟨rfl, rfl⟩) | (go_at_call 50; refine (from_any _ _).mono ?_; rintro e w' ⟨rfl, rfl⟩) | (go_at_call 49; refine (round6_f _ _ (fb_lt _)).mono ?_; rintro e w' ⟨r, n, hr, rfl, rfl⟩))
  go_ret2
  exact ⟨_, _, ‹_›, rfl, rfl⟩

set_option maxHeartbeats 400000 in
theorem unary7_1 (x : Int) (w : World) (hx : chk 1 x = true) : Calls Tryz.prog 29 #[.string ⟨#[69, 120, 112]⟩, .int .i64 1, .int .i64 x] w fun e w' => ∃ r n, r < 4294967296 ∧ e = .returned (.tuple #[.int .i64 (tob r), .int .i64 0]) ∧ w' = w.drewN n := by
  go_enter Tryz.func29, Tryz.ntmps29
  go_wp2_with (first | (go_at_call 45; refine (check_any _ _ _).mono ?_; rintro e w' ⟨rfl, rfl⟩) | (go_at_call 50; refine (from_any _ _).mono ?_; rintro e w' ⟨rfl, rfl⟩) | (go_at_call 49; refine (round7_f _ _ (fb_lt _)).mono ?_; rintro e w' ⟨r, n, hr, rfl, rfl⟩))
  go_ret2
  exact ⟨_, _, ‹_›, rfl, rfl⟩

set_option maxHeartbeats 400000 in
theorem unary8_1 (x : Int) (w : World) (hx : chk 1 x = true) : Calls Tryz.prog 29 #[.string ⟨#[83, 105, 103, 109, 111, 105, 100]⟩, .int .i64 1, .int .i64 x] w fun e w' => ∃ r n, r < 4294967296 ∧ e = .returned (.tuple #[.int .i64 (tob r), .int .i64 0]) ∧ w' = w.drewN n := by
  go_enter Tryz.func29, Tryz.ntmps29
  go_wp2_with (first | (go_at_call 45; refine (check_any _ _ _).mono ?_; rintro e w' ⟨rfl, rfl⟩) | (go_at_call 50; refine (from_any _ _).mono ?_; rintro e w' ⟨rfl, rfl⟩) | (go_at_call 49; refine (round8_f _ _ (fb_lt _)).mono ?_; rintro e w' ⟨r, n, hr, rfl, rfl⟩))
  go_ret2
  exact ⟨_, _, ‹_›, rfl, rfl⟩

set_option maxHeartbeats 400000 in
theorem unary9_1 (x : Int) (w : World) (hx : chk 1 x = true) : Calls Tryz.prog 29 #[.string ⟨#[84, 97, 110, 104]⟩, .int .i64 1, .int .i64 x] w fun e w' => ∃ r n, r < 4294967296 ∧ e = .returned (.tuple #[.int .i64 (tob r), .int .i64 0]) ∧ w' = w.drewN n := by
  go_enter Tryz.func29, Tryz.ntmps29
  go_wp2_with (first | (go_at_call 45; refine (check_any _ _ _).mono ?_; rintro e w' ⟨rfl, rfl⟩) | (go_at_call 50; refine (from_any _ _).mono ?_; rintro e w' ⟨rfl, rfl⟩) | (go_at_call 49; refine (round9_f _ _ (fb_lt _)).mono ?_; rintro e w' ⟨r, n, hr, rfl, rfl⟩))
  go_ret2
  exact ⟨_, _, ‹_›, rfl, rfl⟩

theorem wrapT_stays (t n : Int) (h : t = 6 ∨ t = 7) : chk t (wrapT t n) = true := by
  rcases h with rfl | rfl
  · have : -2147483648 ≤ wrapT 6 n ∧ wrapT 6 n ≤ 2147483647 := by
      simp only [wrapT, if_true]; unfold wrap64 wrap32; omega
    simpa [chk] using this
  · simp [chk]

theorem un_stays (k : Nat) (t x : Int) (hk : k < 5) : (un k t x).2 = 0 ∧ chk t (un k t x).1 = true ∨ (un k t x).2 = 1 := by
  cases hx : chk t x with
  | false => right; rw [un_no k t x hx]
  | true =>
    have hk' : k = 0 ∨ k = 1 ∨ k = 2 ∨ k = 3 ∨ k = 4 := by omega
    rcases chk_types t x hx with rfl | rfl | rfl | rfl
    · rcases hk' with rfl | rfl | rfl | rfl | rfl
      · rw [un_0 1 x hx]; exact .inl ⟨rfl, hx⟩
      · rw [un_1 1 x hx (by decide)]; exact .inl ⟨rfl, chk_tob _ (negF_lt _ (fb_lt x))⟩
      · rw [un_1 2 x hx (by decide)]; exact .inl ⟨rfl, chk_tob _ (absF_lt _)⟩
      · rw [un_1 3 x hx (by decide)]; exact .inr rfl
      · rw [un_1 4 x hx (by decide)]; exact .inl ⟨rfl, chk_tob _ (reluF_lt _ (fb_lt x))⟩
    · rcases hk' with rfl | rfl | rfl | rfl | rfl
      · rw [un_0 6 x hx]; exact .inl ⟨rfl, hx⟩
      · rw [un_6 1 x hx (by decide)]; exact .inl ⟨rfl, wrapT_stays 6 _ (by decide)⟩
      · rw [un_6 2 x hx (by decide)]
        refine .inl ⟨rfl, ?_⟩
        show chk 6 (absI 6 x) = true
        unfold absI; split
        · exact wrapT_stays 6 _ (by decide)
        · exact hx
      · rw [un_6 3 x hx (by decide)]; exact .inr rfl
      · rw [un_6 4 x hx (by decide)]; exact .inr rfl
    · rcases hk' with rfl | rfl | rfl | rfl | rfl
      · rw [un_0 7 x hx]; exact .inl ⟨rfl, hx⟩
      · rw [un_7 1 x hx (by decide)]; exact .inl ⟨rfl, wrapT_stays 7 _ (by decide)⟩
      · rw [un_7 2 x hx (by decide)]; exact .inl ⟨rfl, by simp [chk]⟩
      · rw [un_7 3 x hx (by decide)]; exact .inr rfl
      · rw [un_7 4 x hx (by decide)]; exact .inr rfl
    · rcases hk' with rfl | rfl | rfl | rfl | rfl
      · rw [un_0 9 x hx]; exact .inl ⟨rfl, hx⟩
      · rw [un_9 1 x hx (by decide)]; exact .inr rfl
      · rw [un_9 2 x hx (by decide)]; exact .inr rfl
      · rw [un_9 3 x hx (by decide)]
        refine .inl ⟨rfl, ?_⟩
        show chk 9 (1 - x) = true
        rcases chk9 x hx with rfl | rfl <;> decide
      · rw [un_9 4 x hx (by decide)]; exact .inr rfl

theorem stay_un0 (t x : Int) (w : World) : Calls Tryz.prog 29 #[.string ⟨#[73, 100, 101, 110, 116, 105, 116, 121]⟩, .int .i64 t, .int .i64 x] w fun e w' => ∃ (v c : Int) (n : Nat), (c = 0 ∧ chk t v = true ∨ c = 1) ∧ e = .returned (.tuple #[.int .i64 v, .int .i64 c]) ∧ w' = w.drewN n := by
  refine (unary0 t x w).mono ?_
  rintro e w' ⟨rfl, rfl⟩
  exact ⟨_, _, 0, un_stays 0 t x (by decide), rfl, rfl⟩

theorem stay_un1 (t x : Int) (w : World) : Calls Tryz.prog 29 #[.string ⟨#[78, 101, 103]⟩, .int .i64 t, .int .i64 x] w fun e w' => ∃ (v c : Int) (n : Nat), (c = 0 ∧ chk t v = true ∨ c = 1) ∧ e = .returned (.tuple #[.int .i64 v, .int .i64 c]) ∧ w' = w.drewN n := by
  refine (unary1 t x w).mono ?_
  rintro e w' ⟨rfl, rfl⟩
  exact ⟨_, _, 0, un_stays 1 t x (by decide), rfl, rfl⟩

theorem stay_un2 (t x : Int) (w : World) : Calls Tryz.prog 29 #[.string ⟨#[65, 98, 115]⟩, .int .i64 t, .int .i64 x] w fun e w' => ∃ (v c : Int) (n : Nat), (c = 0 ∧ chk t v = true ∨ c = 1) ∧ e = .returned (.tuple #[.int .i64 v, .int .i64 c]) ∧ w' = w.drewN n := by
  refine (unary2 t x w).mono ?_
  rintro e w' ⟨rfl, rfl⟩
  exact ⟨_, _, 0, un_stays 2 t x (by decide), rfl, rfl⟩

theorem stay_un3 (t x : Int) (w : World) : Calls Tryz.prog 29 #[.string ⟨#[78, 111, 116]⟩, .int .i64 t, .int .i64 x] w fun e w' => ∃ (v c : Int) (n : Nat), (c = 0 ∧ chk t v = true ∨ c = 1) ∧ e = .returned (.tuple #[.int .i64 v, .int .i64 c]) ∧ w' = w.drewN n := by
  refine (unary3 t x w).mono ?_
  rintro e w' ⟨rfl, rfl⟩
  exact ⟨_, _, 0, un_stays 3 t x (by decide), rfl, rfl⟩

theorem stay_un4 (t x : Int) (w : World) : Calls Tryz.prog 29 #[.string ⟨#[82, 101, 108, 117]⟩, .int .i64 t, .int .i64 x] w fun e w' => ∃ (v c : Int) (n : Nat), (c = 0 ∧ chk t v = true ∨ c = 1) ∧ e = .returned (.tuple #[.int .i64 v, .int .i64 c]) ∧ w' = w.drewN n := by
  refine (unary4 t x w).mono ?_
  rintro e w' ⟨rfl, rfl⟩
  exact ⟨_, _, 0, un_stays 4 t x (by decide), rfl, rfl⟩

theorem stay_un5 (t x : Int) (w : World) : Calls Tryz.prog 29 #[.string ⟨#[83, 113, 114, 116]⟩, .int .i64 t, .int .i64 x] w fun e w' => ∃ (v c : Int) (n : Nat), (c = 0 ∧ chk t v = true ∨ c = 1) ∧ e = .returned (.tuple #[.int .i64 v, .int .i64 c]) ∧ w' = w.drewN n := by
  cases hx : chk t x with
  | false =>
    refine (unary5_no t x w hx).mono ?_
    rintro e w' ⟨rfl, rfl⟩
    exact ⟨_, _, 0, .inr (by rw [un_no 5 t x hx]), rfl, rfl⟩
  | true =>
    rcases chk_types t x hx with rfl | rfl | rfl | rfl
    · refine (unary5_1 x w hx).mono ?_
      rintro e w' ⟨r, n, hr, rfl, rfl⟩
      exact ⟨_, _, n, .inl ⟨rfl, chk_tob r hr⟩, rfl, rfl⟩
    · refine (unary5_6 x w hx).mono ?_
      rintro e w' ⟨rfl, rfl⟩
      exact ⟨_, _, 0, .inr (by rw [un_6 5 x hx (by decide)]; rfl), rfl, rfl⟩
    · refine (unary5_7 x w hx).mono ?_
      rintro e w' ⟨rfl, rfl⟩
      exact ⟨_, _, 0, .inr (by rw [un_7 5 x hx (by decide)]; rfl), rfl, rfl⟩
    · refine (unary5_9 x w hx).mono ?_
      rintro e w' ⟨rfl, rfl⟩
      exact ⟨_, _, 0, .inr (by rw [un_9 5 x hx (by decide)]; rfl), rfl, rfl⟩

theorem stay_un6 (t x : Int) (w : World) : Calls Tryz.prog 29 #[.string ⟨#[70, 108, 111, 111, 114]⟩, .int .i64 t, .int .i64 x] w fun e w' => ∃ (v c : Int) (n : Nat), (c = 0 ∧ chk t v = true ∨ c = 1) ∧ e = .returned (.tuple #[.int .i64 v, .int .i64 c]) ∧ w' = w.drewN n := by
  cases hx : chk t x with
  | false =>
    refine (unary6_no t x w hx).mono ?_
    rintro e w' ⟨rfl, rfl⟩
    exact ⟨_, _, 0, .inr (by rw [un_no 6 t x hx]), rfl, rfl⟩
  | true =>
    rcases chk_types t x hx with rfl | rfl | rfl | rfl
    · refine (unary6_1 x w hx).mono ?_
      rintro e w' ⟨r, n, hr, rfl, rfl⟩
      exact ⟨_, _, n, .inl ⟨rfl, chk_tob r hr⟩, rfl, rfl⟩
    · refine (unary6_6 x w hx).mono ?_
      rintro e w' ⟨rfl, rfl⟩
      exact ⟨_, _, 0, .inr (by rw [un_6 6 x hx (by decide)]; rfl), rfl, rfl⟩
    · refine (unary6_7 x w hx).mono ?_
      rintro e w' ⟨rfl, rfl⟩
      exact ⟨_, _, 0, .inr (by rw [un_7 6 x hx (by decide)]; rfl), rfl, rfl⟩
    · refine (unary6_9 x w hx).mono ?_
      rintro e w' ⟨rfl, rfl⟩
      exact ⟨_, _, 0, .inr (by rw [un_9 6 x hx (by decide)]; rfl), rfl, rfl⟩

theorem stay_un7 (t x : Int) (w : World) : Calls Tryz.prog 29 #[.string ⟨#[69, 120, 112]⟩, .int .i64 t, .int .i64 x] w fun e w' => ∃ (v c : Int) (n : Nat), (c = 0 ∧ chk t v = true ∨ c = 1) ∧ e = .returned (.tuple #[.int .i64 v, .int .i64 c]) ∧ w' = w.drewN n := by
  cases hx : chk t x with
  | false =>
    refine (unary7_no t x w hx).mono ?_
    rintro e w' ⟨rfl, rfl⟩
    exact ⟨_, _, 0, .inr (by rw [un_no 7 t x hx]), rfl, rfl⟩
  | true =>
    rcases chk_types t x hx with rfl | rfl | rfl | rfl
    · refine (unary7_1 x w hx).mono ?_
      rintro e w' ⟨r, n, hr, rfl, rfl⟩
      exact ⟨_, _, n, .inl ⟨rfl, chk_tob r hr⟩, rfl, rfl⟩
    · refine (unary7_6 x w hx).mono ?_
      rintro e w' ⟨rfl, rfl⟩
      exact ⟨_, _, 0, .inr (by rw [un_6 7 x hx (by decide)]; rfl), rfl, rfl⟩
    · refine (unary7_7 x w hx).mono ?_
      rintro e w' ⟨rfl, rfl⟩
      exact ⟨_, _, 0, .inr (by rw [un_7 7 x hx (by decide)]; rfl), rfl, rfl⟩
    · refine (unary7_9 x w hx).mono ?_
      rintro e w' ⟨rfl, rfl⟩
      exact ⟨_, _, 0, .inr (by rw [un_9 7 x hx (by decide)]; rfl), rfl, rfl⟩

theorem stay_un8 (t x : Int) (w : World) : Calls Tryz.prog 29 #[.string ⟨#[83, 105, 103, 109, 111, 105, 100]⟩, .int .i64 t, .int .i64 x] w fun e w' => ∃ (v c : Int) (n : Nat), (c = 0 ∧ chk t v = true ∨ c = 1) ∧ e = .returned (.tuple #[.int .i64 v, .int .i64 c]) ∧ w' = w.drewN n := by
  cases hx : chk t x with
  | false =>
    refine (unary8_no t x w hx).mono ?_
    rintro e w' ⟨rfl, rfl⟩
    exact ⟨_, _, 0, .inr (by rw [un_no 8 t x hx]), rfl, rfl⟩
  | true =>
    rcases chk_types t x hx with rfl | rfl | rfl | rfl
    · refine (unary8_1 x w hx).mono ?_
      rintro e w' ⟨r, n, hr, rfl, rfl⟩
      exact ⟨_, _, n, .inl ⟨rfl, chk_tob r hr⟩, rfl, rfl⟩
    · refine (unary8_6 x w hx).mono ?_
      rintro e w' ⟨rfl, rfl⟩
      exact ⟨_, _, 0, .inr (by rw [un_6 8 x hx (by decide)]; rfl), rfl, rfl⟩
    · refine (unary8_7 x w hx).mono ?_
      rintro e w' ⟨rfl, rfl⟩
      exact ⟨_, _, 0, .inr (by rw [un_7 8 x hx (by decide)]; rfl), rfl, rfl⟩
    · refine (unary8_9 x w hx).mono ?_
      rintro e w' ⟨rfl, rfl⟩
      exact ⟨_, _, 0, .inr (by rw [un_9 8 x hx (by decide)]; rfl), rfl, rfl⟩

theorem stay_un9 (t x : Int) (w : World) : Calls Tryz.prog 29 #[.string ⟨#[84, 97, 110, 104]⟩, .int .i64 t, .int .i64 x] w fun e w' => ∃ (v c : Int) (n : Nat), (c = 0 ∧ chk t v = true ∨ c = 1) ∧ e = .returned (.tuple #[.int .i64 v, .int .i64 c]) ∧ w' = w.drewN n := by
  cases hx : chk t x with
  | false =>
    refine (unary9_no t x w hx).mono ?_
    rintro e w' ⟨rfl, rfl⟩
    exact ⟨_, _, 0, .inr (by rw [un_no 9 t x hx]), rfl, rfl⟩
  | true =>
    rcases chk_types t x hx with rfl | rfl | rfl | rfl
    · refine (unary9_1 x w hx).mono ?_
      rintro e w' ⟨r, n, hr, rfl, rfl⟩
      exact ⟨_, _, n, .inl ⟨rfl, chk_tob r hr⟩, rfl, rfl⟩
    · refine (unary9_6 x w hx).mono ?_
      rintro e w' ⟨rfl, rfl⟩
      exact ⟨_, _, 0, .inr (by rw [un_6 9 x hx (by decide)]; rfl), rfl, rfl⟩
    · refine (unary9_7 x w hx).mono ?_
      rintro e w' ⟨rfl, rfl⟩
      exact ⟨_, _, 0, .inr (by rw [un_7 9 x hx (by decide)]; rfl), rfl, rfl⟩
    · refine (unary9_9 x w hx).mono ?_
      rintro e w' ⟨rfl, rfl⟩
      exact ⟨_, _, 0, .inr (by rw [un_9 9 x hx (by decide)]; rfl), rfl, rfl⟩

end Go.Proofs.YteigfipgmghgmaaGreatDoor.Nu
