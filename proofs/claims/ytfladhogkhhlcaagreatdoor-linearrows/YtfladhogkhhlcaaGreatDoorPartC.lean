/- Joined texts: NuWalkF, NuWalkU, NuWalkK, NuWalkK2, NuWalkK3. -/
import Derived.Test.YtfladhogkhhlcaaGreatDoorPartB
import Derived.Test.YtfladhogkhhlcaaGreatDoorPartA
/- The walks of package num's Binary, operator by operator, at any type and any numbers. -/
namespace Go.Proofs.YtfladhogkhhlcaaGreatDoor.Nu
open Go.RowKit

set_option maxHeartbeats 400000 in
theorem binary1_no (t x y : Int) (w : World) (h : chk t x = false ∨ chk t x = true ∧ chk t y = false) : Calls Tryz.prog 75 #[.string ⟨#[83, 117, 98]⟩, .int .i64 t, .int .i64 x, .int .i64 y] w fun e w' => e = .returned (.tuple #[.int .i64 0, .int .i64 1]) ∧ ∃ n, w' = w.drewN n := by
  rcases h with hx | ⟨hx, hy⟩
  all_goals
    go_enter Tryz.func75, Tryz.ntmps75
    go_wp2_with (first | (go_at_call 67; refine (check_any _ _ _).mono ?_; rintro e w' ⟨rfl, rfl⟩))
    go_ret2
    exact ⟨rfl, 0, rfl⟩

set_option maxHeartbeats 400000 in
theorem binary1_1 (x y : Int) (w : World) (hx : chk 1 x = true) (hy : chk 1 y = true) : Calls Tryz.prog 75 #[.string ⟨#[83, 117, 98]⟩, .int .i64 1, .int .i64 x, .int .i64 y] w fun e w' => e = .returned (.tuple #[.int .i64 (bin 1 1 x y).1, .int .i64 (bin 1 1 x y).2]) ∧ ∃ n, w' = w.drewN n := by
  rw [bin_1 1 x y hx hy]
  go_enter Tryz.func75, Tryz.ntmps75
  go_wp2_with (first | (go_at_call 67; refine (check_any _ _ _).mono ?_; rintro e w' ⟨rfl, rfl⟩) | (go_at_call 98; refine (from_any _ _).mono ?_; rintro e w' ⟨rfl, rfl⟩) | (go_at_call 97; refine (sub_f _ _ _).mono ?_; rintro e w' ⟨rfl, n, rfl⟩))
  go_ret2
  exact ⟨rfl, _, rfl⟩

set_option maxHeartbeats 400000 in
theorem binary1_6 (x y : Int) (w : World) (hx : chk 6 x = true) (hy : chk 6 y = true) : Calls Tryz.prog 75 #[.string ⟨#[83, 117, 98]⟩, .int .i64 6, .int .i64 x, .int .i64 y] w fun e w' => e = .returned (.tuple #[.int .i64 (bin 1 6 x y).1, .int .i64 (bin 1 6 x y).2]) ∧ ∃ n, w' = w.drewN n := by
  rw [bin_6 1 x y hx hy]
  go_enter Tryz.func75, Tryz.ntmps75
  go_wp2_with (first | (go_at_call 67; refine (check_any _ _ _).mono ?_; rintro e w' ⟨rfl, rfl⟩) | (go_at_call 99; refine (int1_f _ _ _ _).mono ?_; rintro e w' ⟨rfl, rfl⟩))
  go_ret2
  exact ⟨rfl, 0, rfl⟩

set_option maxHeartbeats 400000 in
theorem binary1_7 (x y : Int) (w : World) (hx : chk 7 x = true) (hy : chk 7 y = true) : Calls Tryz.prog 75 #[.string ⟨#[83, 117, 98]⟩, .int .i64 7, .int .i64 x, .int .i64 y] w fun e w' => e = .returned (.tuple #[.int .i64 (bin 1 7 x y).1, .int .i64 (bin 1 7 x y).2]) ∧ ∃ n, w' = w.drewN n := by
  rw [bin_7 1 x y hx hy]
  go_enter Tryz.func75, Tryz.ntmps75
  go_wp2_with (first | (go_at_call 67; refine (check_any _ _ _).mono ?_; rintro e w' ⟨rfl, rfl⟩) | (go_at_call 99; refine (int1_f _ _ _ _).mono ?_; rintro e w' ⟨rfl, rfl⟩))
  go_ret2
  exact ⟨rfl, 0, rfl⟩

set_option maxHeartbeats 400000 in
theorem binary1_9 (x y : Int) (w : World) (hx : chk 9 x = true) (hy : chk 9 y = true) : Calls Tryz.prog 75 #[.string ⟨#[83, 117, 98]⟩, .int .i64 9, .int .i64 x, .int .i64 y] w fun e w' => e = .returned (.tuple #[.int .i64 (bin 1 9 x y).1, .int .i64 (bin 1 9 x y).2]) ∧ ∃ n, w' = w.drewN n := by
  rw [bin_9 1 x y hx hy]
  go_enter Tryz.func75, Tryz.ntmps75
  go_wp2_with (first | (go_at_call 67; refine (check_any _ _ _).mono ?_; rintro e w' ⟨rfl, rfl⟩) | (go_at_call 100; refine (bool1_f _ _ _).mono ?_; rintro e w' ⟨rfl, rfl⟩))
  go_ret2
  exact ⟨rfl, 0, rfl⟩

theorem binary1 (t x y : Int) (w : World) : Calls Tryz.prog 75 #[.string ⟨#[83, 117, 98]⟩, .int .i64 t, .int .i64 x, .int .i64 y] w fun e w' => e = .returned (.tuple #[.int .i64 (bin 1 t x y).1, .int .i64 (bin 1 t x y).2]) ∧ ∃ n, w' = w.drewN n := by
  cases hx : chk t x with
  | false => rw [bin_nox 1 t x y hx]; exact binary1_no t x y w (.inl hx)
  | true =>
    cases hy : chk t y with
    | false => rw [bin_noy 1 t x y hy]; exact binary1_no t x y w (.inr ⟨hx, hy⟩)
    | true =>
      rcases chk_types t x hx with rfl | rfl | rfl | rfl
      · exact binary1_1 x y w hx hy
      · exact binary1_6 x y w hx hy
      · exact binary1_7 x y w hx hy
      · exact binary1_9 x y w hx hy

set_option maxHeartbeats 400000 in
theorem binary3_no (t x y : Int) (w : World) (h : chk t x = false ∨ chk t x = true ∧ chk t y = false) : Calls Tryz.prog 75 #[.string ⟨#[68, 105, 118]⟩, .int .i64 t, .int .i64 x, .int .i64 y] w fun e w' => e = .returned (.tuple #[.int .i64 0, .int .i64 1]) ∧ ∃ n, w' = w.drewN n := by
  rcases h with hx | ⟨hx, hy⟩
  all_goals
    go_enter Tryz.func75, Tryz.ntmps75
    go_wp2_with (first | (go_at_call 67; refine (check_any _ _ _).mono ?_; rintro e w' ⟨rfl, rfl⟩))
    go_ret2
    exact ⟨rfl, 0, rfl⟩

set_option maxHeartbeats 400000 in
theorem binary3_1 (x y : Int) (w : World) (hx : chk 1 x = true) (hy : chk 1 y = true) : Calls Tryz.prog 75 #[.string ⟨#[68, 105, 118]⟩, .int .i64 1, .int .i64 x, .int .i64 y] w fun e w' => e = .returned (.tuple #[.int .i64 (bin 3 1 x y).1, .int .i64 (bin 3 1 x y).2]) ∧ ∃ n, w' = w.drewN n := by
  rw [bin_1 3 x y hx hy]
  go_enter Tryz.func75, Tryz.ntmps75
  go_wp2_with (first | (go_at_call 67; refine (check_any _ _ _).mono ?_; rintro e w' ⟨rfl, rfl⟩) | (go_at_call 98; refine (from_any _ _).mono ?_; rintro e w' ⟨rfl, rfl⟩) | (go_at_call 97; refine (div_f _ _ _).mono ?_; rintro e w' ⟨rfl, n, rfl⟩))
  go_ret2
  exact ⟨rfl, _, rfl⟩

set_option maxHeartbeats 400000 in
theorem binary3_6 (x y : Int) (w : World) (hx : chk 6 x = true) (hy : chk 6 y = true) : Calls Tryz.prog 75 #[.string ⟨#[68, 105, 118]⟩, .int .i64 6, .int .i64 x, .int .i64 y] w fun e w' => e = .returned (.tuple #[.int .i64 (bin 3 6 x y).1, .int .i64 (bin 3 6 x y).2]) ∧ ∃ n, w' = w.drewN n := by
  rw [bin_6 3 x y hx hy]
  cases h0 : (y == 0) with
  | true =>
    have e0 : binIn 3 6 x y = (0, 7) := by simp at h0; simp [binIn, h0]
    rw [e0]; clear e0
    go_enter Tryz.func75, Tryz.ntmps75
    go_wp2_with (first | (go_at_call 67; refine (check_any _ _ _).mono ?_; rintro e w' ⟨rfl, rfl⟩) | (go_at_call 99; refine (int3_no _ _ _ _ h0).mono ?_; rintro e w' ⟨rfl, rfl⟩))
    go_ret2
    exact ⟨rfl, 0, rfl⟩
  | false =>
    have e0 : binIn 3 6 x y = (wrapT 6 (wrap64 (x.tdiv y)), 0) := by simp at h0; simp [binIn, h0]
    rw [e0]; clear e0
    go_enter Tryz.func75, Tryz.ntmps75
    go_wp2_with (first | (go_at_call 67; refine (check_any _ _ _).mono ?_; rintro e w' ⟨rfl, rfl⟩) | (go_at_call 99; refine (int3_yes _ _ _ _ h0).mono ?_; rintro e w' ⟨rfl, rfl⟩))
    go_ret2
    exact ⟨rfl, 0, rfl⟩

set_option maxHeartbeats 400000 in
theorem binary3_7 (x y : Int) (w : World) (hx : chk 7 x = true) (hy : chk 7 y = true) : Calls Tryz.prog 75 #[.string ⟨#[68, 105, 118]⟩, .int .i64 7, .int .i64 x, .int .i64 y] w fun e w' => e = .returned (.tuple #[.int .i64 (bin 3 7 x y).1, .int .i64 (bin 3 7 x y).2]) ∧ ∃ n, w' = w.drewN n := by
  rw [bin_7 3 x y hx hy]
  cases h0 : (y == 0) with
  | true =>
    have e0 : binIn 3 7 x y = (0, 7) := by simp at h0; simp [binIn, h0]
    rw [e0]; clear e0
    go_enter Tryz.func75, Tryz.ntmps75
    go_wp2_with (first | (go_at_call 67; refine (check_any _ _ _).mono ?_; rintro e w' ⟨rfl, rfl⟩) | (go_at_call 99; refine (int3_no _ _ _ _ h0).mono ?_; rintro e w' ⟨rfl, rfl⟩))
    go_ret2
    exact ⟨rfl, 0, rfl⟩
  | false =>
    have e0 : binIn 3 7 x y = (wrapT 7 (wrap64 (x.tdiv y)), 0) := by simp at h0; simp [binIn, h0]
    rw [e0]; clear e0
    go_enter Tryz.func75, Tryz.ntmps75
    go_wp2_with (first | (go_at_call 67; refine (check_any _ _ _).mono ?_; rintro e w' ⟨rfl, rfl⟩) | (go_at_call 99; refine (int3_yes _ _ _ _ h0).mono ?_; rintro e w' ⟨rfl, rfl⟩))
    go_ret2
    exact ⟨rfl, 0, rfl⟩

set_option maxHeartbeats 400000 in
theorem binary3_9 (x y : Int) (w : World) (hx : chk 9 x = true) (hy : chk 9 y = true) : Calls Tryz.prog 75 #[.string ⟨#[68, 105, 118]⟩, .int .i64 9, .int .i64 x, .int .i64 y] w fun e w' => e = .returned (.tuple #[.int .i64 (bin 3 9 x y).1, .int .i64 (bin 3 9 x y).2]) ∧ ∃ n, w' = w.drewN n := by
  rw [bin_9 3 x y hx hy]
  go_enter Tryz.func75, Tryz.ntmps75
  go_wp2_with (first | (go_at_call 67; refine (check_any _ _ _).mono ?_; rintro e w' ⟨rfl, rfl⟩) | (go_at_call 100; refine (bool3_f _ _ _).mono ?_; rintro e w' ⟨rfl, rfl⟩))
  go_ret2
  exact ⟨rfl, 0, rfl⟩

theorem binary3 (t x y : Int) (w : World) : Calls Tryz.prog 75 #[.string ⟨#[68, 105, 118]⟩, .int .i64 t, .int .i64 x, .int .i64 y] w fun e w' => e = .returned (.tuple #[.int .i64 (bin 3 t x y).1, .int .i64 (bin 3 t x y).2]) ∧ ∃ n, w' = w.drewN n := by
  cases hx : chk t x with
  | false => rw [bin_nox 3 t x y hx]; exact binary3_no t x y w (.inl hx)
  | true =>
    cases hy : chk t y with
    | false => rw [bin_noy 3 t x y hy]; exact binary3_no t x y w (.inr ⟨hx, hy⟩)
    | true =>
      rcases chk_types t x hx with rfl | rfl | rfl | rfl
      · exact binary3_1 x y w hx hy
      · exact binary3_6 x y w hx hy
      · exact binary3_7 x y w hx hy
      · exact binary3_9 x y w hx hy

set_option maxHeartbeats 400000 in
theorem binary4_no (t x y : Int) (w : World) (h : chk t x = false ∨ chk t x = true ∧ chk t y = false) : Calls Tryz.prog 75 #[.string ⟨#[77, 97, 120]⟩, .int .i64 t, .int .i64 x, .int .i64 y] w fun e w' => e = .returned (.tuple #[.int .i64 0, .int .i64 1]) ∧ ∃ n, w' = w.drewN n := by
  rcases h with hx | ⟨hx, hy⟩
  all_goals
    go_enter Tryz.func75, Tryz.ntmps75
    go_wp2_with (first | (go_at_call 67; refine (check_any _ _ _).mono ?_; rintro e w' ⟨rfl, rfl⟩))
    go_ret2
    exact ⟨rfl, 0, rfl⟩

set_option maxHeartbeats 400000 in
theorem binary4_1 (x y : Int) (w : World) (hx : chk 1 x = true) (hy : chk 1 y = true) : Calls Tryz.prog 75 #[.string ⟨#[77, 97, 120]⟩, .int .i64 1, .int .i64 x, .int .i64 y] w fun e w' => e = .returned (.tuple #[.int .i64 (bin 4 1 x y).1, .int .i64 (bin 4 1 x y).2]) ∧ ∃ n, w' = w.drewN n := by
  rw [bin_1 4 x y hx hy]
  go_enter Tryz.func75, Tryz.ntmps75
  go_wp2_with (first | (go_at_call 67; refine (check_any _ _ _).mono ?_; rintro e w' ⟨rfl, rfl⟩) | (go_at_call 98; refine (from_any _ _).mono ?_; rintro e w' ⟨rfl, rfl⟩) | (go_at_call 97; refine (max_f _ _ _ (fb_lt _) (fb_lt _)).mono ?_; rintro e w' ⟨rfl, n, rfl⟩))
  go_ret2
  exact ⟨rfl, _, rfl⟩

set_option maxHeartbeats 400000 in
theorem binary4_6 (x y : Int) (w : World) (hx : chk 6 x = true) (hy : chk 6 y = true) : Calls Tryz.prog 75 #[.string ⟨#[77, 97, 120]⟩, .int .i64 6, .int .i64 x, .int .i64 y] w fun e w' => e = .returned (.tuple #[.int .i64 (bin 4 6 x y).1, .int .i64 (bin 4 6 x y).2]) ∧ ∃ n, w' = w.drewN n := by
  rw [bin_6 4 x y hx hy]
  go_enter Tryz.func75, Tryz.ntmps75
  go_wp2_with (first | (go_at_call 67; refine (check_any _ _ _).mono ?_; rintro e w' ⟨rfl, rfl⟩) | (go_at_call 99; refine (int4_f _ _ _ _).mono ?_; rintro e w' ⟨rfl, rfl⟩))
  go_ret2
  exact ⟨rfl, 0, rfl⟩

set_option maxHeartbeats 400000 in
theorem binary4_7 (x y : Int) (w : World) (hx : chk 7 x = true) (hy : chk 7 y = true) : Calls Tryz.prog 75 #[.string ⟨#[77, 97, 120]⟩, .int .i64 7, .int .i64 x, .int .i64 y] w fun e w' => e = .returned (.tuple #[.int .i64 (bin 4 7 x y).1, .int .i64 (bin 4 7 x y).2]) ∧ ∃ n, w' = w.drewN n := by
  rw [bin_7 4 x y hx hy]
  go_enter Tryz.func75, Tryz.ntmps75
  go_wp2_with (first | (go_at_call 67; refine (check_any _ _ _).mono ?_; rintro e w' ⟨rfl, rfl⟩) | (go_at_call 99; refine (int4_f _ _ _ _).mono ?_; rintro e w' ⟨rfl, rfl⟩))
  go_ret2
  exact ⟨rfl, 0, rfl⟩

set_option maxHeartbeats 400000 in
theorem binary4_9 (x y : Int) (w : World) (hx : chk 9 x = true) (hy : chk 9 y = true) : Calls Tryz.prog 75 #[.string ⟨#[77, 97, 120]⟩, .int .i64 9, .int .i64 x, .int .i64 y] w fun e w' => e = .returned (.tuple #[.int .i64 (bin 4 9 x y).1, .int .i64 (bin 4 9 x y).2]) ∧ ∃ n, w' = w.drewN n := by
  rw [bin_9 4 x y hx hy]
  go_enter Tryz.func75, Tryz.ntmps75
  go_wp2_with (first | (go_at_call 67; refine (check_any _ _ _).mono ?_; rintro e w' ⟨rfl, rfl⟩) | (go_at_call 100; refine (bool4_f _ _ _).mono ?_; rintro e w' ⟨rfl, rfl⟩))
  go_ret2
  exact ⟨rfl, 0, rfl⟩

theorem binary4 (t x y : Int) (w : World) : Calls Tryz.prog 75 #[.string ⟨#[77, 97, 120]⟩, .int .i64 t, .int .i64 x, .int .i64 y] w fun e w' => e = .returned (.tuple #[.int .i64 (bin 4 t x y).1, .int .i64 (bin 4 t x y).2]) ∧ ∃ n, w' = w.drewN n := by
  cases hx : chk t x with
  | false => rw [bin_nox 4 t x y hx]; exact binary4_no t x y w (.inl hx)
  | true =>
    cases hy : chk t y with
    | false => rw [bin_noy 4 t x y hy]; exact binary4_no t x y w (.inr ⟨hx, hy⟩)
    | true =>
      rcases chk_types t x hx with rfl | rfl | rfl | rfl
      · exact binary4_1 x y w hx hy
      · exact binary4_6 x y w hx hy
      · exact binary4_7 x y w hx hy
      · exact binary4_9 x y w hx hy

set_option maxHeartbeats 400000 in
theorem binary5_no (t x y : Int) (w : World) (h : chk t x = false ∨ chk t x = true ∧ chk t y = false) : Calls Tryz.prog 75 #[.string ⟨#[77, 105, 110]⟩, .int .i64 t, .int .i64 x, .int .i64 y] w fun e w' => e = .returned (.tuple #[.int .i64 0, .int .i64 1]) ∧ ∃ n, w' = w.drewN n := by
  rcases h with hx | ⟨hx, hy⟩
  all_goals
    go_enter Tryz.func75, Tryz.ntmps75
    go_wp2_with (first | (go_at_call 67; refine (check_any _ _ _).mono ?_; rintro e w' ⟨rfl, rfl⟩))
    go_ret2
    exact ⟨rfl, 0, rfl⟩

set_option maxHeartbeats 400000 in
theorem binary5_1 (x y : Int) (w : World) (hx : chk 1 x = true) (hy : chk 1 y = true) : Calls Tryz.prog 75 #[.string ⟨#[77, 105, 110]⟩, .int .i64 1, .int .i64 x, .int .i64 y] w fun e w' => e = .returned (.tuple #[.int .i64 (bin 5 1 x y).1, .int .i64 (bin 5 1 x y).2]) ∧ ∃ n, w' = w.drewN n := by
  rw [bin_1 5 x y hx hy]
  go_enter Tryz.func75, Tryz.ntmps75
  go_wp2_with (first | (go_at_call 67; refine (check_any _ _ _).mono ?_; rintro e w' ⟨rfl, rfl⟩) | (go_at_call 98; refine (from_any _ _).mono ?_; rintro e w' ⟨rfl, rfl⟩) | (go_at_call 97; refine (min_f _ _ _ (fb_lt _) (fb_lt _)).mono ?_; rintro e w' ⟨rfl, n, rfl⟩))
  go_ret2
  exact ⟨rfl, _, rfl⟩

set_option maxHeartbeats 400000 in
theorem binary5_6 (x y : Int) (w : World) (hx : chk 6 x = true) (hy : chk 6 y = true) : Calls Tryz.prog 75 #[.string ⟨#[77, 105, 110]⟩, .int .i64 6, .int .i64 x, .int .i64 y] w fun e w' => e = .returned (.tuple #[.int .i64 (bin 5 6 x y).1, .int .i64 (bin 5 6 x y).2]) ∧ ∃ n, w' = w.drewN n := by
  rw [bin_6 5 x y hx hy]
  go_enter Tryz.func75, Tryz.ntmps75
  go_wp2_with (first | (go_at_call 67; refine (check_any _ _ _).mono ?_; rintro e w' ⟨rfl, rfl⟩) | (go_at_call 99; refine (int5_f _ _ _ _).mono ?_; rintro e w' ⟨rfl, rfl⟩))
  go_ret2
  exact ⟨rfl, 0, rfl⟩

set_option maxHeartbeats 400000 in
theorem binary5_7 (x y : Int) (w : World) (hx : chk 7 x = true) (hy : chk 7 y = true) : Calls Tryz.prog 75 #[.string ⟨#[77, 105, 110]⟩, .int .i64 7, .int .i64 x, .int .i64 y] w fun e w' => e = .returned (.tuple #[.int .i64 (bin 5 7 x y).1, .int .i64 (bin 5 7 x y).2]) ∧ ∃ n, w' = w.drewN n := by
  rw [bin_7 5 x y hx hy]
  go_enter Tryz.func75, Tryz.ntmps75
  go_wp2_with (first | (go_at_call 67; refine (check_any _ _ _).mono ?_; rintro e w' ⟨rfl, rfl⟩) | (go_at_call 99; refine (int5_f _ _ _ _).mono ?_; rintro e w' ⟨rfl, rfl⟩))
  go_ret2
  exact ⟨rfl, 0, rfl⟩

set_option maxHeartbeats 400000 in
theorem binary5_9 (x y : Int) (w : World) (hx : chk 9 x = true) (hy : chk 9 y = true) : Calls Tryz.prog 75 #[.string ⟨#[77, 105, 110]⟩, .int .i64 9, .int .i64 x, .int .i64 y] w fun e w' => e = .returned (.tuple #[.int .i64 (bin 5 9 x y).1, .int .i64 (bin 5 9 x y).2]) ∧ ∃ n, w' = w.drewN n := by
  rw [bin_9 5 x y hx hy]
  go_enter Tryz.func75, Tryz.ntmps75
  go_wp2_with (first | (go_at_call 67; refine (check_any _ _ _).mono ?_; rintro e w' ⟨rfl, rfl⟩) | (go_at_call 100; refine (bool5_f _ _ _).mono ?_; rintro e w' ⟨rfl, rfl⟩))
  go_ret2
  exact ⟨rfl, 0, rfl⟩

theorem binary5 (t x y : Int) (w : World) : Calls Tryz.prog 75 #[.string ⟨#[77, 105, 110]⟩, .int .i64 t, .int .i64 x, .int .i64 y] w fun e w' => e = .returned (.tuple #[.int .i64 (bin 5 t x y).1, .int .i64 (bin 5 t x y).2]) ∧ ∃ n, w' = w.drewN n := by
  cases hx : chk t x with
  | false => rw [bin_nox 5 t x y hx]; exact binary5_no t x y w (.inl hx)
  | true =>
    cases hy : chk t y with
    | false => rw [bin_noy 5 t x y hy]; exact binary5_no t x y w (.inr ⟨hx, hy⟩)
    | true =>
      rcases chk_types t x hx with rfl | rfl | rfl | rfl
      · exact binary5_1 x y w hx hy
      · exact binary5_6 x y w hx hy
      · exact binary5_7 x y w hx hy
      · exact binary5_9 x y w hx hy

set_option maxHeartbeats 400000 in
theorem binary6_no (t x y : Int) (w : World) (h : chk t x = false ∨ chk t x = true ∧ chk t y = false) : Calls Tryz.prog 75 #[.string ⟨#[65, 110, 100]⟩, .int .i64 t, .int .i64 x, .int .i64 y] w fun e w' => e = .returned (.tuple #[.int .i64 0, .int .i64 1]) ∧ ∃ n, w' = w.drewN n := by
  rcases h with hx | ⟨hx, hy⟩
  all_goals
    go_enter Tryz.func75, Tryz.ntmps75
    go_wp2_with (first | (go_at_call 67; refine (check_any _ _ _).mono ?_; rintro e w' ⟨rfl, rfl⟩))
    go_ret2
    exact ⟨rfl, 0, rfl⟩

set_option maxHeartbeats 400000 in
theorem binary6_1 (x y : Int) (w : World) (hx : chk 1 x = true) (hy : chk 1 y = true) : Calls Tryz.prog 75 #[.string ⟨#[65, 110, 100]⟩, .int .i64 1, .int .i64 x, .int .i64 y] w fun e w' => e = .returned (.tuple #[.int .i64 (bin 6 1 x y).1, .int .i64 (bin 6 1 x y).2]) ∧ ∃ n, w' = w.drewN n := by
  rw [bin_1 6 x y hx hy]
  go_enter Tryz.func75, Tryz.ntmps75
  go_wp2_with (first | (go_at_call 67; refine (check_any _ _ _).mono ?_; rintro e w' ⟨rfl, rfl⟩) | (go_at_call 98; refine (from_any _ _).mono ?_; rintro e w' ⟨rfl, rfl⟩) | (go_at_call 97; refine (no6_f _ _ _).mono ?_; rintro e w' ⟨rfl, n, rfl⟩))
  go_ret2
  exact ⟨rfl, _, rfl⟩

set_option maxHeartbeats 400000 in
theorem binary6_6 (x y : Int) (w : World) (hx : chk 6 x = true) (hy : chk 6 y = true) : Calls Tryz.prog 75 #[.string ⟨#[65, 110, 100]⟩, .int .i64 6, .int .i64 x, .int .i64 y] w fun e w' => e = .returned (.tuple #[.int .i64 (bin 6 6 x y).1, .int .i64 (bin 6 6 x y).2]) ∧ ∃ n, w' = w.drewN n := by
  rw [bin_6 6 x y hx hy]
  go_enter Tryz.func75, Tryz.ntmps75
  go_wp2_with (first | (go_at_call 67; refine (check_any _ _ _).mono ?_; rintro e w' ⟨rfl, rfl⟩) | (go_at_call 99; refine (int6_f _ _ _ _).mono ?_; rintro e w' ⟨rfl, rfl⟩))
  go_ret2
  exact ⟨rfl, 0, rfl⟩

set_option maxHeartbeats 400000 in
theorem binary6_7 (x y : Int) (w : World) (hx : chk 7 x = true) (hy : chk 7 y = true) : Calls Tryz.prog 75 #[.string ⟨#[65, 110, 100]⟩, .int .i64 7, .int .i64 x, .int .i64 y] w fun e w' => e = .returned (.tuple #[.int .i64 (bin 6 7 x y).1, .int .i64 (bin 6 7 x y).2]) ∧ ∃ n, w' = w.drewN n := by
  rw [bin_7 6 x y hx hy]
  go_enter Tryz.func75, Tryz.ntmps75
  go_wp2_with (first | (go_at_call 67; refine (check_any _ _ _).mono ?_; rintro e w' ⟨rfl, rfl⟩) | (go_at_call 99; refine (int6_f _ _ _ _).mono ?_; rintro e w' ⟨rfl, rfl⟩))
  go_ret2
  exact ⟨rfl, 0, rfl⟩

set_option maxHeartbeats 400000 in
theorem binary6_9 (x y : Int) (w : World) (hx : chk 9 x = true) (hy : chk 9 y = true) : Calls Tryz.prog 75 #[.string ⟨#[65, 110, 100]⟩, .int .i64 9, .int .i64 x, .int .i64 y] w fun e w' => e = .returned (.tuple #[.int .i64 (bin 6 9 x y).1, .int .i64 (bin 6 9 x y).2]) ∧ ∃ n, w' = w.drewN n := by
  rw [bin_9 6 x y hx hy]
  go_enter Tryz.func75, Tryz.ntmps75
  go_wp2_with (first | (go_at_call 67; refine (check_any _ _ _).mono ?_; rintro e w' ⟨rfl, rfl⟩) | (go_at_call 100; refine (bool6_f _ _ _ (chk9 _ hx) (chk9 _ hy)).mono ?_; rintro e w' ⟨rfl, rfl⟩))
  go_ret2
  exact ⟨rfl, 0, rfl⟩

theorem binary6 (t x y : Int) (w : World) : Calls Tryz.prog 75 #[.string ⟨#[65, 110, 100]⟩, .int .i64 t, .int .i64 x, .int .i64 y] w fun e w' => e = .returned (.tuple #[.int .i64 (bin 6 t x y).1, .int .i64 (bin 6 t x y).2]) ∧ ∃ n, w' = w.drewN n := by
  cases hx : chk t x with
  | false => rw [bin_nox 6 t x y hx]; exact binary6_no t x y w (.inl hx)
  | true =>
    cases hy : chk t y with
    | false => rw [bin_noy 6 t x y hy]; exact binary6_no t x y w (.inr ⟨hx, hy⟩)
    | true =>
      rcases chk_types t x hx with rfl | rfl | rfl | rfl
      · exact binary6_1 x y w hx hy
      · exact binary6_6 x y w hx hy
      · exact binary6_7 x y w hx hy
      · exact binary6_9 x y w hx hy

set_option maxHeartbeats 400000 in
theorem binary7_no (t x y : Int) (w : World) (h : chk t x = false ∨ chk t x = true ∧ chk t y = false) : Calls Tryz.prog 75 #[.string ⟨#[79, 114]⟩, .int .i64 t, .int .i64 x, .int .i64 y] w fun e w' => e = .returned (.tuple #[.int .i64 0, .int .i64 1]) ∧ ∃ n, w' = w.drewN n := by
  rcases h with hx | ⟨hx, hy⟩
  all_goals
    go_enter Tryz.func75, Tryz.ntmps75
    go_wp2_with (first | (go_at_call 67; refine (check_any _ _ _).mono ?_; rintro e w' ⟨rfl, rfl⟩))
    go_ret2
    exact ⟨rfl, 0, rfl⟩

set_option maxHeartbeats 400000 in
theorem binary7_1 (x y : Int) (w : World) (hx : chk 1 x = true) (hy : chk 1 y = true) : Calls Tryz.prog 75 #[.string ⟨#[79, 114]⟩, .int .i64 1, .int .i64 x, .int .i64 y] w fun e w' => e = .returned (.tuple #[.int .i64 (bin 7 1 x y).1, .int .i64 (bin 7 1 x y).2]) ∧ ∃ n, w' = w.drewN n := by
  rw [bin_1 7 x y hx hy]
  go_enter Tryz.func75, Tryz.ntmps75
  go_wp2_with (first | (go_at_call 67; refine (check_any _ _ _).mono ?_; rintro e w' ⟨rfl, rfl⟩) | (go_at_call 98; refine (from_any _ _).mono ?_; rintro e w' ⟨rfl, rfl⟩) | (go_at_call 97; refine (no7_f _ _ _).mono ?_; rintro e w' ⟨rfl, n, rfl⟩))
  go_ret2
  exact ⟨rfl, _, rfl⟩

set_option maxHeartbeats 400000 in
theorem binary7_6 (x y : Int) (w : World) (hx : chk 6 x = true) (hy : chk 6 y = true) : Calls Tryz.prog 75 #[.string ⟨#[79, 114]⟩, .int .i64 6, .int .i64 x, .int .i64 y] w fun e w' => e = .returned (.tuple #[.int .i64 (bin 7 6 x y).1, .int .i64 (bin 7 6 x y).2]) ∧ ∃ n, w' = w.drewN n := by
  rw [bin_6 7 x y hx hy]
  go_enter Tryz.func75, Tryz.ntmps75
  go_wp2_with (first | (go_at_call 67; refine (check_any _ _ _).mono ?_; rintro e w' ⟨rfl, rfl⟩) | (go_at_call 99; refine (int7_f _ _ _ _).mono ?_; rintro e w' ⟨rfl, rfl⟩))
  go_ret2
  exact ⟨rfl, 0, rfl⟩

set_option maxHeartbeats 400000 in
theorem binary7_7 (x y : Int) (w : World) (hx : chk 7 x = true) (hy : chk 7 y = true) : Calls Tryz.prog 75 #[.string ⟨#[79, 114]⟩, .int .i64 7, .int .i64 x, .int .i64 y] w fun e w' => e = .returned (.tuple #[.int .i64 (bin 7 7 x y).1, .int .i64 (bin 7 7 x y).2]) ∧ ∃ n, w' = w.drewN n := by
  rw [bin_7 7 x y hx hy]
  go_enter Tryz.func75, Tryz.ntmps75
  go_wp2_with (first | (go_at_call 67; refine (check_any _ _ _).mono ?_; rintro e w' ⟨rfl, rfl⟩) | (go_at_call 99; refine (int7_f _ _ _ _).mono ?_; rintro e w' ⟨rfl, rfl⟩))
  go_ret2
  exact ⟨rfl, 0, rfl⟩

set_option maxHeartbeats 400000 in
theorem binary7_9 (x y : Int) (w : World) (hx : chk 9 x = true) (hy : chk 9 y = true) : Calls Tryz.prog 75 #[.string ⟨#[79, 114]⟩, .int .i64 9, .int .i64 x, .int .i64 y] w fun e w' => e = .returned (.tuple #[.int .i64 (bin 7 9 x y).1, .int .i64 (bin 7 9 x y).2]) ∧ ∃ n, w' = w.drewN n := by
  rw [bin_9 7 x y hx hy]
  go_enter Tryz.func75, Tryz.ntmps75
  go_wp2_with (first | (go_at_call 67; refine (check_any _ _ _).mono ?_; rintro e w' ⟨rfl, rfl⟩) | (go_at_call 100; refine (bool7_f _ _ _ (chk9 _ hx) (chk9 _ hy)).mono ?_; rintro e w' ⟨rfl, rfl⟩))
  go_ret2
  exact ⟨rfl, 0, rfl⟩

theorem binary7 (t x y : Int) (w : World) : Calls Tryz.prog 75 #[.string ⟨#[79, 114]⟩, .int .i64 t, .int .i64 x, .int .i64 y] w fun e w' => e = .returned (.tuple #[.int .i64 (bin 7 t x y).1, .int .i64 (bin 7 t x y).2]) ∧ ∃ n, w' = w.drewN n := by
  cases hx : chk t x with
  | false => rw [bin_nox 7 t x y hx]; exact binary7_no t x y w (.inl hx)
  | true =>
    cases hy : chk t y with
    | false => rw [bin_noy 7 t x y hy]; exact binary7_no t x y w (.inr ⟨hx, hy⟩)
    | true =>
      rcases chk_types t x hx with rfl | rfl | rfl | rfl
      · exact binary7_1 x y w hx hy
      · exact binary7_6 x y w hx hy
      · exact binary7_7 x y w hx hy
      · exact binary7_9 x y w hx hy

set_option maxHeartbeats 400000 in
theorem binary8_no (t x y : Int) (w : World) (h : chk t x = false ∨ chk t x = true ∧ chk t y = false) : Calls Tryz.prog 75 #[.string ⟨#[88, 111, 114]⟩, .int .i64 t, .int .i64 x, .int .i64 y] w fun e w' => e = .returned (.tuple #[.int .i64 0, .int .i64 1]) ∧ ∃ n, w' = w.drewN n := by
  rcases h with hx | ⟨hx, hy⟩
  all_goals
    go_enter Tryz.func75, Tryz.ntmps75
    go_wp2_with (first | (go_at_call 67; refine (check_any _ _ _).mono ?_; rintro e w' ⟨rfl, rfl⟩))
    go_ret2
    exact ⟨rfl, 0, rfl⟩

set_option maxHeartbeats 400000 in
theorem binary8_1 (x y : Int) (w : World) (hx : chk 1 x = true) (hy : chk 1 y = true) : Calls Tryz.prog 75 #[.string ⟨#[88, 111, 114]⟩, .int .i64 1, .int .i64 x, .int .i64 y] w fun e w' => e = .returned (.tuple #[.int .i64 (bin 8 1 x y).1, .int .i64 (bin 8 1 x y).2]) ∧ ∃ n, w' = w.drewN n := by
  rw [bin_1 8 x y hx hy]
  go_enter Tryz.func75, Tryz.ntmps75
  go_wp2_with (first | (go_at_call 67; refine (check_any _ _ _).mono ?_; rintro e w' ⟨rfl, rfl⟩) | (go_at_call 98; refine (from_any _ _).mono ?_; rintro e w' ⟨rfl, rfl⟩) | (go_at_call 97; refine (no8_f _ _ _).mono ?_; rintro e w' ⟨rfl, n, rfl⟩))
  go_ret2
  exact ⟨rfl, _, rfl⟩

set_option maxHeartbeats 400000 in
theorem binary8_6 (x y : Int) (w : World) (hx : chk 6 x = true) (hy : chk 6 y = true) : Calls Tryz.prog 75 #[.string ⟨#[88, 111, 114]⟩, .int .i64 6, .int .i64 x, .int .i64 y] w fun e w' => e = .returned (.tuple #[.int .i64 (bin 8 6 x y).1, .int .i64 (bin 8 6 x y).2]) ∧ ∃ n, w' = w.drewN n := by
  rw [bin_6 8 x y hx hy]
  go_enter Tryz.func75, Tryz.ntmps75
  go_wp2_with (first | (go_at_call 67; refine (check_any _ _ _).mono ?_; rintro e w' ⟨rfl, rfl⟩) | (go_at_call 99; refine (int8_f _ _ _ _).mono ?_; rintro e w' ⟨rfl, rfl⟩))
  go_ret2
  exact ⟨rfl, 0, rfl⟩

set_option maxHeartbeats 400000 in
theorem binary8_7 (x y : Int) (w : World) (hx : chk 7 x = true) (hy : chk 7 y = true) : Calls Tryz.prog 75 #[.string ⟨#[88, 111, 114]⟩, .int .i64 7, .int .i64 x, .int .i64 y] w fun e w' => e = .returned (.tuple #[.int .i64 (bin 8 7 x y).1, .int .i64 (bin 8 7 x y).2]) ∧ ∃ n, w' = w.drewN n := by
  rw [bin_7 8 x y hx hy]
  go_enter Tryz.func75, Tryz.ntmps75
  go_wp2_with (first | (go_at_call 67; refine (check_any _ _ _).mono ?_; rintro e w' ⟨rfl, rfl⟩) | (go_at_call 99; refine (int8_f _ _ _ _).mono ?_; rintro e w' ⟨rfl, rfl⟩))
  go_ret2
  exact ⟨rfl, 0, rfl⟩

set_option maxHeartbeats 400000 in
theorem binary8_9 (x y : Int) (w : World) (hx : chk 9 x = true) (hy : chk 9 y = true) : Calls Tryz.prog 75 #[.string ⟨#[88, 111, 114]⟩, .int .i64 9, .int .i64 x, .int .i64 y] w fun e w' => e = .returned (.tuple #[.int .i64 (bin 8 9 x y).1, .int .i64 (bin 8 9 x y).2]) ∧ ∃ n, w' = w.drewN n := by
  rw [bin_9 8 x y hx hy]
  go_enter Tryz.func75, Tryz.ntmps75
  go_wp2_with (first | (go_at_call 67; refine (check_any _ _ _).mono ?_; rintro e w' ⟨rfl, rfl⟩) | (go_at_call 100; refine (bool8_f _ _ _ (chk9 _ hx) (chk9 _ hy)).mono ?_; rintro e w' ⟨rfl, rfl⟩))
  go_ret2
  exact ⟨rfl, 0, rfl⟩

theorem binary8 (t x y : Int) (w : World) : Calls Tryz.prog 75 #[.string ⟨#[88, 111, 114]⟩, .int .i64 t, .int .i64 x, .int .i64 y] w fun e w' => e = .returned (.tuple #[.int .i64 (bin 8 t x y).1, .int .i64 (bin 8 t x y).2]) ∧ ∃ n, w' = w.drewN n := by
  cases hx : chk t x with
  | false => rw [bin_nox 8 t x y hx]; exact binary8_no t x y w (.inl hx)
  | true =>
    cases hy : chk t y with
    | false => rw [bin_noy 8 t x y hy]; exact binary8_no t x y w (.inr ⟨hx, hy⟩)
    | true =>
      rcases chk_types t x hx with rfl | rfl | rfl | rfl
      · exact binary8_1 x y w hx hy
      · exact binary8_6 x y w hx hy
      · exact binary8_7 x y w hx hy
      · exact binary8_9 x y w hx hy

set_option maxHeartbeats 400000 in
theorem binary9_no (t x y : Int) (w : World) (h : chk t x = false ∨ chk t x = true ∧ chk t y = false) : Calls Tryz.prog 75 #[.string ⟨#[69, 113, 117, 97, 108]⟩, .int .i64 t, .int .i64 x, .int .i64 y] w fun e w' => e = .returned (.tuple #[.int .i64 0, .int .i64 1]) ∧ ∃ n, w' = w.drewN n := by
  rcases h with hx | ⟨hx, hy⟩
  all_goals
    go_enter Tryz.func75, Tryz.ntmps75
    go_wp2_with (first | (go_at_call 67; refine (check_any _ _ _).mono ?_; rintro e w' ⟨rfl, rfl⟩))
    go_ret2
    exact ⟨rfl, 0, rfl⟩

set_option maxHeartbeats 400000 in
theorem binary9_1 (x y : Int) (w : World) (hx : chk 1 x = true) (hy : chk 1 y = true) : Calls Tryz.prog 75 #[.string ⟨#[69, 113, 117, 97, 108]⟩, .int .i64 1, .int .i64 x, .int .i64 y] w fun e w' => e = .returned (.tuple #[.int .i64 (bin 9 1 x y).1, .int .i64 (bin 9 1 x y).2]) ∧ ∃ n, w' = w.drewN n := by
  rw [bin_1 9 x y hx hy]
  go_enter Tryz.func75, Tryz.ntmps75
  go_wp2_with (first | (go_at_call 67; refine (check_any _ _ _).mono ?_; rintro e w' ⟨rfl, rfl⟩) | (go_at_call 98; refine (from_any _ _).mono ?_; rintro e w' ⟨rfl, rfl⟩) | (go_at_call 97; refine (cmp9_f _ _ _).mono ?_; rintro e w' ⟨rfl, n, rfl⟩))
  go_ret2
  exact ⟨rfl, _, rfl⟩

set_option maxHeartbeats 400000 in
theorem binary9_6 (x y : Int) (w : World) (hx : chk 6 x = true) (hy : chk 6 y = true) : Calls Tryz.prog 75 #[.string ⟨#[69, 113, 117, 97, 108]⟩, .int .i64 6, .int .i64 x, .int .i64 y] w fun e w' => e = .returned (.tuple #[.int .i64 (bin 9 6 x y).1, .int .i64 (bin 9 6 x y).2]) ∧ ∃ n, w' = w.drewN n := by
  rw [bin_6 9 x y hx hy]
  go_enter Tryz.func75, Tryz.ntmps75
  go_wp2_with (first | (go_at_call 67; refine (check_any _ _ _).mono ?_; rintro e w' ⟨rfl, rfl⟩) | (go_at_call 99; refine (int9_f _ _ _ _).mono ?_; rintro e w' ⟨rfl, rfl⟩))
  go_ret2
  exact ⟨rfl, 0, rfl⟩

set_option maxHeartbeats 400000 in
theorem binary9_7 (x y : Int) (w : World) (hx : chk 7 x = true) (hy : chk 7 y = true) : Calls Tryz.prog 75 #[.string ⟨#[69, 113, 117, 97, 108]⟩, .int .i64 7, .int .i64 x, .int .i64 y] w fun e w' => e = .returned (.tuple #[.int .i64 (bin 9 7 x y).1, .int .i64 (bin 9 7 x y).2]) ∧ ∃ n, w' = w.drewN n := by
  rw [bin_7 9 x y hx hy]
  go_enter Tryz.func75, Tryz.ntmps75
  go_wp2_with (first | (go_at_call 67; refine (check_any _ _ _).mono ?_; rintro e w' ⟨rfl, rfl⟩) | (go_at_call 99; refine (int9_f _ _ _ _).mono ?_; rintro e w' ⟨rfl, rfl⟩))
  go_ret2
  exact ⟨rfl, 0, rfl⟩

set_option maxHeartbeats 400000 in
theorem binary9_9 (x y : Int) (w : World) (hx : chk 9 x = true) (hy : chk 9 y = true) : Calls Tryz.prog 75 #[.string ⟨#[69, 113, 117, 97, 108]⟩, .int .i64 9, .int .i64 x, .int .i64 y] w fun e w' => e = .returned (.tuple #[.int .i64 (bin 9 9 x y).1, .int .i64 (bin 9 9 x y).2]) ∧ ∃ n, w' = w.drewN n := by
  rw [bin_9 9 x y hx hy]
  go_enter Tryz.func75, Tryz.ntmps75
  go_wp2_with (first | (go_at_call 67; refine (check_any _ _ _).mono ?_; rintro e w' ⟨rfl, rfl⟩) | (go_at_call 100; refine (bool9_f _ _ _).mono ?_; rintro e w' ⟨rfl, rfl⟩))
  go_ret2
  exact ⟨rfl, 0, rfl⟩

theorem binary9 (t x y : Int) (w : World) : Calls Tryz.prog 75 #[.string ⟨#[69, 113, 117, 97, 108]⟩, .int .i64 t, .int .i64 x, .int .i64 y] w fun e w' => e = .returned (.tuple #[.int .i64 (bin 9 t x y).1, .int .i64 (bin 9 t x y).2]) ∧ ∃ n, w' = w.drewN n := by
  cases hx : chk t x with
  | false => rw [bin_nox 9 t x y hx]; exact binary9_no t x y w (.inl hx)
  | true =>
    cases hy : chk t y with
    | false => rw [bin_noy 9 t x y hy]; exact binary9_no t x y w (.inr ⟨hx, hy⟩)
    | true =>
      rcases chk_types t x hx with rfl | rfl | rfl | rfl
      · exact binary9_1 x y w hx hy
      · exact binary9_6 x y w hx hy
      · exact binary9_7 x y w hx hy
      · exact binary9_9 x y w hx hy

set_option maxHeartbeats 400000 in
theorem binary10_no (t x y : Int) (w : World) (h : chk t x = false ∨ chk t x = true ∧ chk t y = false) : Calls Tryz.prog 75 #[.string ⟨#[76, 101, 115, 115]⟩, .int .i64 t, .int .i64 x, .int .i64 y] w fun e w' => e = .returned (.tuple #[.int .i64 0, .int .i64 1]) ∧ ∃ n, w' = w.drewN n := by
  rcases h with hx | ⟨hx, hy⟩
  all_goals
    go_enter Tryz.func75, Tryz.ntmps75
    go_wp2_with (first | (go_at_call 67; refine (check_any _ _ _).mono ?_; rintro e w' ⟨rfl, rfl⟩))
    go_ret2
    exact ⟨rfl, 0, rfl⟩

set_option maxHeartbeats 400000 in
theorem binary10_1 (x y : Int) (w : World) (hx : chk 1 x = true) (hy : chk 1 y = true) : Calls Tryz.prog 75 #[.string ⟨#[76, 101, 115, 115]⟩, .int .i64 1, .int .i64 x, .int .i64 y] w fun e w' => e = .returned (.tuple #[.int .i64 (bin 10 1 x y).1, .int .i64 (bin 10 1 x y).2]) ∧ ∃ n, w' = w.drewN n := by
  rw [bin_1 10 x y hx hy]
  go_enter Tryz.func75, Tryz.ntmps75
  go_wp2_with (first | (go_at_call 67; refine (check_any _ _ _).mono ?_; rintro e w' ⟨rfl, rfl⟩) | (go_at_call 98; refine (from_any _ _).mono ?_; rintro e w' ⟨rfl, rfl⟩) | (go_at_call 97; refine (cmp10_f _ _ _).mono ?_; rintro e w' ⟨rfl, n, rfl⟩))
  go_ret2
  exact ⟨rfl, _, rfl⟩

set_option maxHeartbeats 400000 in
theorem binary10_6 (x y : Int) (w : World) (hx : chk 6 x = true) (hy : chk 6 y = true) : Calls Tryz.prog 75 #[.string ⟨#[76, 101, 115, 115]⟩, .int .i64 6, .int .i64 x, .int .i64 y] w fun e w' => e = .returned (.tuple #[.int .i64 (bin 10 6 x y).1, .int .i64 (bin 10 6 x y).2]) ∧ ∃ n, w' = w.drewN n := by
  rw [bin_6 10 x y hx hy]
  go_enter Tryz.func75, Tryz.ntmps75
  go_wp2_with (first | (go_at_call 67; refine (check_any _ _ _).mono ?_; rintro e w' ⟨rfl, rfl⟩) | (go_at_call 99; refine (int10_f _ _ _ _).mono ?_; rintro e w' ⟨rfl, rfl⟩))
  go_ret2
  exact ⟨rfl, 0, rfl⟩

set_option maxHeartbeats 400000 in
theorem binary10_7 (x y : Int) (w : World) (hx : chk 7 x = true) (hy : chk 7 y = true) : Calls Tryz.prog 75 #[.string ⟨#[76, 101, 115, 115]⟩, .int .i64 7, .int .i64 x, .int .i64 y] w fun e w' => e = .returned (.tuple #[.int .i64 (bin 10 7 x y).1, .int .i64 (bin 10 7 x y).2]) ∧ ∃ n, w' = w.drewN n := by
  rw [bin_7 10 x y hx hy]
  go_enter Tryz.func75, Tryz.ntmps75
  go_wp2_with (first | (go_at_call 67; refine (check_any _ _ _).mono ?_; rintro e w' ⟨rfl, rfl⟩) | (go_at_call 99; refine (int10_f _ _ _ _).mono ?_; rintro e w' ⟨rfl, rfl⟩))
  go_ret2
  exact ⟨rfl, 0, rfl⟩

set_option maxHeartbeats 400000 in
theorem binary10_9 (x y : Int) (w : World) (hx : chk 9 x = true) (hy : chk 9 y = true) : Calls Tryz.prog 75 #[.string ⟨#[76, 101, 115, 115]⟩, .int .i64 9, .int .i64 x, .int .i64 y] w fun e w' => e = .returned (.tuple #[.int .i64 (bin 10 9 x y).1, .int .i64 (bin 10 9 x y).2]) ∧ ∃ n, w' = w.drewN n := by
  rw [bin_9 10 x y hx hy]
  go_enter Tryz.func75, Tryz.ntmps75
  go_wp2_with (first | (go_at_call 67; refine (check_any _ _ _).mono ?_; rintro e w' ⟨rfl, rfl⟩) | (go_at_call 100; refine (bool10_f _ _ _).mono ?_; rintro e w' ⟨rfl, rfl⟩))
  go_ret2
  exact ⟨rfl, 0, rfl⟩

theorem binary10 (t x y : Int) (w : World) : Calls Tryz.prog 75 #[.string ⟨#[76, 101, 115, 115]⟩, .int .i64 t, .int .i64 x, .int .i64 y] w fun e w' => e = .returned (.tuple #[.int .i64 (bin 10 t x y).1, .int .i64 (bin 10 t x y).2]) ∧ ∃ n, w' = w.drewN n := by
  cases hx : chk t x with
  | false => rw [bin_nox 10 t x y hx]; exact binary10_no t x y w (.inl hx)
  | true =>
    cases hy : chk t y with
    | false => rw [bin_noy 10 t x y hy]; exact binary10_no t x y w (.inr ⟨hx, hy⟩)
    | true =>
      rcases chk_types t x hx with rfl | rfl | rfl | rfl
      · exact binary10_1 x y w hx hy
      · exact binary10_6 x y w hx hy
      · exact binary10_7 x y w hx hy
      · exact binary10_9 x y w hx hy

set_option maxHeartbeats 400000 in
theorem binary11_no (t x y : Int) (w : World) (h : chk t x = false ∨ chk t x = true ∧ chk t y = false) : Calls Tryz.prog 75 #[.string ⟨#[71, 114, 101, 97, 116, 101, 114]⟩, .int .i64 t, .int .i64 x, .int .i64 y] w fun e w' => e = .returned (.tuple #[.int .i64 0, .int .i64 1]) ∧ ∃ n, w' = w.drewN n := by
  rcases h with hx | ⟨hx, hy⟩
  all_goals
    go_enter Tryz.func75, Tryz.ntmps75
    go_wp2_with (first | (go_at_call 67; refine (check_any _ _ _).mono ?_; rintro e w' ⟨rfl, rfl⟩))
    go_ret2
    exact ⟨rfl, 0, rfl⟩

set_option maxHeartbeats 400000 in
theorem binary11_1 (x y : Int) (w : World) (hx : chk 1 x = true) (hy : chk 1 y = true) : Calls Tryz.prog 75 #[.string ⟨#[71, 114, 101, 97, 116, 101, 114]⟩, .int .i64 1, .int .i64 x, .int .i64 y] w fun e w' => e = .returned (.tuple #[.int .i64 (bin 11 1 x y).1, .int .i64 (bin 11 1 x y).2]) ∧ ∃ n, w' = w.drewN n := by
  rw [bin_1 11 x y hx hy]
  go_enter Tryz.func75, Tryz.ntmps75
  go_wp2_with (first | (go_at_call 67; refine (check_any _ _ _).mono ?_; rintro e w' ⟨rfl, rfl⟩) | (go_at_call 98; refine (from_any _ _).mono ?_; rintro e w' ⟨rfl, rfl⟩) | (go_at_call 97; refine (cmp11_f _ _ _).mono ?_; rintro e w' ⟨rfl, n, rfl⟩))
  go_ret2
  exact ⟨rfl, _, rfl⟩

set_option maxHeartbeats 400000 in
theorem binary11_6 (x y : Int) (w : World) (hx : chk 6 x = true) (hy : chk 6 y = true) : Calls Tryz.prog 75 #[.string ⟨#[71, 114, 101, 97, 116, 101, 114]⟩, .int .i64 6, .int .i64 x, .int .i64 y] w fun e w' => e = .returned (.tuple #[.int .i64 (bin 11 6 x y).1, .int .i64 (bin 11 6 x y).2]) ∧ ∃ n, w' = w.drewN n := by
  rw [bin_6 11 x y hx hy]
  go_enter Tryz.func75, Tryz.ntmps75
  go_wp2_with (first | (go_at_call 67; refine (check_any _ _ _).mono ?_; rintro e w' ⟨rfl, rfl⟩) | (go_at_call 99; refine (int11_f _ _ _ _).mono ?_; rintro e w' ⟨rfl, rfl⟩))
  go_ret2
  exact ⟨rfl, 0, rfl⟩

set_option maxHeartbeats 400000 in
theorem binary11_7 (x y : Int) (w : World) (hx : chk 7 x = true) (hy : chk 7 y = true) : Calls Tryz.prog 75 #[.string ⟨#[71, 114, 101, 97, 116, 101, 114]⟩, .int .i64 7, .int .i64 x, .int .i64 y] w fun e w' => e = .returned (.tuple #[.int .i64 (bin 11 7 x y).1, .int .i64 (bin 11 7 x y).2]) ∧ ∃ n, w' = w.drewN n := by
  rw [bin_7 11 x y hx hy]
  go_enter Tryz.func75, Tryz.ntmps75
  go_wp2_with (first | (go_at_call 67; refine (check_any _ _ _).mono ?_; rintro e w' ⟨rfl, rfl⟩) | (go_at_call 99; refine (int11_f _ _ _ _).mono ?_; rintro e w' ⟨rfl, rfl⟩))
  go_ret2
  exact ⟨rfl, 0, rfl⟩

set_option maxHeartbeats 400000 in
theorem binary11_9 (x y : Int) (w : World) (hx : chk 9 x = true) (hy : chk 9 y = true) : Calls Tryz.prog 75 #[.string ⟨#[71, 114, 101, 97, 116, 101, 114]⟩, .int .i64 9, .int .i64 x, .int .i64 y] w fun e w' => e = .returned (.tuple #[.int .i64 (bin 11 9 x y).1, .int .i64 (bin 11 9 x y).2]) ∧ ∃ n, w' = w.drewN n := by
  rw [bin_9 11 x y hx hy]
  go_enter Tryz.func75, Tryz.ntmps75
  go_wp2_with (first | (go_at_call 67; refine (check_any _ _ _).mono ?_; rintro e w' ⟨rfl, rfl⟩) | (go_at_call 100; refine (bool11_f _ _ _).mono ?_; rintro e w' ⟨rfl, rfl⟩))
  go_ret2
  exact ⟨rfl, 0, rfl⟩

theorem binary11 (t x y : Int) (w : World) : Calls Tryz.prog 75 #[.string ⟨#[71, 114, 101, 97, 116, 101, 114]⟩, .int .i64 t, .int .i64 x, .int .i64 y] w fun e w' => e = .returned (.tuple #[.int .i64 (bin 11 t x y).1, .int .i64 (bin 11 t x y).2]) ∧ ∃ n, w' = w.drewN n := by
  cases hx : chk t x with
  | false => rw [bin_nox 11 t x y hx]; exact binary11_no t x y w (.inl hx)
  | true =>
    cases hy : chk t y with
    | false => rw [bin_noy 11 t x y hy]; exact binary11_no t x y w (.inr ⟨hx, hy⟩)
    | true =>
      rcases chk_types t x hx with rfl | rfl | rfl | rfl
      · exact binary11_1 x y w hx hy
      · exact binary11_6 x y w hx hy
      · exact binary11_7 x y w hx hy
      · exact binary11_9 x y w hx hy

end Go.Proofs.YtfladhogkhhlcaaGreatDoor.Nu

/- The walks of package num's operators of one, but for those of floats that round. -/
namespace Go.Proofs.YtfladhogkhhlcaaGreatDoor.Nu
open Go.RowKit
attribute [local go_sem] ext_from ext_bits negF_eq

set_option maxHeartbeats 400000 in
theorem neg_f (b : Nat) (w : World) (hb : b < 4294967296) : Calls Tryz.prog 159 #[.string ⟨#[78, 101, 103]⟩, .float .f32 b] w fun e w' => e = .returned (.tuple #[.int .i64 (tob (negF b)), .int .i64 0]) ∧ w' = w := by
  have hn := negF_lt b hb
  go_enter Tryz.func159, Tryz.ntmps159
  go_wp2_with (first | (go_at_call 134; refine (to_any _ _ hn).mono ?_; rintro e w' ⟨rfl, rfl⟩) | go_in)
  go_ret2
  exact ⟨rfl, rfl⟩

set_option maxHeartbeats 400000 in
theorem absolute_any (b : Nat) (w : World) (hb : b < 4294967296) : Calls Tryz.prog 167 #[.float .f32 b] w fun e w' => e = .returned (.float .f32 (absF b)) ∧ w' = w := by
  have ha := andNot_u32 b hb
  go_enter Tryz.func167, Tryz.ntmps167
  go_wp2
  go_ret
  exact ⟨by simp [absF], rfl⟩

set_option maxHeartbeats 400000 in
theorem abs_f (b : Nat) (w : World) (hb : b < 4294967296) : Calls Tryz.prog 159 #[.string ⟨#[65, 98, 115]⟩, .float .f32 b] w fun e w' => e = .returned (.tuple #[.int .i64 (tob (absF b)), .int .i64 0]) ∧ w' = w := by
  go_enter Tryz.func159, Tryz.ntmps159
  go_wp2_with (first | (go_at_call 134; refine (to_any _ _ (absF_lt _)).mono ?_; rintro e w' ⟨rfl, rfl⟩) | (go_at_call 167; refine (absolute_any _ _ hb).mono ?_; rintro e w' ⟨rfl, rfl⟩) | go_in)
  go_ret2
  exact ⟨rfl, rfl⟩

set_option maxHeartbeats 400000 in
theorem relu_any (b : Nat) (w : World) : Calls Tryz.prog 168 #[.float .f32 b] w fun e w' => e = .returned (.float .f32 (reluF b)) ∧ w' = w := by
  cases h : (FloatKind.f32.format.order b 0 == some .gt) with
  | true =>
    have c : reluF b = b := by unfold reluF; rw [if_pos h]
    rw [c]; clear c
    go_enter Tryz.func168, Tryz.ntmps168
    go_wp2
    go_ret
    exact ⟨rfl, rfl⟩
  | false =>
    cases h' : (FloatKind.f32.format.order b b != some .eq) with
    | true =>
      have c : reluF b = b := by unfold reluF; rw [h, h']; rfl
      rw [c]; clear c
      go_enter Tryz.func168, Tryz.ntmps168
      go_wp2
      go_ret
      exact ⟨rfl, rfl⟩
    | false =>
      have c : reluF b = 0 := by unfold reluF; rw [h, h']; rfl
      rw [c]; clear c
      go_enter Tryz.func168, Tryz.ntmps168
      go_wp2
      go_ret
      exact ⟨rfl, rfl⟩

set_option maxHeartbeats 400000 in
theorem relu_f (b : Nat) (w : World) (hb : b < 4294967296) : Calls Tryz.prog 159 #[.string ⟨#[82, 101, 108, 117]⟩, .float .f32 b] w fun e w' => e = .returned (.tuple #[.int .i64 (tob (reluF b)), .int .i64 0]) ∧ w' = w := by
  go_enter Tryz.func159, Tryz.ntmps159
  go_wp2_with (first | (go_at_call 134; refine (to_any _ _ (reluF_lt _ hb)).mono ?_; rintro e w' ⟨rfl, rfl⟩) | (go_at_call 168; refine (relu_any _ _).mono ?_; rintro e w' ⟨rfl, rfl⟩) | go_in)
  go_ret2
  exact ⟨rfl, rfl⟩

set_option maxHeartbeats 400000 in
theorem not_f (b : Nat) (w : World) : Calls Tryz.prog 159 #[.string ⟨#[78, 111, 116]⟩, .float .f32 b] w fun e w' => e = .returned (.tuple #[.int .i64 0, .int .i64 1]) ∧ w' = w := by
  go_enter Tryz.func159, Tryz.ntmps159
  go_wp2
  go_ret2
  exact ⟨rfl, rfl⟩

set_option maxHeartbeats 400000 in
theorem uint1_f (t x : Int) (w : World) : Calls Tryz.prog 160 #[.string ⟨#[78, 101, 103]⟩, .int .i64 t, .int .i64 x] w fun e w' => e = .returned (.tuple #[.int .i64 (wrapT t (wrap64 (-x))), .int .i64 0]) ∧ w' = w := by
  cases h : (t == 6) with
  | true =>
    rw [wrapT6 t _ h]
    go_enter Tryz.func160, Tryz.ntmps160
    go_wp2
    go_ret2
    exact ⟨rfl, rfl⟩
  | false =>
    rw [wrapT7 t _ h]
    go_enter Tryz.func160, Tryz.ntmps160
    go_wp2
    go_ret2
    exact ⟨rfl, rfl⟩

set_option maxHeartbeats 400000 in
theorem uint2_f (t x : Int) (w : World) : Calls Tryz.prog 160 #[.string ⟨#[65, 98, 115]⟩, .int .i64 t, .int .i64 x] w fun e w' => e = .returned (.tuple #[.int .i64 (absI t x), .int .i64 0]) ∧ w' = w := by
  by_cases hx : x < 0
  · rw [show absI t x = wrapT t (wrap64 (-x)) from if_pos hx]
    cases h : (t == 6) with
    | true =>
      rw [wrapT6 t _ h]
      go_enter Tryz.func160, Tryz.ntmps160
      go_wp2
      go_ret2
      exact ⟨rfl, rfl⟩
    | false =>
      rw [wrapT7 t _ h]
      go_enter Tryz.func160, Tryz.ntmps160
      go_wp2
      go_ret2
      exact ⟨rfl, rfl⟩
  · rw [show absI t x = x from if_neg hx]
    go_enter Tryz.func160, Tryz.ntmps160
    go_wp2
    go_ret2
    exact ⟨rfl, rfl⟩

set_option maxHeartbeats 400000 in
theorem uint3_f (t x : Int) (w : World) : Calls Tryz.prog 160 #[.string ⟨#[78, 111, 116]⟩, .int .i64 t, .int .i64 x] w fun e w' => e = .returned (.tuple #[.int .i64 0, .int .i64 1]) ∧ w' = w := by
  go_enter Tryz.func160, Tryz.ntmps160
  go_wp2
  go_ret2
  exact ⟨rfl, rfl⟩

set_option maxHeartbeats 400000 in
theorem uint4_f (t x : Int) (w : World) : Calls Tryz.prog 160 #[.string ⟨#[82, 101, 108, 117]⟩, .int .i64 t, .int .i64 x] w fun e w' => e = .returned (.tuple #[.int .i64 0, .int .i64 1]) ∧ w' = w := by
  go_enter Tryz.func160, Tryz.ntmps160
  go_wp2
  go_ret2
  exact ⟨rfl, rfl⟩

set_option maxHeartbeats 400000 in
theorem uint5_f (t x : Int) (w : World) : Calls Tryz.prog 160 #[.string ⟨#[83, 113, 114, 116]⟩, .int .i64 t, .int .i64 x] w fun e w' => e = .returned (.tuple #[.int .i64 0, .int .i64 1]) ∧ w' = w := by
  go_enter Tryz.func160, Tryz.ntmps160
  go_wp2
  go_ret2
  exact ⟨rfl, rfl⟩

set_option maxHeartbeats 400000 in
theorem uint6_f (t x : Int) (w : World) : Calls Tryz.prog 160 #[.string ⟨#[70, 108, 111, 111, 114]⟩, .int .i64 t, .int .i64 x] w fun e w' => e = .returned (.tuple #[.int .i64 0, .int .i64 1]) ∧ w' = w := by
  go_enter Tryz.func160, Tryz.ntmps160
  go_wp2
  go_ret2
  exact ⟨rfl, rfl⟩

set_option maxHeartbeats 400000 in
theorem uint7_f (t x : Int) (w : World) : Calls Tryz.prog 160 #[.string ⟨#[69, 120, 112]⟩, .int .i64 t, .int .i64 x] w fun e w' => e = .returned (.tuple #[.int .i64 0, .int .i64 1]) ∧ w' = w := by
  go_enter Tryz.func160, Tryz.ntmps160
  go_wp2
  go_ret2
  exact ⟨rfl, rfl⟩

set_option maxHeartbeats 400000 in
theorem uint8_f (t x : Int) (w : World) : Calls Tryz.prog 160 #[.string ⟨#[83, 105, 103, 109, 111, 105, 100]⟩, .int .i64 t, .int .i64 x] w fun e w' => e = .returned (.tuple #[.int .i64 0, .int .i64 1]) ∧ w' = w := by
  go_enter Tryz.func160, Tryz.ntmps160
  go_wp2
  go_ret2
  exact ⟨rfl, rfl⟩

set_option maxHeartbeats 400000 in
theorem uint9_f (t x : Int) (w : World) : Calls Tryz.prog 160 #[.string ⟨#[84, 97, 110, 104]⟩, .int .i64 t, .int .i64 x] w fun e w' => e = .returned (.tuple #[.int .i64 0, .int .i64 1]) ∧ w' = w := by
  go_enter Tryz.func160, Tryz.ntmps160
  go_wp2
  go_ret2
  exact ⟨rfl, rfl⟩

set_option maxHeartbeats 400000 in
theorem ubool3_f (x : Int) (w : World) (hx : x = 0 ∨ x = 1) : Calls Tryz.prog 161 #[.string ⟨#[78, 111, 116]⟩, .int .i64 x] w fun e w' => e = .returned (.tuple #[.int .i64 (1 - x), .int .i64 0]) ∧ w' = w := by
  rcases hx with rfl | rfl
  all_goals
    go_enter Tryz.func161, Tryz.ntmps161
    go_wp2
    go_ret2
    exact ⟨rfl, rfl⟩

set_option maxHeartbeats 400000 in
theorem ubool1_f (x : Int) (w : World) : Calls Tryz.prog 161 #[.string ⟨#[78, 101, 103]⟩, .int .i64 x] w fun e w' => e = .returned (.tuple #[.int .i64 0, .int .i64 1]) ∧ w' = w := by
  go_enter Tryz.func161, Tryz.ntmps161
  go_wp2
  go_ret2
  exact ⟨rfl, rfl⟩

set_option maxHeartbeats 400000 in
theorem ubool2_f (x : Int) (w : World) : Calls Tryz.prog 161 #[.string ⟨#[65, 98, 115]⟩, .int .i64 x] w fun e w' => e = .returned (.tuple #[.int .i64 0, .int .i64 1]) ∧ w' = w := by
  go_enter Tryz.func161, Tryz.ntmps161
  go_wp2
  go_ret2
  exact ⟨rfl, rfl⟩

set_option maxHeartbeats 400000 in
theorem ubool4_f (x : Int) (w : World) : Calls Tryz.prog 161 #[.string ⟨#[82, 101, 108, 117]⟩, .int .i64 x] w fun e w' => e = .returned (.tuple #[.int .i64 0, .int .i64 1]) ∧ w' = w := by
  go_enter Tryz.func161, Tryz.ntmps161
  go_wp2
  go_ret2
  exact ⟨rfl, rfl⟩

set_option maxHeartbeats 400000 in
theorem ubool5_f (x : Int) (w : World) : Calls Tryz.prog 161 #[.string ⟨#[83, 113, 114, 116]⟩, .int .i64 x] w fun e w' => e = .returned (.tuple #[.int .i64 0, .int .i64 1]) ∧ w' = w := by
  go_enter Tryz.func161, Tryz.ntmps161
  go_wp2
  go_ret2
  exact ⟨rfl, rfl⟩

set_option maxHeartbeats 400000 in
theorem ubool6_f (x : Int) (w : World) : Calls Tryz.prog 161 #[.string ⟨#[70, 108, 111, 111, 114]⟩, .int .i64 x] w fun e w' => e = .returned (.tuple #[.int .i64 0, .int .i64 1]) ∧ w' = w := by
  go_enter Tryz.func161, Tryz.ntmps161
  go_wp2
  go_ret2
  exact ⟨rfl, rfl⟩

set_option maxHeartbeats 400000 in
theorem ubool7_f (x : Int) (w : World) : Calls Tryz.prog 161 #[.string ⟨#[69, 120, 112]⟩, .int .i64 x] w fun e w' => e = .returned (.tuple #[.int .i64 0, .int .i64 1]) ∧ w' = w := by
  go_enter Tryz.func161, Tryz.ntmps161
  go_wp2
  go_ret2
  exact ⟨rfl, rfl⟩

set_option maxHeartbeats 400000 in
theorem ubool8_f (x : Int) (w : World) : Calls Tryz.prog 161 #[.string ⟨#[83, 105, 103, 109, 111, 105, 100]⟩, .int .i64 x] w fun e w' => e = .returned (.tuple #[.int .i64 0, .int .i64 1]) ∧ w' = w := by
  go_enter Tryz.func161, Tryz.ntmps161
  go_wp2
  go_ret2
  exact ⟨rfl, rfl⟩

set_option maxHeartbeats 400000 in
theorem ubool9_f (x : Int) (w : World) : Calls Tryz.prog 161 #[.string ⟨#[84, 97, 110, 104]⟩, .int .i64 x] w fun e w' => e = .returned (.tuple #[.int .i64 0, .int .i64 1]) ∧ w' = w := by
  go_enter Tryz.func161, Tryz.ntmps161
  go_wp2
  go_ret2
  exact ⟨rfl, rfl⟩

theorem un_no (k : Nat) (t x : Int) (h : chk t x = false) : un k t x = (0, 1) := by simp [un, h]
theorem un_0 (t x : Int) (h : chk t x = true) : un 0 t x = (x, 0) := by simp [un, h]
theorem un_1 (k : Nat) (x : Int) (h : chk 1 x = true) (hk : k ≠ 0) : un k 1 x = unFl k (fb x) := by simp [un, h, hk]
theorem un_6 (k : Nat) (x : Int) (h : chk 6 x = true) (hk : k ≠ 0) : un k 6 x = unIn k 6 x := by simp [un, h, hk]
theorem un_7 (k : Nat) (x : Int) (h : chk 7 x = true) (hk : k ≠ 0) : un k 7 x = unIn k 7 x := by simp [un, h, hk]
theorem un_9 (k : Nat) (x : Int) (h : chk 9 x = true) (hk : k ≠ 0) : un k 9 x = unBo k x := by simp [un, h, hk]

set_option maxHeartbeats 400000 in
theorem unary0_no (t x : Int) (w : World) (hx : chk t x = false) : Calls Tryz.prog 133 #[.string ⟨#[73, 100, 101, 110, 116, 105, 116, 121]⟩, .int .i64 t, .int .i64 x] w fun e w' => e = .returned (.tuple #[.int .i64 (un 0 t x).1, .int .i64 (un 0 t x).2]) ∧ w' = w := by
  rw [un_no 0 t x hx]
  go_enter Tryz.func133, Tryz.ntmps133
  go_wp2_with (first | (go_at_call 67; refine (check_any _ _ _).mono ?_; rintro e w' ⟨rfl, rfl⟩))
  go_ret2
  exact ⟨rfl, rfl⟩

set_option maxHeartbeats 400000 in
theorem unary0_yes (t x : Int) (w : World) (hx : chk t x = true) : Calls Tryz.prog 133 #[.string ⟨#[73, 100, 101, 110, 116, 105, 116, 121]⟩, .int .i64 t, .int .i64 x] w fun e w' => e = .returned (.tuple #[.int .i64 (un 0 t x).1, .int .i64 (un 0 t x).2]) ∧ w' = w := by
  rw [un_0 t x hx]
  go_enter Tryz.func133, Tryz.ntmps133
  go_wp2_with (first | (go_at_call 67; refine (check_any _ _ _).mono ?_; rintro e w' ⟨rfl, rfl⟩))
  go_ret2
  exact ⟨rfl, rfl⟩

theorem unary0 (t x : Int) (w : World) : Calls Tryz.prog 133 #[.string ⟨#[73, 100, 101, 110, 116, 105, 116, 121]⟩, .int .i64 t, .int .i64 x] w fun e w' => e = .returned (.tuple #[.int .i64 (un 0 t x).1, .int .i64 (un 0 t x).2]) ∧ w' = w := by
  cases hx : chk t x with
  | false => exact unary0_no t x w hx
  | true => exact unary0_yes t x w hx

set_option maxHeartbeats 400000 in
theorem unary1_no (t x : Int) (w : World) (hx : chk t x = false) : Calls Tryz.prog 133 #[.string ⟨#[78, 101, 103]⟩, .int .i64 t, .int .i64 x] w fun e w' => e = .returned (.tuple #[.int .i64 (un 1 t x).1, .int .i64 (un 1 t x).2]) ∧ w' = w := by
  rw [un_no 1 t x hx]
  go_enter Tryz.func133, Tryz.ntmps133
  go_wp2_with (first | (go_at_call 67; refine (check_any _ _ _).mono ?_; rintro e w' ⟨rfl, rfl⟩))
  go_ret2
  exact ⟨rfl, rfl⟩

set_option maxHeartbeats 400000 in
theorem unary1_1 (x : Int) (w : World) (hx : chk 1 x = true) : Calls Tryz.prog 133 #[.string ⟨#[78, 101, 103]⟩, .int .i64 1, .int .i64 x] w fun e w' => e = .returned (.tuple #[.int .i64 (un 1 1 x).1, .int .i64 (un 1 1 x).2]) ∧ w' = w := by
  rw [un_1 1 x hx (by decide)]
  go_enter Tryz.func133, Tryz.ntmps133
  go_wp2_with (first | (go_at_call 67; refine (check_any _ _ _).mono ?_; rintro e w' ⟨rfl, rfl⟩) | (go_at_call 98; refine (from_any _ _).mono ?_; rintro e w' ⟨rfl, rfl⟩) | (go_at_call 159; refine (neg_f _ _ (fb_lt _)).mono ?_; rintro e w' ⟨rfl, rfl⟩))
  go_ret2
  exact ⟨rfl, rfl⟩

set_option maxHeartbeats 400000 in
theorem unary1_6 (x : Int) (w : World) (hx : chk 6 x = true) : Calls Tryz.prog 133 #[.string ⟨#[78, 101, 103]⟩, .int .i64 6, .int .i64 x] w fun e w' => e = .returned (.tuple #[.int .i64 (un 1 6 x).1, .int .i64 (un 1 6 x).2]) ∧ w' = w := by
  rw [un_6 1 x hx (by decide)]
  go_enter Tryz.func133, Tryz.ntmps133
  go_wp2_with (first | (go_at_call 67; refine (check_any _ _ _).mono ?_; rintro e w' ⟨rfl, rfl⟩) | (go_at_call 160; refine (uint1_f _ _ _).mono ?_; rintro e w' ⟨rfl, rfl⟩))
  go_ret2
  exact ⟨rfl, rfl⟩

set_option maxHeartbeats 400000 in
theorem unary1_7 (x : Int) (w : World) (hx : chk 7 x = true) : Calls Tryz.prog 133 #[.string ⟨#[78, 101, 103]⟩, .int .i64 7, .int .i64 x] w fun e w' => e = .returned (.tuple #[.int .i64 (un 1 7 x).1, .int .i64 (un 1 7 x).2]) ∧ w' = w := by
  rw [un_7 1 x hx (by decide)]
  go_enter Tryz.func133, Tryz.ntmps133
  go_wp2_with (first | (go_at_call 67; refine (check_any _ _ _).mono ?_; rintro e w' ⟨rfl, rfl⟩) | (go_at_call 160; refine (uint1_f _ _ _).mono ?_; rintro e w' ⟨rfl, rfl⟩))
  go_ret2
  exact ⟨rfl, rfl⟩

set_option maxHeartbeats 400000 in
theorem unary1_9 (x : Int) (w : World) (hx : chk 9 x = true) : Calls Tryz.prog 133 #[.string ⟨#[78, 101, 103]⟩, .int .i64 9, .int .i64 x] w fun e w' => e = .returned (.tuple #[.int .i64 (un 1 9 x).1, .int .i64 (un 1 9 x).2]) ∧ w' = w := by
  rw [un_9 1 x hx (by decide)]
  go_enter Tryz.func133, Tryz.ntmps133
  go_wp2_with (first | (go_at_call 67; refine (check_any _ _ _).mono ?_; rintro e w' ⟨rfl, rfl⟩) | (go_at_call 161; refine (ubool1_f _ _).mono ?_; rintro e w' ⟨rfl, rfl⟩))
  go_ret2
  exact ⟨rfl, rfl⟩

theorem unary1 (t x : Int) (w : World) : Calls Tryz.prog 133 #[.string ⟨#[78, 101, 103]⟩, .int .i64 t, .int .i64 x] w fun e w' => e = .returned (.tuple #[.int .i64 (un 1 t x).1, .int .i64 (un 1 t x).2]) ∧ w' = w := by
  cases hx : chk t x with
  | false => exact unary1_no t x w hx
  | true =>
    rcases chk_types t x hx with rfl | rfl | rfl | rfl
    · exact unary1_1 x w hx
    · exact unary1_6 x w hx
    · exact unary1_7 x w hx
    · exact unary1_9 x w hx

set_option maxHeartbeats 400000 in
theorem unary2_no (t x : Int) (w : World) (hx : chk t x = false) : Calls Tryz.prog 133 #[.string ⟨#[65, 98, 115]⟩, .int .i64 t, .int .i64 x] w fun e w' => e = .returned (.tuple #[.int .i64 (un 2 t x).1, .int .i64 (un 2 t x).2]) ∧ w' = w := by
  rw [un_no 2 t x hx]
  go_enter Tryz.func133, Tryz.ntmps133
  go_wp2_with (first | (go_at_call 67; refine (check_any _ _ _).mono ?_; rintro e w' ⟨rfl, rfl⟩))
  go_ret2
  exact ⟨rfl, rfl⟩

set_option maxHeartbeats 400000 in
theorem unary2_1 (x : Int) (w : World) (hx : chk 1 x = true) : Calls Tryz.prog 133 #[.string ⟨#[65, 98, 115]⟩, .int .i64 1, .int .i64 x] w fun e w' => e = .returned (.tuple #[.int .i64 (un 2 1 x).1, .int .i64 (un 2 1 x).2]) ∧ w' = w := by
  rw [un_1 2 x hx (by decide)]
  go_enter Tryz.func133, Tryz.ntmps133
  go_wp2_with (first | (go_at_call 67; refine (check_any _ _ _).mono ?_; rintro e w' ⟨rfl, rfl⟩) | (go_at_call 98; refine (from_any _ _).mono ?_; rintro e w' ⟨rfl, rfl⟩) | (go_at_call 159; refine (abs_f _ _ (fb_lt _)).mono ?_; rintro e w' ⟨rfl, rfl⟩))
  go_ret2
  exact ⟨rfl, rfl⟩

set_option maxHeartbeats 400000 in
theorem unary2_6 (x : Int) (w : World) (hx : chk 6 x = true) : Calls Tryz.prog 133 #[.string ⟨#[65, 98, 115]⟩, .int .i64 6, .int .i64 x] w fun e w' => e = .returned (.tuple #[.int .i64 (un 2 6 x).1, .int .i64 (un 2 6 x).2]) ∧ w' = w := by
  rw [un_6 2 x hx (by decide)]
  go_enter Tryz.func133, Tryz.ntmps133
  go_wp2_with (first | (go_at_call 67; refine (check_any _ _ _).mono ?_; rintro e w' ⟨rfl, rfl⟩) | (go_at_call 160; refine (uint2_f _ _ _).mono ?_; rintro e w' ⟨rfl, rfl⟩))
  go_ret2
  exact ⟨rfl, rfl⟩

set_option maxHeartbeats 400000 in
theorem unary2_7 (x : Int) (w : World) (hx : chk 7 x = true) : Calls Tryz.prog 133 #[.string ⟨#[65, 98, 115]⟩, .int .i64 7, .int .i64 x] w fun e w' => e = .returned (.tuple #[.int .i64 (un 2 7 x).1, .int .i64 (un 2 7 x).2]) ∧ w' = w := by
  rw [un_7 2 x hx (by decide)]
  go_enter Tryz.func133, Tryz.ntmps133
  go_wp2_with (first | (go_at_call 67; refine (check_any _ _ _).mono ?_; rintro e w' ⟨rfl, rfl⟩) | (go_at_call 160; refine (uint2_f _ _ _).mono ?_; rintro e w' ⟨rfl, rfl⟩))
  go_ret2
  exact ⟨rfl, rfl⟩

set_option maxHeartbeats 400000 in
theorem unary2_9 (x : Int) (w : World) (hx : chk 9 x = true) : Calls Tryz.prog 133 #[.string ⟨#[65, 98, 115]⟩, .int .i64 9, .int .i64 x] w fun e w' => e = .returned (.tuple #[.int .i64 (un 2 9 x).1, .int .i64 (un 2 9 x).2]) ∧ w' = w := by
  rw [un_9 2 x hx (by decide)]
  go_enter Tryz.func133, Tryz.ntmps133
  go_wp2_with (first | (go_at_call 67; refine (check_any _ _ _).mono ?_; rintro e w' ⟨rfl, rfl⟩) | (go_at_call 161; refine (ubool2_f _ _).mono ?_; rintro e w' ⟨rfl, rfl⟩))
  go_ret2
  exact ⟨rfl, rfl⟩

theorem unary2 (t x : Int) (w : World) : Calls Tryz.prog 133 #[.string ⟨#[65, 98, 115]⟩, .int .i64 t, .int .i64 x] w fun e w' => e = .returned (.tuple #[.int .i64 (un 2 t x).1, .int .i64 (un 2 t x).2]) ∧ w' = w := by
  cases hx : chk t x with
  | false => exact unary2_no t x w hx
  | true =>
    rcases chk_types t x hx with rfl | rfl | rfl | rfl
    · exact unary2_1 x w hx
    · exact unary2_6 x w hx
    · exact unary2_7 x w hx
    · exact unary2_9 x w hx

set_option maxHeartbeats 400000 in
theorem unary3_no (t x : Int) (w : World) (hx : chk t x = false) : Calls Tryz.prog 133 #[.string ⟨#[78, 111, 116]⟩, .int .i64 t, .int .i64 x] w fun e w' => e = .returned (.tuple #[.int .i64 (un 3 t x).1, .int .i64 (un 3 t x).2]) ∧ w' = w := by
  rw [un_no 3 t x hx]
  go_enter Tryz.func133, Tryz.ntmps133
  go_wp2_with (first | (go_at_call 67; refine (check_any _ _ _).mono ?_; rintro e w' ⟨rfl, rfl⟩))
  go_ret2
  exact ⟨rfl, rfl⟩

set_option maxHeartbeats 400000 in
theorem unary3_1 (x : Int) (w : World) (hx : chk 1 x = true) : Calls Tryz.prog 133 #[.string ⟨#[78, 111, 116]⟩, .int .i64 1, .int .i64 x] w fun e w' => e = .returned (.tuple #[.int .i64 (un 3 1 x).1, .int .i64 (un 3 1 x).2]) ∧ w' = w := by
  rw [un_1 3 x hx (by decide)]
  go_enter Tryz.func133, Tryz.ntmps133
  go_wp2_with (first | (go_at_call 67; refine (check_any _ _ _).mono ?_; rintro e w' ⟨rfl, rfl⟩) | (go_at_call 98; refine (from_any _ _).mono ?_; rintro e w' ⟨rfl, rfl⟩) | (go_at_call 159; refine (not_f _ _).mono ?_; rintro e w' ⟨rfl, rfl⟩))
  go_ret2
  exact ⟨rfl, rfl⟩

set_option maxHeartbeats 400000 in
theorem unary3_6 (x : Int) (w : World) (hx : chk 6 x = true) : Calls Tryz.prog 133 #[.string ⟨#[78, 111, 116]⟩, .int .i64 6, .int .i64 x] w fun e w' => e = .returned (.tuple #[.int .i64 (un 3 6 x).1, .int .i64 (un 3 6 x).2]) ∧ w' = w := by
  rw [un_6 3 x hx (by decide)]
  go_enter Tryz.func133, Tryz.ntmps133
  go_wp2_with (first | (go_at_call 67; refine (check_any _ _ _).mono ?_; rintro e w' ⟨rfl, rfl⟩) | (go_at_call 160; refine (uint3_f _ _ _).mono ?_; rintro e w' ⟨rfl, rfl⟩))
  go_ret2
  exact ⟨rfl, rfl⟩

set_option maxHeartbeats 400000 in
theorem unary3_7 (x : Int) (w : World) (hx : chk 7 x = true) : Calls Tryz.prog 133 #[.string ⟨#[78, 111, 116]⟩, .int .i64 7, .int .i64 x] w fun e w' => e = .returned (.tuple #[.int .i64 (un 3 7 x).1, .int .i64 (un 3 7 x).2]) ∧ w' = w := by
  rw [un_7 3 x hx (by decide)]
  go_enter Tryz.func133, Tryz.ntmps133
  go_wp2_with (first | (go_at_call 67; refine (check_any _ _ _).mono ?_; rintro e w' ⟨rfl, rfl⟩) | (go_at_call 160; refine (uint3_f _ _ _).mono ?_; rintro e w' ⟨rfl, rfl⟩))
  go_ret2
  exact ⟨rfl, rfl⟩

set_option maxHeartbeats 400000 in
theorem unary3_9 (x : Int) (w : World) (hx : chk 9 x = true) : Calls Tryz.prog 133 #[.string ⟨#[78, 111, 116]⟩, .int .i64 9, .int .i64 x] w fun e w' => e = .returned (.tuple #[.int .i64 (un 3 9 x).1, .int .i64 (un 3 9 x).2]) ∧ w' = w := by
  rw [un_9 3 x hx (by decide)]
  go_enter Tryz.func133, Tryz.ntmps133
  go_wp2_with (first | (go_at_call 67; refine (check_any _ _ _).mono ?_; rintro e w' ⟨rfl, rfl⟩) | (go_at_call 161; refine (ubool3_f _ _ (chk9 _ hx)).mono ?_; rintro e w' ⟨rfl, rfl⟩))
  go_ret2
  exact ⟨rfl, rfl⟩

theorem unary3 (t x : Int) (w : World) : Calls Tryz.prog 133 #[.string ⟨#[78, 111, 116]⟩, .int .i64 t, .int .i64 x] w fun e w' => e = .returned (.tuple #[.int .i64 (un 3 t x).1, .int .i64 (un 3 t x).2]) ∧ w' = w := by
  cases hx : chk t x with
  | false => exact unary3_no t x w hx
  | true =>
    rcases chk_types t x hx with rfl | rfl | rfl | rfl
    · exact unary3_1 x w hx
    · exact unary3_6 x w hx
    · exact unary3_7 x w hx
    · exact unary3_9 x w hx

set_option maxHeartbeats 400000 in
theorem unary4_no (t x : Int) (w : World) (hx : chk t x = false) : Calls Tryz.prog 133 #[.string ⟨#[82, 101, 108, 117]⟩, .int .i64 t, .int .i64 x] w fun e w' => e = .returned (.tuple #[.int .i64 (un 4 t x).1, .int .i64 (un 4 t x).2]) ∧ w' = w := by
  rw [un_no 4 t x hx]
  go_enter Tryz.func133, Tryz.ntmps133
  go_wp2_with (first | (go_at_call 67; refine (check_any _ _ _).mono ?_; rintro e w' ⟨rfl, rfl⟩))
  go_ret2
  exact ⟨rfl, rfl⟩

set_option maxHeartbeats 400000 in
theorem unary4_1 (x : Int) (w : World) (hx : chk 1 x = true) : Calls Tryz.prog 133 #[.string ⟨#[82, 101, 108, 117]⟩, .int .i64 1, .int .i64 x] w fun e w' => e = .returned (.tuple #[.int .i64 (un 4 1 x).1, .int .i64 (un 4 1 x).2]) ∧ w' = w := by
  rw [un_1 4 x hx (by decide)]
  go_enter Tryz.func133, Tryz.ntmps133
  go_wp2_with (first | (go_at_call 67; refine (check_any _ _ _).mono ?_; rintro e w' ⟨rfl, rfl⟩) | (go_at_call 98; refine (from_any _ _).mono ?_; rintro e w' ⟨rfl, rfl⟩) | (go_at_call 159; refine (relu_f _ _ (fb_lt _)).mono ?_; rintro e w' ⟨rfl, rfl⟩))
  go_ret2
  exact ⟨rfl, rfl⟩

set_option maxHeartbeats 400000 in
theorem unary4_6 (x : Int) (w : World) (hx : chk 6 x = true) : Calls Tryz.prog 133 #[.string ⟨#[82, 101, 108, 117]⟩, .int .i64 6, .int .i64 x] w fun e w' => e = .returned (.tuple #[.int .i64 (un 4 6 x).1, .int .i64 (un 4 6 x).2]) ∧ w' = w := by
  rw [un_6 4 x hx (by decide)]
  go_enter Tryz.func133, Tryz.ntmps133
  go_wp2_with (first | (go_at_call 67; refine (check_any _ _ _).mono ?_; rintro e w' ⟨rfl, rfl⟩) | (go_at_call 160; refine (uint4_f _ _ _).mono ?_; rintro e w' ⟨rfl, rfl⟩))
  go_ret2
  exact ⟨rfl, rfl⟩

set_option maxHeartbeats 400000 in
theorem unary4_7 (x : Int) (w : World) (hx : chk 7 x = true) : Calls Tryz.prog 133 #[.string ⟨#[82, 101, 108, 117]⟩, .int .i64 7, .int .i64 x] w fun e w' => e = .returned (.tuple #[.int .i64 (un 4 7 x).1, .int .i64 (un 4 7 x).2]) ∧ w' = w := by
  rw [un_7 4 x hx (by decide)]
  go_enter Tryz.func133, Tryz.ntmps133
  go_wp2_with (first | (go_at_call 67; refine (check_any _ _ _).mono ?_; rintro e w' ⟨rfl, rfl⟩) | (go_at_call 160; refine (uint4_f _ _ _).mono ?_; rintro e w' ⟨rfl, rfl⟩))
  go_ret2
  exact ⟨rfl, rfl⟩

set_option maxHeartbeats 400000 in
theorem unary4_9 (x : Int) (w : World) (hx : chk 9 x = true) : Calls Tryz.prog 133 #[.string ⟨#[82, 101, 108, 117]⟩, .int .i64 9, .int .i64 x] w fun e w' => e = .returned (.tuple #[.int .i64 (un 4 9 x).1, .int .i64 (un 4 9 x).2]) ∧ w' = w := by
  rw [un_9 4 x hx (by decide)]
  go_enter Tryz.func133, Tryz.ntmps133
  go_wp2_with (first | (go_at_call 67; refine (check_any _ _ _).mono ?_; rintro e w' ⟨rfl, rfl⟩) | (go_at_call 161; refine (ubool4_f _ _).mono ?_; rintro e w' ⟨rfl, rfl⟩))
  go_ret2
  exact ⟨rfl, rfl⟩

theorem unary4 (t x : Int) (w : World) : Calls Tryz.prog 133 #[.string ⟨#[82, 101, 108, 117]⟩, .int .i64 t, .int .i64 x] w fun e w' => e = .returned (.tuple #[.int .i64 (un 4 t x).1, .int .i64 (un 4 t x).2]) ∧ w' = w := by
  cases hx : chk t x with
  | false => exact unary4_no t x w hx
  | true =>
    rcases chk_types t x hx with rfl | rfl | rfl | rfl
    · exact unary4_1 x w hx
    · exact unary4_6 x w hx
    · exact unary4_7 x w hx
    · exact unary4_9 x w hx

set_option maxHeartbeats 400000 in
theorem unary5_no (t x : Int) (w : World) (hx : chk t x = false) : Calls Tryz.prog 133 #[.string ⟨#[83, 113, 114, 116]⟩, .int .i64 t, .int .i64 x] w fun e w' => e = .returned (.tuple #[.int .i64 (un 5 t x).1, .int .i64 (un 5 t x).2]) ∧ w' = w := by
  rw [un_no 5 t x hx]
  go_enter Tryz.func133, Tryz.ntmps133
  go_wp2_with (first | (go_at_call 67; refine (check_any _ _ _).mono ?_; rintro e w' ⟨rfl, rfl⟩))
  go_ret2
  exact ⟨rfl, rfl⟩

set_option maxHeartbeats 400000 in
theorem unary5_6 (x : Int) (w : World) (hx : chk 6 x = true) : Calls Tryz.prog 133 #[.string ⟨#[83, 113, 114, 116]⟩, .int .i64 6, .int .i64 x] w fun e w' => e = .returned (.tuple #[.int .i64 (un 5 6 x).1, .int .i64 (un 5 6 x).2]) ∧ w' = w := by
  rw [un_6 5 x hx (by decide)]
  go_enter Tryz.func133, Tryz.ntmps133
  go_wp2_with (first | (go_at_call 67; refine (check_any _ _ _).mono ?_; rintro e w' ⟨rfl, rfl⟩) | (go_at_call 160; refine (uint5_f _ _ _).mono ?_; rintro e w' ⟨rfl, rfl⟩))
  go_ret2
  exact ⟨rfl, rfl⟩

set_option maxHeartbeats 400000 in
theorem unary5_7 (x : Int) (w : World) (hx : chk 7 x = true) : Calls Tryz.prog 133 #[.string ⟨#[83, 113, 114, 116]⟩, .int .i64 7, .int .i64 x] w fun e w' => e = .returned (.tuple #[.int .i64 (un 5 7 x).1, .int .i64 (un 5 7 x).2]) ∧ w' = w := by
  rw [un_7 5 x hx (by decide)]
  go_enter Tryz.func133, Tryz.ntmps133
  go_wp2_with (first | (go_at_call 67; refine (check_any _ _ _).mono ?_; rintro e w' ⟨rfl, rfl⟩) | (go_at_call 160; refine (uint5_f _ _ _).mono ?_; rintro e w' ⟨rfl, rfl⟩))
  go_ret2
  exact ⟨rfl, rfl⟩

set_option maxHeartbeats 400000 in
theorem unary5_9 (x : Int) (w : World) (hx : chk 9 x = true) : Calls Tryz.prog 133 #[.string ⟨#[83, 113, 114, 116]⟩, .int .i64 9, .int .i64 x] w fun e w' => e = .returned (.tuple #[.int .i64 (un 5 9 x).1, .int .i64 (un 5 9 x).2]) ∧ w' = w := by
  rw [un_9 5 x hx (by decide)]
  go_enter Tryz.func133, Tryz.ntmps133
  go_wp2_with (first | (go_at_call 67; refine (check_any _ _ _).mono ?_; rintro e w' ⟨rfl, rfl⟩) | (go_at_call 161; refine (ubool5_f _ _).mono ?_; rintro e w' ⟨rfl, rfl⟩))
  go_ret2
  exact ⟨rfl, rfl⟩

set_option maxHeartbeats 400000 in
theorem unary6_no (t x : Int) (w : World) (hx : chk t x = false) : Calls Tryz.prog 133 #[.string ⟨#[70, 108, 111, 111, 114]⟩, .int .i64 t, .int .i64 x] w fun e w' => e = .returned (.tuple #[.int .i64 (un 6 t x).1, .int .i64 (un 6 t x).2]) ∧ w' = w := by
  rw [un_no 6 t x hx]
  go_enter Tryz.func133, Tryz.ntmps133
  go_wp2_with (first | (go_at_call 67; refine (check_any _ _ _).mono ?_; rintro e w' ⟨rfl, rfl⟩))
  go_ret2
  exact ⟨rfl, rfl⟩

set_option maxHeartbeats 400000 in
theorem unary6_6 (x : Int) (w : World) (hx : chk 6 x = true) : Calls Tryz.prog 133 #[.string ⟨#[70, 108, 111, 111, 114]⟩, .int .i64 6, .int .i64 x] w fun e w' => e = .returned (.tuple #[.int .i64 (un 6 6 x).1, .int .i64 (un 6 6 x).2]) ∧ w' = w := by
  rw [un_6 6 x hx (by decide)]
  go_enter Tryz.func133, Tryz.ntmps133
  go_wp2_with (first | (go_at_call 67; refine (check_any _ _ _).mono ?_; rintro e w' ⟨rfl, rfl⟩) | (go_at_call 160; refine (uint6_f _ _ _).mono ?_; rintro e w' ⟨rfl, rfl⟩))
  go_ret2
  exact ⟨rfl, rfl⟩

set_option maxHeartbeats 400000 in
theorem unary6_7 (x : Int) (w : World) (hx : chk 7 x = true) : Calls Tryz.prog 133 #[.string ⟨#[70, 108, 111, 111, 114]⟩, .int .i64 7, .int .i64 x] w fun e w' => e = .returned (.tuple #[.int .i64 (un 6 7 x).1, .int .i64 (un 6 7 x).2]) ∧ w' = w := by
  rw [un_7 6 x hx (by decide)]
  go_enter Tryz.func133, Tryz.ntmps133
  go_wp2_with (first | (go_at_call 67; refine (check_any _ _ _).mono ?_; rintro e w' ⟨rfl, rfl⟩) | (go_at_call 160; refine (uint6_f _ _ _).mono ?_; rintro e w' ⟨rfl, rfl⟩))
  go_ret2
  exact ⟨rfl, rfl⟩

set_option maxHeartbeats 400000 in
theorem unary6_9 (x : Int) (w : World) (hx : chk 9 x = true) : Calls Tryz.prog 133 #[.string ⟨#[70, 108, 111, 111, 114]⟩, .int .i64 9, .int .i64 x] w fun e w' => e = .returned (.tuple #[.int .i64 (un 6 9 x).1, .int .i64 (un 6 9 x).2]) ∧ w' = w := by
  rw [un_9 6 x hx (by decide)]
  go_enter Tryz.func133, Tryz.ntmps133
  go_wp2_with (first | (go_at_call 67; refine (check_any _ _ _).mono ?_; rintro e w' ⟨rfl, rfl⟩) | (go_at_call 161; refine (ubool6_f _ _).mono ?_; rintro e w' ⟨rfl, rfl⟩))
  go_ret2
  exact ⟨rfl, rfl⟩

set_option maxHeartbeats 400000 in
theorem unary7_no (t x : Int) (w : World) (hx : chk t x = false) : Calls Tryz.prog 133 #[.string ⟨#[69, 120, 112]⟩, .int .i64 t, .int .i64 x] w fun e w' => e = .returned (.tuple #[.int .i64 (un 7 t x).1, .int .i64 (un 7 t x).2]) ∧ w' = w := by
  rw [un_no 7 t x hx]
  go_enter Tryz.func133, Tryz.ntmps133
  go_wp2_with (first | (go_at_call 67; refine (check_any _ _ _).mono ?_; rintro e w' ⟨rfl, rfl⟩))
  go_ret2
  exact ⟨rfl, rfl⟩

set_option maxHeartbeats 400000 in
theorem unary7_6 (x : Int) (w : World) (hx : chk 6 x = true) : Calls Tryz.prog 133 #[.string ⟨#[69, 120, 112]⟩, .int .i64 6, .int .i64 x] w fun e w' => e = .returned (.tuple #[.int .i64 (un 7 6 x).1, .int .i64 (un 7 6 x).2]) ∧ w' = w := by
  rw [un_6 7 x hx (by decide)]
  go_enter Tryz.func133, Tryz.ntmps133
  go_wp2_with (first | (go_at_call 67; refine (check_any _ _ _).mono ?_; rintro e w' ⟨rfl, rfl⟩) | (go_at_call 160; refine (uint7_f _ _ _).mono ?_; rintro e w' ⟨rfl, rfl⟩))
  go_ret2
  exact ⟨rfl, rfl⟩

set_option maxHeartbeats 400000 in
theorem unary7_7 (x : Int) (w : World) (hx : chk 7 x = true) : Calls Tryz.prog 133 #[.string ⟨#[69, 120, 112]⟩, .int .i64 7, .int .i64 x] w fun e w' => e = .returned (.tuple #[.int .i64 (un 7 7 x).1, .int .i64 (un 7 7 x).2]) ∧ w' = w := by
  rw [un_7 7 x hx (by decide)]
  go_enter Tryz.func133, Tryz.ntmps133
  go_wp2_with (first | (go_at_call 67; refine (check_any _ _ _).mono ?_; rintro e w' ⟨rfl, rfl⟩) | (go_at_call 160; refine (uint7_f _ _ _).mono ?_; rintro e w' ⟨rfl, rfl⟩))
  go_ret2
  exact ⟨rfl, rfl⟩

set_option maxHeartbeats 400000 in
theorem unary7_9 (x : Int) (w : World) (hx : chk 9 x = true) : Calls Tryz.prog 133 #[.string ⟨#[69, 120, 112]⟩, .int .i64 9, .int .i64 x] w fun e w' => e = .returned (.tuple #[.int .i64 (un 7 9 x).1, .int .i64 (un 7 9 x).2]) ∧ w' = w := by
  rw [un_9 7 x hx (by decide)]
  go_enter Tryz.func133, Tryz.ntmps133
  go_wp2_with (first | (go_at_call 67; refine (check_any _ _ _).mono ?_; rintro e w' ⟨rfl, rfl⟩) | (go_at_call 161; refine (ubool7_f _ _).mono ?_; rintro e w' ⟨rfl, rfl⟩))
  go_ret2
  exact ⟨rfl, rfl⟩

set_option maxHeartbeats 400000 in
theorem unary8_no (t x : Int) (w : World) (hx : chk t x = false) : Calls Tryz.prog 133 #[.string ⟨#[83, 105, 103, 109, 111, 105, 100]⟩, .int .i64 t, .int .i64 x] w fun e w' => e = .returned (.tuple #[.int .i64 (un 8 t x).1, .int .i64 (un 8 t x).2]) ∧ w' = w := by
  rw [un_no 8 t x hx]
  go_enter Tryz.func133, Tryz.ntmps133
  go_wp2_with (first | (go_at_call 67; refine (check_any _ _ _).mono ?_; rintro e w' ⟨rfl, rfl⟩))
  go_ret2
  exact ⟨rfl, rfl⟩

set_option maxHeartbeats 400000 in
theorem unary8_6 (x : Int) (w : World) (hx : chk 6 x = true) : Calls Tryz.prog 133 #[.string ⟨#[83, 105, 103, 109, 111, 105, 100]⟩, .int .i64 6, .int .i64 x] w fun e w' => e = .returned (.tuple #[.int .i64 (un 8 6 x).1, .int .i64 (un 8 6 x).2]) ∧ w' = w := by
  rw [un_6 8 x hx (by decide)]
  go_enter Tryz.func133, Tryz.ntmps133
  go_wp2_with (first | (go_at_call 67; refine (check_any _ _ _).mono ?_; rintro e w' ⟨rfl, rfl⟩) | (go_at_call 160; refine (uint8_f _ _ _).mono ?_; rintro e w' ⟨rfl, rfl⟩))
  go_ret2
  exact ⟨rfl, rfl⟩

set_option maxHeartbeats 400000 in
theorem unary8_7 (x : Int) (w : World) (hx : chk 7 x = true) : Calls Tryz.prog 133 #[.string ⟨#[83, 105, 103, 109, 111, 105, 100]⟩, .int .i64 7, .int .i64 x] w fun e w' => e = .returned (.tuple #[.int .i64 (un 8 7 x).1, .int .i64 (un 8 7 x).2]) ∧ w' = w := by
  rw [un_7 8 x hx (by decide)]
  go_enter Tryz.func133, Tryz.ntmps133
  go_wp2_with (first | (go_at_call 67; refine (check_any _ _ _).mono ?_; rintro e w' ⟨rfl, rfl⟩) | (go_at_call 160; refine (uint8_f _ _ _).mono ?_; rintro e w' ⟨rfl, rfl⟩))
  go_ret2
  exact ⟨rfl, rfl⟩

set_option maxHeartbeats 400000 in
theorem unary8_9 (x : Int) (w : World) (hx : chk 9 x = true) : Calls Tryz.prog 133 #[.string ⟨#[83, 105, 103, 109, 111, 105, 100]⟩, .int .i64 9, .int .i64 x] w fun e w' => e = .returned (.tuple #[.int .i64 (un 8 9 x).1, .int .i64 (un 8 9 x).2]) ∧ w' = w := by
  rw [un_9 8 x hx (by decide)]
  go_enter Tryz.func133, Tryz.ntmps133
  go_wp2_with (first | (go_at_call 67; refine (check_any _ _ _).mono ?_; rintro e w' ⟨rfl, rfl⟩) | (go_at_call 161; refine (ubool8_f _ _).mono ?_; rintro e w' ⟨rfl, rfl⟩))
  go_ret2
  exact ⟨rfl, rfl⟩

set_option maxHeartbeats 400000 in
theorem unary9_no (t x : Int) (w : World) (hx : chk t x = false) : Calls Tryz.prog 133 #[.string ⟨#[84, 97, 110, 104]⟩, .int .i64 t, .int .i64 x] w fun e w' => e = .returned (.tuple #[.int .i64 (un 9 t x).1, .int .i64 (un 9 t x).2]) ∧ w' = w := by
  rw [un_no 9 t x hx]
  go_enter Tryz.func133, Tryz.ntmps133
  go_wp2_with (first | (go_at_call 67; refine (check_any _ _ _).mono ?_; rintro e w' ⟨rfl, rfl⟩))
  go_ret2
  exact ⟨rfl, rfl⟩

set_option maxHeartbeats 400000 in
theorem unary9_6 (x : Int) (w : World) (hx : chk 6 x = true) : Calls Tryz.prog 133 #[.string ⟨#[84, 97, 110, 104]⟩, .int .i64 6, .int .i64 x] w fun e w' => e = .returned (.tuple #[.int .i64 (un 9 6 x).1, .int .i64 (un 9 6 x).2]) ∧ w' = w := by
  rw [un_6 9 x hx (by decide)]
  go_enter Tryz.func133, Tryz.ntmps133
  go_wp2_with (first | (go_at_call 67; refine (check_any _ _ _).mono ?_; rintro e w' ⟨rfl, rfl⟩) | (go_at_call 160; refine (uint9_f _ _ _).mono ?_; rintro e w' ⟨rfl, rfl⟩))
  go_ret2
  exact ⟨rfl, rfl⟩

set_option maxHeartbeats 400000 in
theorem unary9_7 (x : Int) (w : World) (hx : chk 7 x = true) : Calls Tryz.prog 133 #[.string ⟨#[84, 97, 110, 104]⟩, .int .i64 7, .int .i64 x] w fun e w' => e = .returned (.tuple #[.int .i64 (un 9 7 x).1, .int .i64 (un 9 7 x).2]) ∧ w' = w := by
  rw [un_7 9 x hx (by decide)]
  go_enter Tryz.func133, Tryz.ntmps133
  go_wp2_with (first | (go_at_call 67; refine (check_any _ _ _).mono ?_; rintro e w' ⟨rfl, rfl⟩) | (go_at_call 160; refine (uint9_f _ _ _).mono ?_; rintro e w' ⟨rfl, rfl⟩))
  go_ret2
  exact ⟨rfl, rfl⟩

set_option maxHeartbeats 400000 in
theorem unary9_9 (x : Int) (w : World) (hx : chk 9 x = true) : Calls Tryz.prog 133 #[.string ⟨#[84, 97, 110, 104]⟩, .int .i64 9, .int .i64 x] w fun e w' => e = .returned (.tuple #[.int .i64 (un 9 9 x).1, .int .i64 (un 9 9 x).2]) ∧ w' = w := by
  rw [un_9 9 x hx (by decide)]
  go_enter Tryz.func133, Tryz.ntmps133
  go_wp2_with (first | (go_at_call 67; refine (check_any _ _ _).mono ?_; rintro e w' ⟨rfl, rfl⟩) | (go_at_call 161; refine (ubool9_f _ _).mono ?_; rintro e w' ⟨rfl, rfl⟩))
  go_ret2
  exact ⟨rfl, rfl⟩

end Go.Proofs.YtfladhogkhhlcaaGreatDoor.Nu

/- The walks of package num's operators of one that round: each gives some float's bits, and draws some answers. -/
namespace Go.Proofs.YtfladhogkhhlcaaGreatDoor.Nu
open Go.RowKit

theorem sqrt_eq (x : Nat) : Extern.MathSqrt.sqrt #[.float .f64 x] = (match FloatKind.f64.format.sqrt x with
    | some r => pure (.float .f64 r)
    | none => do pure (.float .f64 (← choose (.nanBits .f64 x x)))) := rfl

theorem ext_sqrt_ex (x : Nat) (w : World) : ∃ r n, (callFunc 178 #[.float .f64 x]).run Tryz.prog w = .ok (.value (.float .f64 r)) (w.drewN n) := by
  have e : (callFunc 178 #[.float .f64 x]).run Tryz.prog w = ((Extern.MathSqrt.sqrt #[.float .f64 x]).run Tryz.prog w).andThen fun v w' => .ok (.value v) w' :=
    run_callFunc_extern (fn := Tryz.f178) (by kernel_rfl) (by kernel_rfl) (by kernel_rfl) (by kernel_rfl) (by kernel_rfl) _ _
  rw [e, sqrt_eq]
  cases h : FloatKind.f64.format.sqrt x with
  | some r => exact ⟨r, 0, by simp; rfl⟩
  | none => exact ⟨_, 1, by simp [Question.forced]; exact ⟨rfl, rfl⟩⟩

theorem ext_floor_ex (x : Nat) (w : World) : ∃ r n, (callFunc 179 #[.float .f64 x]).run Tryz.prog w = .ok (.value (.float .f64 r)) (w.drewN n) := by
  have e : (callFunc 179 #[.float .f64 x]).run Tryz.prog w = ((Extern.MathFloor.toIntegral "math.archFloor" .down #[.float .f64 x]).run Tryz.prog w).andThen fun v w' => .ok (.value v) w' :=
    run_callFunc_extern (fn := Tryz.f179) (by kernel_rfl) (by kernel_rfl) (by kernel_rfl) (by kernel_rfl) (by kernel_rfl) _ _
  rw [e]
  have e2 : ∃ q : Question, q.forced = false ∧ Extern.MathFloor.toIntegral "math.archFloor" .down #[.float .f64 x] = (match FloatKind.f64.decode x with
    | .nan s t =>
      if FloatKind.f64.format.quiet t = t then pure (.float .f64 x) else do
      let kept ← choose q
      pure (.float .f64 (if kept == 1 then x else FloatKind.f64.encode (.nan s (FloatKind.f64.format.quiet t))))
    | d => pure (.float .f64 (FloatKind.f64.encode (d.integral .down)))) := ⟨_, by decide, rfl⟩
  obtain ⟨q, hq, e2⟩ := e2
  rw [e2]
  cases h : FloatKind.f64.decode x with
  | number s m i => exact ⟨_, 0, by simp; exact ⟨rfl, rfl⟩⟩
  | infinity s => exact ⟨_, 0, by simp; exact ⟨rfl, rfl⟩⟩
  | nan s t =>
    by_cases ht : FloatKind.f64.format.quiet t = t
    · exact ⟨_, 0, by simp [ht]; exact ⟨rfl, rfl⟩⟩
    · exact ⟨_, 1, by simp [ht, hq]; exact ⟨rfl, rfl⟩⟩

theorem ext_sqrt : ∃ (r : Nat → World → Nat) (n : Nat → World → Nat), ∀ x w, (callFunc 178 #[.float .f64 x]).run Tryz.prog w = .ok (.value (.float .f64 (r x w))) (w.drewN (n x w)) :=
  ⟨fun x w => Classical.choose (ext_sqrt_ex x w), fun x w => Classical.choose (Classical.choose_spec (ext_sqrt_ex x w)), fun x w => Classical.choose_spec (Classical.choose_spec (ext_sqrt_ex x w))⟩
theorem ext_floor : ∃ (r : Nat → World → Nat) (n : Nat → World → Nat), ∀ x w, (callFunc 179 #[.float .f64 x]).run Tryz.prog w = .ok (.value (.float .f64 (r x w))) (w.drewN (n x w)) :=
  ⟨fun x w => Classical.choose (ext_floor_ex x w), fun x w => Classical.choose (Classical.choose_spec (ext_floor_ex x w)), fun x w => Classical.choose_spec (Classical.choose_spec (ext_floor_ex x w))⟩

theorem conv_up (b : Nat) (w : World) : (convert 139 196 (.float .f32 b)).run Tryz.prog w = .ok (.float .f64 (cval .f32 .f64 b w)) (w.drewN (cdr .f32 .f64 b)) := run_cval w _ _ _ _ _ (by kernel_rfl) (by kernel_rfl)
theorem conv_down (b : Nat) (w : World) : (convert 196 139 (.float .f64 b)).run Tryz.prog w = .ok (.float .f32 (cval .f64 .f32 b w)) (w.drewN (cdr .f64 .f32 b)) := run_cval w _ _ _ _ _ (by kernel_rfl) (by kernel_rfl)
theorem conv_int (b : Nat) (w : World) : (convert 196 3 (.float .f64 b)).run Tryz.prog w = .ok (.int .i64 (ival .f64 .i64 b w)) (w.drewN (idr .f64 .i64 b)) := run_ival w _ _ _ _ _ (by kernel_rfl) (by kernel_rfl)
theorem ext_bits64 (b : Nat) (w : World) : (callFunc 194 #[.float .f64 b]).run Tryz.prog w = .ok (.value (.int .u64 b)) w := by kernel_rfl
theorem ext_from64 (n : Int) (w : World) : (callFunc 196 #[.int .u64 n]).run Tryz.prog w = .ok (.value (.float .f64 n.toNat)) w := by kernel_rfl
attribute [local go_sem] conv_up conv_down conv_int ext_bits64 ext_from64 ext_from ext_bits run_fadd run_fsub run_fmul run_fquo negF_eq

set_option maxHeartbeats 400000 in
theorem floor_w (x : Nat) (w : World) : Calls Tryz.prog 170 #[.float .f64 x] w fun e w' => ∃ r n, e = .returned (.float .f64 r) ∧ w' = w.drewN n := by
  obtain ⟨r, n, h⟩ := ext_floor
  go_enter Tryz.func170, Tryz.ntmps170
  go_wp2
  go_ret
  exact ⟨_, _, rfl, rfl⟩

set_option maxHeartbeats 400000 in
theorem sqrt_w (x : Nat) (w : World) : Calls Tryz.prog 169 #[.float .f64 x] w fun e w' => ∃ r n, e = .returned (.float .f64 r) ∧ w' = w.drewN n := by
  obtain ⟨r, n, h⟩ := ext_sqrt
  go_enter Tryz.func169, Tryz.ntmps169
  go_wp2
  go_ret
  exact ⟨_, _, rfl, rfl⟩

set_option maxHeartbeats 1000000 in
theorem normalize_w (x : Nat) (w : World) : Calls Tryz.prog 193 #[.float .f64 x] w fun e w' => ∃ r m n, e = .returned (.tuple #[.float .f64 r, .int .i64 m]) ∧ w' = w.drewN n := by
  go_enter Tryz.func193, Tryz.ntmps193
  go_wp2
  all_goals
    go_ret2
    first | exact ⟨_, _, 0, rfl, rfl⟩ | exact ⟨_, _, _, rfl, rfl⟩

set_option maxHeartbeats 1000000 in
theorem copysign_w (x y : Nat) (w : World) : Calls Tryz.prog 192 #[.float .f64 x, .float .f64 y] w fun e w' => ∃ r n, e = .returned (.float .f64 r) ∧ w' = w.drewN n := by
  go_enter Tryz.func192, Tryz.ntmps192
  go_wp2
  all_goals
    go_ret
    exact ⟨_, 0, rfl, rfl⟩
end Go.Proofs.YtfladhogkhhlcaaGreatDoor.Nu

/- The walks of Ldexp, exp, sigmoid and tanh: each gives some float's bits, and draws some answers. -/
namespace Go.Proofs.YtfladhogkhhlcaaGreatDoor.Nu
open Go.RowKit
attribute [local go_sem] conv_up conv_down conv_int ext_bits64 ext_from64 ext_from ext_bits run_fadd run_fsub run_fmul run_fquo negF_eq

set_option maxHeartbeats 2000000 in
theorem ldexp_w (x : Nat) (m : Int) (w : World) : Calls Tryz.prog 189 #[.float .f64 x, .int .i64 m] w fun e w' => ∃ r n, e = .returned (.float .f64 r) ∧ w' = w.drewN n := by
  go_enter Tryz.func189, Tryz.ntmps189
  go_wp2_with (first | (go_at_call 193; refine (normalize_w _ _).mono ?_; rintro e w' ⟨r, m, n, rfl, rfl⟩) | (go_at_call 192; refine (copysign_w _ _ _).mono ?_; rintro e w' ⟨r, n, rfl, rfl⟩) | go_in)
  all_goals
    go_ret
    first | exact ⟨_, 0, rfl, rfl⟩ | exact ⟨_, _, rfl, rfl⟩

set_option maxHeartbeats 400000 in
theorem Ldexp_w (x : Nat) (m : Int) (w : World) : Calls Tryz.prog 181 #[.float .f64 x, .int .i64 m] w fun e w' => ∃ r n, e = .returned (.float .f64 r) ∧ w' = w.drewN n := by
  go_enter Tryz.func181, Tryz.ntmps181
  go_wp2_with (first | (go_at_call 189; refine (ldexp_w _ _ _).mono ?_; rintro e w' ⟨r, n, rfl, rfl⟩) | go_in)
  go_ret
  exact ⟨_, _, rfl, rfl⟩

set_option maxHeartbeats 1000000 in
theorem exp_w (x : Nat) (w : World) (hx : x < 4294967296) : Calls Tryz.prog 171 #[.float .f32 x] w fun e w' => ∃ r n, r < 4294967296 ∧ e = .returned (.float .f32 r) ∧ w' = w.drewN n := by
  cases h1 : (FloatKind.f32.format.order x x != some .eq) with
  | true =>
    go_enter Tryz.func171, Tryz.ntmps171
    go_wp2
    go_ret
    exact ⟨x, 0, hx, rfl, rfl⟩
  | false =>
    cases h2 : (FloatKind.f32.format.order x 1118961664 == some .gt) with
    | true =>
      go_enter Tryz.func171, Tryz.ntmps171
      go_wp2_with (first | (go_at_call 98; refine (from_any _ _).mono ?_; rintro e w' ⟨rfl, rfl⟩) | go_in)
      go_ret
      exact ⟨_, 0, fb_lt _, rfl, rfl⟩
    | false =>
      cases h3 : (FloatKind.f32.format.order x 3268542464 == some .lt) with
      | true =>
        go_enter Tryz.func171, Tryz.ntmps171
        go_wp2
        go_ret
        exact ⟨0, 0, by decide, rfl, rfl⟩
      | false =>
        go_enter Tryz.func171, Tryz.ntmps171
        go_wp2_with (first | (go_at_call 170; refine (floor_w _ _).mono ?_; rintro e w' ⟨kf, n1, rfl, rfl⟩) | fail)
        go_loopw [6, 7] (fun p i w' => ∃ (k r n : Nat), k ≤ 13 ∧ i = .int .i64 k ∧ p = .float .f64 r ∧ w' = w.drewN n) (fun _ i _ => (intOf i).toNat)
        case atStart => exact ⟨13, _, _, Nat.le_refl _, rfl, rfl, rfl⟩
        case round =>
          obtain ⟨k, r, n, hk, rfl, rfl, rfl⟩ := hrel
          by_cases hlt : 1 ≤ k
          · go_wp2
            go_roundw
            case rel => exact ⟨k - 1, _, _, by omega, by go_num, rfl, rfl⟩
            case measure => simp [intOf]; omega
          · go_wp2_with (first | (go_at_call 181; refine (Ldexp_w _ _ _).mono ?_; rintro e w' ⟨rl, nl, rfl, rfl⟩) | (go_at_call 98; refine (from_any _ _).mono ?_; rintro e w' ⟨rfl, rfl⟩) | go_in)
            all_goals
              go_ret
              first | exact ⟨_, _, fb_lt _, rfl, rfl⟩ | exact ⟨_, _, cval_lt _ _, rfl, rfl⟩
end Go.Proofs.YtfladhogkhhlcaaGreatDoor.Nu

/- The walks of sigmoid and tanh, and of Unary at the operators that round: each gives some float's bits, and draws some answers. -/
namespace Go.Proofs.YtfladhogkhhlcaaGreatDoor.Nu
open Go.RowKit
attribute [local go_sem] conv_up conv_down conv_int ext_bits64 ext_from64 ext_from ext_bits run_fadd run_fsub run_fmul run_fquo negF_eq

theorem bits_u32_lt (op : BinOp) (a b : Int) : (bits op .u32 a b).toNat < 4294967296 := by
  unfold bits
  rw [IntKind.wrap_u32']
  omega

set_option maxHeartbeats 400000 in
theorem sign_w (x y : Nat) (w : World) : Calls Tryz.prog 182 #[.float .f32 x, .float .f32 y] w fun e w' => ∃ r, r < 4294967296 ∧ e = .returned (.float .f32 r) ∧ w' = w := by
  go_enter Tryz.func182, Tryz.ntmps182
  go_wp2
  go_ret
  exact ⟨_, bits_u32_lt _ _ _, rfl, rfl⟩

set_option maxHeartbeats 400000 in
theorem sigmoid_w (x : Nat) (w : World) (hx : x < 4294967296) : Calls Tryz.prog 172 #[.float .f32 x] w fun e w' => ∃ r n, r < 4294967296 ∧ e = .returned (.float .f32 r) ∧ w' = w.drewN n := by
  have hn := negF_lt x hx
  go_enter Tryz.func172, Tryz.ntmps172
  go_wp2_with (first | (go_at_call 171; refine (exp_w _ _ hn).mono ?_; rintro e w' ⟨r, n, hr, rfl, rfl⟩) | go_in)
  go_ret
  exact ⟨_, _, fval_lt _ _ _ _, rfl, rfl⟩

set_option maxHeartbeats 1000000 in
theorem tanh_w (x : Nat) (w : World) (hx : x < 4294967296) : Calls Tryz.prog 173 #[.float .f32 x] w fun e w' => ∃ r n, r < 4294967296 ∧ e = .returned (.float .f32 r) ∧ w' = w.drewN n := by
  cases h1 : (FloatKind.f32.format.order (absF x) 1092616192 == some .gt) with
  | true =>
    go_enter Tryz.func173, Tryz.ntmps173
    go_wp2_with (first | (go_at_call 167; refine (absolute_any _ _ hx).mono ?_; rintro e w' ⟨rfl, rfl⟩) | (go_at_call 182; refine (sign_w _ _ _).mono ?_; rintro e w' ⟨rs, hs, rfl, rfl⟩) | go_in)
    go_ret
    exact ⟨_, 0, ‹_›, rfl, rfl⟩
  | false =>
    go_enter Tryz.func173, Tryz.ntmps173
    go_wp2_with (first | (go_at_call 167; refine (absolute_any _ _ hx).mono ?_; rintro e w' ⟨rfl, rfl⟩) | (go_at_call 171; refine (exp_w _ _ (fval_lt _ _ _ _)).mono ?_; rintro e w' ⟨r, n, hr, rfl, rfl⟩) | (go_at_call 182; refine (sign_w _ _ _).mono ?_; rintro e w' ⟨rs, hs, rfl, rfl⟩) | go_in)
    go_ret
    exact ⟨_, _, ‹_›, rfl, rfl⟩

set_option maxHeartbeats 400000 in
theorem round5_f (b : Nat) (w : World) (_hb : b < 4294967296) : Calls Tryz.prog 159 #[.string ⟨#[83, 113, 114, 116]⟩, .float .f32 b] w fun e w' => ∃ r n, r < 4294967296 ∧ e = .returned (.tuple #[.int .i64 (tob r), .int .i64 0]) ∧ w' = w.drewN n := by
  go_enter Tryz.func159, Tryz.ntmps159
  go_wp2_with (first | (go_at_call 169; refine (sqrt_w _ _).mono ?_; rintro e w' ⟨r, n, rfl, rfl⟩) | (go_at_call 134; refine (to_any _ _ (cval_lt _ _)).mono ?_; rintro e w' ⟨rfl, rfl⟩) | go_in)
  go_ret2
  exact ⟨_, _, cval_lt _ _, rfl, rfl⟩

set_option maxHeartbeats 400000 in
theorem round6_f (b : Nat) (w : World) (_hb : b < 4294967296) : Calls Tryz.prog 159 #[.string ⟨#[70, 108, 111, 111, 114]⟩, .float .f32 b] w fun e w' => ∃ r n, r < 4294967296 ∧ e = .returned (.tuple #[.int .i64 (tob r), .int .i64 0]) ∧ w' = w.drewN n := by
  go_enter Tryz.func159, Tryz.ntmps159
  go_wp2_with (first | (go_at_call 170; refine (floor_w _ _).mono ?_; rintro e w' ⟨r, n, rfl, rfl⟩) | (go_at_call 134; refine (to_any _ _ (cval_lt _ _)).mono ?_; rintro e w' ⟨rfl, rfl⟩) | go_in)
  go_ret2
  exact ⟨_, _, cval_lt _ _, rfl, rfl⟩

set_option maxHeartbeats 400000 in
theorem round7_f (b : Nat) (w : World) (hb : b < 4294967296) : Calls Tryz.prog 159 #[.string ⟨#[69, 120, 112]⟩, .float .f32 b] w fun e w' => ∃ r n, r < 4294967296 ∧ e = .returned (.tuple #[.int .i64 (tob r), .int .i64 0]) ∧ w' = w.drewN n := by
  go_enter Tryz.func159, Tryz.ntmps159
  go_wp2_with (first | (go_at_call 171; refine (exp_w _ _ hb).mono ?_; rintro e w' ⟨r, n, hr, rfl, rfl⟩) | (go_at_call 134; refine (to_any _ _ (by assumption)).mono ?_; rintro e w' ⟨rfl, rfl⟩) | go_in)
  go_ret2
  exact ⟨_, _, ‹_›, rfl, rfl⟩

set_option maxHeartbeats 400000 in
theorem round8_f (b : Nat) (w : World) (hb : b < 4294967296) : Calls Tryz.prog 159 #[.string ⟨#[83, 105, 103, 109, 111, 105, 100]⟩, .float .f32 b] w fun e w' => ∃ r n, r < 4294967296 ∧ e = .returned (.tuple #[.int .i64 (tob r), .int .i64 0]) ∧ w' = w.drewN n := by
  go_enter Tryz.func159, Tryz.ntmps159
  go_wp2_with (first | (go_at_call 172; refine (sigmoid_w _ _ hb).mono ?_; rintro e w' ⟨r, n, hr, rfl, rfl⟩) | (go_at_call 134; refine (to_any _ _ (by assumption)).mono ?_; rintro e w' ⟨rfl, rfl⟩) | go_in)
  go_ret2
  exact ⟨_, _, ‹_›, rfl, rfl⟩

set_option maxHeartbeats 400000 in
theorem round9_f (b : Nat) (w : World) (hb : b < 4294967296) : Calls Tryz.prog 159 #[.string ⟨#[84, 97, 110, 104]⟩, .float .f32 b] w fun e w' => ∃ r n, r < 4294967296 ∧ e = .returned (.tuple #[.int .i64 (tob r), .int .i64 0]) ∧ w' = w.drewN n := by
  go_enter Tryz.func159, Tryz.ntmps159
  go_wp2_with (first | (go_at_call 173; refine (tanh_w _ _ hb).mono ?_; rintro e w' ⟨r, n, hr, rfl, rfl⟩) | (go_at_call 134; refine (to_any _ _ (by assumption)).mono ?_; rintro e w' ⟨rfl, rfl⟩) | go_in)
  go_ret2
  exact ⟨_, _, ‹_›, rfl, rfl⟩

set_option maxHeartbeats 400000 in
theorem unary5_1 (x : Int) (w : World) (hx : chk 1 x = true) : Calls Tryz.prog 133 #[.string ⟨#[83, 113, 114, 116]⟩, .int .i64 1, .int .i64 x] w fun e w' => ∃ r n, r < 4294967296 ∧ e = .returned (.tuple #[.int .i64 (tob r), .int .i64 0]) ∧ w' = w.drewN n := by
  go_enter Tryz.func133, Tryz.ntmps133
  go_wp2_with (first | (go_at_call 67; refine (check_any _ _ _).mono ?_; rintro e w' ⟨rfl, rfl⟩) | (go_at_call 98; refine (from_any _ _).mono ?_; rintro e w' ⟨rfl, rfl⟩) | (go_at_call 159; refine (round5_f _ _ (fb_lt _)).mono ?_; rintro e w' ⟨r, n, hr, rfl, rfl⟩))
  go_ret2
  exact ⟨_, _, ‹_›, rfl, rfl⟩

set_option maxHeartbeats 400000 in
theorem unary6_1 (x : Int) (w : World) (hx : chk 1 x = true) : Calls Tryz.prog 133 #[.string ⟨#[70, 108, 111, 111, 114]⟩, .int .i64 1, .int .i64 x] w fun e w' => ∃ r n, r < 4294967296 ∧ e = .returned (.tuple #[.int .i64 (tob r), .int .i64 0]) ∧ w' = w.drewN n := by
  go_enter Tryz.func133, Tryz.ntmps133
  go_wp2_with (first | (go_at_call 67; refine (check_any _ _ _).mono ?_; rintro e w' ⟨rfl, rfl⟩) | (go_at_call 98; refine (from_any _ _).mono ?_; rintro e w' ⟨rfl, rfl⟩) | (go_at_call 159; refine (round6_f _ _ (fb_lt _)).mono ?_; rintro e w' ⟨r, n, hr, rfl, rfl⟩))
  go_ret2
  exact ⟨_, _, ‹_›, rfl, rfl⟩

set_option maxHeartbeats 400000 in
theorem unary7_1 (x : Int) (w : World) (hx : chk 1 x = true) : Calls Tryz.prog 133 #[.string ⟨#[69, 120, 112]⟩, .int .i64 1, .int .i64 x] w fun e w' => ∃ r n, r < 4294967296 ∧ e = .returned (.tuple #[.int .i64 (tob r), .int .i64 0]) ∧ w' = w.drewN n := by
  go_enter Tryz.func133, Tryz.ntmps133
  go_wp2_with (first | (go_at_call 67; refine (check_any _ _ _).mono ?_; rintro e w' ⟨rfl, rfl⟩) | (go_at_call 98; refine (from_any _ _).mono ?_; rintro e w' ⟨rfl, rfl⟩) | (go_at_call 159; refine (round7_f _ _ (fb_lt _)).mono ?_; rintro e w' ⟨r, n, hr, rfl, rfl⟩))
  go_ret2
  exact ⟨_, _, ‹_›, rfl, rfl⟩

set_option maxHeartbeats 400000 in
theorem unary8_1 (x : Int) (w : World) (hx : chk 1 x = true) : Calls Tryz.prog 133 #[.string ⟨#[83, 105, 103, 109, 111, 105, 100]⟩, .int .i64 1, .int .i64 x] w fun e w' => ∃ r n, r < 4294967296 ∧ e = .returned (.tuple #[.int .i64 (tob r), .int .i64 0]) ∧ w' = w.drewN n := by
  go_enter Tryz.func133, Tryz.ntmps133
  go_wp2_with (first | (go_at_call 67; refine (check_any _ _ _).mono ?_; rintro e w' ⟨rfl, rfl⟩) | (go_at_call 98; refine (from_any _ _).mono ?_; rintro e w' ⟨rfl, rfl⟩) | (go_at_call 159; refine (round8_f _ _ (fb_lt _)).mono ?_; rintro e w' ⟨r, n, hr, rfl, rfl⟩))
  go_ret2
  exact ⟨_, _, ‹_›, rfl, rfl⟩

set_option maxHeartbeats 400000 in
theorem unary9_1 (x : Int) (w : World) (hx : chk 1 x = true) : Calls Tryz.prog 133 #[.string ⟨#[84, 97, 110, 104]⟩, .int .i64 1, .int .i64 x] w fun e w' => ∃ r n, r < 4294967296 ∧ e = .returned (.tuple #[.int .i64 (tob r), .int .i64 0]) ∧ w' = w.drewN n := by
  go_enter Tryz.func133, Tryz.ntmps133
  go_wp2_with (first | (go_at_call 67; refine (check_any _ _ _).mono ?_; rintro e w' ⟨rfl, rfl⟩) | (go_at_call 98; refine (from_any _ _).mono ?_; rintro e w' ⟨rfl, rfl⟩) | (go_at_call 159; refine (round9_f _ _ (fb_lt _)).mono ?_; rintro e w' ⟨r, n, hr, rfl, rfl⟩))
  go_ret2
  exact ⟨_, _, ‹_›, rfl, rfl⟩

theorem wrapT_stays (t n : Int) (h : t = 6 ∨ t = 7) : chk t (wrapT t n) = true := by
  rcases h with rfl | rfl
  · have : -2147483648 ≤ wrapT 6 n ∧ wrapT 6 n ≤ 2147483647 := by
      simp only [wrapT, if_true]; unfold wrap64 wrap32; omega
    simpa [chk] using this
  · simp [chk]

theorem un_stays (k : Nat) (t x : Int) (hk : k < 5) : (un k t x).2 = 0 ∧ chk t (un k t x).1 = true ∨ (un k t x).2 = 1 := by
  cases hx : chk t x with
  | false => right; rw [un_no k t x hx]
  | true =>
    have hk' : k = 0 ∨ k = 1 ∨ k = 2 ∨ k = 3 ∨ k = 4 := by omega
    rcases chk_types t x hx with rfl | rfl | rfl | rfl
    · rcases hk' with rfl | rfl | rfl | rfl | rfl
      · rw [un_0 1 x hx]; exact .inl ⟨rfl, hx⟩
      · rw [un_1 1 x hx (by decide)]; exact .inl ⟨rfl, chk_tob _ (negF_lt _ (fb_lt x))⟩
      · rw [un_1 2 x hx (by decide)]; exact .inl ⟨rfl, chk_tob _ (absF_lt _)⟩
      · rw [un_1 3 x hx (by decide)]; exact .inr rfl
      · rw [un_1 4 x hx (by decide)]; exact .inl ⟨rfl, chk_tob _ (reluF_lt _ (fb_lt x))⟩
    · rcases hk' with rfl | rfl | rfl | rfl | rfl
      · rw [un_0 6 x hx]; exact .inl ⟨rfl, hx⟩
      · rw [un_6 1 x hx (by decide)]; exact .inl ⟨rfl, wrapT_stays 6 _ (by decide)⟩
      · rw [un_6 2 x hx (by decide)]
        refine .inl ⟨rfl, ?_⟩
        show chk 6 (absI 6 x) = true
        unfold absI; split
        · exact wrapT_stays 6 _ (by decide)
        · exact hx
      · rw [un_6 3 x hx (by decide)]; exact .inr rfl
      · rw [un_6 4 x hx (by decide)]; exact .inr rfl
    · rcases hk' with rfl | rfl | rfl | rfl | rfl
      · rw [un_0 7 x hx]; exact .inl ⟨rfl, hx⟩
      · rw [un_7 1 x hx (by decide)]; exact .inl ⟨rfl, wrapT_stays 7 _ (by decide)⟩
      · rw [un_7 2 x hx (by decide)]; exact .inl ⟨rfl, by simp [chk]⟩
      · rw [un_7 3 x hx (by decide)]; exact .inr rfl
      · rw [un_7 4 x hx (by decide)]; exact .inr rfl
    · rcases hk' with rfl | rfl | rfl | rfl | rfl
      · rw [un_0 9 x hx]; exact .inl ⟨rfl, hx⟩
      · rw [un_9 1 x hx (by decide)]; exact .inr rfl
      · rw [un_9 2 x hx (by decide)]; exact .inr rfl
      · rw [un_9 3 x hx (by decide)]
        refine .inl ⟨rfl, ?_⟩
        show chk 9 (1 - x) = true
        rcases chk9 x hx with rfl | rfl <;> decide
      · rw [un_9 4 x hx (by decide)]; exact .inr rfl

theorem stay_un0 (t x : Int) (w : World) : Calls Tryz.prog 133 #[.string ⟨#[73, 100, 101, 110, 116, 105, 116, 121]⟩, .int .i64 t, .int .i64 x] w fun e w' => ∃ (v c : Int) (n : Nat), (c = 0 ∧ chk t v = true ∨ c = 1) ∧ e = .returned (.tuple #[.int .i64 v, .int .i64 c]) ∧ w' = w.drewN n := by
  refine (unary0 t x w).mono ?_
  rintro e w' ⟨rfl, rfl⟩
  exact ⟨_, _, 0, un_stays 0 t x (by decide), rfl, rfl⟩

theorem stay_un1 (t x : Int) (w : World) : Calls Tryz.prog 133 #[.string ⟨#[78, 101, 103]⟩, .int .i64 t, .int .i64 x] w fun e w' => ∃ (v c : Int) (n : Nat), (c = 0 ∧ chk t v = true ∨ c = 1) ∧ e = .returned (.tuple #[.int .i64 v, .int .i64 c]) ∧ w' = w.drewN n := by
  refine (unary1 t x w).mono ?_
  rintro e w' ⟨rfl, rfl⟩
  exact ⟨_, _, 0, un_stays 1 t x (by decide), rfl, rfl⟩

theorem stay_un2 (t x : Int) (w : World) : Calls Tryz.prog 133 #[.string ⟨#[65, 98, 115]⟩, .int .i64 t, .int .i64 x] w fun e w' => ∃ (v c : Int) (n : Nat), (c = 0 ∧ chk t v = true ∨ c = 1) ∧ e = .returned (.tuple #[.int .i64 v, .int .i64 c]) ∧ w' = w.drewN n := by
  refine (unary2 t x w).mono ?_
  rintro e w' ⟨rfl, rfl⟩
  exact ⟨_, _, 0, un_stays 2 t x (by decide), rfl, rfl⟩

theorem stay_un3 (t x : Int) (w : World) : Calls Tryz.prog 133 #[.string ⟨#[78, 111, 116]⟩, .int .i64 t, .int .i64 x] w fun e w' => ∃ (v c : Int) (n : Nat), (c = 0 ∧ chk t v = true ∨ c = 1) ∧ e = .returned (.tuple #[.int .i64 v, .int .i64 c]) ∧ w' = w.drewN n := by
  refine (unary3 t x w).mono ?_
  rintro e w' ⟨rfl, rfl⟩
  exact ⟨_, _, 0, un_stays 3 t x (by decide), rfl, rfl⟩

theorem stay_un4 (t x : Int) (w : World) : Calls Tryz.prog 133 #[.string ⟨#[82, 101, 108, 117]⟩, .int .i64 t, .int .i64 x] w fun e w' => ∃ (v c : Int) (n : Nat), (c = 0 ∧ chk t v = true ∨ c = 1) ∧ e = .returned (.tuple #[.int .i64 v, .int .i64 c]) ∧ w' = w.drewN n := by
  refine (unary4 t x w).mono ?_
  rintro e w' ⟨rfl, rfl⟩
  exact ⟨_, _, 0, un_stays 4 t x (by decide), rfl, rfl⟩

theorem stay_un5 (t x : Int) (w : World) : Calls Tryz.prog 133 #[.string ⟨#[83, 113, 114, 116]⟩, .int .i64 t, .int .i64 x] w fun e w' => ∃ (v c : Int) (n : Nat), (c = 0 ∧ chk t v = true ∨ c = 1) ∧ e = .returned (.tuple #[.int .i64 v, .int .i64 c]) ∧ w' = w.drewN n := by
  cases hx : chk t x with
  | false =>
    refine (unary5_no t x w hx).mono ?_
    rintro e w' ⟨rfl, rfl⟩
    exact ⟨_, _, 0, .inr (by rw [un_no 5 t x hx]), rfl, rfl⟩
  | true =>
    rcases chk_types t x hx with rfl | rfl | rfl | rfl
    · refine (unary5_1 x w hx).mono ?_
      rintro e w' ⟨r, n, hr, rfl, rfl⟩
      exact ⟨_, _, n, .inl ⟨rfl, chk_tob r hr⟩, rfl, rfl⟩
    · refine (unary5_6 x w hx).mono ?_
      rintro e w' ⟨rfl, rfl⟩
      exact ⟨_, _, 0, .inr (by rw [un_6 5 x hx (by decide)]; rfl), rfl, rfl⟩
    · refine (unary5_7 x w hx).mono ?_
      rintro e w' ⟨rfl, rfl⟩
      exact ⟨_, _, 0, .inr (by rw [un_7 5 x hx (by decide)]; rfl), rfl, rfl⟩
    · refine (unary5_9 x w hx).mono ?_
      rintro e w' ⟨rfl, rfl⟩
      exact ⟨_, _, 0, .inr (by rw [un_9 5 x hx (by decide)]; rfl), rfl, rfl⟩

theorem stay_un6 (t x : Int) (w : World) : Calls Tryz.prog 133 #[.string ⟨#[70, 108, 111, 111, 114]⟩, .int .i64 t, .int .i64 x] w fun e w' => ∃ (v c : Int) (n : Nat), (c = 0 ∧ chk t v = true ∨ c = 1) ∧ e = .returned (.tuple #[.int .i64 v, .int .i64 c]) ∧ w' = w.drewN n := by
  cases hx : chk t x with
  | false =>
    refine (unary6_no t x w hx).mono ?_
    rintro e w' ⟨rfl, rfl⟩
    exact ⟨_, _, 0, .inr (by rw [un_no 6 t x hx]), rfl, rfl⟩
  | true =>
    rcases chk_types t x hx with rfl | rfl | rfl | rfl
    · refine (unary6_1 x w hx).mono ?_
      rintro e w' ⟨r, n, hr, rfl, rfl⟩
      exact ⟨_, _, n, .inl ⟨rfl, chk_tob r hr⟩, rfl, rfl⟩
    · refine (unary6_6 x w hx).mono ?_
      rintro e w' ⟨rfl, rfl⟩
      exact ⟨_, _, 0, .inr (by rw [un_6 6 x hx (by decide)]; rfl), rfl, rfl⟩
    · refine (unary6_7 x w hx).mono ?_
      rintro e w' ⟨rfl, rfl⟩
      exact ⟨_, _, 0, .inr (by rw [un_7 6 x hx (by decide)]; rfl), rfl, rfl⟩
    · refine (unary6_9 x w hx).mono ?_
      rintro e w' ⟨rfl, rfl⟩
      exact ⟨_, _, 0, .inr (by rw [un_9 6 x hx (by decide)]; rfl), rfl, rfl⟩

theorem stay_un7 (t x : Int) (w : World) : Calls Tryz.prog 133 #[.string ⟨#[69, 120, 112]⟩, .int .i64 t, .int .i64 x] w fun e w' => ∃ (v c : Int) (n : Nat), (c = 0 ∧ chk t v = true ∨ c = 1) ∧ e = .returned (.tuple #[.int .i64 v, .int .i64 c]) ∧ w' = w.drewN n := by
  cases hx : chk t x with
  | false =>
    refine (unary7_no t x w hx).mono ?_
    rintro e w' ⟨rfl, rfl⟩
    exact ⟨_, _, 0, .inr (by rw [un_no 7 t x hx]), rfl, rfl⟩
  | true =>
    rcases chk_types t x hx with rfl | rfl | rfl | rfl
    · refine (unary7_1 x w hx).mono ?_
      rintro e w' ⟨r, n, hr, rfl, rfl⟩
      exact ⟨_, _, n, .inl ⟨rfl, chk_tob r hr⟩, rfl, rfl⟩
    · refine (unary7_6 x w hx).mono ?_
      rintro e w' ⟨rfl, rfl⟩
      exact ⟨_, _, 0, .inr (by rw [un_6 7 x hx (by decide)]; rfl), rfl, rfl⟩
    · refine (unary7_7 x w hx).mono ?_
      rintro e w' ⟨rfl, rfl⟩
      exact ⟨_, _, 0, .inr (by rw [un_7 7 x hx (by decide)]; rfl), rfl, rfl⟩
    · refine (unary7_9 x w hx).mono ?_
      rintro e w' ⟨rfl, rfl⟩
      exact ⟨_, _, 0, .inr (by rw [un_9 7 x hx (by decide)]; rfl), rfl, rfl⟩

theorem stay_un8 (t x : Int) (w : World) : Calls Tryz.prog 133 #[.string ⟨#[83, 105, 103, 109, 111, 105, 100]⟩, .int .i64 t, .int .i64 x] w fun e w' => ∃ (v c : Int) (n : Nat), (c = 0 ∧ chk t v = true ∨ c = 1) ∧ e = .returned (.tuple #[.int .i64 v, .int .i64 c]) ∧ w' = w.drewN n := by
  cases hx : chk t x with
  | false =>
    refine (unary8_no t x w hx).mono ?_
    rintro e w' ⟨rfl, rfl⟩
    exact ⟨_, _, 0, .inr (by rw [un_no 8 t x hx]), rfl, rfl⟩
  | true =>
    rcases chk_types t x hx with rfl | rfl | rfl | rfl
    · refine (unary8_1 x w hx).mono ?_
      rintro e w' ⟨r, n, hr, rfl, rfl⟩
      exact ⟨_, _, n, .inl ⟨rfl, chk_tob r hr⟩, rfl, rfl⟩
    · refine (unary8_6 x w hx).mono ?_
      rintro e w' ⟨rfl, rfl⟩
      exact ⟨_, _, 0, .inr (by rw [un_6 8 x hx (by decide)]; rfl), rfl, rfl⟩
    · refine (unary8_7 x w hx).mono ?_
      rintro e w' ⟨rfl, rfl⟩
      exact ⟨_, _, 0, .inr (by rw [un_7 8 x hx (by decide)]; rfl), rfl, rfl⟩
    · refine (unary8_9 x w hx).mono ?_
      rintro e w' ⟨rfl, rfl⟩
      exact ⟨_, _, 0, .inr (by rw [un_9 8 x hx (by decide)]; rfl), rfl, rfl⟩

theorem stay_un9 (t x : Int) (w : World) : Calls Tryz.prog 133 #[.string ⟨#[84, 97, 110, 104]⟩, .int .i64 t, .int .i64 x] w fun e w' => ∃ (v c : Int) (n : Nat), (c = 0 ∧ chk t v = true ∨ c = 1) ∧ e = .returned (.tuple #[.int .i64 v, .int .i64 c]) ∧ w' = w.drewN n := by
  cases hx : chk t x with
  | false =>
    refine (unary9_no t x w hx).mono ?_
    rintro e w' ⟨rfl, rfl⟩
    exact ⟨_, _, 0, .inr (by rw [un_no 9 t x hx]), rfl, rfl⟩
  | true =>
    rcases chk_types t x hx with rfl | rfl | rfl | rfl
    · refine (unary9_1 x w hx).mono ?_
      rintro e w' ⟨r, n, hr, rfl, rfl⟩
      exact ⟨_, _, n, .inl ⟨rfl, chk_tob r hr⟩, rfl, rfl⟩
    · refine (unary9_6 x w hx).mono ?_
      rintro e w' ⟨rfl, rfl⟩
      exact ⟨_, _, 0, .inr (by rw [un_6 9 x hx (by decide)]; rfl), rfl, rfl⟩
    · refine (unary9_7 x w hx).mono ?_
      rintro e w' ⟨rfl, rfl⟩
      exact ⟨_, _, 0, .inr (by rw [un_7 9 x hx (by decide)]; rfl), rfl, rfl⟩
    · refine (unary9_9 x w hx).mono ?_
      rintro e w' ⟨rfl, rfl⟩
      exact ⟨_, _, 0, .inr (by rw [un_9 9 x hx (by decide)]; rfl), rfl, rfl⟩

end Go.Proofs.YtfladhogkhhlcaaGreatDoor.Nu
