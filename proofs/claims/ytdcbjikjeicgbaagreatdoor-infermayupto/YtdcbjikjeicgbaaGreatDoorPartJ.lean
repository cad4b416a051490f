/- Joined texts: NuWalkF, NuPlainU, NuWalkU. -/
import Derived.Test.YtdcbjikjeicgbaaGreatDoorPartI
/- The walks of package num's Binary, operator by operator, at any type and any numbers. -/
namespace Go.Proofs.YtdcbjikjeicgbaaGreatDoor.Nu
open Go.RowKit

theorem chk_types (t x : Int) (h : chk t x = true) : t = 1 ∨ t = 6 ∨ t = 7 ∨ t = 9 := by
  unfold chk at h
  split at h
  · omega
  · split at h
    · omega
    · split at h
      · omega
      · split at h
        · omega
        · cases h

theorem chk9 (x : Int) (h : chk 9 x = true) : x = 0 ∨ x = 1 := by simpa [chk] using h

theorem bin_nox (k : Nat) (t x y : Int) (h : chk t x = false) : bin k t x y = (0, 1) := by simp [bin, h]
theorem bin_noy (k : Nat) (t x y : Int) (h : chk t y = false) : bin k t x y = (0, 1) := by simp [bin, h]
theorem bin_1 (k : Nat) (x y : Int) (hx : chk 1 x = true) (hy : chk 1 y = true) : bin k 1 x y = binFl k (fb x) (fb y) := by simp [bin, hx, hy]
theorem bin_6 (k : Nat) (x y : Int) (hx : chk 6 x = true) (hy : chk 6 y = true) : bin k 6 x y = binIn k 6 x y := by simp [bin, hx, hy]
theorem bin_7 (k : Nat) (x y : Int) (hx : chk 7 x = true) (hy : chk 7 y = true) : bin k 7 x y = binIn k 7 x y := by simp [bin, hx, hy]
theorem bin_9 (k : Nat) (x y : Int) (hx : chk 9 x = true) (hy : chk 9 y = true) : bin k 9 x y = binBo k x y := by simp [bin, hx, hy]

set_option maxHeartbeats 400000 in
theorem binary0_no (t x y : Int) (w : World) (h : chk t x = false ∨ chk t x = true ∧ chk t y = false) : Calls Tryz.prog 173 #[.string ⟨#[65, 100, 100]⟩, .int .i64 t, .int .i64 x, .int .i64 y] w fun e w' => e = .returned (.tuple #[.int .i64 0, .int .i64 1]) ∧ ∃ n, w' = w.drewN n := by
  rcases h with hx | ⟨hx, hy⟩
  all_goals
    go_enter Tryz.func173, Tryz.ntmps173
    go_wp2_with (first | (go_at_call 168; refine (check_any _ _ _).mono ?_; rintro e w' ⟨rfl, rfl⟩))
    go_ret2
    exact ⟨rfl, 0, rfl⟩

set_option maxHeartbeats 400000 in
theorem binary0_1 (x y : Int) (w : World) (hx : chk 1 x = true) (hy : chk 1 y = true) : Calls Tryz.prog 173 #[.string ⟨#[65, 100, 100]⟩, .int .i64 1, .int .i64 x, .int .i64 y] w fun e w' => e = .returned (.tuple #[.int .i64 (bin 0 1 x y).1, .int .i64 (bin 0 1 x y).2]) ∧ ∃ n, w' = w.drewN n := by
  rw [bin_1 0 x y hx hy]
  go_enter Tryz.func173, Tryz.ntmps173
  go_wp2_with (first | (go_at_call 168; refine (check_any _ _ _).mono ?_; rintro e w' ⟨rfl, rfl⟩) | (go_at_call 191; refine (from_any _ _).mono ?_; rintro e w' ⟨rfl, rfl⟩) | (go_at_call 204; refine (add_f _ _ _).mono ?_; rintro e w' ⟨rfl, n, rfl⟩))
  go_ret2
  exact ⟨rfl, _, rfl⟩

set_option maxHeartbeats 400000 in
theorem binary0_6 (x y : Int) (w : World) (hx : chk 6 x = true) (hy : chk 6 y = true) : Calls Tryz.prog 173 #[.string ⟨#[65, 100, 100]⟩, .int .i64 6, .int .i64 x, .int .i64 y] w fun e w' => e = .returned (.tuple #[.int .i64 (bin 0 6 x y).1, .int .i64 (bin 0 6 x y).2]) ∧ ∃ n, w' = w.drewN n := by
  rw [bin_6 0 x y hx hy]
  go_enter Tryz.func173, Tryz.ntmps173
  go_wp2_with (first | (go_at_call 168; refine (check_any _ _ _).mono ?_; rintro e w' ⟨rfl, rfl⟩) | (go_at_call 205; refine (int0_f _ _ _ _).mono ?_; rintro e w' ⟨rfl, rfl⟩))
  go_ret2
  exact ⟨rfl, 0, rfl⟩

set_option maxHeartbeats 400000 in
theorem binary0_7 (x y : Int) (w : World) (hx : chk 7 x = true) (hy : chk 7 y = true) : Calls Tryz.prog 173 #[.string ⟨#[65, 100, 100]⟩, .int .i64 7, .int .i64 x, .int .i64 y] w fun e w' => e = .returned (.tuple #[.int .i64 (bin 0 7 x y).1, .int .i64 (bin 0 7 x y).2]) ∧ ∃ n, w' = w.drewN n := by
  rw [bin_7 0 x y hx hy]
  go_enter Tryz.func173, Tryz.ntmps173
  go_wp2_with (first | (go_at_call 168; refine (check_any _ _ _).mono ?_; rintro e w' ⟨rfl, rfl⟩) | (go_at_call 205; refine (int0_f _ _ _ _).mono ?_; rintro e w' ⟨rfl, rfl⟩))
  go_ret2
  exact ⟨rfl, 0, rfl⟩

set_option maxHeartbeats 400000 in
theorem binary0_9 (x y : Int) (w : World) (hx : chk 9 x = true) (hy : chk 9 y = true) : Calls Tryz.prog 173 #[.string ⟨#[65, 100, 100]⟩, .int .i64 9, .int .i64 x, .int .i64 y] w fun e w' => e = .returned (.tuple #[.int .i64 (bin 0 9 x y).1, .int .i64 (bin 0 9 x y).2]) ∧ ∃ n, w' = w.drewN n := by
  rw [bin_9 0 x y hx hy]
  go_enter Tryz.func173, Tryz.ntmps173
  go_wp2_with (first | (go_at_call 168; refine (check_any _ _ _).mono ?_; rintro e w' ⟨rfl, rfl⟩) | (go_at_call 206; refine (bool0_f _ _ _).mono ?_; rintro e w' ⟨rfl, rfl⟩))
  go_ret2
  exact ⟨rfl, 0, rfl⟩

theorem binary0 (t x y : Int) (w : World) : Calls Tryz.prog 173 #[.string ⟨#[65, 100, 100]⟩, .int .i64 t, .int .i64 x, .int .i64 y] w fun e w' => e = .returned (.tuple #[.int .i64 (bin 0 t x y).1, .int .i64 (bin 0 t x y).2]) ∧ ∃ n, w' = w.drewN n := by
  cases hx : chk t x with
  | false => rw [bin_nox 0 t x y hx]; exact binary0_no t x y w (.inl hx)
  | true =>
    cases hy : chk t y with
    | false => rw [bin_noy 0 t x y hy]; exact binary0_no t x y w (.inr ⟨hx, hy⟩)
    | true =>
      rcases chk_types t x hx with rfl | rfl | rfl | rfl
      · exact binary0_1 x y w hx hy
      · exact binary0_6 x y w hx hy
      · exact binary0_7 x y w hx hy
      · exact binary0_9 x y w hx hy

set_option maxHeartbeats 400000 in
theorem binary1_no (t x y : Int) (w : World) (h : chk t x = false ∨ chk t x = true ∧ chk t y = false) : Calls Tryz.prog 173 #[.string ⟨#[83, 117, 98]⟩, .int .i64 t, .int .i64 x, .int .i64 y] w fun e w' => e = .returned (.tuple #[.int .i64 0, .int .i64 1]) ∧ ∃ n, w' = w.drewN n := by
  rcases h with hx | ⟨hx, hy⟩
  all_goals
    go_enter Tryz.func173, Tryz.ntmps173
    go_wp2_with (first | (go_at_call 168; refine (check_any _ _ _).mono ?_; rintro e w' ⟨rfl, rfl⟩))
    go_ret2
    exact ⟨rfl, 0, rfl⟩

set_option maxHeartbeats 400000 in
theorem binary1_1 (x y : Int) (w : World) (hx : chk 1 x = true) (hy : chk 1 y = true) : Calls Tryz.prog 173 #[.string ⟨#[83, 117, 98]⟩, .int .i64 1, .int .i64 x, .int .i64 y] w fun e w' => e = .returned (.tuple #[.int .i64 (bin 1 1 x y).1, .int .i64 (bin 1 1 x y).2]) ∧ ∃ n, w' = w.drewN n := by
  rw [bin_1 1 x y hx hy]
  go_enter Tryz.func173, Tryz.ntmps173
  go_wp2_with (first | (go_at_call 168; refine (check_any _ _ _).mono ?_; rintro e w' ⟨rfl, rfl⟩) | (go_at_call 191; refine (from_any _ _).mono ?_; rintro e w' ⟨rfl, rfl⟩) | (go_at_call 204; refine (sub_f _ _ _).mono ?_; rintro e w' ⟨rfl, n, rfl⟩))
  go_ret2
  exact ⟨rfl, _, rfl⟩

set_option maxHeartbeats 400000 in
theorem binary1_6 (x y : Int) (w : World) (hx : chk 6 x = true) (hy : chk 6 y = true) : Calls Tryz.prog 173 #[.string ⟨#[83, 117, 98]⟩, .int .i64 6, .int .i64 x, .int .i64 y] w fun e w' => e = .returned (.tuple #[.int .i64 (bin 1 6 x y).1, .int .i64 (bin 1 6 x y).2]) ∧ ∃ n, w' = w.drewN n := by
  rw [bin_6 1 x y hx hy]
  go_enter Tryz.func173, Tryz.ntmps173
  go_wp2_with (first | (go_at_call 168; refine (check_any _ _ _).mono ?_; rintro e w' ⟨rfl, rfl⟩) | (go_at_call 205; refine (int1_f _ _ _ _).mono ?_; rintro e w' ⟨rfl, rfl⟩))
  go_ret2
  exact ⟨rfl, 0, rfl⟩

set_option maxHeartbeats 400000 in
theorem binary1_7 (x y : Int) (w : World) (hx : chk 7 x = true) (hy : chk 7 y = true) : Calls Tryz.prog 173 #[.string ⟨#[83, 117, 98]⟩, .int .i64 7, .int .i64 x, .int .i64 y] w fun e w' => e = .returned (.tuple #[.int .i64 (bin 1 7 x y).1, .int .i64 (bin 1 7 x y).2]) ∧ ∃ n, w' = w.drewN n := by
  rw [bin_7 1 x y hx hy]
  go_enter Tryz.func173, Tryz.ntmps173
  go_wp2_with (first | (go_at_call 168; refine (check_any _ _ _).mono ?_; rintro e w' ⟨rfl, rfl⟩) | (go_at_call 205; refine (int1_f _ _ _ _).mono ?_; rintro e w' ⟨rfl, rfl⟩))
  go_ret2
  exact ⟨rfl, 0, rfl⟩

set_option maxHeartbeats 400000 in
theorem binary1_9 (x y : Int) (w : World) (hx : chk 9 x = true) (hy : chk 9 y = true) : Calls Tryz.prog 173 #[.string ⟨#[83, 117, 98]⟩, .int .i64 9, .int .i64 x, .int .i64 y] w fun e w' => e = .returned (.tuple #[.int .i64 (bin 1 9 x y).1, .int .i64 (bin 1 9 x y).2]) ∧ ∃ n, w' = w.drewN n := by
  rw [bin_9 1 x y hx hy]
  go_enter Tryz.func173, Tryz.ntmps173
  go_wp2_with (first | (go_at_call 168; refine (check_any _ _ _).mono ?_; rintro e w' ⟨rfl, rfl⟩) | (go_at_call 206; refine (bool1_f _ _ _).mono ?_; rintro e w' ⟨rfl, rfl⟩))
  go_ret2
  exact ⟨rfl, 0, rfl⟩

theorem binary1 (t x y : Int) (w : World) : Calls Tryz.prog 173 #[.string ⟨#[83, 117, 98]⟩, .int .i64 t, .int .i64 x, .int .i64 y] w fun e w' => e = .returned (.tuple #[.int .i64 (bin 1 t x y).1, .int .i64 (bin 1 t x y).2]) ∧ ∃ n, w' = w.drewN n := by
  cases hx : chk t x with
  | false => rw [bin_nox 1 t x y hx]; exact binary1_no t x y w (.inl hx)
  | true =>
    cases hy : chk t y with
    | false => rw [bin_noy 1 t x y hy]; exact binary1_no t x y w (.inr ⟨hx, hy⟩)
    | true =>
      rcases chk_types t x hx with rfl | rfl | rfl | rfl
      · exact binary1_1 x y w hx hy
      · exact binary1_6 x y w hx hy
      · exact binary1_7 x y w hx hy
      · exact binary1_9 x y w hx hy

set_option maxHeartbeats 400000 in
theorem binary2_no (t x y : Int) (w : World) (h : chk t x = false ∨ chk t x = true ∧ chk t y = false) : Calls Tryz.prog 173 #[.string ⟨#[77, 117, 108]⟩, .int .i64 t, .int .i64 x, .int .i64 y] w fun e w' => e = .returned (.tuple #[.int .i64 0, .int .i64 1]) ∧ ∃ n, w' = w.drewN n := by
  rcases h with hx | ⟨hx, hy⟩
  all_goals
    go_enter Tryz.func173, Tryz.ntmps173
    go_wp2_with (first | (go_at_call 168; refine (check_any _ _ _).mono ?_; rintro e w' ⟨rfl, rfl⟩))
    go_ret2
    exact ⟨rfl, 0, rfl⟩

set_option maxHeartbeats 400000 in
theorem binary2_1 (x y : Int) (w : World) (hx : chk 1 x = true) (hy : chk 1 y = true) : Calls Tryz.prog 173 #[.string ⟨#[77, 117, 108]⟩, .int .i64 1, .int .i64 x, .int .i64 y] w fun e w' => e = .returned (.tuple #[.int .i64 (bin 2 1 x y).1, .int .i64 (bin 2 1 x y).2]) ∧ ∃ n, w' = w.drewN n := by
  rw [bin_1 2 x y hx hy]
  go_enter Tryz.func173, Tryz.ntmps173
  go_wp2_with (first | (go_at_call 168; refine (check_any _ _ _).mono ?_; rintro e w' ⟨rfl, rfl⟩) | (go_at_call 191; refine (from_any _ _).mono ?_; rintro e w' ⟨rfl, rfl⟩) | (go_at_call 204; refine (mul_f _ _ _).mono ?_; rintro e w' ⟨rfl, n, rfl⟩))
  go_ret2
  exact ⟨rfl, _, rfl⟩

set_option maxHeartbeats 400000 in
theorem binary2_6 (x y : Int) (w : World) (hx : chk 6 x = true) (hy : chk 6 y = true) : Calls Tryz.prog 173 #[.string ⟨#[77, 117, 108]⟩, .int .i64 6, .int .i64 x, .int .i64 y] w fun e w' => e = .returned (.tuple #[.int .i64 (bin 2 6 x y).1, .int .i64 (bin 2 6 x y).2]) ∧ ∃ n, w' = w.drewN n := by
  rw [bin_6 2 x y hx hy]
  go_enter Tryz.func173, Tryz.ntmps173
  go_wp2_with (first | (go_at_call 168; refine (check_any _ _ _).mono ?_; rintro e w' ⟨rfl, rfl⟩) | (go_at_call 205; refine (int2_f _ _ _ _).mono ?_; rintro e w' ⟨rfl, rfl⟩))
  go_ret2
  exact ⟨rfl, 0, rfl⟩

set_option maxHeartbeats 400000 in
theorem binary2_7 (x y : Int) (w : World) (hx : chk 7 x = true) (hy : chk 7 y = true) : Calls Tryz.prog 173 #[.string ⟨#[77, 117, 108]⟩, .int .i64 7, .int .i64 x, .int .i64 y] w fun e w' => e = .returned (.tuple #[.int .i64 (bin 2 7 x y).1, .int .i64 (bin 2 7 x y).2]) ∧ ∃ n, w' = w.drewN n := by
  rw [bin_7 2 x y hx hy]
  go_enter Tryz.func173, Tryz.ntmps173
  go_wp2_with (first | (go_at_call 168; refine (check_any _ _ _).mono ?_; rintro e w' ⟨rfl, rfl⟩) | (go_at_call 205; refine (int2_f _ _ _ _).mono ?_; rintro e w' ⟨rfl, rfl⟩))
  go_ret2
  exact ⟨rfl, 0, rfl⟩

set_option maxHeartbeats 400000 in
theorem binary2_9 (x y : Int) (w : World) (hx : chk 9 x = true) (hy : chk 9 y = true) : Calls Tryz.prog 173 #[.string ⟨#[77, 117, 108]⟩, .int .i64 9, .int .i64 x, .int .i64 y] w fun e w' => e = .returned (.tuple #[.int .i64 (bin 2 9 x y).1, .int .i64 (bin 2 9 x y).2]) ∧ ∃ n, w' = w.drewN n := by
  rw [bin_9 2 x y hx hy]
  go_enter Tryz.func173, Tryz.ntmps173
  go_wp2_with (first | (go_at_call 168; refine (check_any _ _ _).mono ?_; rintro e w' ⟨rfl, rfl⟩) | (go_at_call 206; refine (bool2_f _ _ _).mono ?_; rintro e w' ⟨rfl, rfl⟩))
  go_ret2
  exact ⟨rfl, 0, rfl⟩

theorem binary2 (t x y : Int) (w : World) : Calls Tryz.prog 173 #[.string ⟨#[77, 117, 108]⟩, .int .i64 t, .int .i64 x, .int .i64 y] w fun e w' => e = .returned (.tuple #[.int .i64 (bin 2 t x y).1, .int .i64 (bin 2 t x y).2]) ∧ ∃ n, w' = w.drewN n := by
  cases hx : chk t x with
  | false => rw [bin_nox 2 t x y hx]; exact binary2_no t x y w (.inl hx)
  | true =>
    cases hy : chk t y with
    | false => rw [bin_noy 2 t x y hy]; exact binary2_no t x y w (.inr ⟨hx, hy⟩)
    | true =>
      rcases chk_types t x hx with rfl | rfl | rfl | rfl
      · exact binary2_1 x y w hx hy
      · exact binary2_6 x y w hx hy
      · exact binary2_7 x y w hx hy
      · exact binary2_9 x y w hx hy

set_option maxHeartbeats 400000 in
theorem binary3_no (t x y : Int) (w : World) (h : chk t x = false ∨ chk t x = true ∧ chk t y = false) : Calls Tryz.prog 173 #[.string ⟨#[68, 105, 118]⟩, .int .i64 t, .int .i64 x, .int .i64 y] w fun e w' => e = .returned (.tuple #[.int .i64 0, .int .i64 1]) ∧ ∃ n, w' = w.drewN n := by
  rcases h with hx | ⟨hx, hy⟩
  all_goals
    go_enter Tryz.func173, Tryz.ntmps173
    go_wp2_with (first | (go_at_call 168; refine (check_any _ _ _).mono ?_; rintro e w' ⟨rfl, rfl⟩))
    go_ret2
    exact ⟨rfl, 0, rfl⟩

set_option maxHeartbeats 400000 in
theorem binary3_1 (x y : Int) (w : World) (hx : chk 1 x = true) (hy : chk 1 y = true) : Calls Tryz.prog 173 #[.string ⟨#[68, 105, 118]⟩, .int .i64 1, .int .i64 x, .int .i64 y] w fun e w' => e = .returned (.tuple #[.int .i64 (bin 3 1 x y).1, .int .i64 (bin 3 1 x y).2]) ∧ ∃ n, w' = w.drewN n := by
  rw [bin_1 3 x y hx hy]
  go_enter Tryz.func173, Tryz.ntmps173
  go_wp2_with (first | (go_at_call 168; refine (check_any _ _ _).mono ?_; rintro e w' ⟨rfl, rfl⟩) | (go_at_call 191; refine (from_any _ _).mono ?_; rintro e w' ⟨rfl, rfl⟩) | (go_at_call 204; refine (div_f _ _ _).mono ?_; rintro e w' ⟨rfl, n, rfl⟩))
  go_ret2
  exact ⟨rfl, _, rfl⟩

set_option maxHeartbeats 400000 in
theorem binary3_6 (x y : Int) (w : World) (hx : chk 6 x = true) (hy : chk 6 y = true) : Calls Tryz.prog 173 #[.string ⟨#[68, 105, 118]⟩, .int .i64 6, .int .i64 x, .int .i64 y] w fun e w' => e = .returned (.tuple #[.int .i64 (bin 3 6 x y).1, .int .i64 (bin 3 6 x y).2]) ∧ ∃ n, w' = w.drewN n := by
  rw [bin_6 3 x y hx hy]
  cases h0 : (y == 0) with
  | true =>
    have e0 : binIn 3 6 x y = (0, 7) := by simp at h0; simp [binIn, h0]
    rw [e0]; clear e0
    go_enter Tryz.func173, Tryz.ntmps173
    go_wp2_with (first | (go_at_call 168; refine (check_any _ _ _).mono ?_; rintro e w' ⟨rfl, rfl⟩) | (go_at_call 205; refine (int3_no _ _ _ _ h0).mono ?_; rintro e w' ⟨rfl, rfl⟩))
    go_ret2
    exact ⟨rfl, 0, rfl⟩
  | false =>
    have e0 : binIn 3 6 x y = (wrapT 6 (wrap64 (x.tdiv y)), 0) := by simp at h0; simp [binIn, h0]
    rw [e0]; clear e0
    go_enter Tryz.func173, Tryz.ntmps173
    go_wp2_with (first | (go_at_call 168; refine (check_any _ _ _).mono ?_; rintro e w' ⟨rfl, rfl⟩) | (go_at_call 205; refine (int3_yes _ _ _ _ h0).mono ?_; rintro e w' ⟨rfl, rfl⟩))
    go_ret2
    exact ⟨rfl, 0, rfl⟩

set_option maxHeartbeats 400000 in
theorem binary3_7 (x y : Int) (w : World) (hx : chk 7 x = true) (hy : chk 7 y = true) : Calls Tryz.prog 173 #[.string ⟨#[68, 105, 118]⟩, .int .i64 7, .int .i64 x, .int .i64 y] w fun e w' => e = .returned (.tuple #[.int .i64 (bin 3 7 x y).1, .int .i64 (bin 3 7 x y).2]) ∧ ∃ n, w' = w.drewN n := by
  rw [bin_7 3 x y hx hy]
  cases h0 : (y == 0) with
  | true =>
    have e0 : binIn 3 7 x y = (0, 7) := by simp at h0; simp [binIn, h0]
    rw [e0]; clear e0
    go_enter Tryz.func173, Tryz.ntmps173
    go_wp2_with (first | (go_at_call 168; refine (check_any _ _ _).mono ?_; rintro e w' ⟨rfl, rfl⟩) | (go_at_call 205; refine (int3_no _ _ _ _ h0).mono ?_; rintro e w' ⟨rfl, rfl⟩))
    go_ret2
    exact ⟨rfl, 0, rfl⟩
  | false =>
    have e0 : binIn 3 7 x y = (wrapT 7 (wrap64 (x.tdiv y)), 0) := by simp at h0; simp [binIn, h0]
    rw [e0]; clear e0
    go_enter Tryz.func173, Tryz.ntmps173
    go_wp2_with (first | (go_at_call 168; refine (check_any _ _ _).mono ?_; rintro e w' ⟨rfl, rfl⟩) | (go_at_call 205; refine (int3_yes _ _ _ _ h0).mono ?_; rintro e w' ⟨rfl, rfl⟩))
    go_ret2
    exact ⟨rfl, 0, rfl⟩

set_option maxHeartbeats 400000 in
theorem binary3_9 (x y : Int) (w : World) (hx : chk 9 x = true) (hy : chk 9 y = true) : Calls Tryz.prog 173 #[.string ⟨#[68, 105, 118]⟩, .int .i64 9, .int .i64 x, .int .i64 y] w fun e w' => e = .returned (.tuple #[.int .i64 (bin 3 9 x y).1, .int .i64 (bin 3 9 x y).2]) ∧ ∃ n, w' = w.drewN n := by
  rw [bin_9 3 x y hx hy]
  go_enter Tryz.func173, Tryz.ntmps173
  go_wp2_with (first | (go_at_call 168; refine (check_any _ _ _).mono ?_; rintro e w' ⟨rfl, rfl⟩) | (go_at_call 206; refine (bool3_f _ _ _).mono ?_; rintro e w' ⟨rfl, rfl⟩))
  go_ret2
  exact ⟨rfl, 0, rfl⟩

theorem binary3 (t x y : Int) (w : World) : Calls Tryz.prog 173 #[.string ⟨#[68, 105, 118]⟩, .int .i64 t, .int .i64 x, .int .i64 y] w fun e w' => e = .returned (.tuple #[.int .i64 (bin 3 t x y).1, .int .i64 (bin 3 t x y).2]) ∧ ∃ n, w' = w.drewN n := by
  cases hx : chk t x with
  | false => rw [bin_nox 3 t x y hx]; exact binary3_no t x y w (.inl hx)
  | true =>
    cases hy : chk t y with
    | false => rw [bin_noy 3 t x y hy]; exact binary3_no t x y w (.inr ⟨hx, hy⟩)
    | true =>
      rcases chk_types t x hx with rfl | rfl | rfl | rfl
      · exact binary3_1 x y w hx hy
      · exact binary3_6 x y w hx hy
      · exact binary3_7 x y w hx hy
      · exact binary3_9 x y w hx hy

set_option maxHeartbeats 400000 in
theorem binary4_no (t x y : Int) (w : World) (h : chk t x = false ∨ chk t x = true ∧ chk t y = false) : Calls Tryz.prog 173 #[.string ⟨#[77, 97, 120]⟩, .int .i64 t, .int .i64 x, .int .i64 y] w fun e w' => e = .returned (.tuple #[.int .i64 0, .int .i64 1]) ∧ ∃ n, w' = w.drewN n := by
  rcases h with hx | ⟨hx, hy⟩
  all_goals
    go_enter Tryz.func173, Tryz.ntmps173
    go_wp2_with (first | (go_at_call 168; refine (check_any _ _ _).mono ?_; rintro e w' ⟨rfl, rfl⟩))
    go_ret2
    exact ⟨rfl, 0, rfl⟩

set_option maxHeartbeats 400000 in
theorem binary4_1 (x y : Int) (w : World) (hx : chk 1 x = true) (hy : chk 1 y = true) : Calls Tryz.prog 173 #[.string ⟨#[77, 97, 120]⟩, .int .i64 1, .int .i64 x, .int .i64 y] w fun e w' => e = .returned (.tuple #[.int .i64 (bin 4 1 x y).1, .int .i64 (bin 4 1 x y).2]) ∧ ∃ n, w' = w.drewN n := by
  rw [bin_1 4 x y hx hy]
  go_enter Tryz.func173, Tryz.ntmps173
  go_wp2_with (first | (go_at_call 168; refine (check_any _ _ _).mono ?_; rintro e w' ⟨rfl, rfl⟩) | (go_at_call 191; refine (from_any _ _).mono ?_; rintro e w' ⟨rfl, rfl⟩) | (go_at_call 204; refine (max_f _ _ _ (fb_lt _) (fb_lt _)).mono ?_; rintro e w' ⟨rfl, n, rfl⟩))
  go_ret2
  exact ⟨rfl, _, rfl⟩

set_option maxHeartbeats 400000 in
theorem binary4_6 (x y : Int) (w : World) (hx : chk 6 x = true) (hy : chk 6 y = true) : Calls Tryz.prog 173 #[.string ⟨#[77, 97, 120]⟩, .int .i64 6, .int .i64 x, .int .i64 y] w fun e w' => e = .returned (.tuple #[.int .i64 (bin 4 6 x y).1, .int .i64 (bin 4 6 x y).2]) ∧ ∃ n, w' = w.drewN n := by
  rw [bin_6 4 x y hx hy]
  go_enter Tryz.func173, Tryz.ntmps173
  go_wp2_with (first | (go_at_call 168; refine (check_any _ _ _).mono ?_; rintro e w' ⟨rfl, rfl⟩) | (go_at_call 205; refine (int4_f _ _ _ _).mono ?_; rintro e w' ⟨rfl, rfl⟩))
  go_ret2
  exact ⟨rfl, 0, rfl⟩

set_option maxHeartbeats 400000 in
theorem binary4_7 (x y : Int) (w : World) (hx : chk 7 x = true) (hy : chk 7 y = true) : Calls Tryz.prog 173 #[.string ⟨#[77, 97, 120]⟩, .int .i64 7, .int .i64 x, .int .i64 y] w fun e w' => e = .returned (.tuple #[.int .i64 (bin 4 7 x y).1, .int .i64 (bin 4 7 x y).2]) ∧ ∃ n, w' = w.drewN n := by
  rw [bin_7 4 x y hx hy]
  go_enter Tryz.func173, Tryz.ntmps173
  go_wp2_with (first | (go_at_call 168; refine (check_any _ _ _).mono ?_; rintro e w' ⟨rfl, rfl⟩) | (go_at_call 205; refine (int4_f _ _ _ _).mono ?_; rintro e w' ⟨rfl, rfl⟩))
  go_ret2
  exact ⟨rfl, 0, rfl⟩

set_option maxHeartbeats 400000 in
theorem binary4_9 (x y : Int) (w : World) (hx : chk 9 x = true) (hy : chk 9 y = true) : Calls Tryz.prog 173 #[.string ⟨#[77, 97, 120]⟩, .int .i64 9, .int .i64 x, .int .i64 y] w fun e w' => e = .returned (.tuple #[.int .i64 (bin 4 9 x y).1, .int .i64 (bin 4 9 x y).2]) ∧ ∃ n, w' = w.drewN n := by
  rw [bin_9 4 x y hx hy]
  go_enter Tryz.func173, Tryz.ntmps173
  go_wp2_with (first | (go_at_call 168; refine (check_any _ _ _).mono ?_; rintro e w' ⟨rfl, rfl⟩) | (go_at_call 206; refine (bool4_f _ _ _).mono ?_; rintro e w' ⟨rfl, rfl⟩))
  go_ret2
  exact ⟨rfl, 0, rfl⟩

theorem binary4 (t x y : Int) (w : World) : Calls Tryz.prog 173 #[.string ⟨#[77, 97, 120]⟩, .int .i64 t, .int .i64 x, .int .i64 y] w fun e w' => e = .returned (.tuple #[.int .i64 (bin 4 t x y).1, .int .i64 (bin 4 t x y).2]) ∧ ∃ n, w' = w.drewN n := by
  cases hx : chk t x with
  | false => rw [bin_nox 4 t x y hx]; exact binary4_no t x y w (.inl hx)
  | true =>
    cases hy : chk t y with
    | false => rw [bin_noy 4 t x y hy]; exact binary4_no t x y w (.inr ⟨hx, hy⟩)
    | true =>
      rcases chk_types t x hx with rfl | rfl | rfl | rfl
      · exact binary4_1 x y w hx hy
      · exact binary4_6 x y w hx hy
      · exact binary4_7 x y w hx hy
      · exact binary4_9 x y w hx hy

set_option maxHeartbeats 400000 in
theorem binary5_no (t x y : Int) (w : World) (h : chk t x = false ∨ chk t x = true ∧ chk t y = false) : Calls Tryz.prog 173 #[.string ⟨#[77, 105, 110]⟩, .int .i64 t, .int .i64 x, .int .i64 y] w fun e w' => e = .returned (.tuple #[.int .i64 0, .int .i64 1]) ∧ ∃ n, w' = w.drewN n := by
  rcases h with hx | ⟨hx, hy⟩
  all_goals
    go_enter Tryz.func173, Tryz.ntmps173
    go_wp2_with (first | (go_at_call 168; refine (check_any _ _ _).mono ?_; rintro e w' ⟨rfl, rfl⟩))
    go_ret2
    exact ⟨rfl, 0, rfl⟩

set_option maxHeartbeats 400000 in
theorem binary5_1 (x y : Int) (w : World) (hx : chk 1 x = true) (hy : chk 1 y = true) : Calls Tryz.prog 173 #[.string ⟨#[77, 105, 110]⟩, .int .i64 1, .int .i64 x, .int .i64 y] w fun e w' => e = .returned (.tuple #[.int .i64 (bin 5 1 x y).1, .int .i64 (bin 5 1 x y).2]) ∧ ∃ n, w' = w.drewN n := by
  rw [bin_1 5 x y hx hy]
  go_enter Tryz.func173, Tryz.ntmps173
  go_wp2_with (first | (go_at_call 168; refine (check_any _ _ _).mono ?_; rintro e w' ⟨rfl, rfl⟩) | (go_at_call 191; refine (from_any _ _).mono ?_; rintro e w' ⟨rfl, rfl⟩) | (go_at_call 204; refine (min_f _ _ _ (fb_lt _) (fb_lt _)).mono ?_; rintro e w' ⟨rfl, n, rfl⟩))
  go_ret2
  exact ⟨rfl, _, rfl⟩

set_option maxHeartbeats 400000 in
theorem binary5_6 (x y : Int) (w : World) (hx : chk 6 x = true) (hy : chk 6 y = true) : Calls Tryz.prog 173 #[.string ⟨#[77, 105, 110]⟩, .int .i64 6, .int .i64 x, .int .i64 y] w fun e w' => e = .returned (.tuple #[.int .i64 (bin 5 6 x y).1, .int .i64 (bin 5 6 x y).2]) ∧ ∃ n, w' = w.drewN n := by
  rw [bin_6 5 x y hx hy]
  go_enter Tryz.func173, Tryz.ntmps173
  go_wp2_with (first | (go_at_call 168; refine (check_any _ _ _).mono ?_; rintro e w' ⟨rfl, rfl⟩) | (go_at_call 205; refine (int5_f _ _ _ _).mono ?_; rintro e w' ⟨rfl, rfl⟩))
  go_ret2
  exact ⟨rfl, 0, rfl⟩

set_option maxHeartbeats 400000 in
theorem binary5_7 (x y : Int) (w : World) (hx : chk 7 x = true) (hy : chk 7 y = true) : Calls Tryz.prog 173 #[.string ⟨#[77, 105, 110]⟩, .int .i64 7, .int .i64 x, .int .i64 y] w fun e w' => e = .returned (.tuple #[.int .i64 (bin 5 7 x y).1, .int .i64 (bin 5 7 x y).2]) ∧ ∃ n, w' = w.drewN n := by
  rw [bin_7 5 x y hx hy]
  go_enter Tryz.func173, Tryz.ntmps173
  go_wp2_with (first | (go_at_call 168; refine (check_any _ _ _).mono ?_; rintro e w' ⟨rfl, rfl⟩) | (go_at_call 205; refine (int5_f _ _ _ _).mono ?_; rintro e w' ⟨rfl, rfl⟩))
  go_ret2
  exact ⟨rfl, 0, rfl⟩

set_option maxHeartbeats 400000 in
theorem binary5_9 (x y : Int) (w : World) (hx : chk 9 x = true) (hy : chk 9 y = true) : Calls Tryz.prog 173 #[.string ⟨#[77, 105, 110]⟩, .int .i64 9, .int .i64 x, .int .i64 y] w fun e w' => e = .returned (.tuple #[.int .i64 (bin 5 9 x y).1, .int .i64 (bin 5 9 x y).2]) ∧ ∃ n, w' = w.drewN n := by
  rw [bin_9 5 x y hx hy]
  go_enter Tryz.func173, Tryz.ntmps173
  go_wp2_with (first | (go_at_call 168; refine (check_any _ _ _).mono ?_; rintro e w' ⟨rfl, rfl⟩) | (go_at_call 206; refine (bool5_f _ _ _).mono ?_; rintro e w' ⟨rfl, rfl⟩))
  go_ret2
  exact ⟨rfl, 0, rfl⟩

theorem binary5 (t x y : Int) (w : World) : Calls Tryz.prog 173 #[.string ⟨#[77, 105, 110]⟩, .int .i64 t, .int .i64 x, .int .i64 y] w fun e w' => e = .returned (.tuple #[.int .i64 (bin 5 t x y).1, .int .i64 (bin 5 t x y).2]) ∧ ∃ n, w' = w.drewN n := by
  cases hx : chk t x with
  | false => rw [bin_nox 5 t x y hx]; exact binary5_no t x y w (.inl hx)
  | true =>
    cases hy : chk t y with
    | false => rw [bin_noy 5 t x y hy]; exact binary5_no t x y w (.inr ⟨hx, hy⟩)
    | true =>
      rcases chk_types t x hx with rfl | rfl | rfl | rfl
      · exact binary5_1 x y w hx hy
      · exact binary5_6 x y w hx hy
      · exact binary5_7 x y w hx hy
      · exact binary5_9 x y w hx hy

set_option maxHeartbeats 400000 in
theorem binary6_no (t x y : Int) (w : World) (h : chk t x = false ∨ chk t x = true ∧ chk t y = false) : Calls Tryz.prog 173 #[.string ⟨#[65, 110, 100]⟩, .int .i64 t, .int .i64 x, .int .i64 y] w fun e w' => e = .returned (.tuple #[.int .i64 0, .int .i64 1]) ∧ ∃ n, w' = w.drewN n := by
  rcases h with hx | ⟨hx, hy⟩
  all_goals
    go_enter Tryz.func173, Tryz.ntmps173
    go_wp2_with (first | (go_at_call 168; refine (check_any _ _ _).mono ?_; rintro e w' ⟨rfl, rfl⟩))
    go_ret2
    exact ⟨rfl, 0, rfl⟩

set_option maxHeartbeats 400000 in
theorem binary6_1 (x y : Int) (w : World) (hx : chk 1 x = true) (hy : chk 1 y = true) : Calls Tryz.prog 173 #[.string ⟨#[65, 110, 100]⟩, .int .i64 1, .int .i64 x, .int .i64 y] w fun e w' => e = .returned (.tuple #[.int .i64 (bin 6 1 x y).1, .int .i64 (bin 6 1 x y).2]) ∧ ∃ n, w' = w.drewN n := by
  rw [bin_1 6 x y hx hy]
  go_enter Tryz.func173, Tryz.ntmps173
  go_wp2_with (first | (go_at_call 168; refine (check_any _ _ _).mono ?_; rintro e w' ⟨rfl, rfl⟩) | (go_at_call 191; refine (from_any _ _).mono ?_; rintro e w' ⟨rfl, rfl⟩) | (go_at_call 204; refine (no6_f _ _ _).mono ?_; rintro e w' ⟨rfl, n, rfl⟩))
  go_ret2
  exact ⟨rfl, _, rfl⟩

set_option maxHeartbeats 400000 in
theorem binary6_6 (x y : Int) (w : World) (hx : chk 6 x = true) (hy : chk 6 y = true) : Calls Tryz.prog 173 #[.string ⟨#[65, 110, 100]⟩, .int .i64 6, .int .i64 x, .int .i64 y] w fun e w' => e = .returned (.tuple #[.int .i64 (bin 6 6 x y).1, .int .i64 (bin 6 6 x y).2]) ∧ ∃ n, w' = w.drewN n := by
  rw [bin_6 6 x y hx hy]
  go_enter Tryz.func173, Tryz.ntmps173
  go_wp2_with (first | (go_at_call 168; refine (check_any _ _ _).mono ?_; rintro e w' ⟨rfl, rfl⟩) | (go_at_call 205; refine (int6_f _ _ _ _).mono ?_; rintro e w' ⟨rfl, rfl⟩))
  go_ret2
  exact ⟨rfl, 0, rfl⟩

set_option maxHeartbeats 400000 in
theorem binary6_7 (x y : Int) (w : World) (hx : chk 7 x = true) (hy : chk 7 y = true) : Calls Tryz.prog 173 #[.string ⟨#[65, 110, 100]⟩, .int .i64 7, .int .i64 x, .int .i64 y] w fun e w' => e = .returned (.tuple #[.int .i64 (bin 6 7 x y).1, .int .i64 (bin 6 7 x y).2]) ∧ ∃ n, w' = w.drewN n := by
  rw [bin_7 6 x y hx hy]
  go_enter Tryz.func173, Tryz.ntmps173
  go_wp2_with (first | (go_at_call 168; refine (check_any _ _ _).mono ?_; rintro e w' ⟨rfl, rfl⟩) | (go_at_call 205; refine (int6_f _ _ _ _).mono ?_; rintro e w' ⟨rfl, rfl⟩))
  go_ret2
  exact ⟨rfl, 0, rfl⟩

set_option maxHeartbeats 400000 in
theorem binary6_9 (x y : Int) (w : World) (hx : chk 9 x = true) (hy : chk 9 y = true) : Calls Tryz.prog 173 #[.string ⟨#[65, 110, 100]⟩, .int .i64 9, .int .i64 x, .int .i64 y] w fun e w' => e = .returned (.tuple #[.int .i64 (bin 6 9 x y).1, .int .i64 (bin 6 9 x y).2]) ∧ ∃ n, w' = w.drewN n := by
  rw [bin_9 6 x y hx hy]
  go_enter Tryz.func173, Tryz.ntmps173
  go_wp2_with (first | (go_at_call 168; refine (check_any _ _ _).mono ?_; rintro e w' ⟨rfl, rfl⟩) | (go_at_call 206; refine (bool6_f _ _ _ (chk9 _ hx) (chk9 _ hy)).mono ?_; rintro e w' ⟨rfl, rfl⟩))
  go_ret2
  exact ⟨rfl, 0, rfl⟩

theorem binary6 (t x y : Int) (w : World) : Calls Tryz.prog 173 #[.string ⟨#[65, 110, 100]⟩, .int .i64 t, .int .i64 x, .int .i64 y] w fun e w' => e = .returned (.tuple #[.int .i64 (bin 6 t x y).1, .int .i64 (bin 6 t x y).2]) ∧ ∃ n, w' = w.drewN n := by
  cases hx : chk t x with
  | false => rw [bin_nox 6 t x y hx]; exact binary6_no t x y w (.inl hx)
  | true =>
    cases hy : chk t y with
    | false => rw [bin_noy 6 t x y hy]; exact binary6_no t x y w (.inr ⟨hx, hy⟩)
    | true =>
      rcases chk_types t x hx with rfl | rfl | rfl | rfl
      · exact binary6_1 x y w hx hy
      · exact binary6_6 x y w hx hy
      · exact binary6_7 x y w hx hy
      · exact binary6_9 x y w hx hy

set_option maxHeartbeats 400000 in
theorem binary7_no (t x y : Int) (w : World) (h : chk t x = false ∨ chk t x = true ∧ chk t y = false) : Calls Tryz.prog 173 #[.string ⟨#[79, 114]⟩, .int .i64 t, .int .i64 x, .int .i64 y] w fun e w' => e = .returned (.tuple #[.int .i64 0, .int .i64 1]) ∧ ∃ n, w' = w.drewN n := by
  rcases h with hx | ⟨hx, hy⟩
  all_goals
    go_enter Tryz.func173, Tryz.ntmps173
    go_wp2_with (first | (go_at_call 168; refine (check_any _ _ _).mono ?_; rintro e w' ⟨rfl, rfl⟩))
    go_ret2
    exact ⟨rfl, 0, rfl⟩

set_option maxHeartbeats 400000 in
theorem binary7_1 (x y : Int) (w : World) (hx : chk 1 x = true) (hy : chk 1 y = true) : Calls Tryz.prog 173 #[.string ⟨#[79, 114]⟩, .int .i64 1, .int .i64 x, .int .i64 y] w fun e w' => e = .returned (.tuple #[.int .i64 (bin 7 1 x y).1, .int .i64 (bin 7 1 x y).2]) ∧ ∃ n, w' = w.drewN n := by
  rw [bin_1 7 x y hx hy]
  go_enter Tryz.func173, Tryz.ntmps173
  go_wp2_with (first | (go_at_call 168; refine (check_any _ _ _).mono ?_; rintro e w' ⟨rfl, rfl⟩) | (go_at_call 191; refine (from_any _ _).mono ?_; rintro e w' ⟨rfl, rfl⟩) | (go_at_call 204; refine (no7_f _ _ _).mono ?_; rintro e w' ⟨rfl, n, rfl⟩))
  go_ret2
  exact ⟨rfl, _, rfl⟩

set_option maxHeartbeats 400000 in
theorem binary7_6 (x y : Int) (w : World) (hx : chk 6 x = true) (hy : chk 6 y = true) : Calls Tryz.prog 173 #[.string ⟨#[79, 114]⟩, .int .i64 6, .int .i64 x, .int .i64 y] w fun e w' => e = .returned (.tuple #[.int .i64 (bin 7 6 x y).1, .int .i64 (bin 7 6 x y).2]) ∧ ∃ n, w' = w.drewN n := by
  rw [bin_6 7 x y hx hy]
  go_enter Tryz.func173, Tryz.ntmps173
  go_wp2_with (first | (go_at_call 168; refine (check_any _ _ _).mono ?_; rintro e w' ⟨rfl, rfl⟩) | (go_at_call 205; refine (int7_f _ _ _ _).mono ?_; rintro e w' ⟨rfl, rfl⟩))
  go_ret2
  exact ⟨rfl, 0, rfl⟩

set_option maxHeartbeats 400000 in
theorem binary7_7 (x y : Int) (w : World) (hx : chk 7 x = true) (hy : chk 7 y = true) : Calls Tryz.prog 173 #[.string ⟨#[79, 114]⟩, .int .i64 7, .int .i64 x, .int .i64 y] w fun e w' => e = .returned (.tuple #[.int .i64 (bin 7 7 x y).1, .int .i64 (bin 7 7 x y).2]) ∧ ∃ n, w' = w.drewN n := by
  rw [bin_7 7 x y hx hy]
  go_enter Tryz.func173, Tryz.ntmps173
  go_wp2_with (first | (go_at_call 168; refine (check_any _ _ _).mono ?_; rintro e w' ⟨rfl, rfl⟩) | (go_at_call 205; refine (int7_f _ _ _ _).mono ?_; rintro e w' ⟨rfl, rfl⟩))
  go_ret2
  exact ⟨rfl, 0, rfl⟩

set_option maxHeartbeats 400000 in
theorem binary7_9 (x y : Int) (w : World) (hx : chk 9 x = true) (hy : chk 9 y = true) : Calls Tryz.prog 173 #[.string ⟨#[79, 114]⟩, .int .i64 9, .int .i64 x, .int .i64 y] w fun e w' => e = .returned (.tuple #[.int .i64 (bin 7 9 x y).1, .int .i64 (bin 7 9 x y).2]) ∧ ∃ n, w' = w.drewN n := by
  rw [bin_9 7 x y hx hy]
  go_enter Tryz.func173, Tryz.ntmps173
  go_wp2_with (first | (go_at_call 168; refine (check_any _ _ _).mono ?_; rintro e w' ⟨rfl, rfl⟩) | (go_at_call 206; refine (bool7_f _ _ _ (chk9 _ hx) (chk9 _ hy)).mono ?_; rintro e w' ⟨rfl, rfl⟩))
  go_ret2
  exact ⟨rfl, 0, rfl⟩

theorem binary7 (t x y : Int) (w : World) : Calls Tryz.prog 173 #[.string ⟨#[79, 114]⟩, .int .i64 t, .int .i64 x, .int .i64 y] w fun e w' => e = .returned (.tuple #[.int .i64 (bin 7 t x y).1, .int .i64 (bin 7 t x y).2]) ∧ ∃ n, w' = w.drewN n := by
  cases hx : chk t x with
  | false => rw [bin_nox 7 t x y hx]; exact binary7_no t x y w (.inl hx)
  | true =>
    cases hy : chk t y with
    | false => rw [bin_noy 7 t x y hy]; exact binary7_no t x y w (.inr ⟨hx, hy⟩)
    | true =>
      rcases chk_types t x hx with rfl | rfl | rfl | rfl
      · exact binary7_1 x y w hx hy
      · exact binary7_6 x y w hx hy
      · exact binary7_7 x y w hx hy
      · exact binary7_9 x y w hx hy

set_option maxHeartbeats 400000 in
theorem binary8_no (t x y : Int) (w : World) (h : chk t x = false ∨ chk t x = true ∧ chk t y = false) : Calls Tryz.prog 173 #[.string ⟨#[88, 111, 114]⟩, .int .i64 t, .int .i64 x, .int .i64 y] w fun e w' => e = .returned (.tuple #[.int .i64 0, .int .i64 1]) ∧ ∃ n, w' = w.drewN n := by
  rcases h with hx | ⟨hx, hy⟩
  all_goals
    go_enter Tryz.func173, Tryz.ntmps173
    go_wp2_with (first | (go_at_call 168; refine (check_any _ _ _).mono ?_; rintro e w' ⟨rfl, rfl⟩))
    go_ret2
    exact ⟨rfl, 0, rfl⟩

set_option maxHeartbeats 400000 in
theorem binary8_1 (x y : Int) (w : World) (hx : chk 1 x = true) (hy : chk 1 y = true) : Calls Tryz.prog 173 #[.string ⟨#[88, 111, 114]⟩, .int .i64 1, .int .i64 x, .int .i64 y] w fun e w' => e = .returned (.tuple #[.int .i64 (bin 8 1 x y).1, .int .i64 (bin 8 1 x y).2]) ∧ ∃ n, w' = w.drewN n := by
  rw [bin_1 8 x y hx hy]
  go_enter Tryz.func173, Tryz.ntmps173
  go_wp2_with (first | (go_at_call 168; refine (check_any _ _ _).mono ?_; rintro e w' ⟨rfl, rfl⟩) | (go_at_call 191; refine (from_any _ _).mono ?_; rintro e w' ⟨rfl, rfl⟩) | (go_at_call 204; refine (no8_f _ _ _).mono ?_; rintro e w' ⟨rfl, n, rfl⟩))
  go_ret2
  exact ⟨rfl, _, rfl⟩

set_option maxHeartbeats 400000 in
theorem binary8_6 (x y : Int) (w : World) (hx : chk 6 x = true) (hy : chk 6 y = true) : Calls Tryz.prog 173 #[.string ⟨#[88, 111, 114]⟩, .int .i64 6, .int .i64 x, .int .i64 y] w fun e w' => e = .returned (.tuple #[.int .i64 (bin 8 6 x y).1, .int .i64 (bin 8 6 x y).2]) ∧ ∃ n, w' = w.drewN n := by
  rw [bin_6 8 x y hx hy]
  go_enter Tryz.func173, Tryz.ntmps173
  go_wp2_with (first | (go_at_call 168; refine (check_any _ _ _).mono ?_; rintro e w' ⟨rfl, rfl⟩) | (go_at_call 205; refine (int8_f _ _ _ _).mono ?_; rintro e w' ⟨rfl, rfl⟩))
  go_ret2
  exact ⟨rfl, 0, rfl⟩

set_option maxHeartbeats 400000 in
theorem binary8_7 (x y : Int) (w : World) (hx : chk 7 x = true) (hy : chk 7 y = true) : Calls Tryz.prog 173 #[.string ⟨#[88, 111, 114]⟩, .int .i64 7, .int .i64 x, .int .i64 y] w fun e w' => e = .returned (.tuple #[.int .i64 (bin 8 7 x y).1, .int .i64 (bin 8 7 x y).2]) ∧ ∃ n, w' = w.drewN n := by
  rw [bin_7 8 x y hx hy]
  go_enter Tryz.func173, Tryz.ntmps173
  go_wp2_with (first | (go_at_call 168; refine (check_any _ _ _).mono ?_; rintro e w' ⟨rfl, rfl⟩) | (go_at_call 205; refine (int8_f _ _ _ _).mono ?_; rintro e w' ⟨rfl, rfl⟩))
  go_ret2
  exact ⟨rfl, 0, rfl⟩

set_option maxHeartbeats 400000 in
theorem binary8_9 (x y : Int) (w : World) (hx : chk 9 x = true) (hy : chk 9 y = true) : Calls Tryz.prog 173 #[.string ⟨#[88, 111, 114]⟩, .int .i64 9, .int .i64 x, .int .i64 y] w fun e w' => e = .returned (.tuple #[.int .i64 (bin 8 9 x y).1, .int .i64 (bin 8 9 x y).2]) ∧ ∃ n, w' = w.drewN n := by
  rw [bin_9 8 x y hx hy]
  go_enter Tryz.func173, Tryz.ntmps173
  go_wp2_with (first | (go_at_call 168; refine (check_any _ _ _).mono ?_; rintro e w' ⟨rfl, rfl⟩) | (go_at_call 206; refine (bool8_f _ _ _ (chk9 _ hx) (chk9 _ hy)).mono ?_; rintro e w' ⟨rfl, rfl⟩))
  go_ret2
  exact ⟨rfl, 0, rfl⟩

theorem binary8 (t x y : Int) (w : World) : Calls Tryz.prog 173 #[.string ⟨#[88, 111, 114]⟩, .int .i64 t, .int .i64 x, .int .i64 y] w fun e w' => e = .returned (.tuple #[.int .i64 (bin 8 t x y).1, .int .i64 (bin 8 t x y).2]) ∧ ∃ n, w' = w.drewN n := by
  cases hx : chk t x with
  | false => rw [bin_nox 8 t x y hx]; exact binary8_no t x y w (.inl hx)
  | true =>
    cases hy : chk t y with
    | false => rw [bin_noy 8 t x y hy]; exact binary8_no t x y w (.inr ⟨hx, hy⟩)
    | true =>
      rcases chk_types t x hx with rfl | rfl | rfl | rfl
      · exact binary8_1 x y w hx hy
      · exact binary8_6 x y w hx hy
      · exact binary8_7 x y w hx hy
      · exact binary8_9 x y w hx hy

set_option maxHeartbeats 400000 in
theorem binary9_no (t x y : Int) (w : World) (h : chk t x = false ∨ chk t x = true ∧ chk t y = false) : Calls Tryz.prog 173 #[.string ⟨#[69, 113, 117, 97, 108]⟩, .int .i64 t, .int .i64 x, .int .i64 y] w fun e w' => e = .returned (.tuple #[.int .i64 0, .int .i64 1]) ∧ ∃ n, w' = w.drewN n := by
  rcases h with hx | ⟨hx, hy⟩
  all_goals
    go_enter Tryz.func173, Tryz.ntmps173
    go_wp2_with (first | (go_at_call 168; refine (check_any _ _ _).mono ?_; rintro e w' ⟨rfl, rfl⟩))
    go_ret2
    exact ⟨rfl, 0, rfl⟩

set_option maxHeartbeats 400000 in
theorem binary9_1 (x y : Int) (w : World) (hx : chk 1 x = true) (hy : chk 1 y = true) : Calls Tryz.prog 173 #[.string ⟨#[69, 113, 117, 97, 108]⟩, .int .i64 1, .int .i64 x, .int .i64 y] w fun e w' => e = .returned (.tuple #[.int .i64 (bin 9 1 x y).1, .int .i64 (bin 9 1 x y).2]) ∧ ∃ n, w' = w.drewN n := by
  rw [bin_1 9 x y hx hy]
  go_enter Tryz.func173, Tryz.ntmps173
  go_wp2_with (first | (go_at_call 168; refine (check_any _ _ _).mono ?_; rintro e w' ⟨rfl, rfl⟩) | (go_at_call 191; refine (from_any _ _).mono ?_; rintro e w' ⟨rfl, rfl⟩) | (go_at_call 204; refine (cmp9_f _ _ _).mono ?_; rintro e w' ⟨rfl, n, rfl⟩))
  go_ret2
  exact ⟨rfl, _, rfl⟩

set_option maxHeartbeats 400000 in
theorem binary9_6 (x y : Int) (w : World) (hx : chk 6 x = true) (hy : chk 6 y = true) : Calls Tryz.prog 173 #[.string ⟨#[69, 113, 117, 97, 108]⟩, .int .i64 6, .int .i64 x, .int .i64 y] w fun e w' => e = .returned (.tuple #[.int .i64 (bin 9 6 x y).1, .int .i64 (bin 9 6 x y).2]) ∧ ∃ n, w' = w.drewN n := by
  rw [bin_6 9 x y hx hy]
  go_enter Tryz.func173, Tryz.ntmps173
  go_wp2_with (first | (go_at_call 168; refine (check_any _ _ _).mono ?_; rintro e w' ⟨rfl, rfl⟩) | (go_at_call 205; refine (int9_f _ _ _ _).mono ?_; rintro e w' ⟨rfl, rfl⟩))
  go_ret2
  exact ⟨rfl, 0, rfl⟩

set_option maxHeartbeats 400000 in
theorem binary9_7 (x y : Int) (w : World) (hx : chk 7 x = true) (hy : chk 7 y = true) : Calls Tryz.prog 173 #[.string ⟨#[69, 113, 117, 97, 108]⟩, .int .i64 7, .int .i64 x, .int .i64 y] w fun e w' => e = .returned (.tuple #[.int .i64 (bin 9 7 x y).1, .int .i64 (bin 9 7 x y).2]) ∧ ∃ n, w' = w.drewN n := by
  rw [bin_7 9 x y hx hy]
  go_enter Tryz.func173, Tryz.ntmps173
  go_wp2_with (first | (go_at_call 168; refine (check_any _ _ _).mono ?_; rintro e w' ⟨rfl, rfl⟩) | (go_at_call 205; refine (int9_f _ _ _ _).mono ?_; rintro e w' ⟨rfl, rfl⟩))
  go_ret2
  exact ⟨rfl, 0, rfl⟩

set_option maxHeartbeats 400000 in
theorem binary9_9 (x y : Int) (w : World) (hx : chk 9 x = true) (hy : chk 9 y = true) : Calls Tryz.prog 173 #[.string ⟨#[69, 113, 117, 97, 108]⟩, .int .i64 9, .int .i64 x, .int .i64 y] w fun e w' => e = .returned (.tuple #[.int .i64 (bin 9 9 x y).1, .int .i64 (bin 9 9 x y).2]) ∧ ∃ n, w' = w.drewN n := by
  rw [bin_9 9 x y hx hy]
  go_enter Tryz.func173, Tryz.ntmps173
  go_wp2_with (first | (go_at_call 168; refine (check_any _ _ _).mono ?_; rintro e w' ⟨rfl, rfl⟩) | (go_at_call 206; refine (bool9_f _ _ _).mono ?_; rintro e w' ⟨rfl, rfl⟩))
  go_ret2
  exact ⟨rfl, 0, rfl⟩

theorem binary9 (t x y : Int) (w : World) : Calls Tryz.prog 173 #[.string ⟨#[69, 113, 117, 97, 108]⟩, .int .i64 t, .int .i64 x, .int .i64 y] w fun e w' => e = .returned (.tuple #[.int .i64 (bin 9 t x y).1, .int .i64 (bin 9 t x y).2]) ∧ ∃ n, w' = w.drewN n := by
  cases hx : chk t x with
  | false => rw [bin_nox 9 t x y hx]; exact binary9_no t x y w (.inl hx)
  | true =>
    cases hy : chk t y with
    | false => rw [bin_noy 9 t x y hy]; exact binary9_no t x y w (.inr ⟨hx, hy⟩)
    | true =>
      rcases chk_types t x hx with rfl | rfl | rfl | rfl
      · exact binary9_1 x y w hx hy
      · exact binary9_6 x y w hx hy
      · exact binary9_7 x y w hx hy
      · exact binary9_9 x y w hx hy

set_option maxHeartbeats 400000 in
theorem binary10_no (t x y : Int) (w : World) (h : chk t x = false ∨ chk t x = true ∧ chk t y = false) : Calls Tryz.prog 173 #[.string ⟨#[76, 101, 115, 115]⟩, .int .i64 t, .int .i64 x, .int .i64 y] w fun e w' => e = .returned (.tuple #[.int .i64 0, .int .i64 1]) ∧ ∃ n, w' = w.drewN n := by
  rcases h with hx | ⟨hx, hy⟩
  all_goals
    go_enter Tryz.func173, Tryz.ntmps173
    go_wp2_with (first | (go_at_call 168; refine (check_any _ _ _).mono ?_; rintro e w' ⟨rfl, rfl⟩))
    go_ret2
    exact ⟨rfl, 0, rfl⟩

set_option maxHeartbeats 400000 in
theorem binary10_1 (x y : Int) (w : World) (hx : chk 1 x = true) (hy : chk 1 y = true) : Calls Tryz.prog 173 #[.string ⟨#[76, 101, 115, 115]⟩, .int .i64 1, .int .i64 x, .int .i64 y] w fun e w' => e = .returned (.tuple #[.int .i64 (bin 10 1 x y).1, .int .i64 (bin 10 1 x y).2]) ∧ ∃ n, w' = w.drewN n := by
  rw [bin_1 10 x y hx hy]
  go_enter Tryz.func173, Tryz.ntmps173
  go_wp2_with (first | (go_at_call 168; refine (check_any _ _ _).mono ?_; rintro e w' ⟨rfl, rfl⟩) | (go_at_call 191; refine (from_any _ _).mono ?_; rintro e w' ⟨rfl, rfl⟩) | (go_at_call 204; refine (cmp10_f _ _ _).mono ?_; rintro e w' ⟨rfl, n, rfl⟩))
  go_ret2
  exact ⟨rfl, _, rfl⟩

set_option maxHeartbeats 400000 in
theorem binary10_6 (x y : Int) (w : World) (hx : chk 6 x = true) (hy : chk 6 y = true) : Calls Tryz.prog 173 #[.string ⟨#[76, 101, 115, 115]⟩, .int .i64 6, .int .i64 x, .int .i64 y] w fun e w' => e = .returned (.tuple #[.int .i64 (bin 10 6 x y).1, .int .i64 (bin 10 6 x y).2]) ∧ ∃ n, w' = w.drewN n := by
  rw [bin_6 10 x y hx hy]
  go_enter Tryz.func173, Tryz.ntmps173
  go_wp2_with (first | (go_at_call 168; refine (check_any _ _ _).mono ?_; rintro e w' ⟨rfl, rfl⟩) | (go_at_call 205; refine (int10_f _ _ _ _).mono ?_; rintro e w' ⟨rfl, rfl⟩))
  go_ret2
  exact ⟨rfl, 0, rfl⟩

set_option maxHeartbeats 400000 in
theorem binary10_7 (x y : Int) (w : World) (hx : chk 7 x = true) (hy : chk 7 y = true) : Calls Tryz.prog 173 #[.string ⟨#[76, 101, 115, 115]⟩, .int .i64 7, .int .i64 x, .int .i64 y] w fun e w' => e = .returned (.tuple #[.int .i64 (bin 10 7 x y).1, .int .i64 (bin 10 7 x y).2]) ∧ ∃ n, w' = w.drewN n := by
  rw [bin_7 10 x y hx hy]
  go_enter Tryz.func173, Tryz.ntmps173
  go_wp2_with (first | (go_at_call 168; refine (check_any _ _ _).mono ?_; rintro e w' ⟨rfl, rfl⟩) | (go_at_call 205; refine (int10_f _ _ _ _).mono ?_; rintro e w' ⟨rfl, rfl⟩))
  go_ret2
  exact ⟨rfl, 0, rfl⟩

set_option maxHeartbeats 400000 in
theorem binary10_9 (x y : Int) (w : World) (hx : chk 9 x = true) (hy : chk 9 y = true) : Calls Tryz.prog 173 #[.string ⟨#[76, 101, 115, 115]⟩, .int .i64 9, .int .i64 x, .int .i64 y] w fun e w' => e = .returned (.tuple #[.int .i64 (bin 10 9 x y).1, .int .i64 (bin 10 9 x y).2]) ∧ ∃ n, w' = w.drewN n := by
  rw [bin_9 10 x y hx hy]
  go_enter Tryz.func173, Tryz.ntmps173
  go_wp2_with (first | (go_at_call 168; refine (check_any _ _ _).mono ?_; rintro e w' ⟨rfl, rfl⟩) | (go_at_call 206; refine (bool10_f _ _ _).mono ?_; rintro e w' ⟨rfl, rfl⟩))
  go_ret2
  exact ⟨rfl, 0, rfl⟩

theorem binary10 (t x y : Int) (w : World) : Calls Tryz.prog 173 #[.string ⟨#[76, 101, 115, 115]⟩, .int .i64 t, .int .i64 x, .int .i64 y] w fun e w' => e = .returned (.tuple #[.int .i64 (bin 10 t x y).1, .int .i64 (bin 10 t x y).2]) ∧ ∃ n, w' = w.drewN n := by
  cases hx : chk t x with
  | false => rw [bin_nox 10 t x y hx]; exact binary10_no t x y w (.inl hx)
  | true =>
    cases hy : chk t y with
    | false => rw [bin_noy 10 t x y hy]; exact binary10_no t x y w (.inr ⟨hx, hy⟩)
    | true =>
      rcases chk_types t x hx with rfl | rfl | rfl | rfl
      · exact binary10_1 x y w hx hy
      · exact binary10_6 x y w hx hy
      · exact binary10_7 x y w hx hy
      · exact binary10_9 x y w hx hy

set_option maxHeartbeats 400000 in
theorem binary11_no (t x y : Int) (w : World) (h : chk t x = false ∨ chk t x = true ∧ chk t y = false) : Calls Tryz.prog 173 #[.string ⟨#[71, 114, 101, 97, 116, 101, 114]⟩, .int .i64 t, .int .i64 x, .int .i64 y] w fun e w' => e = .returned (.tuple #[.int .i64 0, .int .i64 1]) ∧ ∃ n, w' = w.drewN n := by
  rcases h with hx | ⟨hx, hy⟩
  all_goals
    go_enter Tryz.func173, Tryz.ntmps173
    go_wp2_with (first | (go_at_call 168; refine (check_any _ _ _).mono ?_; rintro e w' ⟨rfl, rfl⟩))
    go_ret2
    exact ⟨rfl, 0, rfl⟩

set_option maxHeartbeats 400000 in
theorem binary11_1 (x y : Int) (w : World) (hx : chk 1 x = true) (hy : chk 1 y = true) : Calls Tryz.prog 173 #[.string ⟨#[71, 114, 101, 97, 116, 101, 114]⟩, .int .i64 1, .int .i64 x, .int .i64 y] w fun e w' => e = .returned (.tuple #[.int .i64 (bin 11 1 x y).1, .int .i64 (bin 11 1 x y).2]) ∧ ∃ n, w' = w.drewN n := by
  rw [bin_1 11 x y hx hy]
  go_enter Tryz.func173, Tryz.ntmps173
  go_wp2_with (first | (go_at_call 168; refine (check_any _ _ _).mono ?_; rintro e w' ⟨rfl, rfl⟩) | (go_at_call 191; refine (from_any _ _).mono ?_; rintro e w' ⟨rfl, rfl⟩) | (go_at_call 204; refine (cmp11_f _ _ _).mono ?_; rintro e w' ⟨rfl, n, rfl⟩))
  go_ret2
  exact ⟨rfl, _, rfl⟩

set_option maxHeartbeats 400000 in
theorem binary11_6 (x y : Int) (w : World) (hx : chk 6 x = true) (hy : chk 6 y = true) : Calls Tryz.prog 173 #[.string ⟨#[71, 114, 101, 97, 116, 101, 114]⟩, .int .i64 6, .int .i64 x, .int .i64 y] w fun e w' => e = .returned (.tuple #[.int .i64 (bin 11 6 x y).1, .int .i64 (bin 11 6 x y).2]) ∧ ∃ n, w' = w.drewN n := by
  rw [bin_6 11 x y hx hy]
  go_enter Tryz.func173, Tryz.ntmps173
  go_wp2_with (first | (go_at_call 168; refine (check_any _ _ _).mono ?_; rintro e w' ⟨rfl, rfl⟩) | (go_at_call 205; refine (int11_f _ _ _ _).mono ?_; rintro e w' ⟨rfl, rfl⟩))
  go_ret2
  exact ⟨rfl, 0, rfl⟩

set_option maxHeartbeats 400000 in
theorem binary11_7 (x y : Int) (w : World) (hx : chk 7 x = true) (hy : chk 7 y = true) : Calls Tryz.prog 173 #[.string ⟨#[71, 114, 101, 97, 116, 101, 114]⟩, .int .i64 7, .int .i64 x, .int .i64 y] w fun e w' => e = .returned (.tuple #[.int .i64 (bin 11 7 x y).1, .int .i64 (bin 11 7 x y).2]) ∧ ∃ n, w' = w.drewN n := by
  rw [bin_7 11 x y hx hy]
  go_enter Tryz.func173, Tryz.ntmps173
  go_wp2_with (first | (go_at_call 168; refine (check_any _ _ _).mono ?_; rintro e w' ⟨rfl, rfl⟩) | (go_at_call 205; refine (int11_f _ _ _ _).mono ?_; rintro e w' ⟨rfl, rfl⟩))
  go_ret2
  exact ⟨rfl, 0, rfl⟩

set_option maxHeartbeats 400000 in
theorem binary11_9 (x y : Int) (w : World) (hx : chk 9 x = true) (hy : chk 9 y = true) : Calls Tryz.prog 173 #[.string ⟨#[71, 114, 101, 97, 116, 101, 114]⟩, .int .i64 9, .int .i64 x, .int .i64 y] w fun e w' => e = .returned (.tuple #[.int .i64 (bin 11 9 x y).1, .int .i64 (bin 11 9 x y).2]) ∧ ∃ n, w' = w.drewN n := by
  rw [bin_9 11 x y hx hy]
  go_enter Tryz.func173, Tryz.ntmps173
  go_wp2_with (first | (go_at_call 168; refine (check_any _ _ _).mono ?_; rintro e w' ⟨rfl, rfl⟩) | (go_at_call 206; refine (bool11_f _ _ _).mono ?_; rintro e w' ⟨rfl, rfl⟩))
  go_ret2
  exact ⟨rfl, 0, rfl⟩

theorem binary11 (t x y : Int) (w : World) : Calls Tryz.prog 173 #[.string ⟨#[71, 114, 101, 97, 116, 101, 114]⟩, .int .i64 t, .int .i64 x, .int .i64 y] w fun e w' => e = .returned (.tuple #[.int .i64 (bin 11 t x y).1, .int .i64 (bin 11 t x y).2]) ∧ ∃ n, w' = w.drewN n := by
  cases hx : chk t x with
  | false => rw [bin_nox 11 t x y hx]; exact binary11_no t x y w (.inl hx)
  | true =>
    cases hy : chk t y with
    | false => rw [bin_noy 11 t x y hy]; exact binary11_no t x y w (.inr ⟨hx, hy⟩)
    | true =>
      rcases chk_types t x hx with rfl | rfl | rfl | rfl
      · exact binary11_1 x y w hx hy
      · exact binary11_6 x y w hx hy
      · exact binary11_7 x y w hx hy
      · exact binary11_9 x y w hx hy

end Go.Proofs.YtdcbjikjeicgbaaGreatDoor.Nu

/- What package num's operators of one give, as plain functions of numbers. Nothing here names the program. -/
namespace Go.Proofs.YtdcbjikjeicgbaaGreatDoor.Nu
open Go.RowKit

theorem andNot_u32 (b : Nat) (h : b < 4294967296) : bits .andNot .u32 (b : Int) 2147483648 = ((b % 2147483648 : Nat) : Int) := by
  have e := u32_andNot_nat b 2147483648 h (by decide)
  have e' : bits .andNot .u32 (b : Int) 2147483648 = ((b &&& (4294967295 - 2147483648) : Nat) : Int) := e
  rw [e']
  have := Nat.and_two_pow_sub_one_eq_mod b 31
  simp only [Nat.reducePow, Nat.reduceSub] at this ⊢
  rw [this]

/-- Of a float: the sign turned; without it; and what is below 0 made 0. -/
def negF (b : Nat) : Nat := b ^^^ 2147483648
def absF (b : Nat) : Nat := b % 2147483648
def reluF (b : Nat) : Nat := if (FloatKind.f32.format.order b 0 == some .gt) = true then b else if (FloatKind.f32.format.order b b != some .eq) = true then b else 0

theorem negF_eq (b : Nat) : Op.unary .neg (.float .f32 b) = pure (.float .f32 (negF b)) := rfl

theorem xor_top (b : Nat) (h : b < 4294967296) : negF b = if b < 2147483648 then b + 2147483648 else b - 2147483648 := by
  unfold negF
  have hd : (b ^^^ 2147483648) / 2 ^ 31 = b / 2 ^ 31 ^^^ 2147483648 / 2 ^ 31 := Nat.xor_div_two_pow
  have hm : (b ^^^ 2147483648) % 2 ^ 31 = b % 2 ^ 31 ^^^ 2147483648 % 2 ^ 31 := Nat.xor_mod_two_pow
  have e1 : (2147483648 : Nat) / 2 ^ 31 = 1 := by decide
  have e2 : (2147483648 : Nat) % 2 ^ 31 = 0 := by decide
  rw [e1] at hd
  rw [e2, Nat.xor_zero] at hm
  simp only [Nat.reducePow] at hd hm
  have hq : b / 2147483648 = 0 ∨ b / 2147483648 = 1 := by omega
  rcases hq with hq | hq
  · rw [hq] at hd
    have : (0 ^^^ 1 : Nat) = 1 := by decide
    rw [this] at hd
    rw [if_pos (by omega)]; omega
  · rw [hq] at hd
    have : (1 ^^^ 1 : Nat) = 0 := by decide
    rw [this] at hd
    rw [if_neg (by omega)]; omega

theorem negF_lt (b : Nat) (h : b < 4294967296) : negF b < 4294967296 := by
  rw [xor_top b h]; split <;> omega

theorem absF_lt (b : Nat) : absF b < 4294967296 := by
  have := Nat.mod_lt b (show 0 < 2147483648 by decide)
  unfold absF; omega

theorem reluF_lt (b : Nat) (h : b < 4294967296) : reluF b < 4294967296 := by
  unfold reluF; split
  · exact h
  · split
    · exact h
    · omega

/-- Operators of one, by their numbers: Identity 0, Neg 1, Abs 2, Not 3, Relu 4, Sqrt 5, Floor 6, Exp 7, Sigmoid 8, Tanh 9. Of floats the first five alone. -/
def unFl (k : Nat) (b : Nat) : Int × Int :=
  match k with
  | 1 => (tob (negF b), 0)
  | 2 => (tob (absF b), 0)
  | 4 => (tob (reluF b), 0)
  | _ => (0, 1)

def absI (t x : Int) : Int := if x < 0 then wrapT t (wrap64 (-x)) else x

def unIn (k : Nat) (t x : Int) : Int × Int :=
  match k with
  | 1 => (wrapT t (wrap64 (-x)), 0)
  | 2 => (absI t x, 0)
  | _ => (0, 1)

def unBo (k : Nat) (x : Int) : Int × Int :=
  match k with
  | 3 => (1 - x, 0)
  | _ => (0, 1)

def un (k : Nat) (t x : Int) : Int × Int :=
  if chk t x = true then (if k = 0 then (x, 0) else if t = 1 then unFl k (fb x) else if t = 9 then unBo k x else unIn k t x) else (0, 1)

end Go.Proofs.YtdcbjikjeicgbaaGreatDoor.Nu

/- The walks of package num's operators of one, but for those of floats that round. -/
namespace Go.Proofs.YtdcbjikjeicgbaaGreatDoor.Nu
open Go.RowKit
attribute [local go_sem] ext_from ext_bits negF_eq

set_option maxHeartbeats 400000 in
theorem neg_f (b : Nat) (w : World) (hb : b < 4294967296) : Calls Tryz.prog 190 #[.string ⟨#[78, 101, 103]⟩, .float .f32 b] w fun e w' => e = .returned (.tuple #[.int .i64 (tob (negF b)), .int .i64 0]) ∧ w' = w := by
  have hn := negF_lt b hb
  go_enter Tryz.func190, Tryz.ntmps190
  go_wp2_with (first | (go_at_call 212; refine (to_any _ _ hn).mono ?_; rintro e w' ⟨rfl, rfl⟩) | go_in)
  go_ret2
  exact ⟨rfl, rfl⟩

set_option maxHeartbeats 400000 in
theorem absolute_any (b : Nat) (w : World) (hb : b < 4294967296) : Calls Tryz.prog 213 #[.float .f32 b] w fun e w' => e = .returned (.float .f32 (absF b)) ∧ w' = w := by
  have ha := andNot_u32 b hb
  go_enter Tryz.func213, Tryz.ntmps213
  go_wp2
  go_ret
  exact ⟨by simp [absF], rfl⟩

set_option maxHeartbeats 400000 in
theorem abs_f (b : Nat) (w : World) (hb : b < 4294967296) : Calls Tryz.prog 190 #[.string ⟨#[65, 98, 115]⟩, .float .f32 b] w fun e w' => e = .returned (.tuple #[.int .i64 (tob (absF b)), .int .i64 0]) ∧ w' = w := by
  go_enter Tryz.func190, Tryz.ntmps190
  go_wp2_with (first | (go_at_call 212; refine (to_any _ _ (absF_lt _)).mono ?_; rintro e w' ⟨rfl, rfl⟩) | (go_at_call 213; refine (absolute_any _ _ hb).mono ?_; rintro e w' ⟨rfl, rfl⟩) | go_in)
  go_ret2
  exact ⟨rfl, rfl⟩

set_option maxHeartbeats 400000 in
theorem relu_any (b : Nat) (w : World) : Calls Tryz.prog 214 #[.float .f32 b] w fun e w' => e = .returned (.float .f32 (reluF b)) ∧ w' = w := by
  cases h : (FloatKind.f32.format.order b 0 == some .gt) with
  | true =>
    have c : reluF b = b := by unfold reluF; rw [if_pos h]
    rw [c]; clear c
    go_enter Tryz.func214, Tryz.ntmps214
    go_wp2
    go_ret
    exact ⟨rfl, rfl⟩
  | false =>
    cases h' : (FloatKind.f32.format.order b b != some .eq) with
    | true =>
      have c : reluF b = b := by unfold reluF; rw [h, h']; rfl
      rw [c]; clear c
      go_enter Tryz.func214, Tryz.ntmps214
      go_wp2
      go_ret
      exact ⟨rfl, rfl⟩
    | false =>
      have c : reluF b = 0 := by unfold reluF; rw [h, h']; rfl
      rw [c]; clear c
      go_enter Tryz.func214, Tryz.ntmps214
      go_wp2
      go_ret
      exact ⟨rfl, rfl⟩

set_option maxHeartbeats 400000 in
theorem relu_f (b : Nat) (w : World) (hb : b < 4294967296) : Calls Tryz.prog 190 #[.string ⟨#[82, 101, 108, 117]⟩, .float .f32 b] w fun e w' => e = .returned (.tuple #[.int .i64 (tob (reluF b)), .int .i64 0]) ∧ w' = w := by
  go_enter Tryz.func190, Tryz.ntmps190
  go_wp2_with (first | (go_at_call 212; refine (to_any _ _ (reluF_lt _ hb)).mono ?_; rintro e w' ⟨rfl, rfl⟩) | (go_at_call 214; refine (relu_any _ _).mono ?_; rintro e w' ⟨rfl, rfl⟩) | go_in)
  go_ret2
  exact ⟨rfl, rfl⟩

set_option maxHeartbeats 400000 in
theorem not_f (b : Nat) (w : World) : Calls Tryz.prog 190 #[.string ⟨#[78, 111, 116]⟩, .float .f32 b] w fun e w' => e = .returned (.tuple #[.int .i64 0, .int .i64 1]) ∧ w' = w := by
  go_enter Tryz.func190, Tryz.ntmps190
  go_wp2
  go_ret2
  exact ⟨rfl, rfl⟩

set_option maxHeartbeats 400000 in
theorem uint1_f (t x : Int) (w : World) : Calls Tryz.prog 192 #[.string ⟨#[78, 101, 103]⟩, .int .i64 t, .int .i64 x] w fun e w' => e = .returned (.tuple #[.int .i64 (wrapT t (wrap64 (-x))), .int .i64 0]) ∧ w' = w := by
  cases h : (t == 6) with
  | true =>
    rw [wrapT6 t _ h]
    go_enter Tryz.func192, Tryz.ntmps192
    go_wp2
    go_ret2
    exact ⟨rfl, rfl⟩
  | false =>
    rw [wrapT7 t _ h]
    go_enter Tryz.func192, Tryz.ntmps192
    go_wp2
    go_ret2
    exact ⟨rfl, rfl⟩

set_option maxHeartbeats 400000 in
theorem uint2_f (t x : Int) (w : World) : Calls Tryz.prog 192 #[.string ⟨#[65, 98, 115]⟩, .int .i64 t, .int .i64 x] w fun e w' => e = .returned (.tuple #[.int .i64 (absI t x), .int .i64 0]) ∧ w' = w := by
  by_cases hx : x < 0
  · rw [show absI t x = wrapT t (wrap64 (-x)) from if_pos hx]
    cases h : (t == 6) with
    | true =>
      rw [wrapT6 t _ h]
      go_enter Tryz.func192, Tryz.ntmps192
      go_wp2
      go_ret2
      exact ⟨rfl, rfl⟩
    | false =>
      rw [wrapT7 t _ h]
      go_enter Tryz.func192, Tryz.ntmps192
      go_wp2
      go_ret2
      exact ⟨rfl, rfl⟩
  · rw [show absI t x = x from if_neg hx]
    go_enter Tryz.func192, Tryz.ntmps192
    go_wp2
    go_ret2
    exact ⟨rfl, rfl⟩

set_option maxHeartbeats 400000 in
theorem uint3_f (t x : Int) (w : World) : Calls Tryz.prog 192 #[.string ⟨#[78, 111, 116]⟩, .int .i64 t, .int .i64 x] w fun e w' => e = .returned (.tuple #[.int .i64 0, .int .i64 1]) ∧ w' = w := by
  go_enter Tryz.func192, Tryz.ntmps192
  go_wp2
  go_ret2
  exact ⟨rfl, rfl⟩

set_option maxHeartbeats 400000 in
theorem uint4_f (t x : Int) (w : World) : Calls Tryz.prog 192 #[.string ⟨#[82, 101, 108, 117]⟩, .int .i64 t, .int .i64 x] w fun e w' => e = .returned (.tuple #[.int .i64 0, .int .i64 1]) ∧ w' = w := by
  go_enter Tryz.func192, Tryz.ntmps192
  go_wp2
  go_ret2
  exact ⟨rfl, rfl⟩

set_option maxHeartbeats 400000 in
theorem uint5_f (t x : Int) (w : World) : Calls Tryz.prog 192 #[.string ⟨#[83, 113, 114, 116]⟩, .int .i64 t, .int .i64 x] w fun e w' => e = .returned (.tuple #[.int .i64 0, .int .i64 1]) ∧ w' = w := by
  go_enter Tryz.func192, Tryz.ntmps192
  go_wp2
  go_ret2
  exact ⟨rfl, rfl⟩

set_option maxHeartbeats 400000 in
theorem uint6_f (t x : Int) (w : World) : Calls Tryz.prog 192 #[.string ⟨#[70, 108, 111, 111, 114]⟩, .int .i64 t, .int .i64 x] w fun e w' => e = .returned (.tuple #[.int .i64 0, .int .i64 1]) ∧ w' = w := by
  go_enter Tryz.func192, Tryz.ntmps192
  go_wp2
  go_ret2
  exact ⟨rfl, rfl⟩

set_option maxHeartbeats 400000 in
theorem uint7_f (t x : Int) (w : World) : Calls Tryz.prog 192 #[.string ⟨#[69, 120, 112]⟩, .int .i64 t, .int .i64 x] w fun e w' => e = .returned (.tuple #[.int .i64 0, .int .i64 1]) ∧ w' = w := by
  go_enter Tryz.func192, Tryz.ntmps192
  go_wp2
  go_ret2
  exact ⟨rfl, rfl⟩

set_option maxHeartbeats 400000 in
theorem uint8_f (t x : Int) (w : World) : Calls Tryz.prog 192 #[.string ⟨#[83, 105, 103, 109, 111, 105, 100]⟩, .int .i64 t, .int .i64 x] w fun e w' => e = .returned (.tuple #[.int .i64 0, .int .i64 1]) ∧ w' = w := by
  go_enter Tryz.func192, Tryz.ntmps192
  go_wp2
  go_ret2
  exact ⟨rfl, rfl⟩

set_option maxHeartbeats 400000 in
theorem uint9_f (t x : Int) (w : World) : Calls Tryz.prog 192 #[.string ⟨#[84, 97, 110, 104]⟩, .int .i64 t, .int .i64 x] w fun e w' => e = .returned (.tuple #[.int .i64 0, .int .i64 1]) ∧ w' = w := by
  go_enter Tryz.func192, Tryz.ntmps192
  go_wp2
  go_ret2
  exact ⟨rfl, rfl⟩

set_option maxHeartbeats 400000 in
theorem ubool3_f (x : Int) (w : World) (hx : x = 0 ∨ x = 1) : Calls Tryz.prog 193 #[.string ⟨#[78, 111, 116]⟩, .int .i64 x] w fun e w' => e = .returned (.tuple #[.int .i64 (1 - x), .int .i64 0]) ∧ w' = w := by
  rcases hx with rfl | rfl
  all_goals
    go_enter Tryz.func193, Tryz.ntmps193
    go_wp2
    go_ret2
    exact ⟨rfl, rfl⟩

set_option maxHeartbeats 400000 in
theorem ubool1_f (x : Int) (w : World) : Calls Tryz.prog 193 #[.string ⟨#[78, 101, 103]⟩, .int .i64 x] w fun e w' => e = .returned (.tuple #[.int .i64 0, .int .i64 1]) ∧ w' = w := by
  go_enter Tryz.func193, Tryz.ntmps193
  go_wp2
  go_ret2
  exact ⟨rfl, rfl⟩

set_option maxHeartbeats 400000 in
theorem ubool2_f (x : Int) (w : World) : Calls Tryz.prog 193 #[.string ⟨#[65, 98, 115]⟩, .int .i64 x] w fun e w' => e = .returned (.tuple #[.int .i64 0, .int .i64 1]) ∧ w' = w := by
  go_enter Tryz.func193, Tryz.ntmps193
  go_wp2
  go_ret2
  exact ⟨rfl, rfl⟩

set_option maxHeartbeats 400000 in
theorem ubool4_f (x : Int) (w : World) : Calls Tryz.prog 193 #[.string ⟨#[82, 101, 108, 117]⟩, .int .i64 x] w fun e w' => e = .returned (.tuple #[.int .i64 0, .int .i64 1]) ∧ w' = w := by
  go_enter Tryz.func193, Tryz.ntmps193
  go_wp2
  go_ret2
  exact ⟨rfl, rfl⟩

set_option maxHeartbeats 400000 in
theorem ubool5_f (x : Int) (w : World) : Calls Tryz.prog 193 #[.string ⟨#[83, 113, 114, 116]⟩, .int .i64 x] w fun e w' => e = .returned (.tuple #[.int .i64 0, .int .i64 1]) ∧ w' = w := by
  go_enter Tryz.func193, Tryz.ntmps193
  go_wp2
  go_ret2
  exact ⟨rfl, rfl⟩

set_option maxHeartbeats 400000 in
theorem ubool6_f (x : Int) (w : World) : Calls Tryz.prog 193 #[.string ⟨#[70, 108, 111, 111, 114]⟩, .int .i64 x] w fun e w' => e = .returned (.tuple #[.int .i64 0, .int .i64 1]) ∧ w' = w := by
  go_enter Tryz.func193, Tryz.ntmps193
  go_wp2
  go_ret2
  exact ⟨rfl, rfl⟩

set_option maxHeartbeats 400000 in
theorem ubool7_f (x : Int) (w : World) : Calls Tryz.prog 193 #[.string ⟨#[69, 120, 112]⟩, .int .i64 x] w fun e w' => e = .returned (.tuple #[.int .i64 0, .int .i64 1]) ∧ w' = w := by
  go_enter Tryz.func193, Tryz.ntmps193
  go_wp2
  go_ret2
  exact ⟨rfl, rfl⟩

set_option maxHeartbeats 400000 in
theorem ubool8_f (x : Int) (w : World) : Calls Tryz.prog 193 #[.string ⟨#[83, 105, 103, 109, 111, 105, 100]⟩, .int .i64 x] w fun e w' => e = .returned (.tuple #[.int .i64 0, .int .i64 1]) ∧ w' = w := by
  go_enter Tryz.func193, Tryz.ntmps193
  go_wp2
  go_ret2
  exact ⟨rfl, rfl⟩

set_option maxHeartbeats 400000 in
theorem ubool9_f (x : Int) (w : World) : Calls Tryz.prog 193 #[.string ⟨#[84, 97, 110, 104]⟩, .int .i64 x] w fun e w' => e = .returned (.tuple #[.int .i64 0, .int .i64 1]) ∧ w' = w := by
  go_enter Tryz.func193, Tryz.ntmps193
  go_wp2
  go_ret2
  exact ⟨rfl, rfl⟩

theorem un_no (k : Nat) (t x : Int) (h : chk t x = false) : un k t x = (0, 1) := by simp [un, h]
theorem un_0 (t x : Int) (h : chk t x = true) : un 0 t x = (x, 0) := by simp [un, h]
theorem un_1 (k : Nat) (x : Int) (h : chk 1 x = true) (hk : k ≠ 0) : un k 1 x = unFl k (fb x) := by simp [un, h, hk]
theorem un_6 (k : Nat) (x : Int) (h : chk 6 x = true) (hk : k ≠ 0) : un k 6 x = unIn k 6 x := by simp [un, h, hk]
theorem un_7 (k : Nat) (x : Int) (h : chk 7 x = true) (hk : k ≠ 0) : un k 7 x = unIn k 7 x := by simp [un, h, hk]
theorem un_9 (k : Nat) (x : Int) (h : chk 9 x = true) (hk : k ≠ 0) : un k 9 x = unBo k x := by simp [un, h, hk]

set_option maxHeartbeats 400000 in
theorem unary0_no (t x : Int) (w : World) (hx : chk t x = false) : Calls Tryz.prog 120 #[.string ⟨#[73, 100, 101, 110, 116, 105, 116, 121]⟩, .int .i64 t, .int .i64 x] w fun e w' => e = .returned (.tuple #[.int .i64 (un 0 t x).1, .int .i64 (un 0 t x).2]) ∧ w' = w := by
  rw [un_no 0 t x hx]
  go_enter Tryz.func120, Tryz.ntmps120
  go_wp2_with (first | (go_at_call 168; refine (check_any _ _ _).mono ?_; rintro e w' ⟨rfl, rfl⟩))
  go_ret2
  exact ⟨rfl, rfl⟩

set_option maxHeartbeats 400000 in
theorem unary0_yes (t x : Int) (w : World) (hx : chk t x = true) : Calls Tryz.prog 120 #[.string ⟨#[73, 100, 101, 110, 116, 105, 116, 121]⟩, .int .i64 t, .int .i64 x] w fun e w' => e = .returned (.tuple #[.int .i64 (un 0 t x).1, .int .i64 (un 0 t x).2]) ∧ w' = w := by
  rw [un_0 t x hx]
  go_enter Tryz.func120, Tryz.ntmps120
  go_wp2_with (first | (go_at_call 168; refine (check_any _ _ _).mono ?_; rintro e w' ⟨rfl, rfl⟩))
  go_ret2
  exact ⟨rfl, rfl⟩

theorem unary0 (t x : Int) (w : World) : Calls Tryz.prog 120 #[.string ⟨#[73, 100, 101, 110, 116, 105, 116, 121]⟩, .int .i64 t, .int .i64 x] w fun e w' => e = .returned (.tuple #[.int .i64 (un 0 t x).1, .int .i64 (un 0 t x).2]) ∧ w' = w := by
  cases hx : chk t x with
  | false => exact unary0_no t x w hx
  | true => exact unary0_yes t x w hx

set_option maxHeartbeats 400000 in
theorem unary1_no (t x : Int) (w : World) (hx : chk t x = false) : Calls Tryz.prog 120 #[.string ⟨#[78, 101, 103]⟩, .int .i64 t, .int .i64 x] w fun e w' => e = .returned (.tuple #[.int .i64 (un 1 t x).1, .int .i64 (un 1 t x).2]) ∧ w' = w := by
  rw [un_no 1 t x hx]
  go_enter Tryz.func120, Tryz.ntmps120
  go_wp2_with (first | (go_at_call 168; refine (check_any _ _ _).mono ?_; rintro e w' ⟨rfl, rfl⟩))
  go_ret2
  exact ⟨rfl, rfl⟩

set_option maxHeartbeats 400000 in
theorem unary1_1 (x : Int) (w : World) (hx : chk 1 x = true) : Calls Tryz.prog 120 #[.string ⟨#[78, 101, 103]⟩, .int .i64 1, .int .i64 x] w fun e w' => e = .returned (.tuple #[.int .i64 (un 1 1 x).1, .int .i64 (un 1 1 x).2]) ∧ w' = w := by
  rw [un_1 1 x hx (by decide)]
  go_enter Tryz.func120, Tryz.ntmps120
  go_wp2_with (first | (go_at_call 168; refine (check_any _ _ _).mono ?_; rintro e w' ⟨rfl, rfl⟩) | (go_at_call 191; refine (from_any _ _).mono ?_; rintro e w' ⟨rfl, rfl⟩) | (go_at_call 190; refine (neg_f _ _ (fb_lt _)).mono ?_; rintro e w' ⟨rfl, rfl⟩))
  go_ret2
  exact ⟨rfl, rfl⟩

set_option maxHeartbeats 400000 in
theorem unary1_6 (x : Int) (w : World) (hx : chk 6 x = true) : Calls Tryz.prog 120 #[.string ⟨#[78, 101, 103]⟩, .int .i64 6, .int .i64 x] w fun e w' => e = .returned (.tuple #[.int .i64 (un 1 6 x).1, .int .i64 (un 1 6 x).2]) ∧ w' = w := by
  rw [un_6 1 x hx (by decide)]
  go_enter Tryz.func120, Tryz.ntmps120
  go_wp2_with (first | (go_at_call 168; refine (check_any _ _ _).mono ?_; rintro e w' ⟨rfl, rfl⟩) | (go_at_call 192; refine (uint1_f _ _ _).mono ?_; rintro e w' ⟨rfl, rfl⟩))
  go_ret2
  exact ⟨rfl, rfl⟩

set_option maxHeartbeats 400000 in
theorem unary1_7 (x : Int) (w : World) (hx : chk 7 x = true) : Calls Tryz.prog 120 #[.string ⟨#[78, 101, 103]⟩, .int .i64 7, .int .i64 x] w fun e w' => e = .returned (.tuple #[.int .i64 (un 1 7 x).1, .int .i64 (un 1 7 x).2]) ∧ w' = w := by
  rw [un_7 1 x hx (by decide)]
  go_enter Tryz.func120, Tryz.ntmps120
  go_wp2_with (first | (go_at_call 168; refine (check_any _ _ _).mono ?_; rintro e w' ⟨rfl, rfl⟩) | (go_at_call 192; refine (uint1_f _ _ _).mono ?_; rintro e w' ⟨rfl, rfl⟩))
  go_ret2
  exact ⟨rfl, rfl⟩

set_option maxHeartbeats 400000 in
theorem unary1_9 (x : Int) (w : World) (hx : chk 9 x = true) : Calls Tryz.prog 120 #[.string ⟨#[78, 101, 103]⟩, .int .i64 9, .int .i64 x] w fun e w' => e = .returned (.tuple #[.int .i64 (un 1 9 x).1, .int .i64 (un 1 9 x).2]) ∧ w' = w := by
  rw [un_9 1 x hx (by decide)]
  go_enter Tryz.func120, Tryz.ntmps120
  go_wp2_with (first | (go_at_call 168; refine (check_any _ _ _).mono ?_; rintro e w' ⟨rfl, rfl⟩) | (go_at_call 193; refine (ubool1_f _ _).mono ?_; rintro e w' ⟨rfl, rfl⟩))
  go_ret2
  exact ⟨rfl, rfl⟩

theorem unary1 (t x : Int) (w : World) : Calls Tryz.prog 120 #[.string ⟨#[78, 101, 103]⟩, .int .i64 t, .int .i64 x] w fun e w' => e = .returned (.tuple #[.int .i64 (un 1 t x).1, .int .i64 (un 1 t x).2]) ∧ w' = w := by
  cases hx : chk t x with
  | false => exact unary1_no t x w hx
  | true =>
    rcases chk_types t x hx with rfl | rfl | rfl | rfl
    · exact unary1_1 x w hx
    · exact unary1_6 x w hx
    · exact unary1_7 x w hx
    · exact unary1_9 x w hx

set_option maxHeartbeats 400000 in
theorem unary2_no (t x : Int) (w : World) (hx : chk t x = false) : Calls Tryz.prog 120 #[.string ⟨#[65, 98, 115]⟩, .int .i64 t, .int .i64 x] w fun e w' => e = .returned (.tuple #[.int .i64 (un 2 t x).1, .int .i64 (un 2 t x).2]) ∧ w' = w := by
  rw [un_no 2 t x hx]
  go_enter Tryz.func120, Tryz.ntmps120
  go_wp2_with (first | (go_at_call 168; refine (check_any _ _ _).mono ?_; rintro e w' ⟨rfl, rfl⟩))
  go_ret2
  exact ⟨rfl, rfl⟩

set_option maxHeartbeats 400000 in
theorem unary2_1 (x : Int) (w : World) (hx : chk 1 x = true) : Calls Tryz.prog 120 #[.string ⟨#[65, 98, 115]⟩, .int .i64 1, .int .i64 x] w fun e w' => e = .returned (.tuple #[.int .i64 (un 2 1 x).1, .int .i64 (un 2 1 x).2]) ∧ w' = w := by
  rw [un_1 2 x hx (by decide)]
  go_enter Tryz.func120, Tryz.ntmps120
  go_wp2_with (first | (go_at_call 168; refine (check_any _ _ _).mono ?_; rintro e w' ⟨rfl, rfl⟩) | (go_at_call 191; refine (from_any _ _).mono ?_; rintro e w' ⟨rfl, rfl⟩) | (go_at_call 190; refine (abs_f _ _ (fb_lt _)).mono ?_; rintro e w' ⟨rfl, rfl⟩))
  go_ret2
  exact ⟨rfl, rfl⟩

set_option maxHeartbeats 400000 in
theorem unary2_6 (x : Int) (w : World) (hx : chk 6 x = true) : Calls Tryz.prog 120 #[.string ⟨#[65, 98, 115]⟩, .int .i64 6, .int .i64 x] w fun e w' => e = .returned (.tuple #[.int .i64 (un 2 6 x).1, .int .i64 (un 2 6 x).2]) ∧ w' = w := by
  rw [un_6 2 x hx (by decide)]
  go_enter Tryz.func120, Tryz.ntmps120
  go_wp2_with (first | (go_at_call 168; refine (check_any _ _ _).mono ?_; rintro e w' ⟨rfl, rfl⟩) | (go_at_call 192; refine (uint2_f _ _ _).mono ?_; rintro e w' ⟨rfl, rfl⟩))
  go_ret2
  exact ⟨rfl, rfl⟩

set_option maxHeartbeats 400000 in
theorem unary2_7 (x : Int) (w : World) (hx : chk 7 x = true) : Calls Tryz.prog 120 #[.string ⟨#[65, 98, 115]⟩, .int .i64 7, .int .i64 x] w fun e w' => e = .returned (.tuple #[.int .i64 (un 2 7 x).1, .int .i64 (un 2 7 x).2]) ∧ w' = w := by
  rw [un_7 2 x hx (by decide)]
  go_enter Tryz.func120, Tryz.ntmps120
  go_wp2_with (first | (go_at_call 168; refine (check_any _ _ _).mono ?_; rintro e w' ⟨rfl, rfl⟩) | (go_at_call 192; refine (uint2_f _ _ _).mono ?_; rintro e w' ⟨rfl, rfl⟩))
  go_ret2
  exact ⟨rfl, rfl⟩

set_option maxHeartbeats 400000 in
theorem unary2_9 (x : Int) (w : World) (hx : chk 9 x = true) : Calls Tryz.prog 120 #[.string ⟨#[65, 98, 115]⟩, .int .i64 9, .int .i64 x] w fun e w' => e = .returned (.tuple #[.int .i64 (un 2 9 x).1, .int .i64 (un 2 9 x).2]) ∧ w' = w := by
  rw [un_9 2 x hx (by decide)]
  go_enter Tryz.func120, Tryz.ntmps120
  go_wp2_with (first | (go_at_call 168; refine (check_any _ _ _).mono ?_; rintro e w' ⟨rfl, rfl⟩) | (go_at_call 193; refine (ubool2_f _ _).mono ?_; rintro e w' ⟨rfl, rfl⟩))
  go_ret2
  exact ⟨rfl, rfl⟩

theorem unary2 (t x : Int) (w : World) : Calls Tryz.prog 120 #[.string ⟨#[65, 98, 115]⟩, .int .i64 t, .int .i64 x] w fun e w' => e = .returned (.tuple #[.int .i64 (un 2 t x).1, .int .i64 (un 2 t x).2]) ∧ w' = w := by
  cases hx : chk t x with
  | false => exact unary2_no t x w hx
  | true =>
    rcases chk_types t x hx with rfl | rfl | rfl | rfl
    · exact unary2_1 x w hx
    · exact unary2_6 x w hx
    · exact unary2_7 x w hx
    · exact unary2_9 x w hx

set_option maxHeartbeats 400000 in
theorem unary3_no (t x : Int) (w : World) (hx : chk t x = false) : Calls Tryz.prog 120 #[.string ⟨#[78, 111, 116]⟩, .int .i64 t, .int .i64 x] w fun e w' => e = .returned (.tuple #[.int .i64 (un 3 t x).1, .int .i64 (un 3 t x).2]) ∧ w' = w := by
  rw [un_no 3 t x hx]
  go_enter Tryz.func120, Tryz.ntmps120
  go_wp2_with (first | (go_at_call 168; refine (check_any _ _ _).mono ?_; rintro e w' ⟨rfl, rfl⟩))
  go_ret2
  exact ⟨rfl, rfl⟩

set_option maxHeartbeats 400000 in
theorem unary3_1 (x : Int) (w : World) (hx : chk 1 x = true) : Calls Tryz.prog 120 #[.string ⟨#[78, 111, 116]⟩, .int .i64 1, .int .i64 x] w fun e w' => e = .returned (.tuple #[.int .i64 (un 3 1 x).1, .int .i64 (un 3 1 x).2]) ∧ w' = w := by
  rw [un_1 3 x hx (by decide)]
  go_enter Tryz.func120, Tryz.ntmps120
  go_wp2_with (first | (go_at_call 168; refine (check_any _ _ _).mono ?_; rintro e w' ⟨rfl, rfl⟩) | (go_at_call 191; refine (from_any _ _).mono ?_; rintro e w' ⟨rfl, rfl⟩) | (go_at_call 190; refine (not_f _ _).mono ?_; rintro e w' ⟨rfl, rfl⟩))
  go_ret2
  exact ⟨rfl, rfl⟩

set_option maxHeartbeats 400000 in
theorem unary3_6 (x : Int) (w : World) (hx : chk 6 x = true) : Calls Tryz.prog 120 #[.string ⟨#[78, 111, 116]⟩, .int .i64 6, .int .i64 x] w fun e w' => e = .returned (.tuple #[.int .i64 (un 3 6 x).1, .int .i64 (un 3 6 x).2]) ∧ w' = w := by
  rw [un_6 3 x hx (by decide)]
  go_enter Tryz.func120, Tryz.ntmps120
  go_wp2_with (first | (go_at_call 168; refine (check_any _ _ _).mono ?_; rintro e w' ⟨rfl, rfl⟩) | (go_at_call 192; refine (uint3_f _ _ _).mono ?_; rintro e w' ⟨rfl, rfl⟩))
  go_ret2
  exact ⟨rfl, rfl⟩

set_option maxHeartbeats 400000 in
theorem unary3_7 (x : Int) (w : World) (hx : chk 7 x = true) : Calls Tryz.prog 120 #[.string ⟨#[78, 111, 116]⟩, .int .i64 7, .int .i64 x] w fun e w' => e = .returned (.tuple #[.int .i64 (un 3 7 x).1, .int .i64 (un 3 7 x).2]) ∧ w' = w := by
  rw [un_7 3 x hx (by decide)]
  go_enter Tryz.func120, Tryz.ntmps120
  go_wp2_with (first | (go_at_call 168; refine (check_any _ _ _).mono ?_; rintro e w' ⟨rfl, rfl⟩) | (go_at_call 192; refine (uint3_f _ _ _).mono ?_; rintro e w' ⟨rfl, rfl⟩))
  go_ret2
  exact ⟨rfl, rfl⟩

set_option maxHeartbeats 400000 in
theorem unary3_9 (x : Int) (w : World) (hx : chk 9 x = true) : Calls Tryz.prog 120 #[.string ⟨#[78, 111, 116]⟩, .int .i64 9, .int .i64 x] w fun e w' => e = .returned (.tuple #[.int .i64 (un 3 9 x).1, .int .i64 (un 3 9 x).2]) ∧ w' = w := by
  rw [un_9 3 x hx (by decide)]
  go_enter Tryz.func120, Tryz.ntmps120
  go_wp2_with (first | (go_at_call 168; refine (check_any _ _ _).mono ?_; rintro e w' ⟨rfl, rfl⟩) | (go_at_call 193; refine (ubool3_f _ _ (chk9 _ hx)).mono ?_; rintro e w' ⟨rfl, rfl⟩))
  go_ret2
  exact ⟨rfl, rfl⟩

theorem unary3 (t x : Int) (w : World) : Calls Tryz.prog 120 #[.string ⟨#[78, 111, 116]⟩, .int .i64 t, .int .i64 x] w fun e w' => e = .returned (.tuple #[.int .i64 (un 3 t x).1, .int .i64 (un 3 t x).2]) ∧ w' = w := by
  cases hx : chk t x with
  | false => exact unary3_no t x w hx
  | true =>
    rcases chk_types t x hx with rfl | rfl | rfl | rfl
    · exact unary3_1 x w hx
    · exact unary3_6 x w hx
    · exact unary3_7 x w hx
    · exact unary3_9 x w hx

set_option maxHeartbeats 400000 in
theorem unary4_no (t x : Int) (w : World) (hx : chk t x = false) : Calls Tryz.prog 120 #[.string ⟨#[82, 101, 108, 117]⟩, .int .i64 t, .int .i64 x] w fun e w' => e = .returned (.tuple #[.int .i64 (un 4 t x).1, .int .i64 (un 4 t x).2]) ∧ w' = w := by
  rw [un_no 4 t x hx]
  go_enter Tryz.func120, Tryz.ntmps120
  go_wp2_with (first | (go_at_call 168; refine (check_any _ _ _).mono ?_; rintro e w' ⟨rfl, rfl⟩))
  go_ret2
  exact ⟨rfl, rfl⟩

set_option maxHeartbeats 400000 in
theorem unary4_1 (x : Int) (w : World) (hx : chk 1 x = true) : Calls Tryz.prog 120 #[.string ⟨#[82, 101, 108, 117]⟩, .int .i64 1, .int .i64 x] w fun e w' => e = .returned (.tuple #[.int .i64 (un 4 1 x).1, .int .i64 (un 4 1 x).2]) ∧ w' = w := by
  rw [un_1 4 x hx (by decide)]
  go_enter Tryz.func120, Tryz.ntmps120
  go_wp2_with (first | (go_at_call 168; refine (check_any _ _ _).mono ?_; rintro e w' ⟨rfl, rfl⟩) | (go_at_call 191; refine (from_any _ _).mono ?_; rintro e w' ⟨rfl, rfl⟩) | (go_at_call 190; refine (relu_f _ _ (fb_lt _)).mono ?_; rintro e w' ⟨rfl, rfl⟩))
  go_ret2
  exact ⟨rfl, rfl⟩

set_option maxHeartbeats 400000 in
theorem unary4_6 (x : Int) (w : World) (hx : chk 6 x = true) : Calls Tryz.prog 120 #[.string ⟨#[82, 101, 108, 117]⟩, .int .i64 6, .int .i64 x] w fun e w' => e = .returned (.tuple #[.int .i64 (un 4 6 x).1, .int .i64 (un 4 6 x).2]) ∧ w' = w := by
  rw [un_6 4 x hx (by decide)]
  go_enter Tryz.func120, Tryz.ntmps120
  go_wp2_with (first | (go_at_call 168; refine (check_any _ _ _).mono ?_; rintro e w' ⟨rfl, rfl⟩) | (go_at_call 192; refine (uint4_f _ _ _).mono ?_; rintro e w' ⟨rfl, rfl⟩))
  go_ret2
  exact ⟨rfl, rfl⟩

set_option maxHeartbeats 400000 in
theorem unary4_7 (x : Int) (w : World) (hx : chk 7 x = true) : Calls Tryz.prog 120 #[.string ⟨#[82, 101, 108, 117]⟩, .int .i64 7, .int .i64 x] w fun e w' => e = .returned (.tuple #[.int .i64 (un 4 7 x).1, .int .i64 (un 4 7 x).2]) ∧ w' = w := by
  rw [un_7 4 x hx (by decide)]
  go_enter Tryz.func120, Tryz.ntmps120
  go_wp2_with (first | (go_at_call 168; refine (check_any _ _ _).mono ?_; rintro e w' ⟨rfl, rfl⟩) | (go_at_call 192; refine (uint4_f _ _ _).mono ?_; rintro e w' ⟨rfl, rfl⟩))
  go_ret2
  exact ⟨rfl, rfl⟩

set_option maxHeartbeats 400000 in
theorem unary4_9 (x : Int) (w : World) (hx : chk 9 x = true) : Calls Tryz.prog 120 #[.string ⟨#[82, 101, 108, 117]⟩, .int .i64 9, .int .i64 x] w fun e w' => e = .returned (.tuple #[.int .i64 (un 4 9 x).1, .int .i64 (un 4 9 x).2]) ∧ w' = w := by
  rw [un_9 4 x hx (by decide)]
  go_enter Tryz.func120, Tryz.ntmps120
  go_wp2_with (first | (go_at_call 168; refine (check_any _ _ _).mono ?_; rintro e w' ⟨rfl, rfl⟩) | (go_at_call 193; refine (ubool4_f _ _).mono ?_; rintro e w' ⟨rfl, rfl⟩))
  go_ret2
  exact ⟨rfl, rfl⟩

theorem unary4 (t x : Int) (w : World) : Calls Tryz.prog 120 #[.string ⟨#[82, 101, 108, 117]⟩, .int .i64 t, .int .i64 x] w fun e w' => e = .returned (.tuple #[.int .i64 (un 4 t x).1, .int .i64 (un 4 t x).2]) ∧ w' = w := by
  cases hx : chk t x with
  | false => exact unary4_no t x w hx
  | true =>
    rcases chk_types t x hx with rfl | rfl | rfl | rfl
    · exact unary4_1 x w hx
    · exact unary4_6 x w hx
    · exact unary4_7 x w hx
    · exact unary4_9 x w hx

set_option maxHeartbeats 400000 in
theorem unary5_no (t x : Int) (w : World) (hx : chk t x = false) : Calls Tryz.prog 120 #[.string ⟨#[83, 113, 114, 116]⟩, .int .i64 t, .int .i64 x] w fun e w' => e = .returned (.tuple #[.int .i64 (un 5 t x).1, .int .i64 (un 5 t x).2]) ∧ w' = w := by
  rw [un_no 5 t x hx]
  go_enter Tryz.func120, Tryz.ntmps120
  go_wp2_with (first | (go_at_call 168; refine (check_any _ _ _).mono ?_; rintro e w' ⟨rfl, rfl⟩))
  go_ret2
  exact ⟨rfl, rfl⟩

set_option maxHeartbeats 400000 in
theorem unary5_6 (x : Int) (w : World) (hx : chk 6 x = true) : Calls Tryz.prog 120 #[.string ⟨#[83, 113, 114, 116]⟩, .int .i64 6, .int .i64 x] w fun e w' => e = .returned (.tuple #[.int .i64 (un 5 6 x).1, .int .i64 (un 5 6 x).2]) ∧ w' = w := by
  rw [un_6 5 x hx (by decide)]
  go_enter Tryz.func120, Tryz.ntmps120
  go_wp2_with (first | (go_at_call 168; refine (check_any _ _ _).mono ?_; rintro e w' ⟨rfl, rfl⟩) | (go_at_call 192; refine (uint5_f _ _ _).mono ?_; rintro e w' ⟨rfl, rfl⟩))
  go_ret2
  exact ⟨rfl, rfl⟩

set_option maxHeartbeats 400000 in
theorem unary5_7 (x : Int) (w : World) (hx : chk 7 x = true) : Calls Tryz.prog 120 #[.string ⟨#[83, 113, 114, 116]⟩, .int .i64 7, .int .i64 x] w fun e w' => e = .returned (.tuple #[.int .i64 (un 5 7 x).1, .int .i64 (un 5 7 x).2]) ∧ w' = w := by
  rw [un_7 5 x hx (by decide)]
  go_enter Tryz.func120, Tryz.ntmps120
  go_wp2_with (first | (go_at_call 168; refine (check_any _ _ _).mono ?_; rintro e w' ⟨rfl, rfl⟩) | (go_at_call 192; refine (uint5_f _ _ _).mono ?_; rintro e w' ⟨rfl, rfl⟩))
  go_ret2
  exact ⟨rfl, rfl⟩

set_option maxHeartbeats 400000 in
theorem unary5_9 (x : Int) (w : World) (hx : chk 9 x = true) : Calls Tryz.prog 120 #[.string ⟨#[83, 113, 114, 116]⟩, .int .i64 9, .int .i64 x] w fun e w' => e = .returned (.tuple #[.int .i64 (un 5 9 x).1, .int .i64 (un 5 9 x).2]) ∧ w' = w := by
  rw [un_9 5 x hx (by decide)]
  go_enter Tryz.func120, Tryz.ntmps120
  go_wp2_with (first | (go_at_call 168; refine (check_any _ _ _).mono ?_; rintro e w' ⟨rfl, rfl⟩) | (go_at_call 193; refine (ubool5_f _ _).mono ?_; rintro e w' ⟨rfl, rfl⟩))
  go_ret2
  exact ⟨rfl, rfl⟩

set_option maxHeartbeats 400000 in
theorem unary6_no (t x : Int) (w : World) (hx : chk t x = false) : Calls Tryz.prog 120 #[.string ⟨#[70, 108, 111, 111, 114]⟩, .int .i64 t, .int .i64 x] w fun e w' => e = .returned (.tuple #[.int .i64 (un 6 t x).1, .int .i64 (un 6 t x).2]) ∧ w' = w := by
  rw [un_no 6 t x hx]
  go_enter Tryz.func120, Tryz.ntmps120
  go_wp2_with (first | (go_at_call 168; refine (check_any _ _ _).mono ?_; rintro e w' ⟨rfl, rfl⟩))
  go_ret2
  exact ⟨rfl, rfl⟩

set_option maxHeartbeats 400000 in
theorem unary6_6 (x : Int) (w : World) (hx : chk 6 x = true) : Calls Tryz.prog 120 #[.string ⟨#[70, 108, 111, 111, 114]⟩, .int .i64 6, .int .i64 x] w fun e w' => e = .returned (.tuple #[.int .i64 (un 6 6 x).1, .int .i64 (un 6 6 x).2]) ∧ w' = w := by
  rw [un_6 6 x hx (by decide)]
  go_enter Tryz.func120, Tryz.ntmps120
  go_wp2_with (first | (go_at_call 168; refine (check_any _ _ _).mono ?_; rintro e w' ⟨rfl, rfl⟩) | (go_at_call 192; refine (uint6_f _ _ _).mono ?_; rintro e w' ⟨rfl, rfl⟩))
  go_ret2
  exact ⟨rfl, rfl⟩

set_option maxHeartbeats 400000 in
theorem unary6_7 (x : Int) (w : World) (hx : chk 7 x = true) : Calls Tryz.prog 120 #[.string ⟨#[70, 108, 111, 111, 114]⟩, .int .i64 7, .int .i64 x] w fun e w' => e = .returned (.tuple #[.int .i64 (un 6 7 x).1, .int .i64 (un 6 7 x).2]) ∧ w' = w := by
  rw [un_7 6 x hx (by decide)]
  go_enter Tryz.func120, Tryz.ntmps120
  go_wp2_with (first | (go_at_call 168; refine (check_any _ _ _).mono ?_; rintro e w' ⟨rfl, rfl⟩) | (go_at_call 192; refine (uint6_f _ _ _).mono ?_; rintro e w' ⟨rfl, rfl⟩))
  go_ret2
  exact ⟨rfl, rfl⟩

set_option maxHeartbeats 400000 in
theorem unary6_9 (x : Int) (w : World) (hx : chk 9 x = true) : Calls Tryz.prog 120 #[.string ⟨#[70, 108, 111, 111, 114]⟩, .int .i64 9, .int .i64 x] w fun e w' => e = .returned (.tuple #[.int .i64 (un 6 9 x).1, .int .i64 (un 6 9 x).2]) ∧ w' = w := by
  rw [un_9 6 x hx (by decide)]
  go_enter Tryz.func120, Tryz.ntmps120
  go_wp2_with (first | (go_at_call 168; refine (check_any _ _ _).mono ?_; rintro e w' ⟨rfl, rfl⟩) | (go_at_call 193; refine (ubool6_f _ _).mono ?_; rintro e w' ⟨rfl, rfl⟩))
  go_ret2
  exact ⟨rfl, rfl⟩

set_option maxHeartbeats 400000 in
theorem unary7_no (t x : Int) (w : World) (hx : chk t x = false) : Calls Tryz.prog 120 #[.string ⟨#[69, 120, 112]⟩, .int .i64 t, .int .i64 x] w fun e w' => e = .returned (.tuple #[.int .i64 (un 7 t x).1, .int .i64 (un 7 t x).2]) ∧ w' = w := by
  rw [un_no 7 t x hx]
  go_enter Tryz.func120, Tryz.ntmps120
  go_wp2_with (first | (go_at_call 168; refine (check_any _ _ _).mono ?_; rintro e w' ⟨rfl, rfl⟩))
  go_ret2
  exact ⟨rfl, rfl⟩

set_option maxHeartbeats 400000 in
theorem unary7_6 (x : Int) (w : World) (hx : chk 6 x = true) : Calls Tryz.prog 120 #[.string ⟨#[69, 120, 112]⟩, .int .i64 6, .int .i64 x] w fun e w' => e = .returned (.tuple #[.int .i64 (un 7 6 x).1, .int .i64 (un 7 6 x).2]) ∧ w' = w := by
  rw [un_6 7 x hx (by decide)]
  go_enter Tryz.func120, Tryz.ntmps120
  go_wp2_with (first | (go_at_call 168; refine (check_any _ _ _).mono ?_; rintro e w' ⟨rfl, rfl⟩) | (go_at_call 192; refine (uint7_f _ _ _).mono ?_; rintro e w' ⟨rfl, rfl⟩))
  go_ret2
  exact ⟨rfl, rfl⟩

set_option maxHeartbeats 400000 in
theorem unary7_7 (x : Int) (w : World) (hx : chk 7 x = true) : Calls Tryz.prog 120 #[.string ⟨#[69, 120, 112]⟩, .int .i64 7, .int .i64 x] w fun e w' => e = .returned (.tuple #[.int .i64 (un 7 7 x).1, .int .i64 (un 7 7 x).2]) ∧ w' = w := by
  rw [un_7 7 x hx (by decide)]
  go_enter Tryz.func120, Tryz.ntmps120
  go_wp2_with (first | (go_at_call 168; refine (check_any _ _ _).mono ?_; rintro e w' ⟨rfl, rfl⟩) | (go_at_call 192; refine (uint7_f _ _ _).mono ?_; rintro e w' ⟨rfl, rfl⟩))
  go_ret2
  exact ⟨rfl, rfl⟩

set_option maxHeartbeats 400000 in
theorem unary7_9 (x : Int) (w : World) (hx : chk 9 x = true) : Calls Tryz.prog 120 #[.string ⟨#[69, 120, 112]⟩, .int .i64 9, .int .i64 x] w fun e w' => e = .returned (.tuple #[.int .i64 (un 7 9 x).1, .int .i64 (un 7 9 x).2]) ∧ w' = w := by
  rw [un_9 7 x hx (by decide)]
  go_enter Tryz.func120, Tryz.ntmps120
  go_wp2_with (first | (go_at_call 168; refine (check_any _ _ _).mono ?_; rintro e w' ⟨rfl, rfl⟩) | (go_at_call 193; refine (ubool7_f _ _).mono ?_; rintro e w' ⟨rfl, rfl⟩))
  go_ret2
  exact ⟨rfl, rfl⟩

set_option maxHeartbeats 400000 in
theorem unary8_no (t x : Int) (w : World) (hx : chk t x = false) : Calls Tryz.prog 120 #[.string ⟨#[83, 105, 103, 109, 111, 105, 100]⟩, .int .i64 t, .int .i64 x] w fun e w' => e = .returned (.tuple #[.int .i64 (un 8 t x).1, .int .i64 (un 8 t x).2]) ∧ w' = w := by
  rw [un_no 8 t x hx]
  go_enter Tryz.func120, Tryz.ntmps120
  go_wp2_with (first | (go_at_call 168; refine (check_any _ _ _).mono ?_; rintro e w' ⟨rfl, rfl⟩))
  go_ret2
  exact ⟨rfl, rfl⟩

set_option maxHeartbeats 400000 in
theorem unary8_6 (x : Int) (w : World) (hx : chk 6 x = true) : Calls Tryz.prog 120 #[.string ⟨#[83, 105, 103, 109, 111, 105, 100]⟩, .int .i64 6, .int .i64 x] w fun e w' => e = .returned (.tuple #[.int .i64 (un 8 6 x).1, .int .i64 (un 8 6 x).2]) ∧ w' = w := by
  rw [un_6 8 x hx (by decide)]
  go_enter Tryz.func120, Tryz.ntmps120
  go_wp2_with (first | (go_at_call 168; refine (check_any _ _ _).mono ?_; rintro e w' ⟨rfl, rfl⟩) | (go_at_call 192; refine (uint8_f _ _ _).mono ?_; rintro e w' ⟨rfl, rfl⟩))
  go_ret2
  exact ⟨rfl, rfl⟩

set_option maxHeartbeats 400000 in
theorem unary8_7 (x : Int) (w : World) (hx : chk 7 x = true) : Calls Tryz.prog 120 #[.string ⟨#[83, 105, 103, 109, 111, 105, 100]⟩, .int .i64 7, .int .i64 x] w fun e w' => e = .returned (.tuple #[.int .i64 (un 8 7 x).1, .int .i64 (un 8 7 x).2]) ∧ w' = w := by
  rw [un_7 8 x hx (by decide)]
  go_enter Tryz.func120, Tryz.ntmps120
  go_wp2_with (first | (go_at_call 168; refine (check_any _ _ _).mono ?_; rintro e w' ⟨rfl, rfl⟩) | (go_at_call 192; refine (uint8_f _ _ _).mono ?_; rintro e w' ⟨rfl, rfl⟩))
  go_ret2
  exact ⟨rfl, rfl⟩

set_option maxHeartbeats 400000 in
theorem unary8_9 (x : Int) (w : World) (hx : chk 9 x = true) : Calls Tryz.prog 120 #[.string ⟨#[83, 105, 103, 109, 111, 105, 100]⟩, .int .i64 9, .int .i64 x] w fun e w' => e = .returned (.tuple #[.int .i64 (un 8 9 x).1, .int .i64 (un 8 9 x).2]) ∧ w' = w := by
  rw [un_9 8 x hx (by decide)]
  go_enter Tryz.func120, Tryz.ntmps120
  go_wp2_with (first | (go_at_call 168; refine (check_any _ _ _).mono ?_; rintro e w' ⟨rfl, rfl⟩) | (go_at_call 193; refine (ubool8_f _ _).mono ?_; rintro e w' ⟨rfl, rfl⟩))
  go_ret2
  exact ⟨rfl, rfl⟩

set_option maxHeartbeats 400000 in
theorem unary9_no (t x : Int) (w : World) (hx : chk t x = false) : Calls Tryz.prog 120 #[.string ⟨#[84, 97, 110, 104]⟩, .int .i64 t, .int .i64 x] w fun e w' => e = .returned (.tuple #[.int .i64 (un 9 t x).1, .int .i64 (un 9 t x).2]) ∧ w' = w := by
  rw [un_no 9 t x hx]
  go_enter Tryz.func120, Tryz.ntmps120
  go_wp2_with (first | (go_at_call 168; refine (check_any _ _ _).mono ?_; rintro e w' ⟨rfl, rfl⟩))
  go_ret2
  exact ⟨rfl, rfl⟩

set_option maxHeartbeats 400000 in
theorem unary9_6 (x : Int) (w : World) (hx : chk 6 x = true) : Calls Tryz.prog 120 #[.string ⟨#[84, 97, 110, 104]⟩, .int .i64 6, .int .i64 x] w fun e w' => e = .returned (.tuple #[.int .i64 (un 9 6 x).1, .int .i64 (un 9 6 x).2]) ∧ w' = w := by
  rw [un_6 9 x hx (by decide)]
  go_enter Tryz.func120, Tryz.ntmps120
  go_wp2_with (first | (go_at_call 168; refine (check_any _ _ _).mono ?_; rintro e w' ⟨rfl, rfl⟩) | (go_at_call 192; refine (uint9_f _ _ _).mono ?_; rintro e w' ⟨rfl, rfl⟩))
  go_ret2
  exact ⟨rfl, rfl⟩

set_option maxHeartbeats 400000 in
theorem unary9_7 (x : Int) (w : World) (hx : chk 7 x = true) : Calls Tryz.prog 120 #[.string ⟨#[84, 97, 110, 104]⟩, .int .i64 7, .int .i64 x] w fun e w' => e = .returned (.tuple #[.int .i64 (un 9 7 x).1, .int .i64 (un 9 7 x).2]) ∧ w' = w := by
  rw [un_7 9 x hx (by decide)]
  go_enter Tryz.func120, Tryz.ntmps120
  go_wp2_with (first | (go_at_call 168; refine (check_any _ _ _).mono ?_; rintro e w' ⟨rfl, rfl⟩) | (go_at_call 192; refine (uint9_f _ _ _).mono ?_; rintro e w' ⟨rfl, rfl⟩))
  go_ret2
  exact ⟨rfl, rfl⟩

set_option maxHeartbeats 400000 in
theorem unary9_9 (x : Int) (w : World) (hx : chk 9 x = true) : Calls Tryz.prog 120 #[.string ⟨#[84, 97, 110, 104]⟩, .int .i64 9, .int .i64 x] w fun e w' => e = .returned (.tuple #[.int .i64 (un 9 9 x).1, .int .i64 (un 9 9 x).2]) ∧ w' = w := by
  rw [un_9 9 x hx (by decide)]
  go_enter Tryz.func120, Tryz.ntmps120
  go_wp2_with (first | (go_at_call 168; refine (check_any _ _ _).mono ?_; rintro e w' ⟨rfl, rfl⟩) | (go_at_call 193; refine (ubool9_f _ _).mono ?_; rintro e w' ⟨rfl, rfl⟩))
  go_ret2
  exact ⟨rfl, rfl⟩

end Go.Proofs.YtdcbjikjeicgbaaGreatDoor.Nu
