/- The walks of package num's Binary, operator by operator, at any type and any numbers. -/
import Derived.Test.YteigfipgmghgmaaGreatDoorNuWalkC
import Derived.Test.YteigfipgmghgmaaGreatDoorNuWalkD
namespace Go.Proofs.YteigfipgmghgmaaGreatDoor.Nu
open Go.RowKit

theorem chk_types (t x : Int) (h : chk t x = true) : t = 1 ∨ t = 6 ∨ t = 7 ∨ t = 9 := by
  unfold chk at h
  split at h
  · omega
  · split at h
    · omega
    · split at h
      · omega
      · split at h
        · omega
        · cases h

theorem chk9 (x : Int) (h : chk 9 x = true) : x = 0 ∨ x = 1 := by simpa [chk] using h

theorem bin_nox (k : Nat) (t x y : Int) (h : chk t x = false) : bin k t x y = (0, 1) := by simp [bin, h]
theorem bin_noy (k : Nat) (t x y : Int) (h : chk t y = false) : bin k t x y = (0, 1) := by simp [bin, h]
theorem bin_1 (k : Nat) (x y : Int) (hx : chk 1 x = true) (hy : chk 1 y = true) : bin k 1 x y = binFl k (fb x) (fb y) := by simp [bin, hx, hy]
theorem bin_6 (k : Nat) (x y : Int) (hx : chk 6 x = true) (hy : chk 6 y = true) : bin k 6 x y = binIn k 6 x y := by simp [bin, hx, hy]
theorem bin_7 (k : Nat) (x y : Int) (hx : chk 7 x = true) (hy : chk 7 y = true) : bin k 7 x y = binIn k 7 x y := by simp [bin, hx, hy]
theorem bin_9 (k : Nat) (x y : Int) (hx : chk 9 x = true) (hy : chk 9 y = true) : bin k 9 x y = binBo k x y := by simp [bin, hx, hy]

set_option maxHeartbeats 400000 in
theorem binary0_no (t x y : Int) (w : World) (h : chk t x = false ∨ chk t x = true ∧ chk t y = false) : Calls Tryz.prog 31 #[.string ⟨#[65, 100, 100]⟩, .int .i64 t, .int .i64 x, .int .i64 y] w fun e w' => e = .returned (.tuple #[.int .i64 0, .int .i64 1]) ∧ ∃ n, w' = w.drewN n := by
  rcases h with hx | ⟨hx, hy⟩
  all_goals
    go_enter Tryz.func31, Tryz.ntmps31
    go_wp2_with (first | (go_at_call 45; refine (check_any _ _ _).mono ?_; rintro e w' ⟨rfl, rfl⟩))
    go_ret2
    exact ⟨rfl, 0, rfl⟩

set_option maxHeartbeats 400000 in
theorem binary0_1 (x y : Int) (w : World) (hx : chk 1 x = true) (hy : chk 1 y = true) : Calls Tryz.prog 31 #[.string ⟨#[65, 100, 100]⟩, .int .i64 1, .int .i64 x, .int .i64 y] w fun e w' => e = .returned (.tuple #[.int .i64 (bin 0 1 x y).1, .int .i64 (bin 0 1 x y).2]) ∧ ∃ n, w' = w.drewN n := by
  rw [bin_1 0 x y hx hy]
  go_enter Tryz.func31, Tryz.ntmps31
  go_wp2_with (first | (go_at_call 45; refine (check_any _ _ _).mono ?_; rintro e w' ⟨rfl, rfl⟩) | (go_at_call 50; refine (from_any _ _).mono ?_; rintro e w' ⟨rfl, rfl⟩) | (go_at_call 53; refine (add_f _ _ _).mono ?_; rintro e w' ⟨rfl, n, rfl⟩))
  go_ret2
  exact ⟨rfl, _, rfl⟩

set_option maxHeartbeats 400000 in
theorem binary0_6 (x y : Int) (w : World) (hx : chk 6 x = true) (hy : chk 6 y = true) : Calls Tryz.prog 31 #[.string ⟨#[65, 100, 100]⟩, .int .i64 6, .int .i64 x, .int .i64 y] w fun e w' => e = .returned (.tuple #[.int .i64 (bin 0 6 x y).1, .int .i64 (bin 0 6 x y).2]) ∧ ∃ n, w' = w.drewN n := by
  rw [bin_6 0 x y hx hy]
  go_enter Tryz.func31, Tryz.ntmps31
  go_wp2_with (first | (go_at_call 45; refine (check_any _ _ _).mono ?_; rintro e w' ⟨rfl, rfl⟩) | (go_at_call 54; refine (int0_f _ _ _ _).mono ?_; rintro e w' ⟨rfl, rfl⟩))
  go_ret2
  exact ⟨rfl, 0, rfl⟩

set_option maxHeartbeats 400000 in
theorem binary0_7 (x y : Int) (w : World) (hx : chk 7 x = true) (hy : chk 7 y = true) : Calls Tryz.prog 31 #[.string ⟨#[65, 100, 100]⟩, .int .i64 7, .int .i64 x, .int .i64 y] w fun e w' => e = .returned (.tuple #[.int .i64 (bin 0 7 x y).1, .int .i64 (bin 0 7 x y).2]) ∧ ∃ n, w' = w.drewN n := by
  rw [bin_7 0 x y hx hy]
  go_enter Tryz.func31, Tryz.ntmps31
  go_wp2_with (first | (go_at_call 45; refine (check_any _ _ _).mono ?_; rintro e w' ⟨rfl, rfl⟩) | (go_at_call 54; refine (int0_f _ _ _ _).mono ?_; rintro e w' ⟨rfl, rfl⟩))
  go_ret2
  exact ⟨rfl, 0, rfl⟩

set_option maxHeartbeats 400000 in
theorem binary0_9 (x y : Int) (w : World) (hx : chk 9 x = true) (hy : chk 9 y = true) : Calls Tryz.prog 31 #[.string ⟨#[65, 100, 100]⟩, .int .i64 9, .int .i64 x, .int .i64 y] w fun e w' => e = .returned (.tuple #[.int .i64 (bin 0 9 x y).1, .int .i64 (bin 0 9 x y).2]) ∧ ∃ n, w' = w.drewN n := by
  rw [bin_9 0 x y hx hy]
  go_enter Tryz.func31, Tryz.ntmps31
  go_wp2_with (first | (go_at_call 45; refine (check_any _ _ _).mono ?_; rintro e w' ⟨rfl, rfl⟩) | (go_at_call 55; refine (bool0_f _ _ _).mono ?_; rintro e w' ⟨rfl, rfl⟩))
  go_ret2
  exact ⟨rfl, 0, rfl⟩

theorem binary0 (t x y : Int) (w : World) : Calls Tryz.prog 31 #[.string ⟨#[65, 100, 100]⟩, .int .i64 t, .int .i64 x, .int .i64 y] w fun e w' => e = .returned (.tuple #[.int .i64 (bin 0 t x y).1, .int .i64 (bin 0 t x y).2]) ∧ ∃ n, w' = w.drewN n := by
  cases hx : chk t x with
  | false => rw [bin_nox 0 t x y hx]; exact binary0_no t x y w (.inl hx)
  | true =>
    cases hy : chk t y with
    | false => rw [bin_noy 0 t x y hy]; exact binary0_no t x y w (.inr ⟨hx, hy⟩)
    | true =>
      rcases chk_types t x hx with rfl | rfl | rfl | rfl
      · exact binary0_1 x y w hx hy
      · exact binary0_6 x y w hx hy
      · exact binary0_7 x y w hx hy
      · exact binary0_9 x y w hx hy

set_option maxHeartbeats 400000 in
theorem binary1_no (t x y : Int) (w : World) (h : chk t x = false ∨ chk t x = true ∧ chk t y = false) : Calls Tryz.prog 31 #[.string ⟨#[83, 117, 98]⟩, .int .i64 t, .int .i64 x, .int .i64 y] w fun e w' => e = .returned (.tuple #[.int .i64 0, .int .i64 1]) ∧ ∃ n, w' = w.drewN n := by
  rcases h with hx | ⟨hx, hy⟩
  all_goals
    go_enter Tryz.func31, Tryz.ntmps31
    go_wp2_with (first | (go_at_call 45; refine (check_any _ _ _).mono ?_; rintro e w' ⟨rfl, rfl⟩))
    go_ret2
    exact ⟨rfl, 0, rfl⟩

set_option maxHeartbeats 400000 in
theorem binary1_1 (x y : Int) (w : World) (hx : chk 1 x = true) (hy : chk 1 y = true) : Calls Tryz.prog 31 #[.string ⟨#[83, 117, 98]⟩, .int .i64 1, .int .i64 x, .int .i64 y] w fun e w' => e = .returned (.tuple #[.int .i64 (bin 1 1 x y).1, .int .i64 (bin 1 1 x y).2]) ∧ ∃ n, w' = w.drewN n := by
  rw [bin_1 1 x y hx hy]
  go_enter Tryz.func31, Tryz.ntmps31
  go_wp2_with (first | (go_at_call 45; refine (check_any _ _ _).mono ?_; rintro e w' ⟨rfl, rfl⟩) | (go_at_call 50; refine (from_any _ _).mono ?_; rintro e w' ⟨rfl, rfl⟩) | (go_at_call 53; refine (sub_f _ _ _).mono ?_; rintro e w' ⟨rfl, n, rfl⟩))
  go_ret2
  exact ⟨rfl, _, rfl⟩

set_option maxHeartbeats 400000 in
theorem binary1_6 (x y : Int) (w : World) (hx : chk 6 x = true) (hy : chk 6 y = true) : Calls Tryz.prog 31 #[.string ⟨#[83, 117, 98]⟩, .int .i64 6, .int .i64 x, .int .i64 y] w fun e w' => e = .returned (.tuple #[.int .i64 (bin 1 6 x y).1, .int .i64 (bin 1 6 x y).2]) ∧ ∃ n, w' = w.drewN n := by
  rw [bin_6 1 x y hx hy]
  go_enter Tryz.func31, Tryz.ntmps31
  go_wp2_with (first | (go_at_call 45; refine (check_any _ _ _).mono ?_; rintro e w' ⟨rfl, rfl⟩) | (go_at_call 54; refine (int1_f _ _ _ _).mono ?_; rintro e w' ⟨rfl, rfl⟩))
  go_ret2
  exact ⟨rfl, 0, rfl⟩

set_option maxHeartbeats 400000 in
theorem binary1_7 (x y : Int) (w : World) (hx : chk 7 x = true) (hy : chk 7 y = true) : Calls Tryz.prog 31 #[.string ⟨#[83, 117, 98]⟩, .int .i64 7, .int .i64 x, .int .i64 y] w fun e w' => e = .returned (.tuple #[.int .i64 (bin 1 7 x y).1, .int .i64 (bin 1 7 x y).2]) ∧ ∃ n, w' = w.drewN n := by
  rw [bin_7 1 x y hx hy]
  go_enter Tryz.func31, Tryz.ntmps31
  go_wp2_with (first | (go_at_call 45; refine (check_any _ _ _).mono ?_; rintro e w' ⟨rfl, rfl⟩) | (go_at_call 54; refine (int1_f _ _ _ _).mono ?_; rintro e w' ⟨rfl, rfl⟩))
  go_ret2
  exact ⟨rfl, 0, rfl⟩

set_option maxHeartbeats 400000 in
theorem binary1_9 (x y : Int) (w : World) (hx : chk 9 x = true) (hy : chk 9 y = true) : Calls Tryz.prog 31 #[.string ⟨#[83, 117, 98]⟩, .int .i64 9, .int .i64 x, .int .i64 y] w fun e w' => e = .returned (.tuple #[.int .i64 (bin 1 9 x y).1, .int .i64 (bin 1 9 x y).2]) ∧ ∃ n, w' = w.drewN n := by
  rw [bin_9 1 x y hx hy]
  go_enter Tryz.func31, Tryz.ntmps31
  go_wp2_with (first | (go_at_call 45; refine (check_any _ _ _).mono ?_; rintro e w' ⟨rfl, rfl⟩) | (go_at_call 55; refine (bool1_f _ _ _).mono ?_; rintro e w' ⟨rfl, rfl⟩))
  go_ret2
  exact ⟨rfl, 0, rfl⟩

theorem binary1 (t x y : Int) (w : World) : Calls Tryz.prog 31 #[.string ⟨#[83, 117, 98]⟩, .int .i64 t, .int .i64 x, .int .i64 y] w fun e w' => e = .returned (.tuple #[.int .i64 (bin 1 t x y).1, .int .i64 (bin 1 t x y).2]) ∧ ∃ n, w' = w.drewN n := by
  cases hx : chk t x with
  | false => rw [bin_nox 1 t x y hx]; exact binary1_no t x y w (.inl hx)
  | true =>
    cases hy : chk t y with
    | false => rw [bin_noy 1 t x y hy]; exact binary1_no t x y w (.inr ⟨hx, hy⟩)
    | true =>
      rcases chk_types t x hx with rfl | rfl | rfl | rfl
      · exact binary1_1 x y w hx hy
      · exact binary1_6 x y w hx hy
      · exact binary1_7 x y w hx hy
      · exact binary1_9 x y w hx hy

set_option maxHeartbeats 400000 in
theorem binary2_no (t x y : Int) (w : World) (h : chk t x = false ∨ chk t x = true ∧ chk t y = false) : Calls Tryz.prog 31 #[.string ⟨#[77, 117, 108]⟩, .int .i64 t, .int .i64 x, .int .i64 y] w fun e w' => e = .returned (.tuple #[.int .i64 0, .int .i64 1]) ∧ ∃ n, w' = w.drewN n := by
  rcases h with hx | ⟨hx, hy⟩
  all_goals
    go_enter Tryz.func31, Tryz.ntmps31
    go_wp2_with (first | (go_at_call 45; refine (check_any _ _ _).mono ?_; rintro e w' ⟨rfl, rfl⟩))
    go_ret2
    exact ⟨rfl, 0, rfl⟩

set_option maxHeartbeats 400000 in
theorem binary2_1 (x y : Int) (w : World) (hx : chk 1 x = true) (hy : chk 1 y = true) : Calls Tryz.prog 31 #[.string ⟨#[77, 117, 108]⟩, .int .i64 1, .int .i64 x, .int .i64 y] w fun e w' => e = .returned (.tuple #[.int .i64 (bin 2 1 x y).1, .int .i64 (bin 2 1 x y).2]) ∧ ∃ n, w' = w.drewN n := by
  rw [bin_1 2 x y hx hy]
  go_enter Tryz.func31, Tryz.ntmps31
  go_wp2_with (first | (go_at_call 45; refine (check_any _ _ _).mono ?_; rintro e w' ⟨rfl, rfl⟩) | (go_at_call 50; refine (from_any _ _).mono ?_; rintro e w' ⟨rfl, rfl⟩) | (go_at_call 53; refine (mul_f _ _ _).mono ?_; rintro e w' ⟨rfl, n, rfl⟩))
  go_ret2
  exact ⟨rfl, _, rfl⟩

set_option maxHeartbeats 400000 in
theorem binary2_6 (x y : Int) (w : World) (hx : chk 6 x = true) (hy : chk 6 y = true) : Calls Tryz.prog 31 #[.string ⟨#[77, 117, 108]⟩, .int .i64 6, .int .i64 x, .int .i64 y] w fun e w' => e = .returned (.tuple #[.int .i64 (bin 2 6 x y).1, .int .i64 (bin 2 6 x y).2]) ∧ ∃ n, w' = w.drewN n := by
  rw [bin_6 2 x y hx hy]
  go_enter Tryz.func31, Tryz.ntmps31
  go_wp2_with (first | (go_at_call 45; refine (check_any _ _ _).mono ?_; rintro e w' ⟨rfl, rfl⟩) | (go_at_call 54; refine (int2_f _ _ _ _).mono ?_; rintro e w' ⟨rfl, rfl⟩))
  go_ret2
  exact ⟨rfl, 0, rfl⟩

set_option maxHeartbeats 400000 in
theorem binary2_7 (x y : Int) (w : World) (hx : chk 7 x = true) (hy : chk 7 y = true) : Calls Tryz.prog 31 #[.string ⟨#[77, 117, 108]⟩, .int .i64 7, .int .i64 x, .int .i64 y] w fun e w' => e = .returned (.tuple #[.int .i64 (bin 2 7 x y).1, .int .i64 (bin 2 7 x y).2]) ∧ ∃ n, w' = w.drewN n := by
  rw [bin_7 2 x y hx hy]
  go_enter Tryz.func31, Tryz.ntmps31
  go_wp2_with (first | (go_at_call 45; refine (check_any _ _ _).mono ?_; rintro e w' ⟨rfl, rfl⟩) | (go_at_call 54; refine (int2_f _ _ _ _).mono ?_; rintro e w' ⟨rfl, rfl⟩))
  go_ret2
  exact ⟨rfl, 0, rfl⟩

set_option maxHeartbeats 400000 in
theorem binary2_9 (x y : Int) (w : World) (hx : chk 9 x = true) (hy : chk 9 y = true) : Calls Tryz.prog 31 #[.string ⟨#[77, 117, 108]⟩, .int .i64 9, .int .i64 x, .int .i64 y] w fun e w' => e = .returned (.tuple #[.int .i64 (bin 2 9 x y).1, .int .i64 (bin 2 9 x y).2]) ∧ ∃ n, w' = w.drewN n := by
  rw [bin_9 2 x y hx hy]
  go_enter Tryz.func31, Tryz.ntmps31
  go_wp2_with (first | (go_at_call 45; refine (check_any _ _ _).mono ?_; rintro e w' ⟨rfl, rfl⟩) | (go_at_call 55; refine (bool2_f _ _ _).mono ?_; rintro e w' ⟨rfl, rfl⟩))
  go_ret2
  exact ⟨rfl, 0, rfl⟩

theorem binary2 (t x y : Int) (w : World) : Calls Tryz.prog 31 #[.string ⟨#[77, 117, 108]⟩, .int .i64 t, .int .i64 x, .int .i64 y] w fun e w' => e = .returned (.tuple #[.int .i64 (bin 2 t x y).1, .int .i64 (bin 2 t x y).2]) ∧ ∃ n, w' = w.drewN n := by
  cases hx : chk t x with
  | false => rw [bin_nox 2 t x y hx]; exact binary2_no t x y w (.inl hx)
  | true =>
    cases hy : chk t y with
    | false => rw [bin_noy 2 t x y hy]; exact binary2_no t x y w (.inr ⟨hx, hy⟩)
    | true =>
      rcases chk_types t x hx with rfl | rfl | rfl | rfl
      · exact binary2_1 x y w hx hy
      · exact binary2_6 x y w hx hy
      · exact binary2_7 x y w hx hy
      · exact binary2_9 x y w hx hy

set_option maxHeartbeats 400000 in
theorem binary3_no (t x y : Int) (w : World) (h : chk t x = false ∨ chk t x = true ∧ chk t y = false) : Calls Tryz.prog 31 #[.string ⟨#[68, 105, 118]⟩, .int .i64 t, .int .i64 x, .int .i64 y] w fun e w' => e = .returned (.tuple #[.int .i64 0, .int .i64 1]) ∧ ∃ n, w' = w.drewN n := by
  rcases h with hx | ⟨hx, hy⟩
  all_goals
    go_enter Tryz.func31, Tryz.ntmps31
    go_wp2_with (first | (go_at_call 45; refine (check_any _ _ _).mono ?_; rintro e w' ⟨rfl, rfl⟩))
    go_ret2
    exact ⟨rfl, 0, rfl⟩

set_option maxHeartbeats 400000 in
theorem binary3_1 (x y : Int) (w : World) (hx : chk 1 x = true) (hy : chk 1 y = true) : Calls Tryz.prog 31 #[.string ⟨#[68, 105, 118]⟩, .int .i64 1, .int .i64 x, .int .i64 y] w fun e w' => e = .returned (.tuple #[.int .i64 (bin 3 1 x y).1, .int .i64 (bin 3 1 x y).2]) ∧ ∃ n, w' = w.drewN n := by
  rw [bin_1 3 x y hx hy]
  go_enter Tryz.func31, Tryz.ntmps31
  go_wp2_with (first | (go_at_call 45; refine (check_any _ _ _).mono ?_; rintro e w' ⟨rfl, rfl⟩) | (go_at_call 50; refine (from_any _ _).mono ?_; rintro e w' ⟨rfl, rfl⟩) | (go_at_call 53; refine (div_f _ _ _).mono ?_; rintro e w' ⟨rfl, n, rfl⟩))
  go_ret2
  exact ⟨rfl, _, rfl⟩

set_option maxHeartbeats 400000 in
theorem binary3_6 (x y : Int) (w : World) (hx : chk 6 x = true) (hy : chk 6 y = true) : Calls Tryz.prog 31 #[.string ⟨#[68, 105, 118]⟩, .int .i64 6, .int .i64 x, .int .i64 y] w fun e w' => e = .returned (.tuple #[.int .i64 (bin 3 6 x y).1, .int .i64 (bin 3 6 x y).2]) ∧ ∃ n, w' = w.drewN n := by
  rw [bin_6 3 x y hx hy]
  cases h0 : (y == 0) with
  | true =>
    have e0 : binIn 3 6 x y = (0, 7) := by simp at h0; simp [binIn, h0]
    rw [e0]; clear e0
    go_enter Tryz.func31, Tryz.ntmps31
    go_wp2_with (first | (go_at_call 45; refine (check_any _ _ _).mono ?_; rintro e w' ⟨rfl, rfl⟩) | (go_at_call 54; refine (int3_no _ _ _ _ h0).mono ?_; rintro e w' ⟨rfl, rfl⟩))
    go_ret2
    exact ⟨rfl, 0, rfl⟩
  | false =>
    have e0 : binIn 3 6 x y = (wrapT 6 (wrap64 (x.tdiv y)), 0) := by simp at h0; simp [binIn, h0]
    rw [e0]; clear e0
    go_enter Tryz.func31, Tryz.ntmps31
    go_wp2_with (first | (go_at_call 45; refine (check_any _ _ _).mono ?_; rintro e w' ⟨rfl, rfl⟩) | (go_at_call 54; refine (int3_yes _ _ _ _ h0).mono ?_; rintro e w' ⟨rfl, rfl⟩))
    go_ret2
    exact ⟨rfl, 0, rfl⟩

set_option maxHeartbeats 400000 in
theorem binary3_7 (x y : Int) (w : World) (hx : chk 7 x = true) (hy : chk 7 y = true) : Calls Tryz.prog 31 #[.string ⟨#[68, 105, 118]⟩, .int .i64 7, .int .i64 x, .int .i64 y] w fun e w' => e = .returned (.tuple #[.int .i64 (bin 3 7 x y).1, .int .i64 (bin 3 7 x y).2]) ∧ ∃ n, w' = w.drewN n := by
  rw [bin_7 3 x y hx hy]
  cases h0 : (y == 0) with
  | true =>
    have e0 : binIn 3 7 x y = (0, 7) := by simp at h0; simp [binIn, h0]
    rw [e0]; clear e0
    go_enter Tryz.func31, Tryz.ntmps31
    go_wp2_with (first | (go_at_call 45; refine (check_any _ _ _).mono ?_; rintro e w' ⟨rfl, rfl⟩) | (go_at_call 54; refine (int3_no _ _ _ _ h0).mono ?_; rintro e w' ⟨rfl, rfl⟩))
    go_ret2
    exact ⟨rfl, 0, rfl⟩
  | false =>
    have e0 : binIn 3 7 x y = (wrapT 7 (wrap64 (x.tdiv y)), 0) := by simp at h0; simp [binIn, h0]
    rw [e0]; clear e0
    go_enter Tryz.func31, Tryz.ntmps31
    go_wp2_with (first | (go_at_call 45; refine (check_any _ _ _).mono ?_; rintro e w' ⟨rfl, rfl⟩) | (go_at_call 54; refine (int3_yes _ _ _ _ h0).mono ?_; rintro e w' ⟨rfl, rfl⟩))
    go_ret2
    exact ⟨rfl, 0, rfl⟩

set_option maxHeartbeats 400000 in
theorem binary3_9 (x y : Int) (w : World) (hx : chk 9 x = true) (hy : chk 9 y = true) : Calls Tryz.prog 31 #[.string ⟨#[68, 105, 118]⟩, .int .i64 9, .int .i64 x, .int .i64 y] w fun e w' => e = .returned (.tuple #[.int .i64 (bin 3 9 x y).1, .int .i64 (bin 3 9 x y).2]) ∧ ∃ n, w' = w.drewN n := by
  rw [bin_9 3 x y hx hy]
  go_enter Tryz.func31, Tryz.ntmps31
  go_wp2_with (first | (go_at_call 45; refine (check_any _ _ _).mono ?_; rintro e w' ⟨rfl, rfl⟩) | (go_at_call 55; refine (bool3_f _ _ _).mono ?_; rintro e w' ⟨rfl, rfl⟩))
  go_ret2
  exact ⟨rfl, 0, rfl⟩

theorem binary3 (t x y : Int) (w : World) : Calls Tryz.prog 31 #[.string ⟨#[68, 105, 118]⟩, .int .i64 t, .int .i64 x, .int .i64 y] w fun e w' => e = .returned (.tuple #[.int .i64 (bin 3 t x y).1, .int .i64 (bin 3 t x y).2]) ∧ ∃ n, w' = w.drewN n := by
  cases hx : chk t x with
  | false => rw [bin_nox 3 t x y hx]; exact binary3_no t x y w (.inl hx)
  | true =>
    cases hy : chk t y with
    | false => rw [bin_noy 3 t x y hy]; exact binary3_no t x y w (.inr ⟨hx, hy⟩)
    | true =>
      rcases chk_types t x hx with rfl | rfl | rfl | rfl
      · exact binary3_1 x y w hx hy
      · exact binary3_6 x y w hx hy
      · exact binary3_7 x y w hx hy
      · exact binary3_9 x y w hx hy

set_option maxHeartbeats 400000 in
theorem binary4_no (t x y : Int) (w : World) (h : chk t x = false ∨ chk t x = true ∧ chk t y = false) : Calls Tryz.prog 31 #[.string ⟨#[77, 97, 120]⟩, .int .i64 t, .int .i64 x, .int .i64 y] w fun e w' => e = .returned (.tuple #[.int .i64 0, .int .i64 1]) ∧ ∃ n, w' = w.drewN n := by
  rcases h with hx | ⟨hx, hy⟩
  all_goals
    go_enter Tryz.func31, Tryz.ntmps31
    go_wp2_with (first | (go_at_call 45; refine (check_any _ _ _).mono ?_; rintro e w' ⟨rfl, rfl⟩))
    go_ret2
    exact ⟨rfl, 0, rfl⟩

set_option maxHeartbeats 400000 in
theorem binary4_1 (x y : Int) (w : World) (hx : chk 1 x = true) (hy : chk 1 y = true) : Calls Tryz.prog 31 #[.string ⟨#[77, 97, 120]⟩, .int .i64 1, .int .i64 x, .int .i64 y] w fun e w' => e = .returned (.tuple #[.int .i64 (bin 4 1 x y).1, .int .i64 (bin 4 1 x y).2]) ∧ ∃ n, w' = w.drewN n := by
  rw [bin_1 4 x y hx hy]
  go_enter Tryz.func31, Tryz.ntmps31
  go_wp2_with (first | (go_at_call 45; refine (check_any _ _ _).mono ?_; rintro e w' ⟨rfl, rfl⟩) | (go_at_call 50; refine (from_any _ _).mono ?_; rintro e w' ⟨rfl, rfl⟩) | (go_at_call 53; refine (max_f _ _ _ (fb_lt _) (fb_lt _)).mono ?_; rintro e w' ⟨rfl, n, rfl⟩))
  go_ret2
  exact ⟨rfl, _, rfl⟩

set_option maxHeartbeats 400000 in
theorem binary4_6 (x y : Int) (w : World) (hx : chk 6 x = true) (hy : chk 6 y = true) : Calls Tryz.prog 31 #[.string ⟨#[77, 97, 120]⟩, .int .i64 6, .int .i64 x, .int .i64 y] w fun e w' => e = .returned (.tuple #[.int .i64 (bin 4 6 x y).1, .int .i64 (bin 4 6 x y).2]) ∧ ∃ n, w' = w.drewN n := by
  rw [bin_6 4 x y hx hy]
  go_enter Tryz.func31, Tryz.ntmps31
  go_wp2_with (first | (go_at_call 45; refine (check_any _ _ _).mono ?_; rintro e w' ⟨rfl, rfl⟩) | (go_at_call 54; refine (int4_f _ _ _ _).mono ?_; rintro e w' ⟨rfl, rfl⟩))
  go_ret2
  exact ⟨rfl, 0, rfl⟩

set_option maxHeartbeats 400000 in
theorem binary4_7 (x y : Int) (w : World) (hx : chk 7 x = true) (hy : chk 7 y = true) : Calls Tryz.prog 31 #[.string ⟨#[77, 97, 120]⟩, .int .i64 7, .int .i64 x, .int .i64 y] w fun e w' => e = .returned (.tuple #[.int .i64 (bin 4 7 x y).1, .int .i64 (bin 4 7 x y).2]) ∧ ∃ n, w' = w.drewN n := by
  rw [bin_7 4 x y hx hy]
  go_enter Tryz.func31, Tryz.ntmps31
  go_wp2_with (first | (go_at_call 45; refine (check_any _ _ _).mono ?_; rintro e w' ⟨rfl, rfl⟩) | (go_at_call 54; refine (int4_f _ _ _ _).mono ?_; rintro e w' ⟨rfl, rfl⟩))
  go_ret2
  exact ⟨rfl, 0, rfl⟩

set_option maxHeartbeats 400000 in
theorem binary4_9 (x y : Int) (w : World) (hx : chk 9 x = true) (hy : chk 9 y = true) : Calls Tryz.prog 31 #[.string ⟨#[77, 97, 120]⟩, .int .i64 9, .int .i64 x, .int .i64 y] w fun e w' => e = .returned (.tuple #[.int .i64 (bin 4 9 x y).1, .int .i64 (bin 4 9 x y).2]) ∧ ∃ n, w' = w.drewN n := by
  rw [bin_9 4 x y hx hy]
  go_enter Tryz.func31, Tryz.ntmps31
  go_wp2_with (first | (go_at_call 45; refine (check_any _ _ _).mono ?_; rintro e w' ⟨rfl, rfl⟩) | (go_at_call 55; refine (bool4_f _ _ _).mono ?_; rintro e w' ⟨rfl, rfl⟩))
  go_ret2
  exact ⟨rfl, 0, rfl⟩

theorem binary4 (t x y : Int) (w : World) : Calls Tryz.prog 31 #[.string ⟨#[77, 97, 120]⟩, .int .i64 t, .int .i64 x, .int .i64 y] w fun e w' => e = .returned (.tuple #[.int .i64 (bin 4 t x y).1, .int .i64 (bin 4 t x y).2]) ∧ ∃ n, w' = w.drewN n := by
  cases hx : chk t x with
  | false => rw [bin_nox 4 t x y hx]; exact binary4_no t x y w (.inl hx)
  | true =>
    cases hy : chk t y with
    | false => rw [bin_noy 4 t x y hy]; exact binary4_no t x y w (.inr ⟨hx, hy⟩)
    | true =>
      rcases chk_types t x hx with rfl | rfl | rfl | rfl
      · exact binary4_1 x y w hx hy
      · exact binary4_6 x y w hx hy
      · exact binary4_7 x y w hx hy
      · exact binary4_9 x y w hx hy

set_option maxHeartbeats 400000 in
theorem binary5_no (t x y : Int) (w : World) (h : chk t x = false ∨ chk t x = true ∧ chk t y = false) : Calls Tryz.prog 31 #[.string ⟨#[77, 105, 110]⟩, .int .i64 t, .int .i64 x, .int .i64 y] w fun e w' => e = .returned (.tuple #[.int .i64 0, .int .i64 1]) ∧ ∃ n, w' = w.drewN n := by
  rcases h with hx | ⟨hx, hy⟩
  all_goals
    go_enter Tryz.func31, Tryz.ntmps31
    go_wp2_with (first | (go_at_call 45; refine (check_any _ _ _).mono ?_; rintro e w' ⟨rfl, rfl⟩))
    go_ret2
    exact ⟨rfl, 0, rfl⟩

set_option maxHeartbeats 400000 in
theorem binary5_1 (x y : Int) (w : World) (hx : chk 1 x = true) (hy : chk 1 y = true) : Calls Tryz.prog 31 #[.string ⟨#[77, 105, 110]⟩, .int .i64 1, .int .i64 x, .int .i64 y] w fun e w' => e = .returned (.tuple #[.int .i64 (bin 5 1 x y).1, .int .i64 (bin 5 1 x y).2]) ∧ ∃ n, w' = w.drewN n := by
  rw [bin_1 5 x y hx hy]
  go_enter Tryz.func31, Tryz.ntmps31
  go_wp2_with (first | (go_at_call 45; refine (check_any _ _ _).mono ?_; rintro e w' ⟨rfl, rfl⟩) | (go_at_call 50; refine (from_any _ _).mono ?_; rintro e w' ⟨rfl, rfl⟩) | (go_at_call 53; refine (min_f _ _ _ (fb_lt _) (fb_lt _)).mono ?_; rintro e w' ⟨rfl, n, rfl⟩))
  go_ret2
  exact ⟨rfl, _, rfl⟩

set_option maxHeartbeats 400000 in
theorem binary5_6 (x y : Int) (w : World) (hx : chk 6 x = true) (hy : chk 6 y = true) : Calls Tryz.prog 31 #[.string ⟨#[77, 105, 110]⟩, .int .i64 6, .int .i64 x, .int .i64 y] w fun e w' => e = .returned (.tuple #[.int .i64 (bin 5 6 x y).1, .int .i64 (bin 5 6 x y).2]) ∧ ∃ n, w' = w.drewN n := by
  rw [bin_6 5 x y hx hy]
  go_enter Tryz.func31, Tryz.ntmps31
  go_wp2_with (first | (go_at_call 45; refine (check_any _ _ _).mono ?_; rintro e w' ⟨rfl, rfl⟩) | (go_at_call 54; refine (int5_f _ _ _ _).mono ?_; rintro e w' ⟨rfl, rfl⟩))
  go_ret2
  exact ⟨rfl, 0, rfl⟩

set_option maxHeartbeats 400000 in
theorem binary5_7 (x y : Int) (w : World) (hx : chk 7 x = true) (hy : chk 7 y = true) : Calls Tryz.prog 31 #[.string ⟨#[77, 105, 110]⟩, .int .i64 7, .int .i64 x, .int .i64 y] w fun e w' => e = .returned (.tuple #[.int .i64 (bin 5 7 x y).1, .int .i64 (bin 5 7 x y).2]) ∧ ∃ n, w' = w.drewN n := by
  rw [bin_7 5 x y hx hy]
  go_enter Tryz.func31, Tryz.ntmps31
  go_wp2_with (first | (go_at_call 45; refine (check_any _ _ _).mono ?_; rintro e w' ⟨rfl, rfl⟩) | (go_at_call 54; refine (int5_f _ _ _ _).mono ?_; rintro e w' ⟨rfl, rfl⟩))
  go_ret2
  exact ⟨rfl, 0, rfl⟩

set_option maxHeartbeats 400000 in
theorem binary5_9 (x y : Int) (w : World) (hx : chk 9 x = true) (hy : chk 9 y = true) : Calls Tryz.prog 31 #[.string ⟨#[77, 105, 110]⟩, .int .i64 9, .int .i64 x, .int .i64 y] w fun e w' => e = .returned (.tuple #[.int .i64 (bin 5 9 x y).1, .int .i64 (bin 5 9 x y).2]) ∧ ∃ n, w' = w.drewN n := by
  rw [bin_9 5 x y hx hy]
  go_enter Tryz.func31, Tryz.ntmps31
  go_wp2_with (first | (go_at_call 45; refine (check_any _ _ _).mono ?_; rintro e w' ⟨rfl, rfl⟩) | (go_at_call 55; refine (bool5_f _ _ _).mono ?_; rintro e w' ⟨rfl, rfl⟩))
  go_ret2
  exact ⟨rfl, 0, rfl⟩

theorem binary5 (t x y : Int) (w : World) : Calls Tryz.prog 31 #[.string ⟨#[77, 105, 110]⟩, .int .i64 t, .int .i64 x, .int .i64 y] w fun e w' => e = .returned (.tuple #[.int .i64 (bin 5 t x y).1, .int .i64 (bin 5 t x y).2]) ∧ ∃ n, w' = w.drewN n := by
  cases hx : chk t x with
  | false => rw [bin_nox 5 t x y hx]; exact binary5_no t x y w (.inl hx)
  | true =>
    cases hy : chk t y with
    | false => rw [bin_noy 5 t x y hy]; exact binary5_no t x y w (.inr ⟨hx, hy⟩)
    | true =>
      rcases chk_types t x hx with rfl | rfl | rfl | rfl
      · exact binary5_1 x y w hx hy
      · exact binary5_6 x y w hx hy
      · exact binary5_7 x y w hx hy
      · exact binary5_9 x y w hx hy

set_option maxHeartbeats 400000 in
theorem binary6_no (t x y : Int) (w : World) (h : chk t x = false ∨ chk t x = true ∧ chk t y = false) : Calls Tryz.prog 31 #[.string ⟨#[65, 110, 100]⟩, .int .i64 t, .int .i64 x, .int .i64 y] w fun e w' => e = .returned (.tuple #[.int .i64 0, .int .i64 1]) ∧ ∃ n, w' = w.drewN n := by
  rcases h with hx | ⟨hx, hy⟩
  all_goals
    go_enter Tryz.func31, Tryz.ntmps31
    go_wp2_with (first | (go_at_call 45; refine (check_any _ _ _).mono ?_; rintro e w' ⟨rfl, rfl⟩))
    go_ret2
    exact ⟨rfl, 0, rfl⟩

set_option maxHeartbeats 400000 in
theorem binary6_1 (x y : Int) (w : World) (hx : chk 1 x = true) (hy : chk 1 y = true) : Calls Tryz.prog 31 #[.string ⟨#[65, 110, 100]⟩, .int .i64 1, .int .i64 x, .int .i64 y] w fun e w' => e = .returned (.tuple #[.int .i64 (bin 6 1 x y).1, .int .i64 (bin 6 1 x y).2]) ∧ ∃ n, w' = w.drewN n := by
  rw [bin_1 6 x y hx hy]
  go_enter Tryz.func31, Tryz.ntmps31
  go_wp2_with (first | (go_at_call 45; refine (check_any _ _ _).mono ?_; rintro e w' ⟨rfl, rfl⟩) | (go_at_call 50; refine (from_any _ _).mono ?_; rintro e w' ⟨rfl, rfl⟩) | (go_at_call 53; refine (no6_f _ _ _).mono ?_; rintro e w' ⟨rfl, n, rfl⟩))
  go_ret2
  exact ⟨rfl, _, rfl⟩

set_option maxHeartbeats 400000 in
theorem binary6_6 (x y : Int) (w : World) (hx : chk 6 x = true) (hy : chk 6 y = true) : Calls Tryz.prog 31 #[.string ⟨#[65, 110, 100]⟩, .int .i64 6, .int .i64 x, .int .i64 y] w fun e w' => e = .returned (.tuple #[.int .i64 (bin 6 6 x y).1, .int .i64 (bin 6 6 x y).2]) ∧ ∃ n, w' = w.drewN n := by
  rw [bin_6 6 x y hx hy]
  go_enter Tryz.func31, Tryz.ntmps31
  go_wp2_with (first | (go_at_call 45; refine (check_any _ _ _).mono ?_; rintro e w' ⟨rfl, rfl⟩) | (go_at_call 54; refine (int6_f _ _ _ _).mono ?_; rintro e w' ⟨rfl, rfl⟩))
  go_ret2
  exact ⟨rfl, 0, rfl⟩

set_option maxHeartbeats 400000 in
theorem binary6_7 (x y : Int) (w : World) (hx : chk 7 x = true) (hy : chk 7 y = true) : Calls Tryz.prog 31 #[.string ⟨#[65, 110, 100]⟩, .int .i64 7, .int .i64 x, .int .i64 y] w fun e w' => e = .returned (.tuple #[.int .i64 (bin 6 7 x y).1, .int .i64 (bin 6 7 x y).2]) ∧ ∃ n, w' = w.drewN n := by
  rw [bin_7 6 x y hx hy]
  go_enter Tryz.func31, Tryz.ntmps31
  go_wp2_with (first | (go_at_call 45; refine (check_any _ _ _).mono ?_; rintro e w' ⟨rfl, rfl⟩) | (go_at_call 54; refine (int6_f _ _ _ _).mono ?_; rintro e w' ⟨rfl, rfl⟩))
  go_ret2
  exact ⟨rfl, 0, rfl⟩

set_option maxHeartbeats 400000 in
theorem binary6_9 (x y : Int) (w : World) (hx : chk 9 x = true) (hy : chk 9 y = true) : Calls Tryz.prog 31 #[.string ⟨#[65, 110, 100]⟩, .int .i64 9, .int .i64 x, .int .i64 y] w fun e w' => e = .returned (.tuple #[.int .i64 (bin 6 9 x y).1, .int .i64 (bin 6 9 x y).2]) ∧ ∃ n, w' = w.drewN n := by
  rw [bin_9 6 x y hx hy]
  go_enter Tryz.func31, Tryz.ntmps31
  go_wp2_with (first | (go_at_call 45; refine (check_any _ _ _).mono ?_; rintro e w' ⟨rfl, rfl⟩) | (go_at_call 55; refine (bool6_f _ _ _ (chk9 _ hx) (chk9 _ hy)).mono ?_; rintro e w' ⟨rfl, rfl⟩))
  go_ret2
  exact ⟨rfl, 0, rfl⟩

theorem binary6 (t x y : Int) (w : World) : Calls Tryz.prog 31 #[.string ⟨#[65, 110, 100]⟩, .int .i64 t, .int .i64 x, .int .i64 y] w fun e w' => e = .returned (.tuple #[.int .i64 (bin 6 t x y).1, .int .i64 (bin 6 t x y).2]) ∧ ∃ n, w' = w.drewN n := by
  cases hx : chk t x with
  | false => rw [bin_nox 6 t x y hx]; exact binary6_no t x y w (.inl hx)
  | true =>
    cases hy : chk t y with
    | false => rw [bin_noy 6 t x y hy]; exact binary6_no t x y w (.inr ⟨hx, hy⟩)
    | true =>
      rcases chk_types t x hx with rfl | rfl | rfl | rfl
      · exact binary6_1 x y w hx hy
      · exact binary6_6 x y w hx hy
      · exact binary6_7 x y w hx hy
      · exact binary6_9 x y w hx hy

set_option maxHeartbeats 400000 in
theorem binary7_no (t x y : Int) (w : World) (h : chk t x = false ∨ chk t x = true ∧ chk t y = false) : Calls Tryz.prog 31 #[.string ⟨#[79, 114]⟩, .int .i64 t, .int .i64 x, .int .i64 y] w fun e w' => e = .returned (.tuple #[.int .i64 0, .int .i64 1]) ∧ ∃ n, w' = w.drewN n := by
  rcases h with hx | ⟨hx, hy⟩
  all_goals
    go_enter Tryz.func31, Tryz.ntmps31
    go_wp2_with (first | (go_at_call 45; refine (check_any _ _ _).mono ?_; rintro e w' ⟨rfl, rfl⟩))
    go_ret2
    exact ⟨rfl, 0, rfl⟩

set_option maxHeartbeats 400000 in
theorem binary7_1 (x y : Int) (w : World) (hx : chk 1 x = true) (hy : chk 1 y = true) : Calls Tryz.prog 31 #[.string ⟨#[79, 114]⟩, .int .i64 1, .int .i64 x, .int .i64 y] w fun e w' => e = .returned (.tuple #[.int .i64 (bin 7 1 x y).1, .int .i64 (bin 7 1 x y).2]) ∧ ∃ n, w' = w.drewN n := by
  rw [bin_1 7 x y hx hy]
  go_enter Tryz.func31, Tryz.ntmps31
  go_wp2_with (first | (go_at_call 45; refine (check_any _ _ _).mono ?_; rintro e w' ⟨rfl, rfl⟩) | (go_at_call 50; refine (from_any _ _).mono ?_; rintro e w' ⟨rfl, rfl⟩) | (go_at_call 53; refine (no7_f _ _ _).mono ?_; rintro e w' ⟨rfl, n, rfl⟩))
  go_ret2
  exact ⟨rfl, _, rfl⟩

set_option maxHeartbeats 400000 in
theorem binary7_6 (x y : Int) (w : World) (hx : chk 6 x = true) (hy : chk 6 y = true) : Calls Tryz.prog 31 #[.string ⟨#[79, 114]⟩, .int .i64 6, .int .i64 x, .int .i64 y] w fun e w' => e = .returned (.tuple #[.int .i64 (bin 7 6 x y).1, .int .i64 (bin 7 6 x y).2]) ∧ ∃ n, w' = w.drewN n := by
  rw [bin_6 7 x y hx hy]
  go_enter Tryz.func31, Tryz.ntmps31
  go_wp2_with (first | (go_at_call 45; refine (check_any _ _ _).mono ?_; rintro e w' ⟨rfl, rfl⟩) | (go_at_call 54; refine (int7_f _ _ _ _).mono ?_; rintro e w' ⟨rfl, rfl⟩))
  go_ret2
  exact ⟨rfl, 0, rfl⟩

set_option maxHeartbeats 400000 in
theorem binary7_7 (x y : Int) (w : World) (hx : chk 7 x = true) (hy : chk 7 y = true) : Calls Tryz.prog 31 #[.string ⟨#[79, 114]⟩, .int .i64 7, .int .i64 x, .int .i64 y] w fun e w' => e = .returned (.tuple #[.int .i64 (bin 7 7 x y).1, .int .i64 (bin 7 7 x y).2]) ∧ ∃ n, w' = w.drewN n := by
  rw [bin_7 7 x y hx hy]
  go_enter Tryz.func31, Tryz.ntmps31
  go_wp2_with (first | (go_at_call 45; refine (check_any _ _ _).mono ?_; rintro e w' ⟨rfl, rfl⟩) | (go_at_call 54; refine (int7_f _ _ _ _).mono ?_; rintro e w' ⟨rfl, rfl⟩))
  go_ret2
  exact ⟨rfl, 0, rfl⟩

set_option maxHeartbeats 400000 in
theorem binary7_9 (x y : Int) (w : World) (hx : chk 9 x = true) (hy : chk 9 y = true) : Calls Tryz.prog 31 #[.string ⟨#[79, 114]⟩, .int .i64 9, .int .i64 x, .int .i64 y] w fun e w' => e = .returned (.tuple #[.int .i64 (bin 7 9 x y).1, .int .i64 (bin 7 9 x y).2]) ∧ ∃ n, w' = w.drewN n := by
  rw [bin_9 7 x y hx hy]
  go_enter Tryz.func31, Tryz.ntmps31
  go_wp2_with (first | (go_at_call 45; refine (check_any _ _ _).mono ?_; rintro e w' ⟨rfl, rfl⟩) | (go_at_call 55; refine (bool7_f _ _ _ (chk9 _ hx) (chk9 _ hy)).mono ?_; rintro e w' ⟨rfl, rfl⟩))
  go_ret2
  exact ⟨rfl, 0, rfl⟩

theorem binary7 (t x y : Int) (w : World) : Calls Tryz.prog 31 #[.string ⟨#[79, 114]⟩, .int .i64 t, .int .i64 x, .int .i64 y] w fun e w' => e = .returned (.tuple #[.int .i64 (bin 7 t x y).1, .int .i64 (bin 7 t x y).2]) ∧ ∃ n, w' = w.drewN n := by
  cases hx : chk t x with
  | false => rw [bin_nox 7 t x y hx]; exact binary7_no t x y w (.inl hx)
  | true =>
    cases hy : chk t y with
    | false => rw [bin_noy 7 t x y hy]; exact binary7_no t x y w (.inr ⟨hx, hy⟩)
    | true =>
      rcases chk_types t x hx with rfl | rfl | rfl | rfl
      · exact binary7_1 x y w hx hy
      · exact binary7_6 x y w hx hy
      · exact binary7_7 x y w hx hy
      · exact binary7_9 x y w hx hy

set_option maxHeartbeats 400000 in
theorem binary8_no (t x y : Int) (w : World) (h : chk t x = false ∨ chk t x = true ∧ chk t y = false) : Calls Tryz.prog 31 #[.string ⟨#[88, 111, 114]⟩, .int .i64 t, .int .i64 x, .int .i64 y] w fun e w' => e = .returned (.tuple #[.int .i64 0, .int .i64 1]) ∧ ∃ n, w' = w.drewN n := by
  rcases h with hx | ⟨hx, hy⟩
  all_goals
    go_enter Tryz.func31, Tryz.ntmps31
    go_wp2_with (first | (go_at_call 45; refine (check_any _ _ _).mono ?_; rintro e w' ⟨rfl, rfl⟩))
    go_ret2
    exact ⟨rfl, 0, rfl⟩

set_option maxHeartbeats 400000 in
theorem binary8_1 (x y : Int) (w : World) (hx : chk 1 x = true) (hy : chk 1 y = true) : Calls Tryz.prog 31 #[.string ⟨#[88, 111, 114]⟩, .int .i64 1, .int .i64 x, .int .i64 y] w fun e w' => e = .returned (.tuple #[.int .i64 (bin 8 1 x y).1, .int .i64 (bin 8 1 x y).2]) ∧ ∃ n, w' = w.drewN n := by
  rw [bin_1 8 x y hx hy]
  go_enter Tryz.func31, Tryz.ntmps31
  go_wp2_with (first | (go_at_call 45; refine (check_any _ _ _).mono ?_; rintro e w' ⟨rfl, rfl⟩) | (go_at_call 50; refine (from_any _ _).mono ?_; rintro e w' ⟨rfl, rfl⟩) | (go_at_call 53; refine (no8_f _ _ _).mono ?_; rintro e w' ⟨rfl, n, rfl⟩))
  go_ret2
  exact ⟨rfl, _, rfl⟩

set_option maxHeartbeats 400000 in
theorem binary8_6 (x y : Int) (w : World) (hx : chk 6 x = true) (hy : chk 6 y = true) : Calls Tryz.prog 31 #[.string ⟨#[88, 111, 114]⟩, .int .i64 6, .int .i64 x, .int .i64 y] w fun e w' => e = .returned (.tuple #[.int .i64 (bin 8 6 x y).1, .int .i64 (bin 8 6 x y).2]) ∧ ∃ n, w' = w.drewN n := by
  rw [bin_6 8 x y hx hy]
  go_enter Tryz.func31, Tryz.ntmps31
  go_wp2_with (first | (go_at_call 45; refine (check_any _ _ _).mono ?_; rintro e w' ⟨rfl, rfl⟩) | (go_at_call 54; refine (int8_f _ _ _ _).mono ?_; rintro e w' ⟨rfl, rfl⟩))
  go_ret2
  exact ⟨rfl, 0, rfl⟩

set_option maxHeartbeats 400000 in
theorem binary8_7 (x y : Int) (w : World) (hx : chk 7 x = true) (hy : chk 7 y = true) : Calls Tryz.prog 31 #[.string ⟨#[88, 111, 114]⟩, .int .i64 7, .int .i64 x, .int .i64 y] w fun e w' => e = .returned (.tuple #[.int .i64 (bin 8 7 x y).1, .int .i64 (bin 8 7 x y).2]) ∧ ∃ n, w' = w.drewN n := by
  rw [bin_7 8 x y hx hy]
  go_enter Tryz.func31, Tryz.ntmps31
  go_wp2_with (first | (go_at_call 45; refine (check_any _ _ _).mono ?_; rintro e w' ⟨rfl, rfl⟩) | (go_at_call 54; refine (int8_f _ _ _ _).mono ?_; rintro e w' ⟨rfl, rfl⟩))
  go_ret2
  exact ⟨rfl, 0, rfl⟩

set_option maxHeartbeats 400000 in
theorem binary8_9 (x y : Int) (w : World) (hx : chk 9 x = true) (hy : chk 9 y = true) : Calls Tryz.prog 31 #[.string ⟨#[88, 111, 114]⟩, .int .i64 9, .int .i64 x, .int .i64 y] w fun e w' => e = .returned (.tuple #[.int .i64 (bin 8 9 x y).1, .int .i64 (bin 8 9 x y).2]) ∧ ∃ n, w' = w.drewN n := by
  rw [bin_9 8 x y hx hy]
  go_enter Tryz.func31, Tryz.ntmps31
  go_wp2_with (first | (go_at_call 45; refine (check_any _ _ _).mono ?_; rintro e w' ⟨rfl, rfl⟩) | (go_at_call 55; refine (bool8_f _ _ _ (chk9 _ hx) (chk9 _ hy)).mono ?_; rintro e w' ⟨rfl, rfl⟩))
  go_ret2
  exact ⟨rfl, 0, rfl⟩

theorem binary8 (t x y : Int) (w : World) : Calls Tryz.prog 31 #[.string ⟨#[88, 111, 114]⟩, .int .i64 t, .int .i64 x, .int .i64 y] w fun e w' => e = .returned (.tuple #[.int .i64 (bin 8 t x y).1, .int .i64 (bin 8 t x y).2]) ∧ ∃ n, w' = w.drewN n := by
  cases hx : chk t x with
  | false => rw [bin_nox 8 t x y hx]; exact binary8_no t x y w (.inl hx)
  | true =>
    cases hy : chk t y with
    | false => rw [bin_noy 8 t x y hy]; exact binary8_no t x y w (.inr ⟨hx, hy⟩)
    | true =>
      rcases chk_types t x hx with rfl | rfl | rfl | rfl
      · exact binary8_1 x y w hx hy
      · exact binary8_6 x y w hx hy
      · exact binary8_7 x y w hx hy
      · exact binary8_9 x y w hx hy

set_option maxHeartbeats 400000 in
theorem binary9_no (t x y : Int) (w : World) (h : chk t x = false ∨ chk t x = true ∧ chk t y = false) : Calls Tryz.prog 31 #[.string ⟨#[69, 113, 117, 97, 108]⟩, .int .i64 t, .int .i64 x, .int .i64 y] w fun e w' => e = .returned (.tuple #[.int .i64 0, .int .i64 1]) ∧ ∃ n, w' = w.drewN n := by
  rcases h with hx | ⟨hx, hy⟩
  all_goals
    go_enter Tryz.func31, Tryz.ntmps31
    go_wp2_with (first | (go_at_call 45; refine (check_any _ _ _).mono ?_; rintro e w' ⟨rfl, rfl⟩))
    go_ret2
    exact ⟨rfl, 0, rfl⟩

set_option maxHeartbeats 400000 in
theorem binary9_1 (x y : Int) (w : World) (hx : chk 1 x = true) (hy : chk 1 y = true) : Calls Tryz.prog 31 #[.string ⟨#[69, 113, 117, 97, 108]⟩, .int .i64 1, .int .i64 x, .int .i64 y] w fun e w' => e = .returned (.tuple #[.int .i64 (bin 9 1 x y).1, .int .i64 (bin 9 1 x y).2]) ∧ ∃ n, w' = w.drewN n := by
  rw [bin_1 9 x y hx hy]
  go_enter Tryz.func31, Tryz.ntmps31
  go_wp2_with (first | (go_at_call 45; refine (check_any _ _ _).mono ?_; rintro e w' ⟨rfl, rfl⟩) | (go_at_call 50; refine (from_any _ _).mono ?_; rintro e w' ⟨rfl, rfl⟩) | (go_at_call 53; refine (cmp9_f _ _ _).mono ?_; rintro e w' ⟨rfl, n, rfl⟩))
  go_ret2
  exact ⟨rfl, _, rfl⟩

set_option maxHeartbeats 400000 in
theorem binary9_6 (x y : Int) (w : World) (hx : chk 6 x = true) (hy : chk 6 y = true) : Calls Tryz.prog 31 #[.string ⟨#[69, 113, 117, 97, 108]⟩, .int .i64 6, .int .i64 x, .int .i64 y] w fun e w' => e = .returned (.tuple #[.int .i64 (bin 9 6 x y).1, .int .i64 (bin 9 6 x y).2]) ∧ ∃ n, w' = w.drewN n := by
  rw [bin_6 9 x y hx hy]
  go_enter Tryz.func31, Tryz.ntmps31
  go_wp2_with (first | (go_at_call 45; refine (check_any _ _ _).mono ?_; rintro e w' ⟨rfl, rfl⟩) | (go_at_call 54; refine (int9_f _ _ _ _).mono ?_; rintro e w' ⟨rfl, rfl⟩))
  go_ret2
  exact ⟨rfl, 0, rfl⟩

set_option maxHeartbeats 400000 in
theorem binary9_7 (x y : Int) (w : World) (hx : chk 7 x = true) (hy : chk 7 y = true) : Calls Tryz.prog 31 #[.string ⟨#[69, 113, 117, 97, 108]⟩, .int .i64 7, .int .i64 x, .int .i64 y] w fun e w' => e = .returned (.tuple #[.int .i64 (bin 9 7 x y).1, .int .i64 (bin 9 7 x y).2]) ∧ ∃ n, w' = w.drewN n := by
  rw [bin_7 9 x y hx hy]
  go_enter Tryz.func31, Tryz.ntmps31
  go_wp2_with (first | (go_at_call 45; refine (check_any _ _ _).mono ?_; rintro e w' ⟨rfl, rfl⟩) | (go_at_call 54; refine (int9_f _ _ _ _).mono ?_; rintro e w' ⟨rfl, rfl⟩))
  go_ret2
  exact ⟨rfl, 0, rfl⟩

set_option maxHeartbeats 400000 in
theorem binary9_9 (x y : Int) (w : World) (hx : chk 9 x = true) (hy : chk 9 y = true) : Calls Tryz.prog 31 #[.string ⟨#[69, 113, 117, 97, 108]⟩, .int .i64 9, .int .i64 x, .int .i64 y] w fun e w' => e = .returned (.tuple #[.int .i64 (bin 9 9 x y).1, .int .i64 (bin 9 9 x y).2]) ∧ ∃ n, w' = w.drewN n := by
  rw [bin_9 9 x y hx hy]
  go_enter Tryz.func31, Tryz.ntmps31
  go_wp2_with (first | (go_at_call 45; refine (check_any _ _ _).mono ?_; rintro e w' ⟨rfl, rfl⟩) | (go_at_call 55; refine (bool9_f _ _ _).mono ?_; rintro e w' ⟨rfl, rfl⟩))
  go_ret2
  exact ⟨rfl, 0, rfl⟩

theorem binary9 (t x y : Int) (w : World) : Calls Tryz.prog 31 #[.string ⟨#[69, 113, 117, 97, 108]⟩, .int .i64 t, .int .i64 x, .int .i64 y] w fun e w' => e = .returned (.tuple #[.int .i64 (bin 9 t x y).1, .int .i64 (bin 9 t x y).2]) ∧ ∃ n, w' = w.drewN n := by
  cases hx : chk t x with
  | false => rw [bin_nox 9 t x y hx]; exact binary9_no t x y w (.inl hx)
  | true =>
    cases hy : chk t y with
    | false => rw [bin_noy 9 t x y hy]; exact binary9_no t x y w (.inr ⟨hx, hy⟩)
    | true =>
      rcases chk_types t x hx with rfl | rfl | rfl | rfl
      · exact binary9_1 x y w hx hy
      · exact binary9_6 x y w hx hy
      · exact binary9_7 x y w hx hy
      · exact binary9_9 x y w hx hy

set_option maxHeartbeats 400000 in
theorem binary10_no (t x y : Int) (w : World) (h : chk t x = false ∨ chk t x = true ∧ chk t y = false) : Calls Tryz.prog 31 #[.string ⟨#[76, 101, 115, 115]⟩, .int .i64 t, .int .i64 x, .int .i64 y] w fun e w' => e = .returned (.tuple #[.int .i64 0, .int .i64 1]) ∧ ∃ n, w' = w.drewN n := by
  rcases h with hx | ⟨hx, hy⟩
  all_goals
    go_enter Tryz.func31, Tryz.ntmps31
    go_wp2_with (first | (go_at_call 45; refine (check_any _ _ _).mono ?_; rintro e w' ⟨rfl, rfl⟩))
    go_ret2
    exact ⟨rfl, 0, rfl⟩

set_option maxHeartbeats 400000 in
theorem binary10_1 (x y : Int) (w : World) (hx : chk 1 x = true) (hy : chk 1 y = true) : Calls Tryz.prog 31 #[.string ⟨#[76, 101, 115, 115]⟩, .int .i64 1, .int .i64 x, .int .i64 y] w fun e w' => e = .returned (.tuple #[.int .i64 (bin 10 1 x y).1, .int .i64 (bin 10 1 x y).2]) ∧ ∃ n, w' = w.drewN n := by
  rw [bin_1 10 x y hx hy]
  go_enter Tryz.func31, Tryz.ntmps31
  go_wp2_with (first | (go_at_call 45; refine (check_any _ _ _).mono ?_; rintro e w' ⟨rfl, rfl⟩) | (go_at_call 50; refine (from_any _ _).mono ?_; rintro e w' ⟨rfl, rfl⟩) | (go_at_call 53; refine (cmp10_f _ _ _).mono ?_; rintro e w' ⟨rfl, n, rfl⟩))
  go_ret2
  exact ⟨rfl, _, rfl⟩

set_option maxHeartbeats 400000 in
theorem binary10_6 (x y : Int) (w : World) (hx : chk 6 x = true) (hy : chk 6 y = true) : Calls Tryz.prog 31 #[.string ⟨#[76, 101, 115, 115]⟩, .int .i64 6, .int .i64 x, .int .i64 y] w fun e w' => e = .returned (.tuple #[.int .i64 (bin 10 6 x y).1, .int .i64 (bin 10 6 x y).2]) ∧ ∃ n, w' = w.drewN n := by
  rw [bin_6 10 x y hx hy]
  go_enter Tryz.func31, Tryz.ntmps31
  go_wp2_with (first | (go_at_call 45; refine (check_any _ _ _).mono ?_; rintro e w' ⟨rfl, rfl⟩) | (go_at_call 54; refine (int10_f _ _ _ _).mono ?_; rintro e w' ⟨rfl, rfl⟩))
  go_ret2
  exact ⟨rfl, 0, rfl⟩

set_option maxHeartbeats 400000 in
theorem binary10_7 (x y : Int) (w : World) (hx : chk 7 x = true) (hy : chk 7 y = true) : Calls Tryz.prog 31 #[.string ⟨#[76, 101, 115, 115]⟩, .int .i64 7, .int .i64 x, .int .i64 y] w fun e w' => e = .returned (.tuple #[.int .i64 (bin 10 7 x y).1, .int .i64 (bin 10 7 x y).2]) ∧ ∃ n, w' = w.drewN n := by
  rw [bin_7 10 x y hx hy]
  go_enter Tryz.func31, Tryz.ntmps31
  go_wp2_with (first | (go_at_call 45; refine (check_any _ _ _).mono ?_; rintro e w' ⟨rfl, rfl⟩) | (go_at_call 54; refine (int10_f _ _ _ _).mono ?_; rintro e w' ⟨rfl, rfl⟩))
  go_ret2
  exact ⟨rfl, 0, rfl⟩

set_option maxHeartbeats 400000 in
theorem binary10_9 (x y : Int) (w : World) (hx : chk 9 x = true) (hy : chk 9 y = true) : Calls Tryz.prog 31 #[.string ⟨#[76, 101, 115, 115]⟩, .int .i64 9, .int .i64 x, .int .i64 y] w fun e w' => e = .returned (.tuple #[.int .i64 (bin 10 9 x y).1, .int .i64 (bin 10 9 x y).2]) ∧ ∃ n, w' = w.drewN n := by
  rw [bin_9 10 x y hx hy]
  go_enter Tryz.func31, Tryz.ntmps31
  go_wp2_with (first | (go_at_call 45; refine (check_any _ _ _).mono ?_; rintro e w' ⟨rfl, rfl⟩) | (go_at_call 55; refine (bool10_f _ _ _).mono ?_; rintro e w' ⟨rfl, rfl⟩))
  go_ret2
  exact ⟨rfl, 0, rfl⟩

theorem binary10 (t x y : Int) (w : World) : Calls Tryz.prog 31 #[.string ⟨#[76, 101, 115, 115]⟩, .int .i64 t, .int .i64 x, .int .i64 y] w fun e w' => e = .returned (.tuple #[.int .i64 (bin 10 t x y).1, .int .i64 (bin 10 t x y).2]) ∧ ∃ n, w' = w.drewN n := by
  cases hx : chk t x with
  | false => rw [bin_nox 10 t x y hx]; exact binary10_no t x y w (.inl hx)
  | true =>
    cases hy : chk t y with
    | false => rw [bin_noy 10 t x y hy]; exact binary10_no t x y w (.inr ⟨hx, hy⟩)
    | true =>
      rcases chk_types t x hx with rfl | rfl | rfl | rfl
      · exact binary10_1 x y w hx hy
      · exact binary10_6 x y w hx hy
      · exact binary10_7 x y w hx hy
      · exact binary10_9 x y w hx hy

set_option maxHeartbeats 400000 in
theorem binary11_no (t x y : Int) (w : World) (h : chk t x = false ∨ chk t x = true ∧ chk t y = false) : Calls Tryz.prog 31 #[.string ⟨#[71, 114, 101, 97, 116, 101, 114]⟩, .int .i64 t, .int .i64 x, .int .i64 y] w fun e w' => e = .returned (.tuple #[.int .i64 0, .int .i64 1]) ∧ ∃ n, w' = w.drewN n := by
  rcases h with hx | ⟨hx, hy⟩
  all_goals
    go_enter Tryz.func31, Tryz.ntmps31
    go_wp2_with (first | (go_at_call 45; refine (check_any _ _ _).mono ?_; rintro e w' ⟨rfl, rfl⟩))
    go_ret2
    exact ⟨rfl, 0, rfl⟩

set_option maxHeartbeats 400000 in
theorem binary11_1 (x y : Int) (w : World) (hx : chk 1 x = true) (hy : chk 1 y = true) : Calls Tryz.prog 31 #[.string ⟨#[71, 114, 101, 97, 116, 101, 114]⟩, .int .i64 1, .int .i64 x, .int .i64 y] w fun e w' => e = .returned (.tuple #[.int .i64 (bin 11 1 x y).1, .int .i64 (bin 11 1 x y).2]) ∧ ∃ n, w' = w.drewN n := by
  rw [bin_1 11 x y hx hy]
  go_enter Tryz.func31, Tryz.ntmps31
  go_wp2_with (first | (go_at_call 45; refine (check_any _ _ _).mono ?_; rintro e w' ⟨rfl, rfl⟩) | (go_at_call 50; refine (from_any _ _).mono ?_; rintro e w' ⟨rfl, rfl⟩) | (go_at_call 53; refine (cmp11_f _ _ _).mono ?_; rintro e w' ⟨rfl, n, rfl⟩))
  go_ret2
  exact ⟨rfl, _, rfl⟩

set_option maxHeartbeats 400000 in
theorem binary11_6 (x y : Int) (w : World) (hx : chk 6 x = true) (hy : chk 6 y = true) : Calls Tryz.prog 31 #[.string ⟨#[71, 114, 101, 97, 116, 101, 114]⟩, .int .i64 6, .int .i64 x, .int .i64 y] w fun e w' => e = .returned (.tuple #[.int .i64 (bin 11 6 x y).1, .int .i64 (bin 11 6 x y).2]) ∧ ∃ n, w' = w.drewN n := by
  rw [bin_6 11 x y hx hy]
  go_enter Tryz.func31, Tryz.ntmps31
  go_wp2_with (first | (go_at_call 45; refine (check_any _ _ _).mono ?_; rintro e w' ⟨rfl, rfl⟩) | (go_at_call 54; refine (int11_f _ _ _ _).mono ?_; rintro e w' ⟨rfl, rfl⟩))
  go_ret2
  exact ⟨rfl, 0, rfl⟩

set_option maxHeartbeats 400000 in
theorem binary11_7 (x y : Int) (w : World) (hx : chk 7 x = true) (hy : chk 7 y = true) : Calls Tryz.prog 31 #[.string ⟨#[71, 114, 101, 97, 116, 101, 114]⟩, .int .i64 7, .int .i64 x, .int .i64 y] w fun e w' => e = .returned (.tuple #[.int .i64 (bin 11 7 x y).1, .int .i64 (bin 11 7 x y).2]) ∧ ∃ n, w' = w.drewN n := by
  rw [bin_7 11 x y hx hy]
  go_enter Tryz.func31, Tryz.ntmps31
  go_wp2_with (first | (go_at_call 45; refine (check_any _ _ _).mono ?_; rintro e w' ⟨rfl, rfl⟩) | (go_at_call 54; refine (int11_f _ _ _ _).mono ?_; rintro e w' ⟨rfl, rfl⟩))
  go_ret2
  exact ⟨rfl, 0, rfl⟩

set_option maxHeartbeats 400000 in
theorem binary11_9 (x y : Int) (w : World) (hx : chk 9 x = true) (hy : chk 9 y = true) : Calls Tryz.prog 31 #[.string ⟨#[71, 114, 101, 97, 116, 101, 114]⟩, .int .i64 9, .int .i64 x, .int .i64 y] w fun e w' => e = .returned (.tuple #[.int .i64 (bin 11 9 x y).1, .int .i64 (bin 11 9 x y).2]) ∧ ∃ n, w' = w.drewN n := by
  rw [bin_9 11 x y hx hy]
  go_enter Tryz.func31, Tryz.ntmps31
  go_wp2_with (first | (go_at_call 45; refine (check_any _ _ _).mono ?_; rintro e w' ⟨rfl, rfl⟩) | (go_at_call 55; refine (bool11_f _ _ _).mono ?_; rintro e w' ⟨rfl, rfl⟩))
  go_ret2
  exact ⟨rfl, 0, rfl⟩

theorem binary11 (t x y : Int) (w : World) : Calls Tryz.prog 31 #[.string ⟨#[71, 114, 101, 97, 116, 101, 114]⟩, .int .i64 t, .int .i64 x, .int .i64 y] w fun e w' => e = .returned (.tuple #[.int .i64 (bin 11 t x y).1, .int .i64 (bin 11 t x y).2]) ∧ ∃ n, w' = w.drewN n := by
  cases hx : chk t x with
  | false => rw [bin_nox 11 t x y hx]; exact binary11_no t x y w (.inl hx)
  | true =>
    cases hy : chk t y with
    | false => rw [bin_noy 11 t x y hy]; exact binary11_no t x y w (.inr ⟨hx, hy⟩)
    | true =>
      rcases chk_types t x hx with rfl | rfl | rfl | rfl
      · exact binary11_1 x y w hx hy
      · exact binary11_6 x y w hx hy
      · exact binary11_7 x y w hx hy
      · exact binary11_9 x y w hx hy

end Go.Proofs.YteigfipgmghgmaaGreatDoor.Nu
