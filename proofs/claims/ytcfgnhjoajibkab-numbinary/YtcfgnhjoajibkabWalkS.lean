/- The walks of the document's own Binary, operator by operator: it gives what package num gives; and of both at an operator that there is not. -/
import Derived.Test.YtcfgnhjoajibkabWalkR
namespace Go.Proofs.Ytcfgnhjoajibkab
open Go.RowKit
attribute [local go_sem] ext_from ext_bits

set_option maxHeartbeats 400000 in
theorem rbinary0_no (t x y : Int) (w : World) (h : chk t x = false ∨ chk t x = true ∧ chk t y = false) : Calls Try.prog 15 #[.string ⟨#[65, 100, 100]⟩, .int .i64 t, .int .i64 x, .int .i64 y] w fun e w' => e = .returned (.tuple #[.int .i64 0, .int .i64 1]) ∧ ∃ n, w' = w.drewN n := by
  rcases h with hx | ⟨hx, hy⟩
  all_goals
    go_enter Try.func15, Try.ntmps15
    go_wp2_with (first | (go_at_call 12; refine (rcheck_any _ _ _).mono ?_; rintro e w' ⟨rfl, rfl⟩) | go_in)
    go_ret2
    exact ⟨rfl, 0, rfl⟩

set_option maxHeartbeats 400000 in
theorem rbinary0_1 (x y : Int) (w : World) (hx : chk 1 x = true) (hy : chk 1 y = true) : Calls Try.prog 15 #[.string ⟨#[65, 100, 100]⟩, .int .i64 1, .int .i64 x, .int .i64 y] w fun e w' => e = .returned (.tuple #[.int .i64 (bin 0 1 x y).1, .int .i64 (bin 0 1 x y).2]) ∧ ∃ n, w' = w.drewN n := by
  rw [bin_1 0 x y hx hy]
  go_enter Try.func15, Try.ntmps15
  go_wp2_with (first | (go_at_call 12; refine (rcheck_any _ _ _).mono ?_; rintro e w' ⟨rfl, rfl⟩) | (go_at_call 31; refine (rfl0 _ _ _).mono ?_; rintro e w' ⟨rfl, n, rfl⟩) | go_in)
  go_ret2
  exact ⟨rfl, _, rfl⟩

set_option maxHeartbeats 400000 in
theorem rbinary0_6 (x y : Int) (w : World) (hx : chk 6 x = true) (hy : chk 6 y = true) : Calls Try.prog 15 #[.string ⟨#[65, 100, 100]⟩, .int .i64 6, .int .i64 x, .int .i64 y] w fun e w' => e = .returned (.tuple #[.int .i64 (bin 0 6 x y).1, .int .i64 (bin 0 6 x y).2]) ∧ ∃ n, w' = w.drewN n := by
  rw [bin_6 0 x y hx hy]
  go_enter Try.func15, Try.ntmps15
  go_wp2_with (first | (go_at_call 12; refine (rcheck_any _ _ _).mono ?_; rintro e w' ⟨rfl, rfl⟩) | (go_at_call 32; refine (rint0 _ _ _ _).mono ?_; rintro e w' ⟨rfl, rfl⟩) | go_in)
  go_ret2
  exact ⟨rfl, 0, rfl⟩

set_option maxHeartbeats 400000 in
theorem rbinary0_7 (x y : Int) (w : World) (hx : chk 7 x = true) (hy : chk 7 y = true) : Calls Try.prog 15 #[.string ⟨#[65, 100, 100]⟩, .int .i64 7, .int .i64 x, .int .i64 y] w fun e w' => e = .returned (.tuple #[.int .i64 (bin 0 7 x y).1, .int .i64 (bin 0 7 x y).2]) ∧ ∃ n, w' = w.drewN n := by
  rw [bin_7 0 x y hx hy]
  go_enter Try.func15, Try.ntmps15
  go_wp2_with (first | (go_at_call 12; refine (rcheck_any _ _ _).mono ?_; rintro e w' ⟨rfl, rfl⟩) | (go_at_call 32; refine (rint0 _ _ _ _).mono ?_; rintro e w' ⟨rfl, rfl⟩) | go_in)
  go_ret2
  exact ⟨rfl, 0, rfl⟩

set_option maxHeartbeats 400000 in
theorem rbinary0_9 (x y : Int) (w : World) (hx : chk 9 x = true) (hy : chk 9 y = true) : Calls Try.prog 15 #[.string ⟨#[65, 100, 100]⟩, .int .i64 9, .int .i64 x, .int .i64 y] w fun e w' => e = .returned (.tuple #[.int .i64 (bin 0 9 x y).1, .int .i64 (bin 0 9 x y).2]) ∧ ∃ n, w' = w.drewN n := by
  rw [bin_9 0 x y hx hy]
  rcases chk9 x hx with rfl | rfl <;> rcases chk9 y hy with rfl | rfl
  all_goals
    go_enter Try.func15, Try.ntmps15
    go_wp2_with (first | (go_at_call 12; refine (rcheck_any _ _ _).mono ?_; rintro e w' ⟨rfl, rfl⟩) | go_in)
    go_ret2
    exact ⟨rfl, 0, rfl⟩

theorem rbinary0 (t x y : Int) (w : World) : Calls Try.prog 15 #[.string ⟨#[65, 100, 100]⟩, .int .i64 t, .int .i64 x, .int .i64 y] w fun e w' => e = .returned (.tuple #[.int .i64 (bin 0 t x y).1, .int .i64 (bin 0 t x y).2]) ∧ ∃ n, w' = w.drewN n := by
  cases hx : chk t x with
  | false => rw [bin_nox 0 t x y hx]; exact rbinary0_no t x y w (.inl hx)
  | true =>
    cases hy : chk t y with
    | false => rw [bin_noy 0 t x y hy]; exact rbinary0_no t x y w (.inr ⟨hx, hy⟩)
    | true =>
      rcases chk_types t x hx with rfl | rfl | rfl | rfl
      · exact rbinary0_1 x y w hx hy
      · exact rbinary0_6 x y w hx hy
      · exact rbinary0_7 x y w hx hy
      · exact rbinary0_9 x y w hx hy

set_option maxHeartbeats 400000 in
theorem rbinary1_no (t x y : Int) (w : World) (h : chk t x = false ∨ chk t x = true ∧ chk t y = false) : Calls Try.prog 15 #[.string ⟨#[83, 117, 98]⟩, .int .i64 t, .int .i64 x, .int .i64 y] w fun e w' => e = .returned (.tuple #[.int .i64 0, .int .i64 1]) ∧ ∃ n, w' = w.drewN n := by
  rcases h with hx | ⟨hx, hy⟩
  all_goals
    go_enter Try.func15, Try.ntmps15
    go_wp2_with (first | (go_at_call 12; refine (rcheck_any _ _ _).mono ?_; rintro e w' ⟨rfl, rfl⟩) | go_in)
    go_ret2
    exact ⟨rfl, 0, rfl⟩

set_option maxHeartbeats 400000 in
theorem rbinary1_1 (x y : Int) (w : World) (hx : chk 1 x = true) (hy : chk 1 y = true) : Calls Try.prog 15 #[.string ⟨#[83, 117, 98]⟩, .int .i64 1, .int .i64 x, .int .i64 y] w fun e w' => e = .returned (.tuple #[.int .i64 (bin 1 1 x y).1, .int .i64 (bin 1 1 x y).2]) ∧ ∃ n, w' = w.drewN n := by
  rw [bin_1 1 x y hx hy]
  go_enter Try.func15, Try.ntmps15
  go_wp2_with (first | (go_at_call 12; refine (rcheck_any _ _ _).mono ?_; rintro e w' ⟨rfl, rfl⟩) | (go_at_call 31; refine (rfl1 _ _ _).mono ?_; rintro e w' ⟨rfl, n, rfl⟩) | go_in)
  go_ret2
  exact ⟨rfl, _, rfl⟩

set_option maxHeartbeats 400000 in
theorem rbinary1_6 (x y : Int) (w : World) (hx : chk 6 x = true) (hy : chk 6 y = true) : Calls Try.prog 15 #[.string ⟨#[83, 117, 98]⟩, .int .i64 6, .int .i64 x, .int .i64 y] w fun e w' => e = .returned (.tuple #[.int .i64 (bin 1 6 x y).1, .int .i64 (bin 1 6 x y).2]) ∧ ∃ n, w' = w.drewN n := by
  rw [bin_6 1 x y hx hy]
  go_enter Try.func15, Try.ntmps15
  go_wp2_with (first | (go_at_call 12; refine (rcheck_any _ _ _).mono ?_; rintro e w' ⟨rfl, rfl⟩) | (go_at_call 32; refine (rint1 _ _ _ _).mono ?_; rintro e w' ⟨rfl, rfl⟩) | go_in)
  go_ret2
  exact ⟨rfl, 0, rfl⟩

set_option maxHeartbeats 400000 in
theorem rbinary1_7 (x y : Int) (w : World) (hx : chk 7 x = true) (hy : chk 7 y = true) : Calls Try.prog 15 #[.string ⟨#[83, 117, 98]⟩, .int .i64 7, .int .i64 x, .int .i64 y] w fun e w' => e = .returned (.tuple #[.int .i64 (bin 1 7 x y).1, .int .i64 (bin 1 7 x y).2]) ∧ ∃ n, w' = w.drewN n := by
  rw [bin_7 1 x y hx hy]
  go_enter Try.func15, Try.ntmps15
  go_wp2_with (first | (go_at_call 12; refine (rcheck_any _ _ _).mono ?_; rintro e w' ⟨rfl, rfl⟩) | (go_at_call 32; refine (rint1 _ _ _ _).mono ?_; rintro e w' ⟨rfl, rfl⟩) | go_in)
  go_ret2
  exact ⟨rfl, 0, rfl⟩

set_option maxHeartbeats 400000 in
theorem rbinary1_9 (x y : Int) (w : World) (hx : chk 9 x = true) (hy : chk 9 y = true) : Calls Try.prog 15 #[.string ⟨#[83, 117, 98]⟩, .int .i64 9, .int .i64 x, .int .i64 y] w fun e w' => e = .returned (.tuple #[.int .i64 (bin 1 9 x y).1, .int .i64 (bin 1 9 x y).2]) ∧ ∃ n, w' = w.drewN n := by
  rw [bin_9 1 x y hx hy]
  rcases chk9 x hx with rfl | rfl <;> rcases chk9 y hy with rfl | rfl
  all_goals
    go_enter Try.func15, Try.ntmps15
    go_wp2_with (first | (go_at_call 12; refine (rcheck_any _ _ _).mono ?_; rintro e w' ⟨rfl, rfl⟩) | go_in)
    go_ret2
    exact ⟨rfl, 0, rfl⟩

theorem rbinary1 (t x y : Int) (w : World) : Calls Try.prog 15 #[.string ⟨#[83, 117, 98]⟩, .int .i64 t, .int .i64 x, .int .i64 y] w fun e w' => e = .returned (.tuple #[.int .i64 (bin 1 t x y).1, .int .i64 (bin 1 t x y).2]) ∧ ∃ n, w' = w.drewN n := by
  cases hx : chk t x with
  | false => rw [bin_nox 1 t x y hx]; exact rbinary1_no t x y w (.inl hx)
  | true =>
    cases hy : chk t y with
    | false => rw [bin_noy 1 t x y hy]; exact rbinary1_no t x y w (.inr ⟨hx, hy⟩)
    | true =>
      rcases chk_types t x hx with rfl | rfl | rfl | rfl
      · exact rbinary1_1 x y w hx hy
      · exact rbinary1_6 x y w hx hy
      · exact rbinary1_7 x y w hx hy
      · exact rbinary1_9 x y w hx hy

set_option maxHeartbeats 400000 in
theorem rbinary2_no (t x y : Int) (w : World) (h : chk t x = false ∨ chk t x = true ∧ chk t y = false) : Calls Try.prog 15 #[.string ⟨#[77, 117, 108]⟩, .int .i64 t, .int .i64 x, .int .i64 y] w fun e w' => e = .returned (.tuple #[.int .i64 0, .int .i64 1]) ∧ ∃ n, w' = w.drewN n := by
  rcases h with hx | ⟨hx, hy⟩
  all_goals
    go_enter Try.func15, Try.ntmps15
    go_wp2_with (first | (go_at_call 12; refine (rcheck_any _ _ _).mono ?_; rintro e w' ⟨rfl, rfl⟩) | go_in)
    go_ret2
    exact ⟨rfl, 0, rfl⟩

set_option maxHeartbeats 400000 in
theorem rbinary2_1 (x y : Int) (w : World) (hx : chk 1 x = true) (hy : chk 1 y = true) : Calls Try.prog 15 #[.string ⟨#[77, 117, 108]⟩, .int .i64 1, .int .i64 x, .int .i64 y] w fun e w' => e = .returned (.tuple #[.int .i64 (bin 2 1 x y).1, .int .i64 (bin 2 1 x y).2]) ∧ ∃ n, w' = w.drewN n := by
  rw [bin_1 2 x y hx hy]
  go_enter Try.func15, Try.ntmps15
  go_wp2_with (first | (go_at_call 12; refine (rcheck_any _ _ _).mono ?_; rintro e w' ⟨rfl, rfl⟩) | (go_at_call 31; refine (rfl2 _ _ _).mono ?_; rintro e w' ⟨rfl, n, rfl⟩) | go_in)
  go_ret2
  exact ⟨rfl, _, rfl⟩

set_option maxHeartbeats 400000 in
theorem rbinary2_6 (x y : Int) (w : World) (hx : chk 6 x = true) (hy : chk 6 y = true) : Calls Try.prog 15 #[.string ⟨#[77, 117, 108]⟩, .int .i64 6, .int .i64 x, .int .i64 y] w fun e w' => e = .returned (.tuple #[.int .i64 (bin 2 6 x y).1, .int .i64 (bin 2 6 x y).2]) ∧ ∃ n, w' = w.drewN n := by
  rw [bin_6 2 x y hx hy]
  go_enter Try.func15, Try.ntmps15
  go_wp2_with (first | (go_at_call 12; refine (rcheck_any _ _ _).mono ?_; rintro e w' ⟨rfl, rfl⟩) | (go_at_call 32; refine (rint2 _ _ _ _).mono ?_; rintro e w' ⟨rfl, rfl⟩) | go_in)
  go_ret2
  exact ⟨rfl, 0, rfl⟩

set_option maxHeartbeats 400000 in
theorem rbinary2_7 (x y : Int) (w : World) (hx : chk 7 x = true) (hy : chk 7 y = true) : Calls Try.prog 15 #[.string ⟨#[77, 117, 108]⟩, .int .i64 7, .int .i64 x, .int .i64 y] w fun e w' => e = .returned (.tuple #[.int .i64 (bin 2 7 x y).1, .int .i64 (bin 2 7 x y).2]) ∧ ∃ n, w' = w.drewN n := by
  rw [bin_7 2 x y hx hy]
  go_enter Try.func15, Try.ntmps15
  go_wp2_with (first | (go_at_call 12; refine (rcheck_any _ _ _).mono ?_; rintro e w' ⟨rfl, rfl⟩) | (go_at_call 32; refine (rint2 _ _ _ _).mono ?_; rintro e w' ⟨rfl, rfl⟩) | go_in)
  go_ret2
  exact ⟨rfl, 0, rfl⟩

set_option maxHeartbeats 400000 in
theorem rbinary2_9 (x y : Int) (w : World) (hx : chk 9 x = true) (hy : chk 9 y = true) : Calls Try.prog 15 #[.string ⟨#[77, 117, 108]⟩, .int .i64 9, .int .i64 x, .int .i64 y] w fun e w' => e = .returned (.tuple #[.int .i64 (bin 2 9 x y).1, .int .i64 (bin 2 9 x y).2]) ∧ ∃ n, w' = w.drewN n := by
  rw [bin_9 2 x y hx hy]
  rcases chk9 x hx with rfl | rfl <;> rcases chk9 y hy with rfl | rfl
  all_goals
    go_enter Try.func15, Try.ntmps15
    go_wp2_with (first | (go_at_call 12; refine (rcheck_any _ _ _).mono ?_; rintro e w' ⟨rfl, rfl⟩) | go_in)
    go_ret2
    exact ⟨rfl, 0, rfl⟩

theorem rbinary2 (t x y : Int) (w : World) : Calls Try.prog 15 #[.string ⟨#[77, 117, 108]⟩, .int .i64 t, .int .i64 x, .int .i64 y] w fun e w' => e = .returned (.tuple #[.int .i64 (bin 2 t x y).1, .int .i64 (bin 2 t x y).2]) ∧ ∃ n, w' = w.drewN n := by
  cases hx : chk t x with
  | false => rw [bin_nox 2 t x y hx]; exact rbinary2_no t x y w (.inl hx)
  | true =>
    cases hy : chk t y with
    | false => rw [bin_noy 2 t x y hy]; exact rbinary2_no t x y w (.inr ⟨hx, hy⟩)
    | true =>
      rcases chk_types t x hx with rfl | rfl | rfl | rfl
      · exact rbinary2_1 x y w hx hy
      · exact rbinary2_6 x y w hx hy
      · exact rbinary2_7 x y w hx hy
      · exact rbinary2_9 x y w hx hy

set_option maxHeartbeats 400000 in
theorem rbinary3_no (t x y : Int) (w : World) (h : chk t x = false ∨ chk t x = true ∧ chk t y = false) : Calls Try.prog 15 #[.string ⟨#[68, 105, 118]⟩, .int .i64 t, .int .i64 x, .int .i64 y] w fun e w' => e = .returned (.tuple #[.int .i64 0, .int .i64 1]) ∧ ∃ n, w' = w.drewN n := by
  rcases h with hx | ⟨hx, hy⟩
  all_goals
    go_enter Try.func15, Try.ntmps15
    go_wp2_with (first | (go_at_call 12; refine (rcheck_any _ _ _).mono ?_; rintro e w' ⟨rfl, rfl⟩) | go_in)
    go_ret2
    exact ⟨rfl, 0, rfl⟩

set_option maxHeartbeats 400000 in
theorem rbinary3_1 (x y : Int) (w : World) (hx : chk 1 x = true) (hy : chk 1 y = true) : Calls Try.prog 15 #[.string ⟨#[68, 105, 118]⟩, .int .i64 1, .int .i64 x, .int .i64 y] w fun e w' => e = .returned (.tuple #[.int .i64 (bin 3 1 x y).1, .int .i64 (bin 3 1 x y).2]) ∧ ∃ n, w' = w.drewN n := by
  rw [bin_1 3 x y hx hy]
  go_enter Try.func15, Try.ntmps15
  go_wp2_with (first | (go_at_call 12; refine (rcheck_any _ _ _).mono ?_; rintro e w' ⟨rfl, rfl⟩) | (go_at_call 31; refine (rfl3 _ _ _).mono ?_; rintro e w' ⟨rfl, n, rfl⟩) | go_in)
  go_ret2
  exact ⟨rfl, _, rfl⟩

set_option maxHeartbeats 400000 in
theorem rbinary3_6 (x y : Int) (w : World) (hx : chk 6 x = true) (hy : chk 6 y = true) (hw : -9223372036854775808 ≤ x ∧ x ≤ 9223372036854775807) : Calls Try.prog 15 #[.string ⟨#[68, 105, 118]⟩, .int .i64 6, .int .i64 x, .int .i64 y] w fun e w' => e = .returned (.tuple #[.int .i64 (bin 3 6 x y).1, .int .i64 (bin 3 6 x y).2]) ∧ ∃ n, w' = w.drewN n := by
  rw [bin_6 3 x y hx hy]
  have hd := fun (h0 : y ≠ 0) (h1 : y ≠ -1) => div_in 6 x y hx (by decide) hw h0 h1
  clear hw
  cases h0 : (y == 0) with
  | true =>
    have e0 : binIn 3 6 x y = (0, 7) := by simp at h0; simp [binIn, h0]
    rw [e0]; clear e0 hd
    go_enter Try.func15, Try.ntmps15
    go_wp2_with (first | (go_at_call 12; refine (rcheck_any _ _ _).mono ?_; rintro e w' ⟨rfl, rfl⟩) | (go_at_call 32; refine (rint3_no _ _ _ _ h0).mono ?_; rintro e w' ⟨rfl, rfl⟩) | go_in)
    go_ret2
    exact ⟨rfl, 0, rfl⟩
  | false =>
    cases h1 : (y == -1) with
    | true =>
      have e0 : binIn 3 6 x y = (wrapT 6 (wrap64 (-x)), 0) := by simp at h0 h1; subst h1; simp [binIn]
      rw [e0]; clear e0 hd
      go_enter Try.func15, Try.ntmps15
      go_wp2_with (first | (go_at_call 12; refine (rcheck_any _ _ _).mono ?_; rintro e w' ⟨rfl, rfl⟩) | (go_at_call 32; refine (rint3_neg _ _ _ _ h0 h1).mono ?_; rintro e w' ⟨rfl, rfl⟩) | go_in)
      go_ret2
      exact ⟨rfl, 0, rfl⟩
    | false =>
      have hq := hd (by simpa using h0) (by simpa using h1)
      have e0 : binIn 3 6 x y = (wrap64 (x.tdiv y), 0) := by
        simp at h0; simp only [binIn, h0, if_false, hq]
        congr 1
        simp only [wrapT] at hq
        first | (rw [if_neg (by decide)] at hq; exact hq.symm) | (rw [if_pos trivial] at hq; unfold wrap64 wrap32 at *; omega)
      rw [e0]; clear e0 hd hq
      go_enter Try.func15, Try.ntmps15
      go_wp2_with (first | (go_at_call 12; refine (rcheck_any _ _ _).mono ?_; rintro e w' ⟨rfl, rfl⟩) | (go_at_call 32; refine (rint3_yes _ _ _ _ h0 h1).mono ?_; rintro e w' ⟨rfl, rfl⟩) | go_in)
      go_ret2
      exact ⟨rfl, 0, rfl⟩

set_option maxHeartbeats 400000 in
theorem rbinary3_7 (x y : Int) (w : World) (hx : chk 7 x = true) (hy : chk 7 y = true) (hw : -9223372036854775808 ≤ x ∧ x ≤ 9223372036854775807) : Calls Try.prog 15 #[.string ⟨#[68, 105, 118]⟩, .int .i64 7, .int .i64 x, .int .i64 y] w fun e w' => e = .returned (.tuple #[.int .i64 (bin 3 7 x y).1, .int .i64 (bin 3 7 x y).2]) ∧ ∃ n, w' = w.drewN n := by
  rw [bin_7 3 x y hx hy]
  have hd := fun (h0 : y ≠ 0) (h1 : y ≠ -1) => div_in 7 x y hx (by decide) hw h0 h1
  clear hw
  cases h0 : (y == 0) with
  | true =>
    have e0 : binIn 3 7 x y = (0, 7) := by simp at h0; simp [binIn, h0]
    rw [e0]; clear e0 hd
    go_enter Try.func15, Try.ntmps15
    go_wp2_with (first | (go_at_call 12; refine (rcheck_any _ _ _).mono ?_; rintro e w' ⟨rfl, rfl⟩) | (go_at_call 32; refine (rint3_no _ _ _ _ h0).mono ?_; rintro e w' ⟨rfl, rfl⟩) | go_in)
    go_ret2
    exact ⟨rfl, 0, rfl⟩
  | false =>
    cases h1 : (y == -1) with
    | true =>
      have e0 : binIn 3 7 x y = (wrapT 7 (wrap64 (-x)), 0) := by simp at h0 h1; subst h1; simp [binIn]
      rw [e0]; clear e0 hd
      go_enter Try.func15, Try.ntmps15
      go_wp2_with (first | (go_at_call 12; refine (rcheck_any _ _ _).mono ?_; rintro e w' ⟨rfl, rfl⟩) | (go_at_call 32; refine (rint3_neg _ _ _ _ h0 h1).mono ?_; rintro e w' ⟨rfl, rfl⟩) | go_in)
      go_ret2
      exact ⟨rfl, 0, rfl⟩
    | false =>
      have hq := hd (by simpa using h0) (by simpa using h1)
      have e0 : binIn 3 7 x y = (wrap64 (x.tdiv y), 0) := by
        simp at h0; simp only [binIn, h0, if_false, hq]
        congr 1
        simp only [wrapT] at hq
        first | (rw [if_neg (by decide)] at hq; exact hq.symm) | (rw [if_pos trivial] at hq; unfold wrap64 wrap32 at *; omega)
      rw [e0]; clear e0 hd hq
      go_enter Try.func15, Try.ntmps15
      go_wp2_with (first | (go_at_call 12; refine (rcheck_any _ _ _).mono ?_; rintro e w' ⟨rfl, rfl⟩) | (go_at_call 32; refine (rint3_yes _ _ _ _ h0 h1).mono ?_; rintro e w' ⟨rfl, rfl⟩) | go_in)
      go_ret2
      exact ⟨rfl, 0, rfl⟩

set_option maxHeartbeats 400000 in
theorem rbinary3_9 (x y : Int) (w : World) (hx : chk 9 x = true) (hy : chk 9 y = true) : Calls Try.prog 15 #[.string ⟨#[68, 105, 118]⟩, .int .i64 9, .int .i64 x, .int .i64 y] w fun e w' => e = .returned (.tuple #[.int .i64 (bin 3 9 x y).1, .int .i64 (bin 3 9 x y).2]) ∧ ∃ n, w' = w.drewN n := by
  rw [bin_9 3 x y hx hy]
  rcases chk9 x hx with rfl | rfl <;> rcases chk9 y hy with rfl | rfl
  all_goals
    go_enter Try.func15, Try.ntmps15
    go_wp2_with (first | (go_at_call 12; refine (rcheck_any _ _ _).mono ?_; rintro e w' ⟨rfl, rfl⟩) | go_in)
    go_ret2
    exact ⟨rfl, 0, rfl⟩

theorem rbinary3 (t x y : Int) (w : World) (hw : -9223372036854775808 ≤ x ∧ x ≤ 9223372036854775807) : Calls Try.prog 15 #[.string ⟨#[68, 105, 118]⟩, .int .i64 t, .int .i64 x, .int .i64 y] w fun e w' => e = .returned (.tuple #[.int .i64 (bin 3 t x y).1, .int .i64 (bin 3 t x y).2]) ∧ ∃ n, w' = w.drewN n := by
  cases hx : chk t x with
  | false => rw [bin_nox 3 t x y hx]; exact rbinary3_no t x y w (.inl hx)
  | true =>
    cases hy : chk t y with
    | false => rw [bin_noy 3 t x y hy]; exact rbinary3_no t x y w (.inr ⟨hx, hy⟩)
    | true =>
      rcases chk_types t x hx with rfl | rfl | rfl | rfl
      · exact rbinary3_1 x y w hx hy
      · exact rbinary3_6 x y w hx hy hw
      · exact rbinary3_7 x y w hx hy hw
      · exact rbinary3_9 x y w hx hy

set_option maxHeartbeats 400000 in
theorem rbinary4_no (t x y : Int) (w : World) (h : chk t x = false ∨ chk t x = true ∧ chk t y = false) : Calls Try.prog 15 #[.string ⟨#[77, 97, 120]⟩, .int .i64 t, .int .i64 x, .int .i64 y] w fun e w' => e = .returned (.tuple #[.int .i64 0, .int .i64 1]) ∧ ∃ n, w' = w.drewN n := by
  rcases h with hx | ⟨hx, hy⟩
  all_goals
    go_enter Try.func15, Try.ntmps15
    go_wp2_with (first | (go_at_call 12; refine (rcheck_any _ _ _).mono ?_; rintro e w' ⟨rfl, rfl⟩) | go_in)
    go_ret2
    exact ⟨rfl, 0, rfl⟩

set_option maxHeartbeats 400000 in
theorem rbinary4_1 (x y : Int) (w : World) (hx : chk 1 x = true) (hy : chk 1 y = true) : Calls Try.prog 15 #[.string ⟨#[77, 97, 120]⟩, .int .i64 1, .int .i64 x, .int .i64 y] w fun e w' => e = .returned (.tuple #[.int .i64 (bin 4 1 x y).1, .int .i64 (bin 4 1 x y).2]) ∧ ∃ n, w' = w.drewN n := by
  rw [bin_1 4 x y hx hy]
  go_enter Try.func15, Try.ntmps15
  go_wp2_with (first | (go_at_call 12; refine (rcheck_any _ _ _).mono ?_; rintro e w' ⟨rfl, rfl⟩) | (go_at_call 31; refine (rfl4 _ _ _ hx hy).mono ?_; rintro e w' ⟨rfl, n, rfl⟩) | go_in)
  go_ret2
  exact ⟨rfl, _, rfl⟩

set_option maxHeartbeats 400000 in
theorem rbinary4_6 (x y : Int) (w : World) (hx : chk 6 x = true) (hy : chk 6 y = true) : Calls Try.prog 15 #[.string ⟨#[77, 97, 120]⟩, .int .i64 6, .int .i64 x, .int .i64 y] w fun e w' => e = .returned (.tuple #[.int .i64 (bin 4 6 x y).1, .int .i64 (bin 4 6 x y).2]) ∧ ∃ n, w' = w.drewN n := by
  rw [bin_6 4 x y hx hy]
  have e0 : binIn 4 6 x y = (maxI x y, 0) := by
    simp only [binIn]
    rw [wrapT_id 6 (maxI x y) (by unfold maxI; split <;> assumption) (by decide)]
  rw [e0]; clear e0
  go_enter Try.func15, Try.ntmps15
  go_wp2_with (first | (go_at_call 12; refine (rcheck_any _ _ _).mono ?_; rintro e w' ⟨rfl, rfl⟩) | (go_at_call 32; refine (rint4 _ _ _ _).mono ?_; rintro e w' ⟨rfl, rfl⟩) | go_in)
  go_ret2
  exact ⟨rfl, 0, rfl⟩

set_option maxHeartbeats 400000 in
theorem rbinary4_7 (x y : Int) (w : World) (hx : chk 7 x = true) (hy : chk 7 y = true) : Calls Try.prog 15 #[.string ⟨#[77, 97, 120]⟩, .int .i64 7, .int .i64 x, .int .i64 y] w fun e w' => e = .returned (.tuple #[.int .i64 (bin 4 7 x y).1, .int .i64 (bin 4 7 x y).2]) ∧ ∃ n, w' = w.drewN n := by
  rw [bin_7 4 x y hx hy]
  have e0 : binIn 4 7 x y = (maxI x y, 0) := by
    simp only [binIn]
    rw [wrapT_id 7 (maxI x y) (by unfold maxI; split <;> assumption) (by decide)]
  rw [e0]; clear e0
  go_enter Try.func15, Try.ntmps15
  go_wp2_with (first | (go_at_call 12; refine (rcheck_any _ _ _).mono ?_; rintro e w' ⟨rfl, rfl⟩) | (go_at_call 32; refine (rint4 _ _ _ _).mono ?_; rintro e w' ⟨rfl, rfl⟩) | go_in)
  go_ret2
  exact ⟨rfl, 0, rfl⟩

set_option maxHeartbeats 400000 in
theorem rbinary4_9 (x y : Int) (w : World) (hx : chk 9 x = true) (hy : chk 9 y = true) : Calls Try.prog 15 #[.string ⟨#[77, 97, 120]⟩, .int .i64 9, .int .i64 x, .int .i64 y] w fun e w' => e = .returned (.tuple #[.int .i64 (bin 4 9 x y).1, .int .i64 (bin 4 9 x y).2]) ∧ ∃ n, w' = w.drewN n := by
  rw [bin_9 4 x y hx hy]
  rcases chk9 x hx with rfl | rfl <;> rcases chk9 y hy with rfl | rfl
  all_goals
    go_enter Try.func15, Try.ntmps15
    go_wp2_with (first | (go_at_call 12; refine (rcheck_any _ _ _).mono ?_; rintro e w' ⟨rfl, rfl⟩) | go_in)
    go_ret2
    exact ⟨rfl, 0, rfl⟩

theorem rbinary4 (t x y : Int) (w : World) : Calls Try.prog 15 #[.string ⟨#[77, 97, 120]⟩, .int .i64 t, .int .i64 x, .int .i64 y] w fun e w' => e = .returned (.tuple #[.int .i64 (bin 4 t x y).1, .int .i64 (bin 4 t x y).2]) ∧ ∃ n, w' = w.drewN n := by
  cases hx : chk t x with
  | false => rw [bin_nox 4 t x y hx]; exact rbinary4_no t x y w (.inl hx)
  | true =>
    cases hy : chk t y with
    | false => rw [bin_noy 4 t x y hy]; exact rbinary4_no t x y w (.inr ⟨hx, hy⟩)
    | true =>
      rcases chk_types t x hx with rfl | rfl | rfl | rfl
      · exact rbinary4_1 x y w hx hy
      · exact rbinary4_6 x y w hx hy
      · exact rbinary4_7 x y w hx hy
      · exact rbinary4_9 x y w hx hy

set_option maxHeartbeats 400000 in
theorem rbinary5_no (t x y : Int) (w : World) (h : chk t x = false ∨ chk t x = true ∧ chk t y = false) : Calls Try.prog 15 #[.string ⟨#[77, 105, 110]⟩, .int .i64 t, .int .i64 x, .int .i64 y] w fun e w' => e = .returned (.tuple #[.int .i64 0, .int .i64 1]) ∧ ∃ n, w' = w.drewN n := by
  rcases h with hx | ⟨hx, hy⟩
  all_goals
    go_enter Try.func15, Try.ntmps15
    go_wp2_with (first | (go_at_call 12; refine (rcheck_any _ _ _).mono ?_; rintro e w' ⟨rfl, rfl⟩) | go_in)
    go_ret2
    exact ⟨rfl, 0, rfl⟩

set_option maxHeartbeats 400000 in
theorem rbinary5_1 (x y : Int) (w : World) (hx : chk 1 x = true) (hy : chk 1 y = true) : Calls Try.prog 15 #[.string ⟨#[77, 105, 110]⟩, .int .i64 1, .int .i64 x, .int .i64 y] w fun e w' => e = .returned (.tuple #[.int .i64 (bin 5 1 x y).1, .int .i64 (bin 5 1 x y).2]) ∧ ∃ n, w' = w.drewN n := by
  rw [bin_1 5 x y hx hy]
  go_enter Try.func15, Try.ntmps15
  go_wp2_with (first | (go_at_call 12; refine (rcheck_any _ _ _).mono ?_; rintro e w' ⟨rfl, rfl⟩) | (go_at_call 31; refine (rfl5 _ _ _ hx hy).mono ?_; rintro e w' ⟨rfl, n, rfl⟩) | go_in)
  go_ret2
  exact ⟨rfl, _, rfl⟩

set_option maxHeartbeats 400000 in
theorem rbinary5_6 (x y : Int) (w : World) (hx : chk 6 x = true) (hy : chk 6 y = true) : Calls Try.prog 15 #[.string ⟨#[77, 105, 110]⟩, .int .i64 6, .int .i64 x, .int .i64 y] w fun e w' => e = .returned (.tuple #[.int .i64 (bin 5 6 x y).1, .int .i64 (bin 5 6 x y).2]) ∧ ∃ n, w' = w.drewN n := by
  rw [bin_6 5 x y hx hy]
  have e0 : binIn 5 6 x y = (minI x y, 0) := by
    simp only [binIn]
    rw [wrapT_id 6 (minI x y) (by unfold minI; split <;> assumption) (by decide)]
  rw [e0]; clear e0
  go_enter Try.func15, Try.ntmps15
  go_wp2_with (first | (go_at_call 12; refine (rcheck_any _ _ _).mono ?_; rintro e w' ⟨rfl, rfl⟩) | (go_at_call 32; refine (rint5 _ _ _ _).mono ?_; rintro e w' ⟨rfl, rfl⟩) | go_in)
  go_ret2
  exact ⟨rfl, 0, rfl⟩

set_option maxHeartbeats 400000 in
theorem rbinary5_7 (x y : Int) (w : World) (hx : chk 7 x = true) (hy : chk 7 y = true) : Calls Try.prog 15 #[.string ⟨#[77, 105, 110]⟩, .int .i64 7, .int .i64 x, .int .i64 y] w fun e w' => e = .returned (.tuple #[.int .i64 (bin 5 7 x y).1, .int .i64 (bin 5 7 x y).2]) ∧ ∃ n, w' = w.drewN n := by
  rw [bin_7 5 x y hx hy]
  have e0 : binIn 5 7 x y = (minI x y, 0) := by
    simp only [binIn]
    rw [wrapT_id 7 (minI x y) (by unfold minI; split <;> assumption) (by decide)]
  rw [e0]; clear e0
  go_enter Try.func15, Try.ntmps15
  go_wp2_with (first | (go_at_call 12; refine (rcheck_any _ _ _).mono ?_; rintro e w' ⟨rfl, rfl⟩) | (go_at_call 32; refine (rint5 _ _ _ _).mono ?_; rintro e w' ⟨rfl, rfl⟩) | go_in)
  go_ret2
  exact ⟨rfl, 0, rfl⟩

set_option maxHeartbeats 400000 in
theorem rbinary5_9 (x y : Int) (w : World) (hx : chk 9 x = true) (hy : chk 9 y = true) : Calls Try.prog 15 #[.string ⟨#[77, 105, 110]⟩, .int .i64 9, .int .i64 x, .int .i64 y] w fun e w' => e = .returned (.tuple #[.int .i64 (bin 5 9 x y).1, .int .i64 (bin 5 9 x y).2]) ∧ ∃ n, w' = w.drewN n := by
  rw [bin_9 5 x y hx hy]
  rcases chk9 x hx with rfl | rfl <;> rcases chk9 y hy with rfl | rfl
  all_goals
    go_enter Try.func15, Try.ntmps15
    go_wp2_with (first | (go_at_call 12; refine (rcheck_any _ _ _).mono ?_; rintro e w' ⟨rfl, rfl⟩) | go_in)
    go_ret2
    exact ⟨rfl, 0, rfl⟩

theorem rbinary5 (t x y : Int) (w : World) : Calls Try.prog 15 #[.string ⟨#[77, 105, 110]⟩, .int .i64 t, .int .i64 x, .int .i64 y] w fun e w' => e = .returned (.tuple #[.int .i64 (bin 5 t x y).1, .int .i64 (bin 5 t x y).2]) ∧ ∃ n, w' = w.drewN n := by
  cases hx : chk t x with
  | false => rw [bin_nox 5 t x y hx]; exact rbinary5_no t x y w (.inl hx)
  | true =>
    cases hy : chk t y with
    | false => rw [bin_noy 5 t x y hy]; exact rbinary5_no t x y w (.inr ⟨hx, hy⟩)
    | true =>
      rcases chk_types t x hx with rfl | rfl | rfl | rfl
      · exact rbinary5_1 x y w hx hy
      · exact rbinary5_6 x y w hx hy
      · exact rbinary5_7 x y w hx hy
      · exact rbinary5_9 x y w hx hy

set_option maxHeartbeats 400000 in
theorem rbinary6_no (t x y : Int) (w : World) (h : chk t x = false ∨ chk t x = true ∧ chk t y = false) : Calls Try.prog 15 #[.string ⟨#[65, 110, 100]⟩, .int .i64 t, .int .i64 x, .int .i64 y] w fun e w' => e = .returned (.tuple #[.int .i64 0, .int .i64 1]) ∧ ∃ n, w' = w.drewN n := by
  rcases h with hx | ⟨hx, hy⟩
  all_goals
    go_enter Try.func15, Try.ntmps15
    go_wp2_with (first | (go_at_call 12; refine (rcheck_any _ _ _).mono ?_; rintro e w' ⟨rfl, rfl⟩) | go_in)
    go_ret2
    exact ⟨rfl, 0, rfl⟩

set_option maxHeartbeats 400000 in
theorem rbinary6_1 (x y : Int) (w : World) (hx : chk 1 x = true) (hy : chk 1 y = true) : Calls Try.prog 15 #[.string ⟨#[65, 110, 100]⟩, .int .i64 1, .int .i64 x, .int .i64 y] w fun e w' => e = .returned (.tuple #[.int .i64 (bin 6 1 x y).1, .int .i64 (bin 6 1 x y).2]) ∧ ∃ n, w' = w.drewN n := by
  rw [bin_1 6 x y hx hy]
  go_enter Try.func15, Try.ntmps15
  go_wp2_with (first | (go_at_call 12; refine (rcheck_any _ _ _).mono ?_; rintro e w' ⟨rfl, rfl⟩) | (go_at_call 31; refine (rfl6 _ _ _).mono ?_; rintro e w' ⟨rfl, n, rfl⟩) | go_in)
  go_ret2
  exact ⟨rfl, _, rfl⟩

set_option maxHeartbeats 400000 in
theorem rbinary6_6 (x y : Int) (w : World) (hx : chk 6 x = true) (hy : chk 6 y = true) : Calls Try.prog 15 #[.string ⟨#[65, 110, 100]⟩, .int .i64 6, .int .i64 x, .int .i64 y] w fun e w' => e = .returned (.tuple #[.int .i64 (bin 6 6 x y).1, .int .i64 (bin 6 6 x y).2]) ∧ ∃ n, w' = w.drewN n := by
  rw [bin_6 6 x y hx hy]
  go_enter Try.func15, Try.ntmps15
  go_wp2_with (first | (go_at_call 12; refine (rcheck_any _ _ _).mono ?_; rintro e w' ⟨rfl, rfl⟩) | (go_at_call 32; refine (rint6 _ _ _ _).mono ?_; rintro e w' ⟨rfl, rfl⟩) | go_in)
  go_ret2
  exact ⟨rfl, 0, rfl⟩

set_option maxHeartbeats 400000 in
theorem rbinary6_7 (x y : Int) (w : World) (hx : chk 7 x = true) (hy : chk 7 y = true) : Calls Try.prog 15 #[.string ⟨#[65, 110, 100]⟩, .int .i64 7, .int .i64 x, .int .i64 y] w fun e w' => e = .returned (.tuple #[.int .i64 (bin 6 7 x y).1, .int .i64 (bin 6 7 x y).2]) ∧ ∃ n, w' = w.drewN n := by
  rw [bin_7 6 x y hx hy]
  go_enter Try.func15, Try.ntmps15
  go_wp2_with (first | (go_at_call 12; refine (rcheck_any _ _ _).mono ?_; rintro e w' ⟨rfl, rfl⟩) | (go_at_call 32; refine (rint6 _ _ _ _).mono ?_; rintro e w' ⟨rfl, rfl⟩) | go_in)
  go_ret2
  exact ⟨rfl, 0, rfl⟩

set_option maxHeartbeats 400000 in
theorem rbinary6_9 (x y : Int) (w : World) (hx : chk 9 x = true) (hy : chk 9 y = true) : Calls Try.prog 15 #[.string ⟨#[65, 110, 100]⟩, .int .i64 9, .int .i64 x, .int .i64 y] w fun e w' => e = .returned (.tuple #[.int .i64 (bin 6 9 x y).1, .int .i64 (bin 6 9 x y).2]) ∧ ∃ n, w' = w.drewN n := by
  rw [bin_9 6 x y hx hy]
  rcases chk9 x hx with rfl | rfl <;> rcases chk9 y hy with rfl | rfl
  all_goals
    go_enter Try.func15, Try.ntmps15
    go_wp2_with (first | (go_at_call 12; refine (rcheck_any _ _ _).mono ?_; rintro e w' ⟨rfl, rfl⟩) | go_in)
    go_ret2
    exact ⟨rfl, 0, rfl⟩

theorem rbinary6 (t x y : Int) (w : World) : Calls Try.prog 15 #[.string ⟨#[65, 110, 100]⟩, .int .i64 t, .int .i64 x, .int .i64 y] w fun e w' => e = .returned (.tuple #[.int .i64 (bin 6 t x y).1, .int .i64 (bin 6 t x y).2]) ∧ ∃ n, w' = w.drewN n := by
  cases hx : chk t x with
  | false => rw [bin_nox 6 t x y hx]; exact rbinary6_no t x y w (.inl hx)
  | true =>
    cases hy : chk t y with
    | false => rw [bin_noy 6 t x y hy]; exact rbinary6_no t x y w (.inr ⟨hx, hy⟩)
    | true =>
      rcases chk_types t x hx with rfl | rfl | rfl | rfl
      · exact rbinary6_1 x y w hx hy
      · exact rbinary6_6 x y w hx hy
      · exact rbinary6_7 x y w hx hy
      · exact rbinary6_9 x y w hx hy

set_option maxHeartbeats 400000 in
theorem rbinary7_no (t x y : Int) (w : World) (h : chk t x = false ∨ chk t x = true ∧ chk t y = false) : Calls Try.prog 15 #[.string ⟨#[79, 114]⟩, .int .i64 t, .int .i64 x, .int .i64 y] w fun e w' => e = .returned (.tuple #[.int .i64 0, .int .i64 1]) ∧ ∃ n, w' = w.drewN n := by
  rcases h with hx | ⟨hx, hy⟩
  all_goals
    go_enter Try.func15, Try.ntmps15
    go_wp2_with (first | (go_at_call 12; refine (rcheck_any _ _ _).mono ?_; rintro e w' ⟨rfl, rfl⟩) | go_in)
    go_ret2
    exact ⟨rfl, 0, rfl⟩

set_option maxHeartbeats 400000 in
theorem rbinary7_1 (x y : Int) (w : World) (hx : chk 1 x = true) (hy : chk 1 y = true) : Calls Try.prog 15 #[.string ⟨#[79, 114]⟩, .int .i64 1, .int .i64 x, .int .i64 y] w fun e w' => e = .returned (.tuple #[.int .i64 (bin 7 1 x y).1, .int .i64 (bin 7 1 x y).2]) ∧ ∃ n, w' = w.drewN n := by
  rw [bin_1 7 x y hx hy]
  go_enter Try.func15, Try.ntmps15
  go_wp2_with (first | (go_at_call 12; refine (rcheck_any _ _ _).mono ?_; rintro e w' ⟨rfl, rfl⟩) | (go_at_call 31; refine (rfl7 _ _ _).mono ?_; rintro e w' ⟨rfl, n, rfl⟩) | go_in)
  go_ret2
  exact ⟨rfl, _, rfl⟩

set_option maxHeartbeats 400000 in
theorem rbinary7_6 (x y : Int) (w : World) (hx : chk 6 x = true) (hy : chk 6 y = true) : Calls Try.prog 15 #[.string ⟨#[79, 114]⟩, .int .i64 6, .int .i64 x, .int .i64 y] w fun e w' => e = .returned (.tuple #[.int .i64 (bin 7 6 x y).1, .int .i64 (bin 7 6 x y).2]) ∧ ∃ n, w' = w.drewN n := by
  rw [bin_6 7 x y hx hy]
  go_enter Try.func15, Try.ntmps15
  go_wp2_with (first | (go_at_call 12; refine (rcheck_any _ _ _).mono ?_; rintro e w' ⟨rfl, rfl⟩) | (go_at_call 32; refine (rint7 _ _ _ _).mono ?_; rintro e w' ⟨rfl, rfl⟩) | go_in)
  go_ret2
  exact ⟨rfl, 0, rfl⟩

set_option maxHeartbeats 400000 in
theorem rbinary7_7 (x y : Int) (w : World) (hx : chk 7 x = true) (hy : chk 7 y = true) : Calls Try.prog 15 #[.string ⟨#[79, 114]⟩, .int .i64 7, .int .i64 x, .int .i64 y] w fun e w' => e = .returned (.tuple #[.int .i64 (bin 7 7 x y).1, .int .i64 (bin 7 7 x y).2]) ∧ ∃ n, w' = w.drewN n := by
  rw [bin_7 7 x y hx hy]
  go_enter Try.func15, Try.ntmps15
  go_wp2_with (first | (go_at_call 12; refine (rcheck_any _ _ _).mono ?_; rintro e w' ⟨rfl, rfl⟩) | (go_at_call 32; refine (rint7 _ _ _ _).mono ?_; rintro e w' ⟨rfl, rfl⟩) | go_in)
  go_ret2
  exact ⟨rfl, 0, rfl⟩

set_option maxHeartbeats 400000 in
theorem rbinary7_9 (x y : Int) (w : World) (hx : chk 9 x = true) (hy : chk 9 y = true) : Calls Try.prog 15 #[.string ⟨#[79, 114]⟩, .int .i64 9, .int .i64 x, .int .i64 y] w fun e w' => e = .returned (.tuple #[.int .i64 (bin 7 9 x y).1, .int .i64 (bin 7 9 x y).2]) ∧ ∃ n, w' = w.drewN n := by
  rw [bin_9 7 x y hx hy]
  rcases chk9 x hx with rfl | rfl <;> rcases chk9 y hy with rfl | rfl
  all_goals
    go_enter Try.func15, Try.ntmps15
    go_wp2_with (first | (go_at_call 12; refine (rcheck_any _ _ _).mono ?_; rintro e w' ⟨rfl, rfl⟩) | go_in)
    go_ret2
    exact ⟨rfl, 0, rfl⟩

theorem rbinary7 (t x y : Int) (w : World) : Calls Try.prog 15 #[.string ⟨#[79, 114]⟩, .int .i64 t, .int .i64 x, .int .i64 y] w fun e w' => e = .returned (.tuple #[.int .i64 (bin 7 t x y).1, .int .i64 (bin 7 t x y).2]) ∧ ∃ n, w' = w.drewN n := by
  cases hx : chk t x with
  | false => rw [bin_nox 7 t x y hx]; exact rbinary7_no t x y w (.inl hx)
  | true =>
    cases hy : chk t y with
    | false => rw [bin_noy 7 t x y hy]; exact rbinary7_no t x y w (.inr ⟨hx, hy⟩)
    | true =>
      rcases chk_types t x hx with rfl | rfl | rfl | rfl
      · exact rbinary7_1 x y w hx hy
      · exact rbinary7_6 x y w hx hy
      · exact rbinary7_7 x y w hx hy
      · exact rbinary7_9 x y w hx hy

set_option maxHeartbeats 400000 in
theorem rbinary8_no (t x y : Int) (w : World) (h : chk t x = false ∨ chk t x = true ∧ chk t y = false) : Calls Try.prog 15 #[.string ⟨#[88, 111, 114]⟩, .int .i64 t, .int .i64 x, .int .i64 y] w fun e w' => e = .returned (.tuple #[.int .i64 0, .int .i64 1]) ∧ ∃ n, w' = w.drewN n := by
  rcases h with hx | ⟨hx, hy⟩
  all_goals
    go_enter Try.func15, Try.ntmps15
    go_wp2_with (first | (go_at_call 12; refine (rcheck_any _ _ _).mono ?_; rintro e w' ⟨rfl, rfl⟩) | go_in)
    go_ret2
    exact ⟨rfl, 0, rfl⟩

set_option maxHeartbeats 400000 in
theorem rbinary8_1 (x y : Int) (w : World) (hx : chk 1 x = true) (hy : chk 1 y = true) : Calls Try.prog 15 #[.string ⟨#[88, 111, 114]⟩, .int .i64 1, .int .i64 x, .int .i64 y] w fun e w' => e = .returned (.tuple #[.int .i64 (bin 8 1 x y).1, .int .i64 (bin 8 1 x y).2]) ∧ ∃ n, w' = w.drewN n := by
  rw [bin_1 8 x y hx hy]
  go_enter Try.func15, Try.ntmps15
  go_wp2_with (first | (go_at_call 12; refine (rcheck_any _ _ _).mono ?_; rintro e w' ⟨rfl, rfl⟩) | (go_at_call 31; refine (rfl8 _ _ _).mono ?_; rintro e w' ⟨rfl, n, rfl⟩) | go_in)
  go_ret2
  exact ⟨rfl, _, rfl⟩

set_option maxHeartbeats 400000 in
theorem rbinary8_6 (x y : Int) (w : World) (hx : chk 6 x = true) (hy : chk 6 y = true) : Calls Try.prog 15 #[.string ⟨#[88, 111, 114]⟩, .int .i64 6, .int .i64 x, .int .i64 y] w fun e w' => e = .returned (.tuple #[.int .i64 (bin 8 6 x y).1, .int .i64 (bin 8 6 x y).2]) ∧ ∃ n, w' = w.drewN n := by
  rw [bin_6 8 x y hx hy]
  go_enter Try.func15, Try.ntmps15
  go_wp2_with (first | (go_at_call 12; refine (rcheck_any _ _ _).mono ?_; rintro e w' ⟨rfl, rfl⟩) | (go_at_call 32; refine (rint8 _ _ _ _).mono ?_; rintro e w' ⟨rfl, rfl⟩) | go_in)
  go_ret2
  exact ⟨rfl, 0, rfl⟩

set_option maxHeartbeats 400000 in
theorem rbinary8_7 (x y : Int) (w : World) (hx : chk 7 x = true) (hy : chk 7 y = true) : Calls Try.prog 15 #[.string ⟨#[88, 111, 114]⟩, .int .i64 7, .int .i64 x, .int .i64 y] w fun e w' => e = .returned (.tuple #[.int .i64 (bin 8 7 x y).1, .int .i64 (bin 8 7 x y).2]) ∧ ∃ n, w' = w.drewN n := by
  rw [bin_7 8 x y hx hy]
  go_enter Try.func15, Try.ntmps15
  go_wp2_with (first | (go_at_call 12; refine (rcheck_any _ _ _).mono ?_; rintro e w' ⟨rfl, rfl⟩) | (go_at_call 32; refine (rint8 _ _ _ _).mono ?_; rintro e w' ⟨rfl, rfl⟩) | go_in)
  go_ret2
  exact ⟨rfl, 0, rfl⟩

set_option maxHeartbeats 400000 in
theorem rbinary8_9 (x y : Int) (w : World) (hx : chk 9 x = true) (hy : chk 9 y = true) : Calls Try.prog 15 #[.string ⟨#[88, 111, 114]⟩, .int .i64 9, .int .i64 x, .int .i64 y] w fun e w' => e = .returned (.tuple #[.int .i64 (bin 8 9 x y).1, .int .i64 (bin 8 9 x y).2]) ∧ ∃ n, w' = w.drewN n := by
  rw [bin_9 8 x y hx hy]
  rcases chk9 x hx with rfl | rfl <;> rcases chk9 y hy with rfl | rfl
  all_goals
    go_enter Try.func15, Try.ntmps15
    go_wp2_with (first | (go_at_call 12; refine (rcheck_any _ _ _).mono ?_; rintro e w' ⟨rfl, rfl⟩) | go_in)
    go_ret2
    exact ⟨rfl, 0, rfl⟩

theorem rbinary8 (t x y : Int) (w : World) : Calls Try.prog 15 #[.string ⟨#[88, 111, 114]⟩, .int .i64 t, .int .i64 x, .int .i64 y] w fun e w' => e = .returned (.tuple #[.int .i64 (bin 8 t x y).1, .int .i64 (bin 8 t x y).2]) ∧ ∃ n, w' = w.drewN n := by
  cases hx : chk t x with
  | false => rw [bin_nox 8 t x y hx]; exact rbinary8_no t x y w (.inl hx)
  | true =>
    cases hy : chk t y with
    | false => rw [bin_noy 8 t x y hy]; exact rbinary8_no t x y w (.inr ⟨hx, hy⟩)
    | true =>
      rcases chk_types t x hx with rfl | rfl | rfl | rfl
      · exact rbinary8_1 x y w hx hy
      · exact rbinary8_6 x y w hx hy
      · exact rbinary8_7 x y w hx hy
      · exact rbinary8_9 x y w hx hy

set_option maxHeartbeats 400000 in
theorem rbinary9_no (t x y : Int) (w : World) (h : chk t x = false ∨ chk t x = true ∧ chk t y = false) : Calls Try.prog 15 #[.string ⟨#[69, 113, 117, 97, 108]⟩, .int .i64 t, .int .i64 x, .int .i64 y] w fun e w' => e = .returned (.tuple #[.int .i64 0, .int .i64 1]) ∧ ∃ n, w' = w.drewN n := by
  rcases h with hx | ⟨hx, hy⟩
  all_goals
    go_enter Try.func15, Try.ntmps15
    go_wp2_with (first | (go_at_call 12; refine (rcheck_any _ _ _).mono ?_; rintro e w' ⟨rfl, rfl⟩) | go_in)
    go_ret2
    exact ⟨rfl, 0, rfl⟩

set_option maxHeartbeats 400000 in
theorem rbinary9_1 (x y : Int) (w : World) (hx : chk 1 x = true) (hy : chk 1 y = true) : Calls Try.prog 15 #[.string ⟨#[69, 113, 117, 97, 108]⟩, .int .i64 1, .int .i64 x, .int .i64 y] w fun e w' => e = .returned (.tuple #[.int .i64 (bin 9 1 x y).1, .int .i64 (bin 9 1 x y).2]) ∧ ∃ n, w' = w.drewN n := by
  rw [bin_1 9 x y hx hy]
  go_enter Try.func15, Try.ntmps15
  go_wp2_with (first | (go_at_call 12; refine (rcheck_any _ _ _).mono ?_; rintro e w' ⟨rfl, rfl⟩) | (go_at_call 31; refine (rfl9 _ _ _).mono ?_; rintro e w' ⟨rfl, n, rfl⟩) | go_in)
  go_ret2
  exact ⟨rfl, _, rfl⟩

set_option maxHeartbeats 400000 in
theorem rbinary9_6 (x y : Int) (w : World) (hx : chk 6 x = true) (hy : chk 6 y = true) : Calls Try.prog 15 #[.string ⟨#[69, 113, 117, 97, 108]⟩, .int .i64 6, .int .i64 x, .int .i64 y] w fun e w' => e = .returned (.tuple #[.int .i64 (bin 9 6 x y).1, .int .i64 (bin 9 6 x y).2]) ∧ ∃ n, w' = w.drewN n := by
  rw [bin_6 9 x y hx hy]
  go_enter Try.func15, Try.ntmps15
  go_wp2_with (first | (go_at_call 12; refine (rcheck_any _ _ _).mono ?_; rintro e w' ⟨rfl, rfl⟩) | (go_at_call 32; refine (rint9 _ _ _ _).mono ?_; rintro e w' ⟨rfl, rfl⟩) | go_in)
  go_ret2
  exact ⟨rfl, 0, rfl⟩

set_option maxHeartbeats 400000 in
theorem rbinary9_7 (x y : Int) (w : World) (hx : chk 7 x = true) (hy : chk 7 y = true) : Calls Try.prog 15 #[.string ⟨#[69, 113, 117, 97, 108]⟩, .int .i64 7, .int .i64 x, .int .i64 y] w fun e w' => e = .returned (.tuple #[.int .i64 (bin 9 7 x y).1, .int .i64 (bin 9 7 x y).2]) ∧ ∃ n, w' = w.drewN n := by
  rw [bin_7 9 x y hx hy]
  go_enter Try.func15, Try.ntmps15
  go_wp2_with (first | (go_at_call 12; refine (rcheck_any _ _ _).mono ?_; rintro e w' ⟨rfl, rfl⟩) | (go_at_call 32; refine (rint9 _ _ _ _).mono ?_; rintro e w' ⟨rfl, rfl⟩) | go_in)
  go_ret2
  exact ⟨rfl, 0, rfl⟩

set_option maxHeartbeats 400000 in
theorem rbinary9_9 (x y : Int) (w : World) (hx : chk 9 x = true) (hy : chk 9 y = true) : Calls Try.prog 15 #[.string ⟨#[69, 113, 117, 97, 108]⟩, .int .i64 9, .int .i64 x, .int .i64 y] w fun e w' => e = .returned (.tuple #[.int .i64 (bin 9 9 x y).1, .int .i64 (bin 9 9 x y).2]) ∧ ∃ n, w' = w.drewN n := by
  rw [bin_9 9 x y hx hy]
  rcases chk9 x hx with rfl | rfl <;> rcases chk9 y hy with rfl | rfl
  all_goals
    go_enter Try.func15, Try.ntmps15
    go_wp2_with (first | (go_at_call 12; refine (rcheck_any _ _ _).mono ?_; rintro e w' ⟨rfl, rfl⟩) | go_in)
    go_ret2
    exact ⟨rfl, 0, rfl⟩

theorem rbinary9 (t x y : Int) (w : World) : Calls Try.prog 15 #[.string ⟨#[69, 113, 117, 97, 108]⟩, .int .i64 t, .int .i64 x, .int .i64 y] w fun e w' => e = .returned (.tuple #[.int .i64 (bin 9 t x y).1, .int .i64 (bin 9 t x y).2]) ∧ ∃ n, w' = w.drewN n := by
  cases hx : chk t x with
  | false => rw [bin_nox 9 t x y hx]; exact rbinary9_no t x y w (.inl hx)
  | true =>
    cases hy : chk t y with
    | false => rw [bin_noy 9 t x y hy]; exact rbinary9_no t x y w (.inr ⟨hx, hy⟩)
    | true =>
      rcases chk_types t x hx with rfl | rfl | rfl | rfl
      · exact rbinary9_1 x y w hx hy
      · exact rbinary9_6 x y w hx hy
      · exact rbinary9_7 x y w hx hy
      · exact rbinary9_9 x y w hx hy

set_option maxHeartbeats 400000 in
theorem rbinary10_no (t x y : Int) (w : World) (h : chk t x = false ∨ chk t x = true ∧ chk t y = false) : Calls Try.prog 15 #[.string ⟨#[76, 101, 115, 115]⟩, .int .i64 t, .int .i64 x, .int .i64 y] w fun e w' => e = .returned (.tuple #[.int .i64 0, .int .i64 1]) ∧ ∃ n, w' = w.drewN n := by
  rcases h with hx | ⟨hx, hy⟩
  all_goals
    go_enter Try.func15, Try.ntmps15
    go_wp2_with (first | (go_at_call 12; refine (rcheck_any _ _ _).mono ?_; rintro e w' ⟨rfl, rfl⟩) | go_in)
    go_ret2
    exact ⟨rfl, 0, rfl⟩

set_option maxHeartbeats 400000 in
theorem rbinary10_1 (x y : Int) (w : World) (hx : chk 1 x = true) (hy : chk 1 y = true) : Calls Try.prog 15 #[.string ⟨#[76, 101, 115, 115]⟩, .int .i64 1, .int .i64 x, .int .i64 y] w fun e w' => e = .returned (.tuple #[.int .i64 (bin 10 1 x y).1, .int .i64 (bin 10 1 x y).2]) ∧ ∃ n, w' = w.drewN n := by
  rw [bin_1 10 x y hx hy]
  go_enter Try.func15, Try.ntmps15
  go_wp2_with (first | (go_at_call 12; refine (rcheck_any _ _ _).mono ?_; rintro e w' ⟨rfl, rfl⟩) | (go_at_call 31; refine (rfl10 _ _ _).mono ?_; rintro e w' ⟨rfl, n, rfl⟩) | go_in)
  go_ret2
  exact ⟨rfl, _, rfl⟩

set_option maxHeartbeats 400000 in
theorem rbinary10_6 (x y : Int) (w : World) (hx : chk 6 x = true) (hy : chk 6 y = true) : Calls Try.prog 15 #[.string ⟨#[76, 101, 115, 115]⟩, .int .i64 6, .int .i64 x, .int .i64 y] w fun e w' => e = .returned (.tuple #[.int .i64 (bin 10 6 x y).1, .int .i64 (bin 10 6 x y).2]) ∧ ∃ n, w' = w.drewN n := by
  rw [bin_6 10 x y hx hy]
  go_enter Try.func15, Try.ntmps15
  go_wp2_with (first | (go_at_call 12; refine (rcheck_any _ _ _).mono ?_; rintro e w' ⟨rfl, rfl⟩) | (go_at_call 32; refine (rint10 _ _ _ _).mono ?_; rintro e w' ⟨rfl, rfl⟩) | go_in)
  go_ret2
  exact ⟨rfl, 0, rfl⟩

set_option maxHeartbeats 400000 in
theorem rbinary10_7 (x y : Int) (w : World) (hx : chk 7 x = true) (hy : chk 7 y = true) : Calls Try.prog 15 #[.string ⟨#[76, 101, 115, 115]⟩, .int .i64 7, .int .i64 x, .int .i64 y] w fun e w' => e = .returned (.tuple #[.int .i64 (bin 10 7 x y).1, .int .i64 (bin 10 7 x y).2]) ∧ ∃ n, w' = w.drewN n := by
  rw [bin_7 10 x y hx hy]
  go_enter Try.func15, Try.ntmps15
  go_wp2_with (first | (go_at_call 12; refine (rcheck_any _ _ _).mono ?_; rintro e w' ⟨rfl, rfl⟩) | (go_at_call 32; refine (rint10 _ _ _ _).mono ?_; rintro e w' ⟨rfl, rfl⟩) | go_in)
  go_ret2
  exact ⟨rfl, 0, rfl⟩

set_option maxHeartbeats 400000 in
theorem rbinary10_9 (x y : Int) (w : World) (hx : chk 9 x = true) (hy : chk 9 y = true) : Calls Try.prog 15 #[.string ⟨#[76, 101, 115, 115]⟩, .int .i64 9, .int .i64 x, .int .i64 y] w fun e w' => e = .returned (.tuple #[.int .i64 (bin 10 9 x y).1, .int .i64 (bin 10 9 x y).2]) ∧ ∃ n, w' = w.drewN n := by
  rw [bin_9 10 x y hx hy]
  rcases chk9 x hx with rfl | rfl <;> rcases chk9 y hy with rfl | rfl
  all_goals
    go_enter Try.func15, Try.ntmps15
    go_wp2_with (first | (go_at_call 12; refine (rcheck_any _ _ _).mono ?_; rintro e w' ⟨rfl, rfl⟩) | go_in)
    go_ret2
    exact ⟨rfl, 0, rfl⟩

theorem rbinary10 (t x y : Int) (w : World) : Calls Try.prog 15 #[.string ⟨#[76, 101, 115, 115]⟩, .int .i64 t, .int .i64 x, .int .i64 y] w fun e w' => e = .returned (.tuple #[.int .i64 (bin 10 t x y).1, .int .i64 (bin 10 t x y).2]) ∧ ∃ n, w' = w.drewN n := by
  cases hx : chk t x with
  | false => rw [bin_nox 10 t x y hx]; exact rbinary10_no t x y w (.inl hx)
  | true =>
    cases hy : chk t y with
    | false => rw [bin_noy 10 t x y hy]; exact rbinary10_no t x y w (.inr ⟨hx, hy⟩)
    | true =>
      rcases chk_types t x hx with rfl | rfl | rfl | rfl
      · exact rbinary10_1 x y w hx hy
      · exact rbinary10_6 x y w hx hy
      · exact rbinary10_7 x y w hx hy
      · exact rbinary10_9 x y w hx hy

set_option maxHeartbeats 400000 in
theorem rbinary11_no (t x y : Int) (w : World) (h : chk t x = false ∨ chk t x = true ∧ chk t y = false) : Calls Try.prog 15 #[.string ⟨#[71, 114, 101, 97, 116, 101, 114]⟩, .int .i64 t, .int .i64 x, .int .i64 y] w fun e w' => e = .returned (.tuple #[.int .i64 0, .int .i64 1]) ∧ ∃ n, w' = w.drewN n := by
  rcases h with hx | ⟨hx, hy⟩
  all_goals
    go_enter Try.func15, Try.ntmps15
    go_wp2_with (first | (go_at_call 12; refine (rcheck_any _ _ _).mono ?_; rintro e w' ⟨rfl, rfl⟩) | go_in)
    go_ret2
    exact ⟨rfl, 0, rfl⟩

set_option maxHeartbeats 400000 in
theorem rbinary11_1 (x y : Int) (w : World) (hx : chk 1 x = true) (hy : chk 1 y = true) : Calls Try.prog 15 #[.string ⟨#[71, 114, 101, 97, 116, 101, 114]⟩, .int .i64 1, .int .i64 x, .int .i64 y] w fun e w' => e = .returned (.tuple #[.int .i64 (bin 11 1 x y).1, .int .i64 (bin 11 1 x y).2]) ∧ ∃ n, w' = w.drewN n := by
  rw [bin_1 11 x y hx hy]
  go_enter Try.func15, Try.ntmps15
  go_wp2_with (first | (go_at_call 12; refine (rcheck_any _ _ _).mono ?_; rintro e w' ⟨rfl, rfl⟩) | (go_at_call 31; refine (rfl11 _ _ _).mono ?_; rintro e w' ⟨rfl, n, rfl⟩) | go_in)
  go_ret2
  exact ⟨rfl, _, rfl⟩

set_option maxHeartbeats 400000 in
theorem rbinary11_6 (x y : Int) (w : World) (hx : chk 6 x = true) (hy : chk 6 y = true) : Calls Try.prog 15 #[.string ⟨#[71, 114, 101, 97, 116, 101, 114]⟩, .int .i64 6, .int .i64 x, .int .i64 y] w fun e w' => e = .returned (.tuple #[.int .i64 (bin 11 6 x y).1, .int .i64 (bin 11 6 x y).2]) ∧ ∃ n, w' = w.drewN n := by
  rw [bin_6 11 x y hx hy]
  go_enter Try.func15, Try.ntmps15
  go_wp2_with (first | (go_at_call 12; refine (rcheck_any _ _ _).mono ?_; rintro e w' ⟨rfl, rfl⟩) | (go_at_call 32; refine (rint11 _ _ _ _).mono ?_; rintro e w' ⟨rfl, rfl⟩) | go_in)
  go_ret2
  exact ⟨rfl, 0, rfl⟩

set_option maxHeartbeats 400000 in
theorem rbinary11_7 (x y : Int) (w : World) (hx : chk 7 x = true) (hy : chk 7 y = true) : Calls Try.prog 15 #[.string ⟨#[71, 114, 101, 97, 116, 101, 114]⟩, .int .i64 7, .int .i64 x, .int .i64 y] w fun e w' => e = .returned (.tuple #[.int .i64 (bin 11 7 x y).1, .int .i64 (bin 11 7 x y).2]) ∧ ∃ n, w' = w.drewN n := by
  rw [bin_7 11 x y hx hy]
  go_enter Try.func15, Try.ntmps15
  go_wp2_with (first | (go_at_call 12; refine (rcheck_any _ _ _).mono ?_; rintro e w' ⟨rfl, rfl⟩) | (go_at_call 32; refine (rint11 _ _ _ _).mono ?_; rintro e w' ⟨rfl, rfl⟩) | go_in)
  go_ret2
  exact ⟨rfl, 0, rfl⟩

set_option maxHeartbeats 400000 in
theorem rbinary11_9 (x y : Int) (w : World) (hx : chk 9 x = true) (hy : chk 9 y = true) : Calls Try.prog 15 #[.string ⟨#[71, 114, 101, 97, 116, 101, 114]⟩, .int .i64 9, .int .i64 x, .int .i64 y] w fun e w' => e = .returned (.tuple #[.int .i64 (bin 11 9 x y).1, .int .i64 (bin 11 9 x y).2]) ∧ ∃ n, w' = w.drewN n := by
  rw [bin_9 11 x y hx hy]
  rcases chk9 x hx with rfl | rfl <;> rcases chk9 y hy with rfl | rfl
  all_goals
    go_enter Try.func15, Try.ntmps15
    go_wp2_with (first | (go_at_call 12; refine (rcheck_any _ _ _).mono ?_; rintro e w' ⟨rfl, rfl⟩) | go_in)
    go_ret2
    exact ⟨rfl, 0, rfl⟩

theorem rbinary11 (t x y : Int) (w : World) : Calls Try.prog 15 #[.string ⟨#[71, 114, 101, 97, 116, 101, 114]⟩, .int .i64 t, .int .i64 x, .int .i64 y] w fun e w' => e = .returned (.tuple #[.int .i64 (bin 11 t x y).1, .int .i64 (bin 11 t x y).2]) ∧ ∃ n, w' = w.drewN n := by
  cases hx : chk t x with
  | false => rw [bin_nox 11 t x y hx]; exact rbinary11_no t x y w (.inl hx)
  | true =>
    cases hy : chk t y with
    | false => rw [bin_noy 11 t x y hy]; exact rbinary11_no t x y w (.inr ⟨hx, hy⟩)
    | true =>
      rcases chk_types t x hx with rfl | rfl | rfl | rfl
      · exact rbinary11_1 x y w hx hy
      · exact rbinary11_6 x y w hx hy
      · exact rbinary11_7 x y w hx hy
      · exact rbinary11_9 x y w hx hy

/-- An operator of two that there is not. -/
structure Other2 (s : ByteArray) : Prop where
  n0 : (s.toList == [65, 100, 100]) = false
  n1 : (s.toList == [83, 117, 98]) = false
  n2 : (s.toList == [77, 117, 108]) = false
  n3 : (s.toList == [68, 105, 118]) = false
  n4 : (s.toList == [77, 97, 120]) = false
  n5 : (s.toList == [77, 105, 110]) = false
  n6 : (s.toList == [65, 110, 100]) = false
  n7 : (s.toList == [79, 114]) = false
  n8 : (s.toList == [88, 111, 114]) = false
  n9 : (s.toList == [69, 113, 117, 97, 108]) = false
  n10 : (s.toList == [76, 101, 115, 115]) = false
  n11 : (s.toList == [71, 114, 101, 97, 116, 101, 114]) = false

set_option maxHeartbeats 400000 in
theorem rint_other (s : ByteArray) (ho : Other2 s) (t x y : Int) (w : World) : Calls Try.prog 32 #[.string s, .int .i64 t, .int .i64 x, .int .i64 y] w fun e w' => e = .returned (.tuple #[.int .i64 0, .int .i64 0, .bool false]) ∧ w' = w := by
  have o0 := ho.n0
  have o1 := ho.n1
  have o2 := ho.n2
  have o3 := ho.n3
  have o4 := ho.n4
  have o5 := ho.n5
  have o6 := ho.n6
  have o7 := ho.n7
  have o8 := ho.n8
  have o9 := ho.n9
  have o10 := ho.n10
  have o11 := ho.n11
  clear ho
  go_enter Try.func32, Try.ntmps32
  go_wp2
  go_ret3
  exact ⟨rfl, rfl⟩

set_option maxHeartbeats 1000000 in
theorem other2_code (s : ByteArray) (ho : Other2 s) (t x y : Int) (w : World) : Calls Try.prog 14 #[.string s, .int .i64 t, .int .i64 x, .int .i64 y] w fun e w' => e = .returned (.tuple #[.int .i64 0, .int .i64 1]) ∧ ∃ n, w' = w.drewN n := by
  have o0 := ho.n0
  have o1 := ho.n1
  have o2 := ho.n2
  have o3 := ho.n3
  have o4 := ho.n4
  have o5 := ho.n5
  have o6 := ho.n6
  have o7 := ho.n7
  have o8 := ho.n8
  have o9 := ho.n9
  have o10 := ho.n10
  have o11 := ho.n11
  clear ho
  cases hx : chk t x with
  | false =>
    go_enter Try.func14, Try.ntmps14
    go_wp2_with (first | (go_at_call 11; refine (check_any _ _ _).mono ?_; rintro e w' ⟨rfl, rfl⟩) | go_in)
    go_ret2
    exact ⟨rfl, 0, rfl⟩
  | true =>
    cases hy : chk t y with
    | false =>
      go_enter Try.func14, Try.ntmps14
      go_wp2_with (first | (go_at_call 11; refine (check_any _ _ _).mono ?_; rintro e w' ⟨rfl, rfl⟩) | go_in)
      go_ret2
      exact ⟨rfl, 0, rfl⟩
    | true =>
      rcases chk_types t x hx with rfl | rfl | rfl | rfl
      all_goals
        go_enter Try.func14, Try.ntmps14
        go_wp2_with (first | (go_at_call 11; refine (check_any _ _ _).mono ?_; rintro e w' ⟨rfl, rfl⟩) | go_in)
        go_ret2
        exact ⟨rfl, 0, rfl⟩

set_option maxHeartbeats 1000000 in
theorem other2_ref (s : ByteArray) (ho : Other2 s) (t x y : Int) (w : World) : Calls Try.prog 15 #[.string s, .int .i64 t, .int .i64 x, .int .i64 y] w fun e w' => e = .returned (.tuple #[.int .i64 0, .int .i64 1]) ∧ ∃ n, w' = w.drewN n := by
  have HO : Hid (Other2 s) := ho
  have o0 := ho.n0
  have o1 := ho.n1
  have o2 := ho.n2
  have o3 := ho.n3
  have o4 := ho.n4
  have o5 := ho.n5
  have o6 := ho.n6
  have o7 := ho.n7
  have o8 := ho.n8
  have o9 := ho.n9
  have o10 := ho.n10
  have o11 := ho.n11
  clear ho
  cases hx : chk t x with
  | false =>
    go_enter Try.func15, Try.ntmps15
    go_wp2_with (first | (go_at_call 12; refine (rcheck_any _ _ _).mono ?_; rintro e w' ⟨rfl, rfl⟩) | go_in)
    go_ret2
    exact ⟨rfl, 0, rfl⟩
  | true =>
    cases hy : chk t y with
    | false =>
      go_enter Try.func15, Try.ntmps15
      go_wp2_with (first | (go_at_call 12; refine (rcheck_any _ _ _).mono ?_; rintro e w' ⟨rfl, rfl⟩) | go_in)
      go_ret2
      exact ⟨rfl, 0, rfl⟩
    | true =>
      rcases chk_types t x hx with rfl | rfl | rfl | rfl
      all_goals
        go_enter Try.func15, Try.ntmps15
        go_wp2_with (first | (go_at_call 12; refine (rcheck_any _ _ _).mono ?_; rintro e w' ⟨rfl, rfl⟩) | (go_at_call 32; refine (rint_other _ HO.out _ _ _ _).mono ?_; rintro e w' ⟨rfl, rfl⟩) | go_in)
        go_ret2
        exact ⟨rfl, 0, rfl⟩

end Go.Proofs.Ytcfgnhjoajibkab
