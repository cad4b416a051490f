/- A part. -/
import Derived.Test.YteigfipgmghgmaaGreatDoorPartAS
import Derived.Test.YteigfipgmghgmaaGreatDoorPartAR
set_option maxHeartbeats 400000
namespace Go.Proofs.YteigfipgmghgmaaGreatDoor.Nu
open Go.RowKit
theorem jbk (t x : Int) (h : chk t x = true) : t = 1 ∨ t = 6 ∨ t = 7 ∨ t = 9 := by
 unfold chk at h
 split at h
 ·omega
 ·split at h
  ·omega
  ·split at h
   ·omega
   ·split at h
    ·omega
    ·cases h
theorem jpk (x : Int) (h : chk 9 x = true) : x = 0 ∨ x = 1 := by simpa [chk] using h
theorem jb5 (k : Nat) (t x y : Int) (h : chk t x = false) : bin k t x y = (0, 1) := by simp [bin, h]
theorem jb6 (k : Nat) (t x y : Int) (h : chk t y = false) : bin k t x y = (0, 1) := by simp [bin, h]
theorem jen (k : Nat) (x y : Int) (hx : chk 1 x = true) (hy : chk 1 y = true) : bin k 1 x y = binFl k (fb x) (fb y) := by simp [bin, hx, hy]
theorem jeo (k : Nat) (x y : Int) (hx : chk 6 x = true) (hy : chk 6 y = true) : bin k 6 x y = binIn k 6 x y := by simp [bin, hx, hy]
theorem jep (k : Nat) (x y : Int) (hx : chk 7 x = true) (hy : chk 7 y = true) : bin k 7 x y = binIn k 7 x y := by simp [bin, hx, hy]
theorem jeq (k : Nat) (x y : Int) (hx : chk 9 x = true) (hy : chk 9 y = true) : bin k 9 x y = binBo k x y := by simp [bin, hx, hy]
theorem jfL (t x y : Int) (w : World) (h : chk t x = false ∨ chk t x = true ∧ chk t y = false) : Calls Tryz.prog 31 #[.string ⟨#[65, 100, 100]⟩, .int .i64 t, .int .i64 x, .int .i64 y] w fun e w' => e = .returned (.tuple #[.int .i64 0, .int .i64 1]) ∧ ∃ n, w' = w.drewN n := by
 rcases h with hx | ⟨hx, hy⟩
 all_goals
  go_enter Tryz.func31, Tryz.ntmps31
  go_wp2_with (first | (go_at_call 45; refine (jak _ _ _).mono ?_; rintro e w' ⟨rfl, rfl⟩))
  go_ret2
  exact ⟨rfl, 0, rfl⟩
theorem jlt (x y : Int) (w : World) (hx : chk 1 x = true) (hy : chk 1 y = true) : Calls Tryz.prog 31 #[.string ⟨#[65, 100, 100]⟩, .int .i64 1, .int .i64 x, .int .i64 y] w fun e w' => e = .returned (.tuple #[.int .i64 (bin 0 1 x y).1, .int .i64 (bin 0 1 x y).2]) ∧ ∃ n, w' = w.drewN n := by
 rw [jen 0 x y hx hy]
 go_enter Tryz.func31, Tryz.ntmps31
 go_wp2_with (first | (go_at_call 45; refine (jak _ _ _).mono ?_; rintro e w' ⟨rfl, rfl⟩) | (go_at_call 50; refine (jaU _ _).mono ?_; rintro e w' ⟨rfl, rfl⟩) | (go_at_call 53; refine (add_f _ _ _).mono ?_; rintro e w' ⟨rfl, n, rfl⟩))
 go_ret2
 exact ⟨rfl, _, rfl⟩
theorem jlu (x y : Int) (w : World) (hx : chk 6 x = true) (hy : chk 6 y = true) : Calls Tryz.prog 31 #[.string ⟨#[65, 100, 100]⟩, .int .i64 6, .int .i64 x, .int .i64 y] w fun e w' => e = .returned (.tuple #[.int .i64 (bin 0 6 x y).1, .int .i64 (bin 0 6 x y).2]) ∧ ∃ n, w' = w.drewN n := by
 rw [jeo 0 x y hx hy]
 go_enter Tryz.func31, Tryz.ntmps31
 go_wp2_with (first | (go_at_call 45; refine (jak _ _ _).mono ?_; rintro e w' ⟨rfl, rfl⟩) | (go_at_call 54; refine (jpb _ _ _ _).mono ?_; rintro e w' ⟨rfl, rfl⟩))
 go_ret2
 exact ⟨rfl, 0, rfl⟩
theorem jlv (x y : Int) (w : World) (hx : chk 7 x = true) (hy : chk 7 y = true) : Calls Tryz.prog 31 #[.string ⟨#[65, 100, 100]⟩, .int .i64 7, .int .i64 x, .int .i64 y] w fun e w' => e = .returned (.tuple #[.int .i64 (bin 0 7 x y).1, .int .i64 (bin 0 7 x y).2]) ∧ ∃ n, w' = w.drewN n := by
 rw [jep 0 x y hx hy]
 go_enter Tryz.func31, Tryz.ntmps31
 go_wp2_with (first | (go_at_call 45; refine (jak _ _ _).mono ?_; rintro e w' ⟨rfl, rfl⟩) | (go_at_call 54; refine (jpb _ _ _ _).mono ?_; rintro e w' ⟨rfl, rfl⟩))
 go_ret2
 exact ⟨rfl, 0, rfl⟩
theorem jlw (x y : Int) (w : World) (hx : chk 9 x = true) (hy : chk 9 y = true) : Calls Tryz.prog 31 #[.string ⟨#[65, 100, 100]⟩, .int .i64 9, .int .i64 x, .int .i64 y] w fun e w' => e = .returned (.tuple #[.int .i64 (bin 0 9 x y).1, .int .i64 (bin 0 9 x y).2]) ∧ ∃ n, w' = w.drewN n := by
 rw [jeq 0 x y hx hy]
 go_enter Tryz.func31, Tryz.ntmps31
 go_wp2_with (first | (go_at_call 45; refine (jak _ _ _).mono ?_; rintro e w' ⟨rfl, rfl⟩) | (go_at_call 55; refine (jp3 _ _ _).mono ?_; rintro e w' ⟨rfl, rfl⟩))
 go_ret2
 exact ⟨rfl, 0, rfl⟩
theorem binary0 (t x y : Int) (w : World) : Calls Tryz.prog 31 #[.string ⟨#[65, 100, 100]⟩, .int .i64 t, .int .i64 x, .int .i64 y] w fun e w' => e = .returned (.tuple #[.int .i64 (bin 0 t x y).1, .int .i64 (bin 0 t x y).2]) ∧ ∃ n, w' = w.drewN n := by
 cases hx : chk t x with
 | false => rw [jb5 0 t x y hx]; exact jfL t x y w (.inl hx)
 | true =>
  cases hy : chk t y with
  | false => rw [jb6 0 t x y hy]; exact jfL t x y w (.inr ⟨hx, hy⟩)
  | true =>
   rcases jbk t x hx with rfl | rfl | rfl | rfl
   ·exact jlt x y w hx hy
   ·exact jlu x y w hx hy
   ·exact jlv x y w hx hy
   ·exact jlw x y w hx hy
theorem jfM (t x y : Int) (w : World) (h : chk t x = false ∨ chk t x = true ∧ chk t y = false) : Calls Tryz.prog 31 #[.string ⟨#[83, 117, 98]⟩, .int .i64 t, .int .i64 x, .int .i64 y] w fun e w' => e = .returned (.tuple #[.int .i64 0, .int .i64 1]) ∧ ∃ n, w' = w.drewN n := by
 rcases h with hx | ⟨hx, hy⟩
 all_goals
  go_enter Tryz.func31, Tryz.ntmps31
  go_wp2_with (first | (go_at_call 45; refine (jak _ _ _).mono ?_; rintro e w' ⟨rfl, rfl⟩))
  go_ret2
  exact ⟨rfl, 0, rfl⟩
theorem jlx (x y : Int) (w : World) (hx : chk 1 x = true) (hy : chk 1 y = true) : Calls Tryz.prog 31 #[.string ⟨#[83, 117, 98]⟩, .int .i64 1, .int .i64 x, .int .i64 y] w fun e w' => e = .returned (.tuple #[.int .i64 (bin 1 1 x y).1, .int .i64 (bin 1 1 x y).2]) ∧ ∃ n, w' = w.drewN n := by
 rw [jen 1 x y hx hy]
 go_enter Tryz.func31, Tryz.ntmps31
 go_wp2_with (first | (go_at_call 45; refine (jak _ _ _).mono ?_; rintro e w' ⟨rfl, rfl⟩) | (go_at_call 50; refine (jaU _ _).mono ?_; rintro e w' ⟨rfl, rfl⟩) | (go_at_call 53; refine (sub_f _ _ _).mono ?_; rintro e w' ⟨rfl, n, rfl⟩))
 go_ret2
 exact ⟨rfl, _, rfl⟩
theorem jly (x y : Int) (w : World) (hx : chk 6 x = true) (hy : chk 6 y = true) : Calls Tryz.prog 31 #[.string ⟨#[83, 117, 98]⟩, .int .i64 6, .int .i64 x, .int .i64 y] w fun e w' => e = .returned (.tuple #[.int .i64 (bin 1 6 x y).1, .int .i64 (bin 1 6 x y).2]) ∧ ∃ n, w' = w.drewN n := by
 rw [jeo 1 x y hx hy]
 go_enter Tryz.func31, Tryz.ntmps31
 go_wp2_with (first | (go_at_call 45; refine (jak _ _ _).mono ?_; rintro e w' ⟨rfl, rfl⟩) | (go_at_call 54; refine (jpc _ _ _ _).mono ?_; rintro e w' ⟨rfl, rfl⟩))
 go_ret2
 exact ⟨rfl, 0, rfl⟩
theorem jlz (x y : Int) (w : World) (hx : chk 7 x = true) (hy : chk 7 y = true) : Calls Tryz.prog 31 #[.string ⟨#[83, 117, 98]⟩, .int .i64 7, .int .i64 x, .int .i64 y] w fun e w' => e = .returned (.tuple #[.int .i64 (bin 1 7 x y).1, .int .i64 (bin 1 7 x y).2]) ∧ ∃ n, w' = w.drewN n := by
 rw [jep 1 x y hx hy]
 go_enter Tryz.func31, Tryz.ntmps31
 go_wp2_with (first | (go_at_call 45; refine (jak _ _ _).mono ?_; rintro e w' ⟨rfl, rfl⟩) | (go_at_call 54; refine (jpc _ _ _ _).mono ?_; rintro e w' ⟨rfl, rfl⟩))
 go_ret2
 exact ⟨rfl, 0, rfl⟩
theorem jlA (x y : Int) (w : World) (hx : chk 9 x = true) (hy : chk 9 y = true) : Calls Tryz.prog 31 #[.string ⟨#[83, 117, 98]⟩, .int .i64 9, .int .i64 x, .int .i64 y] w fun e w' => e = .returned (.tuple #[.int .i64 (bin 1 9 x y).1, .int .i64 (bin 1 9 x y).2]) ∧ ∃ n, w' = w.drewN n := by
 rw [jeq 1 x y hx hy]
 go_enter Tryz.func31, Tryz.ntmps31
 go_wp2_with (first | (go_at_call 45; refine (jak _ _ _).mono ?_; rintro e w' ⟨rfl, rfl⟩) | (go_at_call 55; refine (jp4 _ _ _).mono ?_; rintro e w' ⟨rfl, rfl⟩))
 go_ret2
 exact ⟨rfl, 0, rfl⟩
theorem binary1 (t x y : Int) (w : World) : Calls Tryz.prog 31 #[.string ⟨#[83, 117, 98]⟩, .int .i64 t, .int .i64 x, .int .i64 y] w fun e w' => e = .returned (.tuple #[.int .i64 (bin 1 t x y).1, .int .i64 (bin 1 t x y).2]) ∧ ∃ n, w' = w.drewN n := by
 cases hx : chk t x with
 | false => rw [jb5 1 t x y hx]; exact jfM t x y w (.inl hx)
 | true =>
  cases hy : chk t y with
  | false => rw [jb6 1 t x y hy]; exact jfM t x y w (.inr ⟨hx, hy⟩)
  | true =>
   rcases jbk t x hx with rfl | rfl | rfl | rfl
   ·exact jlx x y w hx hy
   ·exact jly x y w hx hy
   ·exact jlz x y w hx hy
   ·exact jlA x y w hx hy
theorem jfN (t x y : Int) (w : World) (h : chk t x = false ∨ chk t x = true ∧ chk t y = false) : Calls Tryz.prog 31 #[.string ⟨#[77, 117, 108]⟩, .int .i64 t, .int .i64 x, .int .i64 y] w fun e w' => e = .returned (.tuple #[.int .i64 0, .int .i64 1]) ∧ ∃ n, w' = w.drewN n := by
 rcases h with hx | ⟨hx, hy⟩
 all_goals
  go_enter Tryz.func31, Tryz.ntmps31
  go_wp2_with (first | (go_at_call 45; refine (jak _ _ _).mono ?_; rintro e w' ⟨rfl, rfl⟩))
  go_ret2
  exact ⟨rfl, 0, rfl⟩
theorem jlB (x y : Int) (w : World) (hx : chk 1 x = true) (hy : chk 1 y = true) : Calls Tryz.prog 31 #[.string ⟨#[77, 117, 108]⟩, .int .i64 1, .int .i64 x, .int .i64 y] w fun e w' => e = .returned (.tuple #[.int .i64 (bin 2 1 x y).1, .int .i64 (bin 2 1 x y).2]) ∧ ∃ n, w' = w.drewN n := by
 rw [jen 2 x y hx hy]
 go_enter Tryz.func31, Tryz.ntmps31
 go_wp2_with (first | (go_at_call 45; refine (jak _ _ _).mono ?_; rintro e w' ⟨rfl, rfl⟩) | (go_at_call 50; refine (jaU _ _).mono ?_; rintro e w' ⟨rfl, rfl⟩) | (go_at_call 53; refine (mul_f _ _ _).mono ?_; rintro e w' ⟨rfl, n, rfl⟩))
 go_ret2
 exact ⟨rfl, _, rfl⟩
theorem jlC (x y : Int) (w : World) (hx : chk 6 x = true) (hy : chk 6 y = true) : Calls Tryz.prog 31 #[.string ⟨#[77, 117, 108]⟩, .int .i64 6, .int .i64 x, .int .i64 y] w fun e w' => e = .returned (.tuple #[.int .i64 (bin 2 6 x y).1, .int .i64 (bin 2 6 x y).2]) ∧ ∃ n, w' = w.drewN n := by
 rw [jeo 2 x y hx hy]
 go_enter Tryz.func31, Tryz.ntmps31
 go_wp2_with (first | (go_at_call 45; refine (jak _ _ _).mono ?_; rintro e w' ⟨rfl, rfl⟩) | (go_at_call 54; refine (jpd _ _ _ _).mono ?_; rintro e w' ⟨rfl, rfl⟩))
 go_ret2
 exact ⟨rfl, 0, rfl⟩
theorem jlD (x y : Int) (w : World) (hx : chk 7 x = true) (hy : chk 7 y = true) : Calls Tryz.prog 31 #[.string ⟨#[77, 117, 108]⟩, .int .i64 7, .int .i64 x, .int .i64 y] w fun e w' => e = .returned (.tuple #[.int .i64 (bin 2 7 x y).1, .int .i64 (bin 2 7 x y).2]) ∧ ∃ n, w' = w.drewN n := by
 rw [jep 2 x y hx hy]
 go_enter Tryz.func31, Tryz.ntmps31
 go_wp2_with (first | (go_at_call 45; refine (jak _ _ _).mono ?_; rintro e w' ⟨rfl, rfl⟩) | (go_at_call 54; refine (jpd _ _ _ _).mono ?_; rintro e w' ⟨rfl, rfl⟩))
 go_ret2
 exact ⟨rfl, 0, rfl⟩
theorem jlE (x y : Int) (w : World) (hx : chk 9 x = true) (hy : chk 9 y = true) : Calls Tryz.prog 31 #[.string ⟨#[77, 117, 108]⟩, .int .i64 9, .int .i64 x, .int .i64 y] w fun e w' => e = .returned (.tuple #[.int .i64 (bin 2 9 x y).1, .int .i64 (bin 2 9 x y).2]) ∧ ∃ n, w' = w.drewN n := by
 rw [jeq 2 x y hx hy]
 go_enter Tryz.func31, Tryz.ntmps31
 go_wp2_with (first | (go_at_call 45; refine (jak _ _ _).mono ?_; rintro e w' ⟨rfl, rfl⟩) | (go_at_call 55; refine (jp5 _ _ _).mono ?_; rintro e w' ⟨rfl, rfl⟩))
 go_ret2
 exact ⟨rfl, 0, rfl⟩
theorem binary2 (t x y : Int) (w : World) : Calls Tryz.prog 31 #[.string ⟨#[77, 117, 108]⟩, .int .i64 t, .int .i64 x, .int .i64 y] w fun e w' => e = .returned (.tuple #[.int .i64 (bin 2 t x y).1, .int .i64 (bin 2 t x y).2]) ∧ ∃ n, w' = w.drewN n := by
 cases hx : chk t x with
 | false => rw [jb5 2 t x y hx]; exact jfN t x y w (.inl hx)
 | true =>
  cases hy : chk t y with
  | false => rw [jb6 2 t x y hy]; exact jfN t x y w (.inr ⟨hx, hy⟩)
  | true =>
   rcases jbk t x hx with rfl | rfl | rfl | rfl
   ·exact jlB x y w hx hy
   ·exact jlC x y w hx hy
   ·exact jlD x y w hx hy
   ·exact jlE x y w hx hy
theorem jfO (t x y : Int) (w : World) (h : chk t x = false ∨ chk t x = true ∧ chk t y = false) : Calls Tryz.prog 31 #[.string ⟨#[68, 105, 118]⟩, .int .i64 t, .int .i64 x, .int .i64 y] w fun e w' => e = .returned (.tuple #[.int .i64 0, .int .i64 1]) ∧ ∃ n, w' = w.drewN n := by
 rcases h with hx | ⟨hx, hy⟩
 all_goals
  go_enter Tryz.func31, Tryz.ntmps31
  go_wp2_with (first | (go_at_call 45; refine (jak _ _ _).mono ?_; rintro e w' ⟨rfl, rfl⟩))
  go_ret2
  exact ⟨rfl, 0, rfl⟩
theorem jlF (x y : Int) (w : World) (hx : chk 1 x = true) (hy : chk 1 y = true) : Calls Tryz.prog 31 #[.string ⟨#[68, 105, 118]⟩, .int .i64 1, .int .i64 x, .int .i64 y] w fun e w' => e = .returned (.tuple #[.int .i64 (bin 3 1 x y).1, .int .i64 (bin 3 1 x y).2]) ∧ ∃ n, w' = w.drewN n := by
 rw [jen 3 x y hx hy]
 go_enter Tryz.func31, Tryz.ntmps31
 go_wp2_with (first | (go_at_call 45; refine (jak _ _ _).mono ?_; rintro e w' ⟨rfl, rfl⟩) | (go_at_call 50; refine (jaU _ _).mono ?_; rintro e w' ⟨rfl, rfl⟩) | (go_at_call 53; refine (div_f _ _ _).mono ?_; rintro e w' ⟨rfl, n, rfl⟩))
 go_ret2
 exact ⟨rfl, _, rfl⟩
theorem jlG (x y : Int) (w : World) (hx : chk 6 x = true) (hy : chk 6 y = true) : Calls Tryz.prog 31 #[.string ⟨#[68, 105, 118]⟩, .int .i64 6, .int .i64 x, .int .i64 y] w fun e w' => e = .returned (.tuple #[.int .i64 (bin 3 6 x y).1, .int .i64 (bin 3 6 x y).2]) ∧ ∃ n, w' = w.drewN n := by
 rw [jeo 3 x y hx hy]
 cases h0 : (y == 0) with
 | true =>
  have e0 : binIn 3 6 x y = (0, 7) := by simp at h0; simp [binIn, h0]
  rw [e0]; clear e0
  go_enter Tryz.func31, Tryz.ntmps31
  go_wp2_with (first | (go_at_call 45; refine (jak _ _ _).mono ?_; rintro e w' ⟨rfl, rfl⟩) | (go_at_call 54; refine (jlq _ _ _ _ h0).mono ?_; rintro e w' ⟨rfl, rfl⟩))
  go_ret2
  exact ⟨rfl, 0, rfl⟩
 | false =>
  have e0 : binIn 3 6 x y = (wrapT 6 (wrap64 (x.tdiv y)), 0) := by simp at h0; simp [binIn, h0]
  rw [e0]; clear e0
  go_enter Tryz.func31, Tryz.ntmps31
  go_wp2_with (first | (go_at_call 45; refine (jak _ _ _).mono ?_; rintro e w' ⟨rfl, rfl⟩) | (go_at_call 54; refine (jjd _ _ _ _ h0).mono ?_; rintro e w' ⟨rfl, rfl⟩))
  go_ret2
  exact ⟨rfl, 0, rfl⟩
theorem jlH (x y : Int) (w : World) (hx : chk 7 x = true) (hy : chk 7 y = true) : Calls Tryz.prog 31 #[.string ⟨#[68, 105, 118]⟩, .int .i64 7, .int .i64 x, .int .i64 y] w fun e w' => e = .returned (.tuple #[.int .i64 (bin 3 7 x y).1, .int .i64 (bin 3 7 x y).2]) ∧ ∃ n, w' = w.drewN n := by
 rw [jep 3 x y hx hy]
 cases h0 : (y == 0) with
 | true =>
  have e0 : binIn 3 7 x y = (0, 7) := by simp at h0; simp [binIn, h0]
  rw [e0]; clear e0
  go_enter Tryz.func31, Tryz.ntmps31
  go_wp2_with (first | (go_at_call 45; refine (jak _ _ _).mono ?_; rintro e w' ⟨rfl, rfl⟩) | (go_at_call 54; refine (jlq _ _ _ _ h0).mono ?_; rintro e w' ⟨rfl, rfl⟩))
  go_ret2
  exact ⟨rfl, 0, rfl⟩
 | false =>
  have e0 : binIn 3 7 x y = (wrapT 7 (wrap64 (x.tdiv y)), 0) := by simp at h0; simp [binIn, h0]
  rw [e0]; clear e0
  go_enter Tryz.func31, Tryz.ntmps31
  go_wp2_with (first | (go_at_call 45; refine (jak _ _ _).mono ?_; rintro e w' ⟨rfl, rfl⟩) | (go_at_call 54; refine (jjd _ _ _ _ h0).mono ?_; rintro e w' ⟨rfl, rfl⟩))
  go_ret2
  exact ⟨rfl, 0, rfl⟩
theorem jlI (x y : Int) (w : World) (hx : chk 9 x = true) (hy : chk 9 y = true) : Calls Tryz.prog 31 #[.string ⟨#[68, 105, 118]⟩, .int .i64 9, .int .i64 x, .int .i64 y] w fun e w' => e = .returned (.tuple #[.int .i64 (bin 3 9 x y).1, .int .i64 (bin 3 9 x y).2]) ∧ ∃ n, w' = w.drewN n := by
 rw [jeq 3 x y hx hy]
 go_enter Tryz.func31, Tryz.ntmps31
 go_wp2_with (first | (go_at_call 45; refine (jak _ _ _).mono ?_; rintro e w' ⟨rfl, rfl⟩) | (go_at_call 55; refine (jp6 _ _ _).mono ?_; rintro e w' ⟨rfl, rfl⟩))
 go_ret2
 exact ⟨rfl, 0, rfl⟩
theorem binary3 (t x y : Int) (w : World) : Calls Tryz.prog 31 #[.string ⟨#[68, 105, 118]⟩, .int .i64 t, .int .i64 x, .int .i64 y] w fun e w' => e = .returned (.tuple #[.int .i64 (bin 3 t x y).1, .int .i64 (bin 3 t x y).2]) ∧ ∃ n, w' = w.drewN n := by
 cases hx : chk t x with
 | false => rw [jb5 3 t x y hx]; exact jfO t x y w (.inl hx)
 | true =>
  cases hy : chk t y with
  | false => rw [jb6 3 t x y hy]; exact jfO t x y w (.inr ⟨hx, hy⟩)
  | true =>
   rcases jbk t x hx with rfl | rfl | rfl | rfl
   ·exact jlF x y w hx hy
   ·exact jlG x y w hx hy
   ·exact jlH x y w hx hy
   ·exact jlI x y w hx hy
theorem jfP (t x y : Int) (w : World) (h : chk t x = false ∨ chk t x = true ∧ chk t y = false) : Calls Tryz.prog 31 #[.string ⟨#[77, 97, 120]⟩, .int .i64 t, .int .i64 x, .int .i64 y] w fun e w' => e = .returned (.tuple #[.int .i64 0, .int .i64 1]) ∧ ∃ n, w' = w.drewN n := by
 rcases h with hx | ⟨hx, hy⟩
 all_goals
  go_enter Tryz.func31, Tryz.ntmps31
  go_wp2_with (first | (go_at_call 45; refine (jak _ _ _).mono ?_; rintro e w' ⟨rfl, rfl⟩))
  go_ret2
  exact ⟨rfl, 0, rfl⟩
theorem jlJ (x y : Int) (w : World) (hx : chk 1 x = true) (hy : chk 1 y = true) : Calls Tryz.prog 31 #[.string ⟨#[77, 97, 120]⟩, .int .i64 1, .int .i64 x, .int .i64 y] w fun e w' => e = .returned (.tuple #[.int .i64 (bin 4 1 x y).1, .int .i64 (bin 4 1 x y).2]) ∧ ∃ n, w' = w.drewN n := by
 rw [jen 4 x y hx hy]
 go_enter Tryz.func31, Tryz.ntmps31
 go_wp2_with (first | (go_at_call 45; refine (jak _ _ _).mono ?_; rintro e w' ⟨rfl, rfl⟩) | (go_at_call 50; refine (jaU _ _).mono ?_; rintro e w' ⟨rfl, rfl⟩) | (go_at_call 53; refine (max_f _ _ _ (jcS _) (jcS _)).mono ?_; rintro e w' ⟨rfl, n, rfl⟩))
 go_ret2
 exact ⟨rfl, _, rfl⟩
theorem jlK (x y : Int) (w : World) (hx : chk 6 x = true) (hy : chk 6 y = true) : Calls Tryz.prog 31 #[.string ⟨#[77, 97, 120]⟩, .int .i64 6, .int .i64 x, .int .i64 y] w fun e w' => e = .returned (.tuple #[.int .i64 (bin 4 6 x y).1, .int .i64 (bin 4 6 x y).2]) ∧ ∃ n, w' = w.drewN n := by
 rw [jeo 4 x y hx hy]
 go_enter Tryz.func31, Tryz.ntmps31
 go_wp2_with (first | (go_at_call 45; refine (jak _ _ _).mono ?_; rintro e w' ⟨rfl, rfl⟩) | (go_at_call 54; refine (jpe _ _ _ _).mono ?_; rintro e w' ⟨rfl, rfl⟩))
 go_ret2
 exact ⟨rfl, 0, rfl⟩
theorem jlL (x y : Int) (w : World) (hx : chk 7 x = true) (hy : chk 7 y = true) : Calls Tryz.prog 31 #[.string ⟨#[77, 97, 120]⟩, .int .i64 7, .int .i64 x, .int .i64 y] w fun e w' => e = .returned (.tuple #[.int .i64 (bin 4 7 x y).1, .int .i64 (bin 4 7 x y).2]) ∧ ∃ n, w' = w.drewN n := by
 rw [jep 4 x y hx hy]
 go_enter Tryz.func31, Tryz.ntmps31
 go_wp2_with (first | (go_at_call 45; refine (jak _ _ _).mono ?_; rintro e w' ⟨rfl, rfl⟩) | (go_at_call 54; refine (jpe _ _ _ _).mono ?_; rintro e w' ⟨rfl, rfl⟩))
 go_ret2
 exact ⟨rfl, 0, rfl⟩
theorem jlM (x y : Int) (w : World) (hx : chk 9 x = true) (hy : chk 9 y = true) : Calls Tryz.prog 31 #[.string ⟨#[77, 97, 120]⟩, .int .i64 9, .int .i64 x, .int .i64 y] w fun e w' => e = .returned (.tuple #[.int .i64 (bin 4 9 x y).1, .int .i64 (bin 4 9 x y).2]) ∧ ∃ n, w' = w.drewN n := by
 rw [jeq 4 x y hx hy]
 go_enter Tryz.func31, Tryz.ntmps31
 go_wp2_with (first | (go_at_call 45; refine (jak _ _ _).mono ?_; rintro e w' ⟨rfl, rfl⟩) | (go_at_call 55; refine (jp7 _ _ _).mono ?_; rintro e w' ⟨rfl, rfl⟩))
 go_ret2
 exact ⟨rfl, 0, rfl⟩
theorem binary4 (t x y : Int) (w : World) : Calls Tryz.prog 31 #[.string ⟨#[77, 97, 120]⟩, .int .i64 t, .int .i64 x, .int .i64 y] w fun e w' => e = .returned (.tuple #[.int .i64 (bin 4 t x y).1, .int .i64 (bin 4 t x y).2]) ∧ ∃ n, w' = w.drewN n := by
 cases hx : chk t x with
 | false => rw [jb5 4 t x y hx]; exact jfP t x y w (.inl hx)
 | true =>
  cases hy : chk t y with
  | false => rw [jb6 4 t x y hy]; exact jfP t x y w (.inr ⟨hx, hy⟩)
  | true =>
   rcases jbk t x hx with rfl | rfl | rfl | rfl
   ·exact jlJ x y w hx hy
   ·exact jlK x y w hx hy
   ·exact jlL x y w hx hy
   ·exact jlM x y w hx hy
theorem jfQ (t x y : Int) (w : World) (h : chk t x = false ∨ chk t x = true ∧ chk t y = false) : Calls Tryz.prog 31 #[.string ⟨#[77, 105, 110]⟩, .int .i64 t, .int .i64 x, .int .i64 y] w fun e w' => e = .returned (.tuple #[.int .i64 0, .int .i64 1]) ∧ ∃ n, w' = w.drewN n := by
 rcases h with hx | ⟨hx, hy⟩
 all_goals
  go_enter Tryz.func31, Tryz.ntmps31
  go_wp2_with (first | (go_at_call 45; refine (jak _ _ _).mono ?_; rintro e w' ⟨rfl, rfl⟩))
  go_ret2
  exact ⟨rfl, 0, rfl⟩
theorem jlN (x y : Int) (w : World) (hx : chk 1 x = true) (hy : chk 1 y = true) : Calls Tryz.prog 31 #[.string ⟨#[77, 105, 110]⟩, .int .i64 1, .int .i64 x, .int .i64 y] w fun e w' => e = .returned (.tuple #[.int .i64 (bin 5 1 x y).1, .int .i64 (bin 5 1 x y).2]) ∧ ∃ n, w' = w.drewN n := by
 rw [jen 5 x y hx hy]
 go_enter Tryz.func31, Tryz.ntmps31
 go_wp2_with (first | (go_at_call 45; refine (jak _ _ _).mono ?_; rintro e w' ⟨rfl, rfl⟩) | (go_at_call 50; refine (jaU _ _).mono ?_; rintro e w' ⟨rfl, rfl⟩) | (go_at_call 53; refine (min_f _ _ _ (jcS _) (jcS _)).mono ?_; rintro e w' ⟨rfl, n, rfl⟩))
 go_ret2
 exact ⟨rfl, _, rfl⟩
theorem jlO (x y : Int) (w : World) (hx : chk 6 x = true) (hy : chk 6 y = true) : Calls Tryz.prog 31 #[.string ⟨#[77, 105, 110]⟩, .int .i64 6, .int .i64 x, .int .i64 y] w fun e w' => e = .returned (.tuple #[.int .i64 (bin 5 6 x y).1, .int .i64 (bin 5 6 x y).2]) ∧ ∃ n, w' = w.drewN n := by
 rw [jeo 5 x y hx hy]
 go_enter Tryz.func31, Tryz.ntmps31
 go_wp2_with (first | (go_at_call 45; refine (jak _ _ _).mono ?_; rintro e w' ⟨rfl, rfl⟩) | (go_at_call 54; refine (jpf _ _ _ _).mono ?_; rintro e w' ⟨rfl, rfl⟩))
 go_ret2
 exact ⟨rfl, 0, rfl⟩
theorem jlP (x y : Int) (w : World) (hx : chk 7 x = true) (hy : chk 7 y = true) : Calls Tryz.prog 31 #[.string ⟨#[77, 105, 110]⟩, .int .i64 7, .int .i64 x, .int .i64 y] w fun e w' => e = .returned (.tuple #[.int .i64 (bin 5 7 x y).1, .int .i64 (bin 5 7 x y).2]) ∧ ∃ n, w' = w.drewN n := by
 rw [jep 5 x y hx hy]
 go_enter Tryz.func31, Tryz.ntmps31
 go_wp2_with (first | (go_at_call 45; refine (jak _ _ _).mono ?_; rintro e w' ⟨rfl, rfl⟩) | (go_at_call 54; refine (jpf _ _ _ _).mono ?_; rintro e w' ⟨rfl, rfl⟩))
 go_ret2
 exact ⟨rfl, 0, rfl⟩
theorem jlQ (x y : Int) (w : World) (hx : chk 9 x = true) (hy : chk 9 y = true) : Calls Tryz.prog 31 #[.string ⟨#[77, 105, 110]⟩, .int .i64 9, .int .i64 x, .int .i64 y] w fun e w' => e = .returned (.tuple #[.int .i64 (bin 5 9 x y).1, .int .i64 (bin 5 9 x y).2]) ∧ ∃ n, w' = w.drewN n := by
 rw [jeq 5 x y hx hy]
 go_enter Tryz.func31, Tryz.ntmps31
 go_wp2_with (first | (go_at_call 45; refine (jak _ _ _).mono ?_; rintro e w' ⟨rfl, rfl⟩) | (go_at_call 55; refine (jp8 _ _ _).mono ?_; rintro e w' ⟨rfl, rfl⟩))
 go_ret2
 exact ⟨rfl, 0, rfl⟩
theorem binary5 (t x y : Int) (w : World) : Calls Tryz.prog 31 #[.string ⟨#[77, 105, 110]⟩, .int .i64 t, .int .i64 x, .int .i64 y] w fun e w' => e = .returned (.tuple #[.int .i64 (bin 5 t x y).1, .int .i64 (bin 5 t x y).2]) ∧ ∃ n, w' = w.drewN n := by
 cases hx : chk t x with
 | false => rw [jb5 5 t x y hx]; exact jfQ t x y w (.inl hx)
 | true =>
  cases hy : chk t y with
  | false => rw [jb6 5 t x y hy]; exact jfQ t x y w (.inr ⟨hx, hy⟩)
  | true =>
   rcases jbk t x hx with rfl | rfl | rfl | rfl
   ·exact jlN x y w hx hy
   ·exact jlO x y w hx hy
   ·exact jlP x y w hx hy
   ·exact jlQ x y w hx hy
theorem jfR (t x y : Int) (w : World) (h : chk t x = false ∨ chk t x = true ∧ chk t y = false) : Calls Tryz.prog 31 #[.string ⟨#[65, 110, 100]⟩, .int .i64 t, .int .i64 x, .int .i64 y] w fun e w' => e = .returned (.tuple #[.int .i64 0, .int .i64 1]) ∧ ∃ n, w' = w.drewN n := by
 rcases h with hx | ⟨hx, hy⟩
 all_goals
  go_enter Tryz.func31, Tryz.ntmps31
  go_wp2_with (first | (go_at_call 45; refine (jak _ _ _).mono ?_; rintro e w' ⟨rfl, rfl⟩))
  go_ret2
  exact ⟨rfl, 0, rfl⟩
theorem jlR (x y : Int) (w : World) (hx : chk 1 x = true) (hy : chk 1 y = true) : Calls Tryz.prog 31 #[.string ⟨#[65, 110, 100]⟩, .int .i64 1, .int .i64 x, .int .i64 y] w fun e w' => e = .returned (.tuple #[.int .i64 (bin 6 1 x y).1, .int .i64 (bin 6 1 x y).2]) ∧ ∃ n, w' = w.drewN n := by
 rw [jen 6 x y hx hy]
 go_enter Tryz.func31, Tryz.ntmps31
 go_wp2_with (first | (go_at_call 45; refine (jak _ _ _).mono ?_; rintro e w' ⟨rfl, rfl⟩) | (go_at_call 50; refine (jaU _ _).mono ?_; rintro e w' ⟨rfl, rfl⟩) | (go_at_call 53; refine (no6_f _ _ _).mono ?_; rintro e w' ⟨rfl, n, rfl⟩))
 go_ret2
 exact ⟨rfl, _, rfl⟩
theorem jlS (x y : Int) (w : World) (hx : chk 6 x = true) (hy : chk 6 y = true) : Calls Tryz.prog 31 #[.string ⟨#[65, 110, 100]⟩, .int .i64 6, .int .i64 x, .int .i64 y] w fun e w' => e = .returned (.tuple #[.int .i64 (bin 6 6 x y).1, .int .i64 (bin 6 6 x y).2]) ∧ ∃ n, w' = w.drewN n := by
 rw [jeo 6 x y hx hy]
 go_enter Tryz.func31, Tryz.ntmps31
 go_wp2_with (first | (go_at_call 45; refine (jak _ _ _).mono ?_; rintro e w' ⟨rfl, rfl⟩) | (go_at_call 54; refine (jph _ _ _ _).mono ?_; rintro e w' ⟨rfl, rfl⟩))
 go_ret2
 exact ⟨rfl, 0, rfl⟩
theorem jlT (x y : Int) (w : World) (hx : chk 7 x = true) (hy : chk 7 y = true) : Calls Tryz.prog 31 #[.string ⟨#[65, 110, 100]⟩, .int .i64 7, .int .i64 x, .int .i64 y] w fun e w' => e = .returned (.tuple #[.int .i64 (bin 6 7 x y).1, .int .i64 (bin 6 7 x y).2]) ∧ ∃ n, w' = w.drewN n := by
 rw [jep 6 x y hx hy]
 go_enter Tryz.func31, Tryz.ntmps31
 go_wp2_with (first | (go_at_call 45; refine (jak _ _ _).mono ?_; rintro e w' ⟨rfl, rfl⟩) | (go_at_call 54; refine (jph _ _ _ _).mono ?_; rintro e w' ⟨rfl, rfl⟩))
 go_ret2
 exact ⟨rfl, 0, rfl⟩
theorem jlU (x y : Int) (w : World) (hx : chk 9 x = true) (hy : chk 9 y = true) : Calls Tryz.prog 31 #[.string ⟨#[65, 110, 100]⟩, .int .i64 9, .int .i64 x, .int .i64 y] w fun e w' => e = .returned (.tuple #[.int .i64 (bin 6 9 x y).1, .int .i64 (bin 6 9 x y).2]) ∧ ∃ n, w' = w.drewN n := by
 rw [jeq 6 x y hx hy]
 go_enter Tryz.func31, Tryz.ntmps31
 go_wp2_with (first | (go_at_call 45; refine (jak _ _ _).mono ?_; rintro e w' ⟨rfl, rfl⟩) | (go_at_call 55; refine (jpZ _ _ _ (jpk _ hx) (jpk _ hy)).mono ?_; rintro e w' ⟨rfl, rfl⟩))
 go_ret2
 exact ⟨rfl, 0, rfl⟩
theorem binary6 (t x y : Int) (w : World) : Calls Tryz.prog 31 #[.string ⟨#[65, 110, 100]⟩, .int .i64 t, .int .i64 x, .int .i64 y] w fun e w' => e = .returned (.tuple #[.int .i64 (bin 6 t x y).1, .int .i64 (bin 6 t x y).2]) ∧ ∃ n, w' = w.drewN n := by
 cases hx : chk t x with
 | false => rw [jb5 6 t x y hx]; exact jfR t x y w (.inl hx)
 | true =>
  cases hy : chk t y with
  | false => rw [jb6 6 t x y hy]; exact jfR t x y w (.inr ⟨hx, hy⟩)
  | true =>
   rcases jbk t x hx with rfl | rfl | rfl | rfl
   ·exact jlR x y w hx hy
   ·exact jlS x y w hx hy
   ·exact jlT x y w hx hy
   ·exact jlU x y w hx hy
theorem jfS (t x y : Int) (w : World) (h : chk t x = false ∨ chk t x = true ∧ chk t y = false) : Calls Tryz.prog 31 #[.string ⟨#[79, 114]⟩, .int .i64 t, .int .i64 x, .int .i64 y] w fun e w' => e = .returned (.tuple #[.int .i64 0, .int .i64 1]) ∧ ∃ n, w' = w.drewN n := by
 rcases h with hx | ⟨hx, hy⟩
 all_goals
  go_enter Tryz.func31, Tryz.ntmps31
  go_wp2_with (first | (go_at_call 45; refine (jak _ _ _).mono ?_; rintro e w' ⟨rfl, rfl⟩))
  go_ret2
  exact ⟨rfl, 0, rfl⟩
theorem jlV (x y : Int) (w : World) (hx : chk 1 x = true) (hy : chk 1 y = true) : Calls Tryz.prog 31 #[.string ⟨#[79, 114]⟩, .int .i64 1, .int .i64 x, .int .i64 y] w fun e w' => e = .returned (.tuple #[.int .i64 (bin 7 1 x y).1, .int .i64 (bin 7 1 x y).2]) ∧ ∃ n, w' = w.drewN n := by
 rw [jen 7 x y hx hy]
 go_enter Tryz.func31, Tryz.ntmps31
 go_wp2_with (first | (go_at_call 45; refine (jak _ _ _).mono ?_; rintro e w' ⟨rfl, rfl⟩) | (go_at_call 50; refine (jaU _ _).mono ?_; rintro e w' ⟨rfl, rfl⟩) | (go_at_call 53; refine (no7_f _ _ _).mono ?_; rintro e w' ⟨rfl, n, rfl⟩))
 go_ret2
 exact ⟨rfl, _, rfl⟩
theorem jlW (x y : Int) (w : World) (hx : chk 6 x = true) (hy : chk 6 y = true) : Calls Tryz.prog 31 #[.string ⟨#[79, 114]⟩, .int .i64 6, .int .i64 x, .int .i64 y] w fun e w' => e = .returned (.tuple #[.int .i64 (bin 7 6 x y).1, .int .i64 (bin 7 6 x y).2]) ∧ ∃ n, w' = w.drewN n := by
 rw [jeo 7 x y hx hy]
 go_enter Tryz.func31, Tryz.ntmps31
 go_wp2_with (first | (go_at_call 45; refine (jak _ _ _).mono ?_; rintro e w' ⟨rfl, rfl⟩) | (go_at_call 54; refine (jpi _ _ _ _).mono ?_; rintro e w' ⟨rfl, rfl⟩))
 go_ret2
 exact ⟨rfl, 0, rfl⟩
theorem jlX (x y : Int) (w : World) (hx : chk 7 x = true) (hy : chk 7 y = true) : Calls Tryz.prog 31 #[.string ⟨#[79, 114]⟩, .int .i64 7, .int .i64 x, .int .i64 y] w fun e w' => e = .returned (.tuple #[.int .i64 (bin 7 7 x y).1, .int .i64 (bin 7 7 x y).2]) ∧ ∃ n, w' = w.drewN n := by
 rw [jep 7 x y hx hy]
 go_enter Tryz.func31, Tryz.ntmps31
 go_wp2_with (first | (go_at_call 45; refine (jak _ _ _).mono ?_; rintro e w' ⟨rfl, rfl⟩) | (go_at_call 54; refine (jpi _ _ _ _).mono ?_; rintro e w' ⟨rfl, rfl⟩))
 go_ret2
 exact ⟨rfl, 0, rfl⟩
theorem jlY (x y : Int) (w : World) (hx : chk 9 x = true) (hy : chk 9 y = true) : Calls Tryz.prog 31 #[.string ⟨#[79, 114]⟩, .int .i64 9, .int .i64 x, .int .i64 y] w fun e w' => e = .returned (.tuple #[.int .i64 (bin 7 9 x y).1, .int .i64 (bin 7 9 x y).2]) ∧ ∃ n, w' = w.drewN n := by
 rw [jeq 7 x y hx hy]
 go_enter Tryz.func31, Tryz.ntmps31
 go_wp2_with (first | (go_at_call 45; refine (jak _ _ _).mono ?_; rintro e w' ⟨rfl, rfl⟩) | (go_at_call 55; refine (jp0 _ _ _ (jpk _ hx) (jpk _ hy)).mono ?_; rintro e w' ⟨rfl, rfl⟩))
 go_ret2
 exact ⟨rfl, 0, rfl⟩
theorem binary7 (t x y : Int) (w : World) : Calls Tryz.prog 31 #[.string ⟨#[79, 114]⟩, .int .i64 t, .int .i64 x, .int .i64 y] w fun e w' => e = .returned (.tuple #[.int .i64 (bin 7 t x y).1, .int .i64 (bin 7 t x y).2]) ∧ ∃ n, w' = w.drewN n := by
 cases hx : chk t x with
 | false => rw [jb5 7 t x y hx]; exact jfS t x y w (.inl hx)
 | true =>
  cases hy : chk t y with
  | false => rw [jb6 7 t x y hy]; exact jfS t x y w (.inr ⟨hx, hy⟩)
  | true =>
   rcases jbk t x hx with rfl | rfl | rfl | rfl
   ·exact jlV x y w hx hy
   ·exact jlW x y w hx hy
   ·exact jlX x y w hx hy
   ·exact jlY x y w hx hy
theorem jfT (t x y : Int) (w : World) (h : chk t x = false ∨ chk t x = true ∧ chk t y = false) : Calls Tryz.prog 31 #[.string ⟨#[88, 111, 114]⟩, .int .i64 t, .int .i64 x, .int .i64 y] w fun e w' => e = .returned (.tuple #[.int .i64 0, .int .i64 1]) ∧ ∃ n, w' = w.drewN n := by
 rcases h with hx | ⟨hx, hy⟩
 all_goals
  go_enter Tryz.func31, Tryz.ntmps31
  go_wp2_with (first | (go_at_call 45; refine (jak _ _ _).mono ?_; rintro e w' ⟨rfl, rfl⟩))
  go_ret2
  exact ⟨rfl, 0, rfl⟩
theorem jlZ (x y : Int) (w : World) (hx : chk 1 x = true) (hy : chk 1 y = true) : Calls Tryz.prog 31 #[.string ⟨#[88, 111, 114]⟩, .int .i64 1, .int .i64 x, .int .i64 y] w fun e w' => e = .returned (.tuple #[.int .i64 (bin 8 1 x y).1, .int .i64 (bin 8 1 x y).2]) ∧ ∃ n, w' = w.drewN n := by
 rw [jen 8 x y hx hy]
 go_enter Tryz.func31, Tryz.ntmps31
 go_wp2_with (first | (go_at_call 45; refine (jak _ _ _).mono ?_; rintro e w' ⟨rfl, rfl⟩) | (go_at_call 50; refine (jaU _ _).mono ?_; rintro e w' ⟨rfl, rfl⟩) | (go_at_call 53; refine (no8_f _ _ _).mono ?_; rintro e w' ⟨rfl, n, rfl⟩))
 go_ret2
 exact ⟨rfl, _, rfl⟩
theorem jl0 (x y : Int) (w : World) (hx : chk 6 x = true) (hy : chk 6 y = true) : Calls Tryz.prog 31 #[.string ⟨#[88, 111, 114]⟩, .int .i64 6, .int .i64 x, .int .i64 y] w fun e w' => e = .returned (.tuple #[.int .i64 (bin 8 6 x y).1, .int .i64 (bin 8 6 x y).2]) ∧ ∃ n, w' = w.drewN n := by
 rw [jeo 8 x y hx hy]
 go_enter Tryz.func31, Tryz.ntmps31
 go_wp2_with (first | (go_at_call 45; refine (jak _ _ _).mono ?_; rintro e w' ⟨rfl, rfl⟩) | (go_at_call 54; refine (jpj _ _ _ _).mono ?_; rintro e w' ⟨rfl, rfl⟩))
 go_ret2
 exact ⟨rfl, 0, rfl⟩
theorem jl1 (x y : Int) (w : World) (hx : chk 7 x = true) (hy : chk 7 y = true) : Calls Tryz.prog 31 #[.string ⟨#[88, 111, 114]⟩, .int .i64 7, .int .i64 x, .int .i64 y] w fun e w' => e = .returned (.tuple #[.int .i64 (bin 8 7 x y).1, .int .i64 (bin 8 7 x y).2]) ∧ ∃ n, w' = w.drewN n := by
 rw [jep 8 x y hx hy]
 go_enter Tryz.func31, Tryz.ntmps31
 go_wp2_with (first | (go_at_call 45; refine (jak _ _ _).mono ?_; rintro e w' ⟨rfl, rfl⟩) | (go_at_call 54; refine (jpj _ _ _ _).mono ?_; rintro e w' ⟨rfl, rfl⟩))
 go_ret2
 exact ⟨rfl, 0, rfl⟩
theorem jl2 (x y : Int) (w : World) (hx : chk 9 x = true) (hy : chk 9 y = true) : Calls Tryz.prog 31 #[.string ⟨#[88, 111, 114]⟩, .int .i64 9, .int .i64 x, .int .i64 y] w fun e w' => e = .returned (.tuple #[.int .i64 (bin 8 9 x y).1, .int .i64 (bin 8 9 x y).2]) ∧ ∃ n, w' = w.drewN n := by
 rw [jeq 8 x y hx hy]
 go_enter Tryz.func31, Tryz.ntmps31
 go_wp2_with (first | (go_at_call 45; refine (jak _ _ _).mono ?_; rintro e w' ⟨rfl, rfl⟩) | (go_at_call 55; refine (jp1 _ _ _ (jpk _ hx) (jpk _ hy)).mono ?_; rintro e w' ⟨rfl, rfl⟩))
 go_ret2
 exact ⟨rfl, 0, rfl⟩
theorem binary8 (t x y : Int) (w : World) : Calls Tryz.prog 31 #[.string ⟨#[88, 111, 114]⟩, .int .i64 t, .int .i64 x, .int .i64 y] w fun e w' => e = .returned (.tuple #[.int .i64 (bin 8 t x y).1, .int .i64 (bin 8 t x y).2]) ∧ ∃ n, w' = w.drewN n := by
 cases hx : chk t x with
 | false => rw [jb5 8 t x y hx]; exact jfT t x y w (.inl hx)
 | true =>
  cases hy : chk t y with
  | false => rw [jb6 8 t x y hy]; exact jfT t x y w (.inr ⟨hx, hy⟩)
  | true =>
   rcases jbk t x hx with rfl | rfl | rfl | rfl
   ·exact jlZ x y w hx hy
   ·exact jl0 x y w hx hy
   ·exact jl1 x y w hx hy
   ·exact jl2 x y w hx hy
theorem jfU (t x y : Int) (w : World) (h : chk t x = false ∨ chk t x = true ∧ chk t y = false) : Calls Tryz.prog 31 #[.string ⟨#[69, 113, 117, 97, 108]⟩, .int .i64 t, .int .i64 x, .int .i64 y] w fun e w' => e = .returned (.tuple #[.int .i64 0, .int .i64 1]) ∧ ∃ n, w' = w.drewN n := by
 rcases h with hx | ⟨hx, hy⟩
 all_goals
  go_enter Tryz.func31, Tryz.ntmps31
  go_wp2_with (first | (go_at_call 45; refine (jak _ _ _).mono ?_; rintro e w' ⟨rfl, rfl⟩))
  go_ret2
  exact ⟨rfl, 0, rfl⟩
theorem jl3 (x y : Int) (w : World) (hx : chk 1 x = true) (hy : chk 1 y = true) : Calls Tryz.prog 31 #[.string ⟨#[69, 113, 117, 97, 108]⟩, .int .i64 1, .int .i64 x, .int .i64 y] w fun e w' => e = .returned (.tuple #[.int .i64 (bin 9 1 x y).1, .int .i64 (bin 9 1 x y).2]) ∧ ∃ n, w' = w.drewN n := by
 rw [jen 9 x y hx hy]
 go_enter Tryz.func31, Tryz.ntmps31
 go_wp2_with (first | (go_at_call 45; refine (jak _ _ _).mono ?_; rintro e w' ⟨rfl, rfl⟩) | (go_at_call 50; refine (jaU _ _).mono ?_; rintro e w' ⟨rfl, rfl⟩) | (go_at_call 53; refine (jq1 _ _ _).mono ?_; rintro e w' ⟨rfl, n, rfl⟩))
 go_ret2
 exact ⟨rfl, _, rfl⟩
theorem jl4 (x y : Int) (w : World) (hx : chk 6 x = true) (hy : chk 6 y = true) : Calls Tryz.prog 31 #[.string ⟨#[69, 113, 117, 97, 108]⟩, .int .i64 6, .int .i64 x, .int .i64 y] w fun e w' => e = .returned (.tuple #[.int .i64 (bin 9 6 x y).1, .int .i64 (bin 9 6 x y).2]) ∧ ∃ n, w' = w.drewN n := by
 rw [jeo 9 x y hx hy]
 go_enter Tryz.func31, Tryz.ntmps31
 go_wp2_with (first | (go_at_call 45; refine (jak _ _ _).mono ?_; rintro e w' ⟨rfl, rfl⟩) | (go_at_call 54; refine (jpg _ _ _ _).mono ?_; rintro e w' ⟨rfl, rfl⟩))
 go_ret2
 exact ⟨rfl, 0, rfl⟩
theorem jl5 (x y : Int) (w : World) (hx : chk 7 x = true) (hy : chk 7 y = true) : Calls Tryz.prog 31 #[.string ⟨#[69, 113, 117, 97, 108]⟩, .int .i64 7, .int .i64 x, .int .i64 y] w fun e w' => e = .returned (.tuple #[.int .i64 (bin 9 7 x y).1, .int .i64 (bin 9 7 x y).2]) ∧ ∃ n, w' = w.drewN n := by
 rw [jep 9 x y hx hy]
 go_enter Tryz.func31, Tryz.ntmps31
 go_wp2_with (first | (go_at_call 45; refine (jak _ _ _).mono ?_; rintro e w' ⟨rfl, rfl⟩) | (go_at_call 54; refine (jpg _ _ _ _).mono ?_; rintro e w' ⟨rfl, rfl⟩))
 go_ret2
 exact ⟨rfl, 0, rfl⟩
theorem jl6 (x y : Int) (w : World) (hx : chk 9 x = true) (hy : chk 9 y = true) : Calls Tryz.prog 31 #[.string ⟨#[69, 113, 117, 97, 108]⟩, .int .i64 9, .int .i64 x, .int .i64 y] w fun e w' => e = .returned (.tuple #[.int .i64 (bin 9 9 x y).1, .int .i64 (bin 9 9 x y).2]) ∧ ∃ n, w' = w.drewN n := by
 rw [jeq 9 x y hx hy]
 go_enter Tryz.func31, Tryz.ntmps31
 go_wp2_with (first | (go_at_call 45; refine (jak _ _ _).mono ?_; rintro e w' ⟨rfl, rfl⟩) | (go_at_call 55; refine (jp2 _ _ _).mono ?_; rintro e w' ⟨rfl, rfl⟩))
 go_ret2
 exact ⟨rfl, 0, rfl⟩
theorem binary9 (t x y : Int) (w : World) : Calls Tryz.prog 31 #[.string ⟨#[69, 113, 117, 97, 108]⟩, .int .i64 t, .int .i64 x, .int .i64 y] w fun e w' => e = .returned (.tuple #[.int .i64 (bin 9 t x y).1, .int .i64 (bin 9 t x y).2]) ∧ ∃ n, w' = w.drewN n := by
 cases hx : chk t x with
 | false => rw [jb5 9 t x y hx]; exact jfU t x y w (.inl hx)
 | true =>
  cases hy : chk t y with
  | false => rw [jb6 9 t x y hy]; exact jfU t x y w (.inr ⟨hx, hy⟩)
  | true =>
   rcases jbk t x hx with rfl | rfl | rfl | rfl
   ·exact jl3 x y w hx hy
   ·exact jl4 x y w hx hy
   ·exact jl5 x y w hx hy
   ·exact jl6 x y w hx hy
theorem jeT (t x y : Int) (w : World) (h : chk t x = false ∨ chk t x = true ∧ chk t y = false) : Calls Tryz.prog 31 #[.string ⟨#[76, 101, 115, 115]⟩, .int .i64 t, .int .i64 x, .int .i64 y] w fun e w' => e = .returned (.tuple #[.int .i64 0, .int .i64 1]) ∧ ∃ n, w' = w.drewN n := by
 rcases h with hx | ⟨hx, hy⟩
 all_goals
  go_enter Tryz.func31, Tryz.ntmps31
  go_wp2_with (first | (go_at_call 45; refine (jak _ _ _).mono ?_; rintro e w' ⟨rfl, rfl⟩))
  go_ret2
  exact ⟨rfl, 0, rfl⟩
theorem jjT (x y : Int) (w : World) (hx : chk 1 x = true) (hy : chk 1 y = true) : Calls Tryz.prog 31 #[.string ⟨#[76, 101, 115, 115]⟩, .int .i64 1, .int .i64 x, .int .i64 y] w fun e w' => e = .returned (.tuple #[.int .i64 (bin 10 1 x y).1, .int .i64 (bin 10 1 x y).2]) ∧ ∃ n, w' = w.drewN n := by
 rw [jen 10 x y hx hy]
 go_enter Tryz.func31, Tryz.ntmps31
 go_wp2_with (first | (go_at_call 45; refine (jak _ _ _).mono ?_; rintro e w' ⟨rfl, rfl⟩) | (go_at_call 50; refine (jaU _ _).mono ?_; rintro e w' ⟨rfl, rfl⟩) | (go_at_call 53; refine (jpX _ _ _).mono ?_; rintro e w' ⟨rfl, n, rfl⟩))
 go_ret2
 exact ⟨rfl, _, rfl⟩
theorem jjU (x y : Int) (w : World) (hx : chk 6 x = true) (hy : chk 6 y = true) : Calls Tryz.prog 31 #[.string ⟨#[76, 101, 115, 115]⟩, .int .i64 6, .int .i64 x, .int .i64 y] w fun e w' => e = .returned (.tuple #[.int .i64 (bin 10 6 x y).1, .int .i64 (bin 10 6 x y).2]) ∧ ∃ n, w' = w.drewN n := by
 rw [jeo 10 x y hx hy]
 go_enter Tryz.func31, Tryz.ntmps31
 go_wp2_with (first | (go_at_call 45; refine (jak _ _ _).mono ?_; rintro e w' ⟨rfl, rfl⟩) | (go_at_call 54; refine (jlr _ _ _ _).mono ?_; rintro e w' ⟨rfl, rfl⟩))
 go_ret2
 exact ⟨rfl, 0, rfl⟩
theorem jjV (x y : Int) (w : World) (hx : chk 7 x = true) (hy : chk 7 y = true) : Calls Tryz.prog 31 #[.string ⟨#[76, 101, 115, 115]⟩, .int .i64 7, .int .i64 x, .int .i64 y] w fun e w' => e = .returned (.tuple #[.int .i64 (bin 10 7 x y).1, .int .i64 (bin 10 7 x y).2]) ∧ ∃ n, w' = w.drewN n := by
 rw [jep 10 x y hx hy]
 go_enter Tryz.func31, Tryz.ntmps31
 go_wp2_with (first | (go_at_call 45; refine (jak _ _ _).mono ?_; rintro e w' ⟨rfl, rfl⟩) | (go_at_call 54; refine (jlr _ _ _ _).mono ?_; rintro e w' ⟨rfl, rfl⟩))
 go_ret2
 exact ⟨rfl, 0, rfl⟩
theorem jjW (x y : Int) (w : World) (hx : chk 9 x = true) (hy : chk 9 y = true) : Calls Tryz.prog 31 #[.string ⟨#[76, 101, 115, 115]⟩, .int .i64 9, .int .i64 x, .int .i64 y] w fun e w' => e = .returned (.tuple #[.int .i64 (bin 10 9 x y).1, .int .i64 (bin 10 9 x y).2]) ∧ ∃ n, w' = w.drewN n := by
 rw [jeq 10 x y hx hy]
 go_enter Tryz.func31, Tryz.ntmps31
 go_wp2_with (first | (go_at_call 45; refine (jak _ _ _).mono ?_; rintro e w' ⟨rfl, rfl⟩) | (go_at_call 55; refine (jn7 _ _ _).mono ?_; rintro e w' ⟨rfl, rfl⟩))
 go_ret2
 exact ⟨rfl, 0, rfl⟩
theorem binary10 (t x y : Int) (w : World) : Calls Tryz.prog 31 #[.string ⟨#[76, 101, 115, 115]⟩, .int .i64 t, .int .i64 x, .int .i64 y] w fun e w' => e = .returned (.tuple #[.int .i64 (bin 10 t x y).1, .int .i64 (bin 10 t x y).2]) ∧ ∃ n, w' = w.drewN n := by
 cases hx : chk t x with
 | false => rw [jb5 10 t x y hx]; exact jeT t x y w (.inl hx)
 | true =>
  cases hy : chk t y with
  | false => rw [jb6 10 t x y hy]; exact jeT t x y w (.inr ⟨hx, hy⟩)
  | true =>
   rcases jbk t x hx with rfl | rfl | rfl | rfl
   ·exact jjT x y w hx hy
   ·exact jjU x y w hx hy
   ·exact jjV x y w hx hy
   ·exact jjW x y w hx hy
theorem jeU (t x y : Int) (w : World) (h : chk t x = false ∨ chk t x = true ∧ chk t y = false) : Calls Tryz.prog 31 #[.string ⟨#[71, 114, 101, 97, 116, 101, 114]⟩, .int .i64 t, .int .i64 x, .int .i64 y] w fun e w' => e = .returned (.tuple #[.int .i64 0, .int .i64 1]) ∧ ∃ n, w' = w.drewN n := by
 rcases h with hx | ⟨hx, hy⟩
 all_goals
  go_enter Tryz.func31, Tryz.ntmps31
  go_wp2_with (first | (go_at_call 45; refine (jak _ _ _).mono ?_; rintro e w' ⟨rfl, rfl⟩))
  go_ret2
  exact ⟨rfl, 0, rfl⟩
theorem jjX (x y : Int) (w : World) (hx : chk 1 x = true) (hy : chk 1 y = true) : Calls Tryz.prog 31 #[.string ⟨#[71, 114, 101, 97, 116, 101, 114]⟩, .int .i64 1, .int .i64 x, .int .i64 y] w fun e w' => e = .returned (.tuple #[.int .i64 (bin 11 1 x y).1, .int .i64 (bin 11 1 x y).2]) ∧ ∃ n, w' = w.drewN n := by
 rw [jen 11 x y hx hy]
 go_enter Tryz.func31, Tryz.ntmps31
 go_wp2_with (first | (go_at_call 45; refine (jak _ _ _).mono ?_; rintro e w' ⟨rfl, rfl⟩) | (go_at_call 50; refine (jaU _ _).mono ?_; rintro e w' ⟨rfl, rfl⟩) | (go_at_call 53; refine (jpY _ _ _).mono ?_; rintro e w' ⟨rfl, n, rfl⟩))
 go_ret2
 exact ⟨rfl, _, rfl⟩
theorem jjY (x y : Int) (w : World) (hx : chk 6 x = true) (hy : chk 6 y = true) : Calls Tryz.prog 31 #[.string ⟨#[71, 114, 101, 97, 116, 101, 114]⟩, .int .i64 6, .int .i64 x, .int .i64 y] w fun e w' => e = .returned (.tuple #[.int .i64 (bin 11 6 x y).1, .int .i64 (bin 11 6 x y).2]) ∧ ∃ n, w' = w.drewN n := by
 rw [jeo 11 x y hx hy]
 go_enter Tryz.func31, Tryz.ntmps31
 go_wp2_with (first | (go_at_call 45; refine (jak _ _ _).mono ?_; rintro e w' ⟨rfl, rfl⟩) | (go_at_call 54; refine (jls _ _ _ _).mono ?_; rintro e w' ⟨rfl, rfl⟩))
 go_ret2
 exact ⟨rfl, 0, rfl⟩
theorem jjZ (x y : Int) (w : World) (hx : chk 7 x = true) (hy : chk 7 y = true) : Calls Tryz.prog 31 #[.string ⟨#[71, 114, 101, 97, 116, 101, 114]⟩, .int .i64 7, .int .i64 x, .int .i64 y] w fun e w' => e = .returned (.tuple #[.int .i64 (bin 11 7 x y).1, .int .i64 (bin 11 7 x y).2]) ∧ ∃ n, w' = w.drewN n := by
 rw [jep 11 x y hx hy]
 go_enter Tryz.func31, Tryz.ntmps31
 go_wp2_with (first | (go_at_call 45; refine (jak _ _ _).mono ?_; rintro e w' ⟨rfl, rfl⟩) | (go_at_call 54; refine (jls _ _ _ _).mono ?_; rintro e w' ⟨rfl, rfl⟩))
 go_ret2
 exact ⟨rfl, 0, rfl⟩
theorem jj0 (x y : Int) (w : World) (hx : chk 9 x = true) (hy : chk 9 y = true) : Calls Tryz.prog 31 #[.string ⟨#[71, 114, 101, 97, 116, 101, 114]⟩, .int .i64 9, .int .i64 x, .int .i64 y] w fun e w' => e = .returned (.tuple #[.int .i64 (bin 11 9 x y).1, .int .i64 (bin 11 9 x y).2]) ∧ ∃ n, w' = w.drewN n := by
 rw [jeq 11 x y hx hy]
 go_enter Tryz.func31, Tryz.ntmps31
 go_wp2_with (first | (go_at_call 45; refine (jak _ _ _).mono ?_; rintro e w' ⟨rfl, rfl⟩) | (go_at_call 55; refine (jn8 _ _ _).mono ?_; rintro e w' ⟨rfl, rfl⟩))
 go_ret2
 exact ⟨rfl, 0, rfl⟩
theorem binary11 (t x y : Int) (w : World) : Calls Tryz.prog 31 #[.string ⟨#[71, 114, 101, 97, 116, 101, 114]⟩, .int .i64 t, .int .i64 x, .int .i64 y] w fun e w' => e = .returned (.tuple #[.int .i64 (bin 11 t x y).1, .int .i64 (bin 11 t x y).2]) ∧ ∃ n, w' = w.drewN n := by
 cases hx : chk t x with
 | false => rw [jb5 11 t x y hx]; exact jeU t x y w (.inl hx)
 | true =>
  cases hy : chk t y with
  | false => rw [jb6 11 t x y hy]; exact jeU t x y w (.inr ⟨hx, hy⟩)
  | true =>
   rcases jbk t x hx with rfl | rfl | rfl | rfl
   ·exact jjX x y w hx hy
   ·exact jjY x y w hx hy
   ·exact jjZ x y w hx hy
   ·exact jj0 x y w hx hy
end Go.Proofs.YteigfipgmghgmaaGreatDoor.Nu
namespace Go.Proofs.YteigfipgmghgmaaGreatDoor.Nu
open Go.RowKit
attribute [local go_sem] jdM jdN jgo
theorem neg_f (b : Nat) (w : World) (hb : b < 4294967296) : Calls Tryz.prog 49 #[.string ⟨#[78, 101, 103]⟩, .float .f32 b] w fun e w' => e = .returned (.tuple #[.int .i64 (tob (jqJ b)), .int .i64 0]) ∧ w' = w := by
 have hn := jlk b hb
 go_enter Tryz.func49, Tryz.ntmps49
 go_wp2_with (first | (go_at_call 62; refine (jbF _ _ hn).mono ?_; rintro e w' ⟨rfl, rfl⟩) | go_in)
 go_ret2
 exact ⟨rfl, rfl⟩
theorem jcZ (b : Nat) (w : World) (hb : b < 4294967296) : Calls Tryz.prog 79 #[.float .f32 b] w fun e w' => e = .returned (.float .f32 (jpT b)) ∧ w' = w := by
 have ha := jjP b hb
 go_enter Tryz.func79, Tryz.ntmps79
 go_wp2
 go_ret
 exact ⟨by simp [jpT], rfl⟩
theorem abs_f (b : Nat) (w : World) (hb : b < 4294967296) : Calls Tryz.prog 49 #[.string ⟨#[65, 98, 115]⟩, .float .f32 b] w fun e w' => e = .returned (.tuple #[.int .i64 (tob (jpT b)), .int .i64 0]) ∧ w' = w := by
 go_enter Tryz.func49, Tryz.ntmps49
 go_wp2_with (first | (go_at_call 62; refine (jbF _ _ (jpV _)).mono ?_; rintro e w' ⟨rfl, rfl⟩) | (go_at_call 79; refine (jcZ _ _ hb).mono ?_; rintro e w' ⟨rfl, rfl⟩) | go_in)
 go_ret2
 exact ⟨rfl, rfl⟩
theorem jn9 (b : Nat) (w : World) : Calls Tryz.prog 80 #[.float .f32 b] w fun e w' => e = .returned (.float .f32 (jeP b)) ∧ w' = w := by
 cases h : (FloatKind.f32.format.order b 0 == some .gt) with
 | true =>
  have c : jeP b = b := by unfold jeP; rw [if_pos h]
  rw [c]; clear c
  go_enter Tryz.func80, Tryz.ntmps80
  go_wp2
  go_ret
  exact ⟨rfl, rfl⟩
 | false =>
  cases h' : (FloatKind.f32.format.order b b != some .eq) with
  | true =>
   have c : jeP b = b := by unfold jeP; rw [h, h']; rfl
   rw [c]; clear c
   go_enter Tryz.func80, Tryz.ntmps80
   go_wp2
   go_ret
   exact ⟨rfl, rfl⟩
  | false =>
   have c : jeP b = 0 := by unfold jeP; rw [h, h']; rfl
   rw [c]; clear c
   go_enter Tryz.func80, Tryz.ntmps80
   go_wp2
   go_ret
   exact ⟨rfl, rfl⟩
theorem jq2 (b : Nat) (w : World) (hb : b < 4294967296) : Calls Tryz.prog 49 #[.string ⟨#[82, 101, 108, 117]⟩, .float .f32 b] w fun e w' => e = .returned (.tuple #[.int .i64 (tob (jeP b)), .int .i64 0]) ∧ w' = w := by
 go_enter Tryz.func49, Tryz.ntmps49
 go_wp2_with (first | (go_at_call 62; refine (jbF _ _ (jnY _ hb)).mono ?_; rintro e w' ⟨rfl, rfl⟩) | (go_at_call 80; refine (jn9 _ _).mono ?_; rintro e w' ⟨rfl, rfl⟩) | go_in)
 go_ret2
 exact ⟨rfl, rfl⟩
theorem not_f (b : Nat) (w : World) : Calls Tryz.prog 49 #[.string ⟨#[78, 111, 116]⟩, .float .f32 b] w fun e w' => e = .returned (.tuple #[.int .i64 0, .int .i64 1]) ∧ w' = w := by
 go_enter Tryz.func49, Tryz.ntmps49
 go_wp2
 go_ret2
 exact ⟨rfl, rfl⟩
theorem jl7 (t x : Int) (w : World) : Calls Tryz.prog 51 #[.string ⟨#[78, 101, 103]⟩, .int .i64 t, .int .i64 x] w fun e w' => e = .returned (.tuple #[.int .i64 (wrapT t (wrap64 (-x))), .int .i64 0]) ∧ w' = w := by
 cases h : (t == 6) with
 | true =>
  rw [jdr t _ h]
  go_enter Tryz.func51, Tryz.ntmps51
  go_wp2
  go_ret2
  exact ⟨rfl, rfl⟩
 | false =>
  rw [jds t _ h]
  go_enter Tryz.func51, Tryz.ntmps51
  go_wp2
  go_ret2
  exact ⟨rfl, rfl⟩
theorem jl8 (t x : Int) (w : World) : Calls Tryz.prog 51 #[.string ⟨#[65, 98, 115]⟩, .int .i64 t, .int .i64 x] w fun e w' => e = .returned (.tuple #[.int .i64 (absI t x), .int .i64 0]) ∧ w' = w := by
 by_cases hx : x < 0
 ·rw [show absI t x = wrapT t (wrap64 (-x)) from if_pos hx]
  cases h : (t == 6) with
  | true =>
   rw [jdr t _ h]
   go_enter Tryz.func51, Tryz.ntmps51
   go_wp2
   go_ret2
   exact ⟨rfl, rfl⟩
  | false =>
   rw [jds t _ h]
   go_enter Tryz.func51, Tryz.ntmps51
   go_wp2
   go_ret2
   exact ⟨rfl, rfl⟩
 ·rw [show absI t x = x from if_neg hx]
  go_enter Tryz.func51, Tryz.ntmps51
  go_wp2
  go_ret2
  exact ⟨rfl, rfl⟩
theorem jl9 (t x : Int) (w : World) : Calls Tryz.prog 51 #[.string ⟨#[78, 111, 116]⟩, .int .i64 t, .int .i64 x] w fun e w' => e = .returned (.tuple #[.int .i64 0, .int .i64 1]) ∧ w' = w := by
 go_enter Tryz.func51, Tryz.ntmps51
 go_wp2
 go_ret2
 exact ⟨rfl, rfl⟩
theorem jma (t x : Int) (w : World) : Calls Tryz.prog 51 #[.string ⟨#[82, 101, 108, 117]⟩, .int .i64 t, .int .i64 x] w fun e w' => e = .returned (.tuple #[.int .i64 0, .int .i64 1]) ∧ w' = w := by
 go_enter Tryz.func51, Tryz.ntmps51
 go_wp2
 go_ret2
 exact ⟨rfl, rfl⟩
theorem jmb (t x : Int) (w : World) : Calls Tryz.prog 51 #[.string ⟨#[83, 113, 114, 116]⟩, .int .i64 t, .int .i64 x] w fun e w' => e = .returned (.tuple #[.int .i64 0, .int .i64 1]) ∧ w' = w := by
 go_enter Tryz.func51, Tryz.ntmps51
 go_wp2
 go_ret2
 exact ⟨rfl, rfl⟩
theorem jmc (t x : Int) (w : World) : Calls Tryz.prog 51 #[.string ⟨#[70, 108, 111, 111, 114]⟩, .int .i64 t, .int .i64 x] w fun e w' => e = .returned (.tuple #[.int .i64 0, .int .i64 1]) ∧ w' = w := by
 go_enter Tryz.func51, Tryz.ntmps51
 go_wp2
 go_ret2
 exact ⟨rfl, rfl⟩
theorem jmd (t x : Int) (w : World) : Calls Tryz.prog 51 #[.string ⟨#[69, 120, 112]⟩, .int .i64 t, .int .i64 x] w fun e w' => e = .returned (.tuple #[.int .i64 0, .int .i64 1]) ∧ w' = w := by
 go_enter Tryz.func51, Tryz.ntmps51
 go_wp2
 go_ret2
 exact ⟨rfl, rfl⟩
theorem jme (t x : Int) (w : World) : Calls Tryz.prog 51 #[.string ⟨#[83, 105, 103, 109, 111, 105, 100]⟩, .int .i64 t, .int .i64 x] w fun e w' => e = .returned (.tuple #[.int .i64 0, .int .i64 1]) ∧ w' = w := by
 go_enter Tryz.func51, Tryz.ntmps51
 go_wp2
 go_ret2
 exact ⟨rfl, rfl⟩
theorem jmf (t x : Int) (w : World) : Calls Tryz.prog 51 #[.string ⟨#[84, 97, 110, 104]⟩, .int .i64 t, .int .i64 x] w fun e w' => e = .returned (.tuple #[.int .i64 0, .int .i64 1]) ∧ w' = w := by
 go_enter Tryz.func51, Tryz.ntmps51
 go_wp2
 go_ret2
 exact ⟨rfl, rfl⟩
theorem joa (x : Int) (w : World) (hx : x = 0 ∨ x = 1) : Calls Tryz.prog 52 #[.string ⟨#[78, 111, 116]⟩, .int .i64 x] w fun e w' => e = .returned (.tuple #[.int .i64 (1 - x), .int .i64 0]) ∧ w' = w := by
 rcases hx with rfl | rfl
 all_goals
  go_enter Tryz.func52, Tryz.ntmps52
  go_wp2
  go_ret2
  exact ⟨rfl, rfl⟩
theorem job (x : Int) (w : World) : Calls Tryz.prog 52 #[.string ⟨#[78, 101, 103]⟩, .int .i64 x] w fun e w' => e = .returned (.tuple #[.int .i64 0, .int .i64 1]) ∧ w' = w := by
 go_enter Tryz.func52, Tryz.ntmps52
 go_wp2
 go_ret2
 exact ⟨rfl, rfl⟩
theorem joc (x : Int) (w : World) : Calls Tryz.prog 52 #[.string ⟨#[65, 98, 115]⟩, .int .i64 x] w fun e w' => e = .returned (.tuple #[.int .i64 0, .int .i64 1]) ∧ w' = w := by
 go_enter Tryz.func52, Tryz.ntmps52
 go_wp2
 go_ret2
 exact ⟨rfl, rfl⟩
theorem jod (x : Int) (w : World) : Calls Tryz.prog 52 #[.string ⟨#[82, 101, 108, 117]⟩, .int .i64 x] w fun e w' => e = .returned (.tuple #[.int .i64 0, .int .i64 1]) ∧ w' = w := by
 go_enter Tryz.func52, Tryz.ntmps52
 go_wp2
 go_ret2
 exact ⟨rfl, rfl⟩
theorem joe (x : Int) (w : World) : Calls Tryz.prog 52 #[.string ⟨#[83, 113, 114, 116]⟩, .int .i64 x] w fun e w' => e = .returned (.tuple #[.int .i64 0, .int .i64 1]) ∧ w' = w := by
 go_enter Tryz.func52, Tryz.ntmps52
 go_wp2
 go_ret2
 exact ⟨rfl, rfl⟩
theorem jof (x : Int) (w : World) : Calls Tryz.prog 52 #[.string ⟨#[70, 108, 111, 111, 114]⟩, .int .i64 x] w fun e w' => e = .returned (.tuple #[.int .i64 0, .int .i64 1]) ∧ w' = w := by
 go_enter Tryz.func52, Tryz.ntmps52
 go_wp2
 go_ret2
 exact ⟨rfl, rfl⟩
theorem jog (x : Int) (w : World) : Calls Tryz.prog 52 #[.string ⟨#[69, 120, 112]⟩, .int .i64 x] w fun e w' => e = .returned (.tuple #[.int .i64 0, .int .i64 1]) ∧ w' = w := by
 go_enter Tryz.func52, Tryz.ntmps52
 go_wp2
 go_ret2
 exact ⟨rfl, rfl⟩
theorem joh (x : Int) (w : World) : Calls Tryz.prog 52 #[.string ⟨#[83, 105, 103, 109, 111, 105, 100]⟩, .int .i64 x] w fun e w' => e = .returned (.tuple #[.int .i64 0, .int .i64 1]) ∧ w' = w := by
 go_enter Tryz.func52, Tryz.ntmps52
 go_wp2
 go_ret2
 exact ⟨rfl, rfl⟩
theorem joi (x : Int) (w : World) : Calls Tryz.prog 52 #[.string ⟨#[84, 97, 110, 104]⟩, .int .i64 x] w fun e w' => e = .returned (.tuple #[.int .i64 0, .int .i64 1]) ∧ w' = w := by
 go_enter Tryz.func52, Tryz.ntmps52
 go_wp2
 go_ret2
 exact ⟨rfl, rfl⟩
theorem jq3 (k : Nat) (t x : Int) (h : chk t x = false) : un k t x = (0, 1) := by simp [un, h]
theorem un_0 (t x : Int) (h : chk t x = true) : un 0 t x = (x, 0) := by simp [un, h]
theorem un_1 (k : Nat) (x : Int) (h : chk 1 x = true) (hk : k ≠ 0) : un k 1 x = unFl k (fb x) := by simp [un, h, hk]
theorem un_6 (k : Nat) (x : Int) (h : chk 6 x = true) (hk : k ≠ 0) : un k 6 x = unIn k 6 x := by simp [un, h, hk]
theorem un_7 (k : Nat) (x : Int) (h : chk 7 x = true) (hk : k ≠ 0) : un k 7 x = unIn k 7 x := by simp [un, h, hk]
theorem un_9 (k : Nat) (x : Int) (h : chk 9 x = true) (hk : k ≠ 0) : un k 9 x = unBo k x := by simp [un, h, hk]
theorem jmg (t x : Int) (w : World) (hx : chk t x = false) : Calls Tryz.prog 29 #[.string ⟨#[73, 100, 101, 110, 116, 105, 116, 121]⟩, .int .i64 t, .int .i64 x] w fun e w' => e = .returned (.tuple #[.int .i64 (un 0 t x).1, .int .i64 (un 0 t x).2]) ∧ w' = w := by
 rw [jq3 0 t x hx]
 go_enter Tryz.func29, Tryz.ntmps29
 go_wp2_with (first | (go_at_call 45; refine (jak _ _ _).mono ?_; rintro e w' ⟨rfl, rfl⟩))
 go_ret2
 exact ⟨rfl, rfl⟩
theorem jj1 (t x : Int) (w : World) (hx : chk t x = true) : Calls Tryz.prog 29 #[.string ⟨#[73, 100, 101, 110, 116, 105, 116, 121]⟩, .int .i64 t, .int .i64 x] w fun e w' => e = .returned (.tuple #[.int .i64 (un 0 t x).1, .int .i64 (un 0 t x).2]) ∧ w' = w := by
 rw [un_0 t x hx]
 go_enter Tryz.func29, Tryz.ntmps29
 go_wp2_with (first | (go_at_call 45; refine (jak _ _ _).mono ?_; rintro e w' ⟨rfl, rfl⟩))
 go_ret2
 exact ⟨rfl, rfl⟩
theorem unary0 (t x : Int) (w : World) : Calls Tryz.prog 29 #[.string ⟨#[73, 100, 101, 110, 116, 105, 116, 121]⟩, .int .i64 t, .int .i64 x] w fun e w' => e = .returned (.tuple #[.int .i64 (un 0 t x).1, .int .i64 (un 0 t x).2]) ∧ w' = w := by
 cases hx : chk t x with
 | false => exact jmg t x w hx
 | true => exact jj1 t x w hx
theorem unary1_1 (x : Int) (w : World) (hx : chk 1 x = true) : Calls Tryz.prog 29 #[.string ⟨#[78, 101, 103]⟩, .int .i64 1, .int .i64 x] w fun e w' => e = .returned (.tuple #[.int .i64 (un 1 1 x).1, .int .i64 (un 1 1 x).2]) ∧ w' = w := by
 rw [un_1 1 x hx (by decide)]
 go_enter Tryz.func29, Tryz.ntmps29
 go_wp2_with (first | (go_at_call 45; refine (jak _ _ _).mono ?_; rintro e w' ⟨rfl, rfl⟩) | (go_at_call 50; refine (jaU _ _).mono ?_; rintro e w' ⟨rfl, rfl⟩) | (go_at_call 49; refine (neg_f _ _ (jcS _)).mono ?_; rintro e w' ⟨rfl, rfl⟩))
 go_ret2
 exact ⟨rfl, rfl⟩
theorem unary1_6 (x : Int) (w : World) (hx : chk 6 x = true) : Calls Tryz.prog 29 #[.string ⟨#[78, 101, 103]⟩, .int .i64 6, .int .i64 x] w fun e w' => e = .returned (.tuple #[.int .i64 (un 1 6 x).1, .int .i64 (un 1 6 x).2]) ∧ w' = w := by
 rw [un_6 1 x hx (by decide)]
 go_enter Tryz.func29, Tryz.ntmps29
 go_wp2_with (first | (go_at_call 45; refine (jak _ _ _).mono ?_; rintro e w' ⟨rfl, rfl⟩) | (go_at_call 51; refine (jl7 _ _ _).mono ?_; rintro e w' ⟨rfl, rfl⟩))
 go_ret2
 exact ⟨rfl, rfl⟩
theorem unary1_7 (x : Int) (w : World) (hx : chk 7 x = true) : Calls Tryz.prog 29 #[.string ⟨#[78, 101, 103]⟩, .int .i64 7, .int .i64 x] w fun e w' => e = .returned (.tuple #[.int .i64 (un 1 7 x).1, .int .i64 (un 1 7 x).2]) ∧ w' = w := by
 rw [un_7 1 x hx (by decide)]
 go_enter Tryz.func29, Tryz.ntmps29
 go_wp2_with (first | (go_at_call 45; refine (jak _ _ _).mono ?_; rintro e w' ⟨rfl, rfl⟩) | (go_at_call 51; refine (jl7 _ _ _).mono ?_; rintro e w' ⟨rfl, rfl⟩))
 go_ret2
 exact ⟨rfl, rfl⟩
theorem unary1_9 (x : Int) (w : World) (hx : chk 9 x = true) : Calls Tryz.prog 29 #[.string ⟨#[78, 101, 103]⟩, .int .i64 9, .int .i64 x] w fun e w' => e = .returned (.tuple #[.int .i64 (un 1 9 x).1, .int .i64 (un 1 9 x).2]) ∧ w' = w := by
 rw [un_9 1 x hx (by decide)]
 go_enter Tryz.func29, Tryz.ntmps29
 go_wp2_with (first | (go_at_call 45; refine (jak _ _ _).mono ?_; rintro e w' ⟨rfl, rfl⟩) | (go_at_call 52; refine (job _ _).mono ?_; rintro e w' ⟨rfl, rfl⟩))
 go_ret2
 exact ⟨rfl, rfl⟩
theorem unary2_1 (x : Int) (w : World) (hx : chk 1 x = true) : Calls Tryz.prog 29 #[.string ⟨#[65, 98, 115]⟩, .int .i64 1, .int .i64 x] w fun e w' => e = .returned (.tuple #[.int .i64 (un 2 1 x).1, .int .i64 (un 2 1 x).2]) ∧ w' = w := by
 rw [un_1 2 x hx (by decide)]
 go_enter Tryz.func29, Tryz.ntmps29
 go_wp2_with (first | (go_at_call 45; refine (jak _ _ _).mono ?_; rintro e w' ⟨rfl, rfl⟩) | (go_at_call 50; refine (jaU _ _).mono ?_; rintro e w' ⟨rfl, rfl⟩) | (go_at_call 49; refine (abs_f _ _ (jcS _)).mono ?_; rintro e w' ⟨rfl, rfl⟩))
 go_ret2
 exact ⟨rfl, rfl⟩
theorem unary2_6 (x : Int) (w : World) (hx : chk 6 x = true) : Calls Tryz.prog 29 #[.string ⟨#[65, 98, 115]⟩, .int .i64 6, .int .i64 x] w fun e w' => e = .returned (.tuple #[.int .i64 (un 2 6 x).1, .int .i64 (un 2 6 x).2]) ∧ w' = w := by
 rw [un_6 2 x hx (by decide)]
 go_enter Tryz.func29, Tryz.ntmps29
 go_wp2_with (first | (go_at_call 45; refine (jak _ _ _).mono ?_; rintro e w' ⟨rfl, rfl⟩) | (go_at_call 51; refine (jl8 _ _ _).mono ?_; rintro e w' ⟨rfl, rfl⟩))
 go_ret2
 exact ⟨rfl, rfl⟩
theorem unary2_7 (x : Int) (w : World) (hx : chk 7 x = true) : Calls Tryz.prog 29 #[.string ⟨#[65, 98, 115]⟩, .int .i64 7, .int .i64 x] w fun e w' => e = .returned (.tuple #[.int .i64 (un 2 7 x).1, .int .i64 (un 2 7 x).2]) ∧ w' = w := by
 rw [un_7 2 x hx (by decide)]
 go_enter Tryz.func29, Tryz.ntmps29
 go_wp2_with (first | (go_at_call 45; refine (jak _ _ _).mono ?_; rintro e w' ⟨rfl, rfl⟩) | (go_at_call 51; refine (jl8 _ _ _).mono ?_; rintro e w' ⟨rfl, rfl⟩))
 go_ret2
 exact ⟨rfl, rfl⟩
theorem unary2_9 (x : Int) (w : World) (hx : chk 9 x = true) : Calls Tryz.prog 29 #[.string ⟨#[65, 98, 115]⟩, .int .i64 9, .int .i64 x] w fun e w' => e = .returned (.tuple #[.int .i64 (un 2 9 x).1, .int .i64 (un 2 9 x).2]) ∧ w' = w := by
 rw [un_9 2 x hx (by decide)]
 go_enter Tryz.func29, Tryz.ntmps29
 go_wp2_with (first | (go_at_call 45; refine (jak _ _ _).mono ?_; rintro e w' ⟨rfl, rfl⟩) | (go_at_call 52; refine (joc _ _).mono ?_; rintro e w' ⟨rfl, rfl⟩))
 go_ret2
 exact ⟨rfl, rfl⟩
theorem jmh (t x : Int) (w : World) (hx : chk t x = false) : Calls Tryz.prog 29 #[.string ⟨#[78, 111, 116]⟩, .int .i64 t, .int .i64 x] w fun e w' => e = .returned (.tuple #[.int .i64 (un 3 t x).1, .int .i64 (un 3 t x).2]) ∧ w' = w := by
 rw [jq3 3 t x hx]
 go_enter Tryz.func29, Tryz.ntmps29
 go_wp2_with (first | (go_at_call 45; refine (jak _ _ _).mono ?_; rintro e w' ⟨rfl, rfl⟩))
 go_ret2
 exact ⟨rfl, rfl⟩
theorem unary3_1 (x : Int) (w : World) (hx : chk 1 x = true) : Calls Tryz.prog 29 #[.string ⟨#[78, 111, 116]⟩, .int .i64 1, .int .i64 x] w fun e w' => e = .returned (.tuple #[.int .i64 (un 3 1 x).1, .int .i64 (un 3 1 x).2]) ∧ w' = w := by
 rw [un_1 3 x hx (by decide)]
 go_enter Tryz.func29, Tryz.ntmps29
 go_wp2_with (first | (go_at_call 45; refine (jak _ _ _).mono ?_; rintro e w' ⟨rfl, rfl⟩) | (go_at_call 50; refine (jaU _ _).mono ?_; rintro e w' ⟨rfl, rfl⟩) | (go_at_call 49; refine (not_f _ _).mono ?_; rintro e w' ⟨rfl, rfl⟩))
 go_ret2
 exact ⟨rfl, rfl⟩
theorem unary3_6 (x : Int) (w : World) (hx : chk 6 x = true) : Calls Tryz.prog 29 #[.string ⟨#[78, 111, 116]⟩, .int .i64 6, .int .i64 x] w fun e w' => e = .returned (.tuple #[.int .i64 (un 3 6 x).1, .int .i64 (un 3 6 x).2]) ∧ w' = w := by
 rw [un_6 3 x hx (by decide)]
 go_enter Tryz.func29, Tryz.ntmps29
 go_wp2_with (first | (go_at_call 45; refine (jak _ _ _).mono ?_; rintro e w' ⟨rfl, rfl⟩) | (go_at_call 51; refine (jl9 _ _ _).mono ?_; rintro e w' ⟨rfl, rfl⟩))
 go_ret2
 exact ⟨rfl, rfl⟩
theorem unary3_7 (x : Int) (w : World) (hx : chk 7 x = true) : Calls Tryz.prog 29 #[.string ⟨#[78, 111, 116]⟩, .int .i64 7, .int .i64 x] w fun e w' => e = .returned (.tuple #[.int .i64 (un 3 7 x).1, .int .i64 (un 3 7 x).2]) ∧ w' = w := by
 rw [un_7 3 x hx (by decide)]
 go_enter Tryz.func29, Tryz.ntmps29
 go_wp2_with (first | (go_at_call 45; refine (jak _ _ _).mono ?_; rintro e w' ⟨rfl, rfl⟩) | (go_at_call 51; refine (jl9 _ _ _).mono ?_; rintro e w' ⟨rfl, rfl⟩))
 go_ret2
 exact ⟨rfl, rfl⟩
theorem unary3_9 (x : Int) (w : World) (hx : chk 9 x = true) : Calls Tryz.prog 29 #[.string ⟨#[78, 111, 116]⟩, .int .i64 9, .int .i64 x] w fun e w' => e = .returned (.tuple #[.int .i64 (un 3 9 x).1, .int .i64 (un 3 9 x).2]) ∧ w' = w := by
 rw [un_9 3 x hx (by decide)]
 go_enter Tryz.func29, Tryz.ntmps29
 go_wp2_with (first | (go_at_call 45; refine (jak _ _ _).mono ?_; rintro e w' ⟨rfl, rfl⟩) | (go_at_call 52; refine (joa _ _ (jpk _ hx)).mono ?_; rintro e w' ⟨rfl, rfl⟩))
 go_ret2
 exact ⟨rfl, rfl⟩
theorem unary3 (t x : Int) (w : World) : Calls Tryz.prog 29 #[.string ⟨#[78, 111, 116]⟩, .int .i64 t, .int .i64 x] w fun e w' => e = .returned (.tuple #[.int .i64 (un 3 t x).1, .int .i64 (un 3 t x).2]) ∧ w' = w := by
 cases hx : chk t x with
 | false => exact jmh t x w hx
 | true =>
  rcases jbk t x hx with rfl | rfl | rfl | rfl
  ·exact unary3_1 x w hx
  ·exact unary3_6 x w hx
  ·exact unary3_7 x w hx
  ·exact unary3_9 x w hx
theorem unary4_1 (x : Int) (w : World) (hx : chk 1 x = true) : Calls Tryz.prog 29 #[.string ⟨#[82, 101, 108, 117]⟩, .int .i64 1, .int .i64 x] w fun e w' => e = .returned (.tuple #[.int .i64 (un 4 1 x).1, .int .i64 (un 4 1 x).2]) ∧ w' = w := by
 rw [un_1 4 x hx (by decide)]
 go_enter Tryz.func29, Tryz.ntmps29
 go_wp2_with (first | (go_at_call 45; refine (jak _ _ _).mono ?_; rintro e w' ⟨rfl, rfl⟩) | (go_at_call 50; refine (jaU _ _).mono ?_; rintro e w' ⟨rfl, rfl⟩) | (go_at_call 49; refine (jq2 _ _ (jcS _)).mono ?_; rintro e w' ⟨rfl, rfl⟩))
 go_ret2
 exact ⟨rfl, rfl⟩
theorem unary4_6 (x : Int) (w : World) (hx : chk 6 x = true) : Calls Tryz.prog 29 #[.string ⟨#[82, 101, 108, 117]⟩, .int .i64 6, .int .i64 x] w fun e w' => e = .returned (.tuple #[.int .i64 (un 4 6 x).1, .int .i64 (un 4 6 x).2]) ∧ w' = w := by
 rw [un_6 4 x hx (by decide)]
 go_enter Tryz.func29, Tryz.ntmps29
 go_wp2_with (first | (go_at_call 45; refine (jak _ _ _).mono ?_; rintro e w' ⟨rfl, rfl⟩) | (go_at_call 51; refine (jma _ _ _).mono ?_; rintro e w' ⟨rfl, rfl⟩))
 go_ret2
 exact ⟨rfl, rfl⟩
theorem unary4_7 (x : Int) (w : World) (hx : chk 7 x = true) : Calls Tryz.prog 29 #[.string ⟨#[82, 101, 108, 117]⟩, .int .i64 7, .int .i64 x] w fun e w' => e = .returned (.tuple #[.int .i64 (un 4 7 x).1, .int .i64 (un 4 7 x).2]) ∧ w' = w := by
 rw [un_7 4 x hx (by decide)]
 go_enter Tryz.func29, Tryz.ntmps29
 go_wp2_with (first | (go_at_call 45; refine (jak _ _ _).mono ?_; rintro e w' ⟨rfl, rfl⟩) | (go_at_call 51; refine (jma _ _ _).mono ?_; rintro e w' ⟨rfl, rfl⟩))
 go_ret2
 exact ⟨rfl, rfl⟩
theorem unary4_9 (x : Int) (w : World) (hx : chk 9 x = true) : Calls Tryz.prog 29 #[.string ⟨#[82, 101, 108, 117]⟩, .int .i64 9, .int .i64 x] w fun e w' => e = .returned (.tuple #[.int .i64 (un 4 9 x).1, .int .i64 (un 4 9 x).2]) ∧ w' = w := by
 rw [un_9 4 x hx (by decide)]
 go_enter Tryz.func29, Tryz.ntmps29
 go_wp2_with (first | (go_at_call 45; refine (jak _ _ _).mono ?_; rintro e w' ⟨rfl, rfl⟩) | (go_at_call 52; refine (jod _ _).mono ?_; rintro e w' ⟨rfl, rfl⟩))
 go_ret2
 exact ⟨rfl, rfl⟩
theorem unary5_6 (x : Int) (w : World) (hx : chk 6 x = true) : Calls Tryz.prog 29 #[.string ⟨#[83, 113, 114, 116]⟩, .int .i64 6, .int .i64 x] w fun e w' => e = .returned (.tuple #[.int .i64 (un 5 6 x).1, .int .i64 (un 5 6 x).2]) ∧ w' = w := by
 rw [un_6 5 x hx (by decide)]
 go_enter Tryz.func29, Tryz.ntmps29
 go_wp2_with (first | (go_at_call 45; refine (jak _ _ _).mono ?_; rintro e w' ⟨rfl, rfl⟩) | (go_at_call 51; refine (jmb _ _ _).mono ?_; rintro e w' ⟨rfl, rfl⟩))
 go_ret2
 exact ⟨rfl, rfl⟩
theorem unary5_7 (x : Int) (w : World) (hx : chk 7 x = true) : Calls Tryz.prog 29 #[.string ⟨#[83, 113, 114, 116]⟩, .int .i64 7, .int .i64 x] w fun e w' => e = .returned (.tuple #[.int .i64 (un 5 7 x).1, .int .i64 (un 5 7 x).2]) ∧ w' = w := by
 rw [un_7 5 x hx (by decide)]
 go_enter Tryz.func29, Tryz.ntmps29
 go_wp2_with (first | (go_at_call 45; refine (jak _ _ _).mono ?_; rintro e w' ⟨rfl, rfl⟩) | (go_at_call 51; refine (jmb _ _ _).mono ?_; rintro e w' ⟨rfl, rfl⟩))
 go_ret2
 exact ⟨rfl, rfl⟩
theorem unary5_9 (x : Int) (w : World) (hx : chk 9 x = true) : Calls Tryz.prog 29 #[.string ⟨#[83, 113, 114, 116]⟩, .int .i64 9, .int .i64 x] w fun e w' => e = .returned (.tuple #[.int .i64 (un 5 9 x).1, .int .i64 (un 5 9 x).2]) ∧ w' = w := by
 rw [un_9 5 x hx (by decide)]
 go_enter Tryz.func29, Tryz.ntmps29
 go_wp2_with (first | (go_at_call 45; refine (jak _ _ _).mono ?_; rintro e w' ⟨rfl, rfl⟩) | (go_at_call 52; refine (joe _ _).mono ?_; rintro e w' ⟨rfl, rfl⟩))
 go_ret2
 exact ⟨rfl, rfl⟩
theorem unary6_6 (x : Int) (w : World) (hx : chk 6 x = true) : Calls Tryz.prog 29 #[.string ⟨#[70, 108, 111, 111, 114]⟩, .int .i64 6, .int .i64 x] w fun e w' => e = .returned (.tuple #[.int .i64 (un 6 6 x).1, .int .i64 (un 6 6 x).2]) ∧ w' = w := by
 rw [un_6 6 x hx (by decide)]
 go_enter Tryz.func29, Tryz.ntmps29
 go_wp2_with (first | (go_at_call 45; refine (jak _ _ _).mono ?_; rintro e w' ⟨rfl, rfl⟩) | (go_at_call 51; refine (jmc _ _ _).mono ?_; rintro e w' ⟨rfl, rfl⟩))
 go_ret2
 exact ⟨rfl, rfl⟩
theorem unary6_7 (x : Int) (w : World) (hx : chk 7 x = true) : Calls Tryz.prog 29 #[.string ⟨#[70, 108, 111, 111, 114]⟩, .int .i64 7, .int .i64 x] w fun e w' => e = .returned (.tuple #[.int .i64 (un 6 7 x).1, .int .i64 (un 6 7 x).2]) ∧ w' = w := by
 rw [un_7 6 x hx (by decide)]
 go_enter Tryz.func29, Tryz.ntmps29
 go_wp2_with (first | (go_at_call 45; refine (jak _ _ _).mono ?_; rintro e w' ⟨rfl, rfl⟩) | (go_at_call 51; refine (jmc _ _ _).mono ?_; rintro e w' ⟨rfl, rfl⟩))
 go_ret2
 exact ⟨rfl, rfl⟩
theorem unary6_9 (x : Int) (w : World) (hx : chk 9 x = true) : Calls Tryz.prog 29 #[.string ⟨#[70, 108, 111, 111, 114]⟩, .int .i64 9, .int .i64 x] w fun e w' => e = .returned (.tuple #[.int .i64 (un 6 9 x).1, .int .i64 (un 6 9 x).2]) ∧ w' = w := by
 rw [un_9 6 x hx (by decide)]
 go_enter Tryz.func29, Tryz.ntmps29
 go_wp2_with (first | (go_at_call 45; refine (jak _ _ _).mono ?_; rintro e w' ⟨rfl, rfl⟩) | (go_at_call 52; refine (jof _ _).mono ?_; rintro e w' ⟨rfl, rfl⟩))
 go_ret2
 exact ⟨rfl, rfl⟩
theorem unary7_6 (x : Int) (w : World) (hx : chk 6 x = true) : Calls Tryz.prog 29 #[.string ⟨#[69, 120, 112]⟩, .int .i64 6, .int .i64 x] w fun e w' => e = .returned (.tuple #[.int .i64 (un 7 6 x).1, .int .i64 (un 7 6 x).2]) ∧ w' = w := by
 rw [un_6 7 x hx (by decide)]
 go_enter Tryz.func29, Tryz.ntmps29
 go_wp2_with (first | (go_at_call 45; refine (jak _ _ _).mono ?_; rintro e w' ⟨rfl, rfl⟩) | (go_at_call 51; refine (jmd _ _ _).mono ?_; rintro e w' ⟨rfl, rfl⟩))
 go_ret2
 exact ⟨rfl, rfl⟩
theorem unary7_7 (x : Int) (w : World) (hx : chk 7 x = true) : Calls Tryz.prog 29 #[.string ⟨#[69, 120, 112]⟩, .int .i64 7, .int .i64 x] w fun e w' => e = .returned (.tuple #[.int .i64 (un 7 7 x).1, .int .i64 (un 7 7 x).2]) ∧ w' = w := by
 rw [un_7 7 x hx (by decide)]
 go_enter Tryz.func29, Tryz.ntmps29
 go_wp2_with (first | (go_at_call 45; refine (jak _ _ _).mono ?_; rintro e w' ⟨rfl, rfl⟩) | (go_at_call 51; refine (jmd _ _ _).mono ?_; rintro e w' ⟨rfl, rfl⟩))
 go_ret2
 exact ⟨rfl, rfl⟩
theorem unary7_9 (x : Int) (w : World) (hx : chk 9 x = true) : Calls Tryz.prog 29 #[.string ⟨#[69, 120, 112]⟩, .int .i64 9, .int .i64 x] w fun e w' => e = .returned (.tuple #[.int .i64 (un 7 9 x).1, .int .i64 (un 7 9 x).2]) ∧ w' = w := by
 rw [un_9 7 x hx (by decide)]
 go_enter Tryz.func29, Tryz.ntmps29
 go_wp2_with (first | (go_at_call 45; refine (jak _ _ _).mono ?_; rintro e w' ⟨rfl, rfl⟩) | (go_at_call 52; refine (jog _ _).mono ?_; rintro e w' ⟨rfl, rfl⟩))
 go_ret2
 exact ⟨rfl, rfl⟩
theorem unary8_6 (x : Int) (w : World) (hx : chk 6 x = true) : Calls Tryz.prog 29 #[.string ⟨#[83, 105, 103, 109, 111, 105, 100]⟩, .int .i64 6, .int .i64 x] w fun e w' => e = .returned (.tuple #[.int .i64 (un 8 6 x).1, .int .i64 (un 8 6 x).2]) ∧ w' = w := by
 rw [un_6 8 x hx (by decide)]
 go_enter Tryz.func29, Tryz.ntmps29
 go_wp2_with (first | (go_at_call 45; refine (jak _ _ _).mono ?_; rintro e w' ⟨rfl, rfl⟩) | (go_at_call 51; refine (jme _ _ _).mono ?_; rintro e w' ⟨rfl, rfl⟩))
 go_ret2
 exact ⟨rfl, rfl⟩
theorem unary8_7 (x : Int) (w : World) (hx : chk 7 x = true) : Calls Tryz.prog 29 #[.string ⟨#[83, 105, 103, 109, 111, 105, 100]⟩, .int .i64 7, .int .i64 x] w fun e w' => e = .returned (.tuple #[.int .i64 (un 8 7 x).1, .int .i64 (un 8 7 x).2]) ∧ w' = w := by
 rw [un_7 8 x hx (by decide)]
 go_enter Tryz.func29, Tryz.ntmps29
 go_wp2_with (first | (go_at_call 45; refine (jak _ _ _).mono ?_; rintro e w' ⟨rfl, rfl⟩) | (go_at_call 51; refine (jme _ _ _).mono ?_; rintro e w' ⟨rfl, rfl⟩))
 go_ret2
 exact ⟨rfl, rfl⟩
theorem unary8_9 (x : Int) (w : World) (hx : chk 9 x = true) : Calls Tryz.prog 29 #[.string ⟨#[83, 105, 103, 109, 111, 105, 100]⟩, .int .i64 9, .int .i64 x] w fun e w' => e = .returned (.tuple #[.int .i64 (un 8 9 x).1, .int .i64 (un 8 9 x).2]) ∧ w' = w := by
 rw [un_9 8 x hx (by decide)]
 go_enter Tryz.func29, Tryz.ntmps29
 go_wp2_with (first | (go_at_call 45; refine (jak _ _ _).mono ?_; rintro e w' ⟨rfl, rfl⟩) | (go_at_call 52; refine (joh _ _).mono ?_; rintro e w' ⟨rfl, rfl⟩))
 go_ret2
 exact ⟨rfl, rfl⟩
theorem unary9_6 (x : Int) (w : World) (hx : chk 6 x = true) : Calls Tryz.prog 29 #[.string ⟨#[84, 97, 110, 104]⟩, .int .i64 6, .int .i64 x] w fun e w' => e = .returned (.tuple #[.int .i64 (un 9 6 x).1, .int .i64 (un 9 6 x).2]) ∧ w' = w := by
 rw [un_6 9 x hx (by decide)]
 go_enter Tryz.func29, Tryz.ntmps29
 go_wp2_with (first | (go_at_call 45; refine (jak _ _ _).mono ?_; rintro e w' ⟨rfl, rfl⟩) | (go_at_call 51; refine (jmf _ _ _).mono ?_; rintro e w' ⟨rfl, rfl⟩))
 go_ret2
 exact ⟨rfl, rfl⟩
theorem unary9_7 (x : Int) (w : World) (hx : chk 7 x = true) : Calls Tryz.prog 29 #[.string ⟨#[84, 97, 110, 104]⟩, .int .i64 7, .int .i64 x] w fun e w' => e = .returned (.tuple #[.int .i64 (un 9 7 x).1, .int .i64 (un 9 7 x).2]) ∧ w' = w := by
 rw [un_7 9 x hx (by decide)]
 go_enter Tryz.func29, Tryz.ntmps29
 go_wp2_with (first | (go_at_call 45; refine (jak _ _ _).mono ?_; rintro e w' ⟨rfl, rfl⟩) | (go_at_call 51; refine (jmf _ _ _).mono ?_; rintro e w' ⟨rfl, rfl⟩))
 go_ret2
 exact ⟨rfl, rfl⟩
theorem unary9_9 (x : Int) (w : World) (hx : chk 9 x = true) : Calls Tryz.prog 29 #[.string ⟨#[84, 97, 110, 104]⟩, .int .i64 9, .int .i64 x] w fun e w' => e = .returned (.tuple #[.int .i64 (un 9 9 x).1, .int .i64 (un 9 9 x).2]) ∧ w' = w := by
 rw [un_9 9 x hx (by decide)]
 go_enter Tryz.func29, Tryz.ntmps29
 go_wp2_with (first | (go_at_call 45; refine (jak _ _ _).mono ?_; rintro e w' ⟨rfl, rfl⟩) | (go_at_call 52; refine (joi _ _).mono ?_; rintro e w' ⟨rfl, rfl⟩))
 go_ret2
 exact ⟨rfl, rfl⟩
end Go.Proofs.YteigfipgmghgmaaGreatDoor.Nu
