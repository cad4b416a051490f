/- The walks of package num's Cast, and of the document's own: they give the same. -/
import Derived.Test.YteigfipgmghgmaaGreatDoorNuWalkVc
namespace Go.Proofs.YteigfipgmghgmaaGreatDoor.Nu
open Go.RowKit

def isT (t : Int) : Bool := decide (t = 1 ∨ t = 6 ∨ t = 7 ∨ t = 9)

theorem isT_chk (t : Int) : chk t 0 = isT t := by
  unfold chk isT
  by_cases h1 : t = 1
  · subst h1; rfl
  · by_cases h6 : t = 6
    · subst h6; rfl
    · by_cases h7 : t = 7
      · subst h7; rfl
      · by_cases h9 : t = 9
        · subst h9; rfl
        · simp [h1, h6, h7, h9]

theorem isT_cases (t : Int) (h : isT t = true) : t = 1 ∨ t = 6 ∨ t = 7 ∨ t = 9 := by simpa [isT] using h

/-- What an element is in another type. -/
def cst (f t x : Int) : Int × Int :=
  if (chk f x && isT t) = true then
    (if f = t then (x, 0) else if f = 1 ∧ t = 9 then (b2i (FloatKind.f32.format.order (fb x) 0 != some .eq), 0) else if f = 1 then (f2i t (fb x), 0)
     else if t = 9 then (b2i (x != 0), 0) else if t = 1 then (tob (floatOfInt .f32 x), 0) else (wrapT t x, 0))
  else (0, 1)

theorem foi_lt (x : Int) : floatOfInt .f32 x < 4294967296 := by
  have := floatOfInt_wf .f32 x
  simpa [Lit.wf] using this

set_option maxHeartbeats 400000 in
theorem isType_any (t : Int) (w : World) : Calls Tryz.prog 59 #[.int .i64 t] w fun e w' => e = .returned (.bool (isT t)) ∧ w' = w := by
  by_cases h : t = 1 ∨ t = 6 ∨ t = 7 ∨ t = 9
  · rw [show isT t = true from by simpa [isT] using h]
    rcases h with rfl | rfl | rfl | rfl
    all_goals
      go_enter Tryz.func59, Tryz.ntmps59
      go_wp2
      go_ret
      exact ⟨rfl, rfl⟩
  · rw [show isT t = false from by simpa [isT] using h]
    have h1 : (t == 1) = false := by simp; omega
    have h6 : (t == 6) = false := by simp; omega
    have h7 : (t == 7) = false := by simp; omega
    have h9 : (t == 9) = false := by simp; omega
    clear h
    go_enter Tryz.func59, Tryz.ntmps59
    go_wp2
    go_ret
    exact ⟨rfl, rfl⟩

set_option maxHeartbeats 400000 in
theorem cast_code_no (f t x : Int) (w : World) (h : chk f x = false ∨ chk f x = true ∧ isT t = false) : Calls Tryz.prog 36 #[.int .i64 f, .int .i64 t, .int .i64 x] w fun e w' => e = .returned (.tuple #[.int .i64 0, .int .i64 1]) ∧ ∃ n, w' = w.drewN n := by

  rcases h with hx | ⟨hx, ht⟩
  all_goals
    go_enter Tryz.func36, Tryz.ntmps36
    go_wp2_with (first | (go_at_call 45; refine (check_any _ _ _).mono ?_; rintro e w' ⟨rfl, rfl⟩) | (go_at_call 59; refine (isType_any _ _).mono ?_; rintro e w' ⟨rfl, rfl⟩) | go_in)
    go_ret2
    exact ⟨rfl, 0, rfl⟩

set_option maxHeartbeats 400000 in
theorem cast_code_1_1 (x : Int) (w : World) (hx : chk 1 x = true) : Calls Tryz.prog 36 #[.int .i64 1, .int .i64 1, .int .i64 x] w fun e w' => e = .returned (.tuple #[.int .i64 (cst 1 1 x).1, .int .i64 (cst 1 1 x).2]) ∧ ∃ n, w' = w.drewN n := by
  have c0 : isT 1 = true := by decide
  rw [show cst 1 1 x = (x, 0) from by simp [cst, hx, c0]]
  go_enter Tryz.func36, Tryz.ntmps36
  go_wp2_with (first | (go_at_call 45; refine (check_any _ _ _).mono ?_; rintro e w' ⟨rfl, rfl⟩) | (go_at_call 59; refine (isType_any _ _).mono ?_; rintro e w' ⟨rfl, rfl⟩) | go_in)
  go_ret2
  exact ⟨rfl, 0, rfl⟩

set_option maxHeartbeats 400000 in
theorem cast_code_1_6 (x : Int) (w : World) (hx : chk 1 x = true) : Calls Tryz.prog 36 #[.int .i64 1, .int .i64 6, .int .i64 x] w fun e w' => e = .returned (.tuple #[.int .i64 (cst 1 6 x).1, .int .i64 (cst 1 6 x).2]) ∧ ∃ n, w' = w.drewN n := by
  have c0 : isT 6 = true := by decide
  rw [show cst 1 6 x = (f2i 6 (fb x), 0) from by simp [cst, hx, c0]]
  go_enter Tryz.func36, Tryz.ntmps36
  go_wp2_with (first | (go_at_call 45; refine (check_any _ _ _).mono ?_; rintro e w' ⟨rfl, rfl⟩) | (go_at_call 59; refine (isType_any _ _).mono ?_; rintro e w' ⟨rfl, rfl⟩) | (go_at_call 50; refine (from_any _ _).mono ?_; rintro e w' ⟨rfl, rfl⟩) | (go_at_call 61; refine (f2i6 _ _ (fb_lt _)).mono ?_; rintro e w' ⟨rfl, n, rfl⟩) | go_in)
  go_ret2
  exact ⟨rfl, _, rfl⟩

set_option maxHeartbeats 400000 in
theorem cast_code_1_7 (x : Int) (w : World) (hx : chk 1 x = true) : Calls Tryz.prog 36 #[.int .i64 1, .int .i64 7, .int .i64 x] w fun e w' => e = .returned (.tuple #[.int .i64 (cst 1 7 x).1, .int .i64 (cst 1 7 x).2]) ∧ ∃ n, w' = w.drewN n := by
  have c0 : isT 7 = true := by decide
  rw [show cst 1 7 x = (f2i 7 (fb x), 0) from by simp [cst, hx, c0]]
  go_enter Tryz.func36, Tryz.ntmps36
  go_wp2_with (first | (go_at_call 45; refine (check_any _ _ _).mono ?_; rintro e w' ⟨rfl, rfl⟩) | (go_at_call 59; refine (isType_any _ _).mono ?_; rintro e w' ⟨rfl, rfl⟩) | (go_at_call 50; refine (from_any _ _).mono ?_; rintro e w' ⟨rfl, rfl⟩) | (go_at_call 61; refine (f2i7 _ _ (fb_lt _)).mono ?_; rintro e w' ⟨rfl, n, rfl⟩) | go_in)
  go_ret2
  exact ⟨rfl, _, rfl⟩

set_option maxHeartbeats 400000 in
theorem cast_code_1_9 (x : Int) (w : World) (hx : chk 1 x = true) : Calls Tryz.prog 36 #[.int .i64 1, .int .i64 9, .int .i64 x] w fun e w' => e = .returned (.tuple #[.int .i64 (cst 1 9 x).1, .int .i64 (cst 1 9 x).2]) ∧ ∃ n, w' = w.drewN n := by
  have c0 : isT 9 = true := by decide
  rw [show cst 1 9 x = (b2i (FloatKind.f32.format.order (fb x) 0 != some .eq), 0) from by simp [cst, hx, c0]]
  cases h : (FloatKind.f32.format.order (fb x) 0 != some .eq) with
  | true =>
    show Calls _ _ _ _ fun e w' => e = .returned (.tuple #[.int .i64 1, .int .i64 0]) ∧ ∃ n, w' = w.drewN n
    go_enter Tryz.func36, Tryz.ntmps36
    go_wp2_with (first | (go_at_call 45; refine (check_any _ _ _).mono ?_; rintro e w' ⟨rfl, rfl⟩) | (go_at_call 59; refine (isType_any _ _).mono ?_; rintro e w' ⟨rfl, rfl⟩) | (go_at_call 50; refine (from_any _ _).mono ?_; rintro e w' ⟨rfl, rfl⟩) | go_in)
    go_ret2
    exact ⟨rfl, 0, rfl⟩
  | false =>
    show Calls _ _ _ _ fun e w' => e = .returned (.tuple #[.int .i64 0, .int .i64 0]) ∧ ∃ n, w' = w.drewN n
    go_enter Tryz.func36, Tryz.ntmps36
    go_wp2_with (first | (go_at_call 45; refine (check_any _ _ _).mono ?_; rintro e w' ⟨rfl, rfl⟩) | (go_at_call 59; refine (isType_any _ _).mono ?_; rintro e w' ⟨rfl, rfl⟩) | (go_at_call 50; refine (from_any _ _).mono ?_; rintro e w' ⟨rfl, rfl⟩) | go_in)
    go_ret2
    exact ⟨rfl, 0, rfl⟩

set_option maxHeartbeats 400000 in
theorem cast_code_6_1 (x : Int) (w : World) (hx : chk 6 x = true) : Calls Tryz.prog 36 #[.int .i64 6, .int .i64 1, .int .i64 x] w fun e w' => e = .returned (.tuple #[.int .i64 (cst 6 1 x).1, .int .i64 (cst 6 1 x).2]) ∧ ∃ n, w' = w.drewN n := by
  have c0 : isT 1 = true := by decide
  rw [show cst 6 1 x = (tob (floatOfInt .f32 x), 0) from by simp [cst, hx, c0]]
  go_enter Tryz.func36, Tryz.ntmps36
  go_wp2_with (first | (go_at_call 45; refine (check_any _ _ _).mono ?_; rintro e w' ⟨rfl, rfl⟩) | (go_at_call 59; refine (isType_any _ _).mono ?_; rintro e w' ⟨rfl, rfl⟩) | (go_at_call 62; refine (to_any _ _ (foi_lt _)).mono ?_; rintro e w' ⟨rfl, rfl⟩) | go_in)
  go_ret2
  exact ⟨rfl, 0, rfl⟩

set_option maxHeartbeats 400000 in
theorem cast_code_6_6 (x : Int) (w : World) (hx : chk 6 x = true) : Calls Tryz.prog 36 #[.int .i64 6, .int .i64 6, .int .i64 x] w fun e w' => e = .returned (.tuple #[.int .i64 (cst 6 6 x).1, .int .i64 (cst 6 6 x).2]) ∧ ∃ n, w' = w.drewN n := by
  have c0 : isT 6 = true := by decide
  rw [show cst 6 6 x = (x, 0) from by simp [cst, hx, c0]]
  go_enter Tryz.func36, Tryz.ntmps36
  go_wp2_with (first | (go_at_call 45; refine (check_any _ _ _).mono ?_; rintro e w' ⟨rfl, rfl⟩) | (go_at_call 59; refine (isType_any _ _).mono ?_; rintro e w' ⟨rfl, rfl⟩) | go_in)
  go_ret2
  exact ⟨rfl, 0, rfl⟩

set_option maxHeartbeats 400000 in
theorem cast_code_6_7 (x : Int) (w : World) (hx : chk 6 x = true) : Calls Tryz.prog 36 #[.int .i64 6, .int .i64 7, .int .i64 x] w fun e w' => e = .returned (.tuple #[.int .i64 (cst 6 7 x).1, .int .i64 (cst 6 7 x).2]) ∧ ∃ n, w' = w.drewN n := by
  have c0 : isT 7 = true := by decide
  rw [show cst 6 7 x = (x, 0) from by simp [cst, hx, c0, wrapT]]
  go_enter Tryz.func36, Tryz.ntmps36
  go_wp2_with (first | (go_at_call 45; refine (check_any _ _ _).mono ?_; rintro e w' ⟨rfl, rfl⟩) | (go_at_call 59; refine (isType_any _ _).mono ?_; rintro e w' ⟨rfl, rfl⟩) | go_in)
  go_ret2
  exact ⟨rfl, 0, rfl⟩

set_option maxHeartbeats 400000 in
theorem cast_code_6_9 (x : Int) (w : World) (hx : chk 6 x = true) : Calls Tryz.prog 36 #[.int .i64 6, .int .i64 9, .int .i64 x] w fun e w' => e = .returned (.tuple #[.int .i64 (cst 6 9 x).1, .int .i64 (cst 6 9 x).2]) ∧ ∃ n, w' = w.drewN n := by
  have c0 : isT 9 = true := by decide
  rw [show cst 6 9 x = (b2i (x != 0), 0) from by simp [cst, hx, c0]]
  cases h : (x != 0) with
  | true =>
    show Calls _ _ _ _ fun e w' => e = .returned (.tuple #[.int .i64 1, .int .i64 0]) ∧ ∃ n, w' = w.drewN n
    go_enter Tryz.func36, Tryz.ntmps36
    go_wp2_with (first | (go_at_call 45; refine (check_any _ _ _).mono ?_; rintro e w' ⟨rfl, rfl⟩) | (go_at_call 59; refine (isType_any _ _).mono ?_; rintro e w' ⟨rfl, rfl⟩) | go_in)
    go_ret2
    exact ⟨rfl, 0, rfl⟩
  | false =>
    show Calls _ _ _ _ fun e w' => e = .returned (.tuple #[.int .i64 0, .int .i64 0]) ∧ ∃ n, w' = w.drewN n
    go_enter Tryz.func36, Tryz.ntmps36
    go_wp2_with (first | (go_at_call 45; refine (check_any _ _ _).mono ?_; rintro e w' ⟨rfl, rfl⟩) | (go_at_call 59; refine (isType_any _ _).mono ?_; rintro e w' ⟨rfl, rfl⟩) | go_in)
    go_ret2
    exact ⟨rfl, 0, rfl⟩

set_option maxHeartbeats 400000 in
theorem cast_code_7_1 (x : Int) (w : World) (hx : chk 7 x = true) : Calls Tryz.prog 36 #[.int .i64 7, .int .i64 1, .int .i64 x] w fun e w' => e = .returned (.tuple #[.int .i64 (cst 7 1 x).1, .int .i64 (cst 7 1 x).2]) ∧ ∃ n, w' = w.drewN n := by
  have c0 : isT 1 = true := by decide
  rw [show cst 7 1 x = (tob (floatOfInt .f32 x), 0) from by simp [cst, hx, c0]]
  go_enter Tryz.func36, Tryz.ntmps36
  go_wp2_with (first | (go_at_call 45; refine (check_any _ _ _).mono ?_; rintro e w' ⟨rfl, rfl⟩) | (go_at_call 59; refine (isType_any _ _).mono ?_; rintro e w' ⟨rfl, rfl⟩) | (go_at_call 62; refine (to_any _ _ (foi_lt _)).mono ?_; rintro e w' ⟨rfl, rfl⟩) | go_in)
  go_ret2
  exact ⟨rfl, 0, rfl⟩

set_option maxHeartbeats 400000 in
theorem cast_code_7_6 (x : Int) (w : World) (hx : chk 7 x = true) : Calls Tryz.prog 36 #[.int .i64 7, .int .i64 6, .int .i64 x] w fun e w' => e = .returned (.tuple #[.int .i64 (cst 7 6 x).1, .int .i64 (cst 7 6 x).2]) ∧ ∃ n, w' = w.drewN n := by
  have c0 : isT 6 = true := by decide
  rw [show cst 7 6 x = (wrap64 (wrap32 x), 0) from by simp [cst, hx, c0, wrapT]]
  go_enter Tryz.func36, Tryz.ntmps36
  go_wp2_with (first | (go_at_call 45; refine (check_any _ _ _).mono ?_; rintro e w' ⟨rfl, rfl⟩) | (go_at_call 59; refine (isType_any _ _).mono ?_; rintro e w' ⟨rfl, rfl⟩) | go_in)
  go_ret2
  exact ⟨rfl, 0, rfl⟩

set_option maxHeartbeats 400000 in
theorem cast_code_7_7 (x : Int) (w : World) (hx : chk 7 x = true) : Calls Tryz.prog 36 #[.int .i64 7, .int .i64 7, .int .i64 x] w fun e w' => e = .returned (.tuple #[.int .i64 (cst 7 7 x).1, .int .i64 (cst 7 7 x).2]) ∧ ∃ n, w' = w.drewN n := by
  have c0 : isT 7 = true := by decide
  rw [show cst 7 7 x = (x, 0) from by simp [cst, hx, c0]]
  go_enter Tryz.func36, Tryz.ntmps36
  go_wp2_with (first | (go_at_call 45; refine (check_any _ _ _).mono ?_; rintro e w' ⟨rfl, rfl⟩) | (go_at_call 59; refine (isType_any _ _).mono ?_; rintro e w' ⟨rfl, rfl⟩) | go_in)
  go_ret2
  exact ⟨rfl, 0, rfl⟩

set_option maxHeartbeats 400000 in
theorem cast_code_7_9 (x : Int) (w : World) (hx : chk 7 x = true) : Calls Tryz.prog 36 #[.int .i64 7, .int .i64 9, .int .i64 x] w fun e w' => e = .returned (.tuple #[.int .i64 (cst 7 9 x).1, .int .i64 (cst 7 9 x).2]) ∧ ∃ n, w' = w.drewN n := by
  have c0 : isT 9 = true := by decide
  rw [show cst 7 9 x = (b2i (x != 0), 0) from by simp [cst, hx, c0]]
  cases h : (x != 0) with
  | true =>
    show Calls _ _ _ _ fun e w' => e = .returned (.tuple #[.int .i64 1, .int .i64 0]) ∧ ∃ n, w' = w.drewN n
    go_enter Tryz.func36, Tryz.ntmps36
    go_wp2_with (first | (go_at_call 45; refine (check_any _ _ _).mono ?_; rintro e w' ⟨rfl, rfl⟩) | (go_at_call 59; refine (isType_any _ _).mono ?_; rintro e w' ⟨rfl, rfl⟩) | go_in)
    go_ret2
    exact ⟨rfl, 0, rfl⟩
  | false =>
    show Calls _ _ _ _ fun e w' => e = .returned (.tuple #[.int .i64 0, .int .i64 0]) ∧ ∃ n, w' = w.drewN n
    go_enter Tryz.func36, Tryz.ntmps36
    go_wp2_with (first | (go_at_call 45; refine (check_any _ _ _).mono ?_; rintro e w' ⟨rfl, rfl⟩) | (go_at_call 59; refine (isType_any _ _).mono ?_; rintro e w' ⟨rfl, rfl⟩) | go_in)
    go_ret2
    exact ⟨rfl, 0, rfl⟩

set_option maxHeartbeats 400000 in
theorem cast_code_9_1 (x : Int) (w : World) (hx : chk 9 x = true) : Calls Tryz.prog 36 #[.int .i64 9, .int .i64 1, .int .i64 x] w fun e w' => e = .returned (.tuple #[.int .i64 (cst 9 1 x).1, .int .i64 (cst 9 1 x).2]) ∧ ∃ n, w' = w.drewN n := by
  have c0 : isT 1 = true := by decide
  rw [show cst 9 1 x = (tob (floatOfInt .f32 x), 0) from by simp [cst, hx, c0]]
  go_enter Tryz.func36, Tryz.ntmps36
  go_wp2_with (first | (go_at_call 45; refine (check_any _ _ _).mono ?_; rintro e w' ⟨rfl, rfl⟩) | (go_at_call 59; refine (isType_any _ _).mono ?_; rintro e w' ⟨rfl, rfl⟩) | (go_at_call 62; refine (to_any _ _ (foi_lt _)).mono ?_; rintro e w' ⟨rfl, rfl⟩) | go_in)
  go_ret2
  exact ⟨rfl, 0, rfl⟩

set_option maxHeartbeats 400000 in
theorem cast_code_9_6 (x : Int) (w : World) (hx : chk 9 x = true) : Calls Tryz.prog 36 #[.int .i64 9, .int .i64 6, .int .i64 x] w fun e w' => e = .returned (.tuple #[.int .i64 (cst 9 6 x).1, .int .i64 (cst 9 6 x).2]) ∧ ∃ n, w' = w.drewN n := by
  have c0 : isT 6 = true := by decide
  rw [show cst 9 6 x = (wrap64 (wrap32 x), 0) from by simp [cst, hx, c0, wrapT]]
  go_enter Tryz.func36, Tryz.ntmps36
  go_wp2_with (first | (go_at_call 45; refine (check_any _ _ _).mono ?_; rintro e w' ⟨rfl, rfl⟩) | (go_at_call 59; refine (isType_any _ _).mono ?_; rintro e w' ⟨rfl, rfl⟩) | go_in)
  go_ret2
  exact ⟨rfl, 0, rfl⟩

set_option maxHeartbeats 400000 in
theorem cast_code_9_7 (x : Int) (w : World) (hx : chk 9 x = true) : Calls Tryz.prog 36 #[.int .i64 9, .int .i64 7, .int .i64 x] w fun e w' => e = .returned (.tuple #[.int .i64 (cst 9 7 x).1, .int .i64 (cst 9 7 x).2]) ∧ ∃ n, w' = w.drewN n := by
  have c0 : isT 7 = true := by decide
  rw [show cst 9 7 x = (x, 0) from by simp [cst, hx, c0, wrapT]]
  go_enter Tryz.func36, Tryz.ntmps36
  go_wp2_with (first | (go_at_call 45; refine (check_any _ _ _).mono ?_; rintro e w' ⟨rfl, rfl⟩) | (go_at_call 59; refine (isType_any _ _).mono ?_; rintro e w' ⟨rfl, rfl⟩) | go_in)
  go_ret2
  exact ⟨rfl, 0, rfl⟩

set_option maxHeartbeats 400000 in
theorem cast_code_9_9 (x : Int) (w : World) (hx : chk 9 x = true) : Calls Tryz.prog 36 #[.int .i64 9, .int .i64 9, .int .i64 x] w fun e w' => e = .returned (.tuple #[.int .i64 (cst 9 9 x).1, .int .i64 (cst 9 9 x).2]) ∧ ∃ n, w' = w.drewN n := by
  have c0 : isT 9 = true := by decide
  rw [show cst 9 9 x = (x, 0) from by simp [cst, hx, c0]]
  go_enter Tryz.func36, Tryz.ntmps36
  go_wp2_with (first | (go_at_call 45; refine (check_any _ _ _).mono ?_; rintro e w' ⟨rfl, rfl⟩) | (go_at_call 59; refine (isType_any _ _).mono ?_; rintro e w' ⟨rfl, rfl⟩) | go_in)
  go_ret2
  exact ⟨rfl, 0, rfl⟩

theorem cast_code (f t x : Int) (w : World) : Calls Tryz.prog 36 #[.int .i64 f, .int .i64 t, .int .i64 x] w fun e w' => e = .returned (.tuple #[.int .i64 (cst f t x).1, .int .i64 (cst f t x).2]) ∧ ∃ n, w' = w.drewN n := by
  cases hx : chk f x with
  | false => rw [show cst f t x = (0, 1) from by simp [cst, hx]]; exact cast_code_no f t x w (.inl hx)
  | true =>
    cases ht : isT t with
    | false => rw [show cst f t x = (0, 1) from by simp [cst, ht]]; exact cast_code_no f t x w (.inr ⟨hx, ht⟩)
    | true =>
      rcases chk_types f x hx with rfl | rfl | rfl | rfl <;> rcases isT_cases t ht with rfl | rfl | rfl | rfl
      · exact cast_code_1_1 x w hx
      · exact cast_code_1_6 x w hx
      · exact cast_code_1_7 x w hx
      · exact cast_code_1_9 x w hx
      · exact cast_code_6_1 x w hx
      · exact cast_code_6_6 x w hx
      · exact cast_code_6_7 x w hx
      · exact cast_code_6_9 x w hx
      · exact cast_code_7_1 x w hx
      · exact cast_code_7_6 x w hx
      · exact cast_code_7_7 x w hx
      · exact cast_code_7_9 x w hx
      · exact cast_code_9_1 x w hx
      · exact cast_code_9_6 x w hx
      · exact cast_code_9_7 x w hx
      · exact cast_code_9_9 x w hx

end Go.Proofs.YteigfipgmghgmaaGreatDoor.Nu
