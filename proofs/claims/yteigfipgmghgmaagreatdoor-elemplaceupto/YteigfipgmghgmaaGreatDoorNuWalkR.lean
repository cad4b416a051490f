/- The walks of the document's own Check and operators of two: they give what package num gives. -/
import Derived.Test.YteigfipgmghgmaaGreatDoorNuWalkF
import Derived.Test.YteigfipgmghgmaaGreatDoorNuPlainR
namespace Go.Proofs.YteigfipgmghgmaaGreatDoor.Nu
open Go.RowKit
attribute [local go_sem] ext_from ext_bits

set_option maxHeartbeats 400000 in
theorem rf_any (x : Int) (w : World) : Calls Tryz.prog 25 #[.int .i64 x] w fun e w' => e = .returned (.float .f32 (fb x)) ∧ w' = w := by
  go_enter Tryz.func25, Tryz.ntmps25
  go_wp2
  go_ret
  exact ⟨rfl, rfl⟩

set_option maxHeartbeats 400000 in
theorem rcheck_1 (x : Int) (w : World) : Calls Tryz.prog 18 #[.int .i64 1, .int .i64 x] w fun e w' => e = .returned (.bool (chk 1 x)) ∧ w' = w := by
  by_cases h0 : 0 ≤ x
  · by_cases h1 : x < 4294967296
    · rw [rchk1 x h0 h1]
      cases h : (FloatKind.f32.format.order (fb x) (fb x) == some .eq) with
      | true =>
        go_enter Tryz.func18, Tryz.ntmps18
        go_wp2_with (first | (go_at_call 25; refine (rf_any _ _).mono ?_; rintro e w' ⟨rfl, rfl⟩) | go_in)
        go_ret
        exact ⟨rfl, rfl⟩
      | false =>
        go_enter Tryz.func18, Tryz.ntmps18
        go_wp2_with (first | (go_at_call 25; refine (rf_any _ _).mono ?_; rintro e w' ⟨rfl, rfl⟩) | go_in)
        go_ret
        exact ⟨rfl, rfl⟩
    · have c : chk 1 x = false := by rw [chk_float 1 x rfl]; simp; omega
      rw [c]; clear c
      go_enter Tryz.func18, Tryz.ntmps18
      go_wp2_with (first | (go_at_call 25; refine (rf_any _ _).mono ?_; rintro e w' ⟨rfl, rfl⟩) | go_in)
      go_ret
      exact ⟨rfl, rfl⟩
  · have c : chk 1 x = false := by rw [chk_float 1 x rfl]; simp; omega
    rw [c]; clear c
    go_enter Tryz.func18, Tryz.ntmps18
    go_wp2_with (first | (go_at_call 25; refine (rf_any _ _).mono ?_; rintro e w' ⟨rfl, rfl⟩) | go_in)
    go_ret
    exact ⟨rfl, rfl⟩

set_option maxHeartbeats 400000 in
theorem rcheck_6 (x : Int) (w : World) : Calls Tryz.prog 18 #[.int .i64 6, .int .i64 x] w fun e w' => e = .returned (.bool (chk 6 x)) ∧ w' = w := by
  by_cases h0 : -2147483648 ≤ x
  · have c : chk 6 x = decide (x ≤ 2147483647) := by simp [chk, h0]
    rw [c]; clear c
    go_enter Tryz.func18, Tryz.ntmps18
    go_wp2
    go_ret
    exact ⟨rfl, rfl⟩
  · have c : chk 6 x = false := by simp [chk, h0]
    rw [c]; clear c
    go_enter Tryz.func18, Tryz.ntmps18
    go_wp2
    go_ret
    exact ⟨rfl, rfl⟩

set_option maxHeartbeats 400000 in
theorem rcheck_7 (x : Int) (w : World) : Calls Tryz.prog 18 #[.int .i64 7, .int .i64 x] w fun e w' => e = .returned (.bool (chk 7 x)) ∧ w' = w := by
  have c : chk 7 x = true := by simp [chk]
  rw [c]; clear c
  go_enter Tryz.func18, Tryz.ntmps18
  go_wp2
  go_ret
  exact ⟨rfl, rfl⟩

set_option maxHeartbeats 400000 in
theorem rcheck_9 (x : Int) (w : World) : Calls Tryz.prog 18 #[.int .i64 9, .int .i64 x] w fun e w' => e = .returned (.bool (chk 9 x)) ∧ w' = w := by
  by_cases h0 : x = 0
  · have c : chk 9 x = true := by simp [chk, h0]
    rw [c]; clear c; subst h0
    go_enter Tryz.func18, Tryz.ntmps18
    go_wp2
    go_ret
    exact ⟨rfl, rfl⟩
  · have c : chk 9 x = (x == 1) := by rw [Bool.eq_iff_iff]; simp [chk, h0]
    have h0' : (x == 0) = false := by simpa using h0
    rw [c]; clear c h0
    go_enter Tryz.func18, Tryz.ntmps18
    go_wp2
    go_ret
    exact ⟨rfl, rfl⟩

set_option maxHeartbeats 400000 in
theorem rcheck_no (t x : Int) (w : World) (h1 : (t == 1) = false) (h6 : (t == 6) = false) (h7 : (t == 7) = false) (h9 : (t == 9) = false) : Calls Tryz.prog 18 #[.int .i64 t, .int .i64 x] w fun e w' => e = .returned (.bool false) ∧ w' = w := by
  go_enter Tryz.func18, Tryz.ntmps18
  go_wp2
  go_ret
  exact ⟨rfl, rfl⟩

theorem rcheck_any (t x : Int) (w : World) : Calls Tryz.prog 18 #[.int .i64 t, .int .i64 x] w fun e w' => e = .returned (.bool (chk t x)) ∧ w' = w := by
  by_cases h1 : t = 1
  · subst h1; exact rcheck_1 x w
  · by_cases h6 : t = 6
    · subst h6; exact rcheck_6 x w
    · by_cases h7 : t = 7
      · subst h7; exact rcheck_7 x w
      · by_cases h9 : t = 9
        · subst h9; exact rcheck_9 x w
        · have c : chk t x = false := by simp [chk, h1, h6, h7, h9]
          rw [c]; exact rcheck_no t x w (by simpa using h1) (by simpa using h6) (by simpa using h7) (by simpa using h9)

end Go.Proofs.YteigfipgmghgmaaGreatDoor.Nu
