/- Unary of the document, of any type; the program's, of floats; operators that there are not (mkOne.py). -/
import Derived.Test.YtlehjdjhikgffaaWalkE9
import Derived.Test.YtlehjdjhikgffaaWalkF
namespace Go.Proofs.Ytlehjdjhikgffaa
open Go.RowKit Mo

/-- An answer, and answers that were drawn. -/
def Ans (a e : Int) (w : World) (en : Ending) (w' : World) : Prop := en = .returned (.tuple #[.int .i64 a, .int .i64 e]) ∧ ∃ n, w' = w.drewN n

set_option maxHeartbeats 400000 in
theorem runary_no (s : ByteArray) (t x : Int) (w : World) (hx : chk t x = false) : Calls Try.prog 5 #[.string s, .int .i64 t, .int .i64 x] w (Ans 0 1 w) := by
  unfold Ans
  go_enter Try.func5, Try.ntmps5
  go_wp2_with (first | (go_at_call 7; refine (rcheck_any _ _ _).mono ?_; rintro e w' ⟨rfl, rfl⟩) | fail)
  go_ret2
  exact ⟨rfl, 0, rfl⟩

set_option maxHeartbeats 400000 in
theorem unary_no (s : ByteArray) (t x : Int) (w : World) (hx : chk t x = false) : Calls Try.prog 4 #[.string s, .int .i64 t, .int .i64 x] w (Ans 0 1 w) := by
  unfold Ans
  go_enter Try.func4, Try.ntmps4
  go_wp2_with (first | (go_at_call 6; refine (check_any _ _ _).mono ?_; rintro e w' ⟨rfl, rfl⟩) | fail)
  go_ret2
  exact ⟨rfl, 0, rfl⟩

set_option maxHeartbeats 400000 in
theorem rone3 (x : Int) (w : World) : Calls Try.prog 15 #[.string ⟨#[78, 111, 116]⟩, .int .i64 x] w fun e w' => ∃ n, e = .returned (.tuple #[.int .i64 0, .bool false]) ∧ w' = w.drewN n := by
  go_enter Try.func15, Try.ntmps15
  go_wp2_with (first | (go_at_call 16; refine (rf_any _ _).mono ?_; rintro e w' ⟨rfl, rfl⟩) | fail)
  go_ret2
  exact ⟨0, rfl, rfl⟩

theorem rint_yes6 (w : World) : Calls Try.prog 13 #[.int .i64 6] w fun e w' => e = .returned (.bool true) ∧ w' = w := by
  go_enter Try.func13, Try.ntmps13
  go_wp2
  go_ret
  exact ⟨rfl, rfl⟩

theorem rint_yes7 (w : World) : Calls Try.prog 13 #[.int .i64 7] w fun e w' => e = .returned (.bool true) ∧ w' = w := by
  go_enter Try.func13, Try.ntmps13
  go_wp2
  go_ret
  exact ⟨rfl, rfl⟩

theorem rint_no1 (w : World) : Calls Try.prog 13 #[.int .i64 1] w fun e w' => e = .returned (.bool false) ∧ w' = w := by
  go_enter Try.func13, Try.ntmps13
  go_wp2
  go_ret
  exact ⟨rfl, rfl⟩

theorem rint_no9 (w : World) : Calls Try.prog 13 #[.int .i64 9] w fun e w' => e = .returned (.bool false) ∧ w' = w := by
  go_enter Try.func13, Try.ntmps13
  go_wp2
  go_ret
  exact ⟨rfl, rfl⟩

theorem rwrap6 (x : Int) (w : World) : Calls Try.prog 14 #[.int .i64 6, .int .i64 x] w fun e w' => e = .returned (.int .i64 (wrapT 6 x)) ∧ w' = w := by
  rw [wrapT6 6 x rfl]
  go_enter Try.func14, Try.ntmps14
  go_wp2
  go_ret
  exact ⟨rfl, rfl⟩

theorem rwrap7 (x : Int) (w : World) : Calls Try.prog 14 #[.int .i64 7, .int .i64 x] w fun e w' => e = .returned (.int .i64 (wrapT 7 x)) ∧ w' = w := by
  rw [wrapT7 7 x rfl]
  go_enter Try.func14, Try.ntmps14
  go_wp2
  go_ret
  exact ⟨rfl, rfl⟩

set_option maxHeartbeats 400000 in
theorem runary0_1 (x : Int) (w : World) (hx : chk 1 x = true) : Calls Try.prog 5 #[.string ⟨#[73, 100, 101, 110, 116, 105, 116, 121]⟩, .int .i64 1, .int .i64 x] w (Ans (x) (0) w) := by
  unfold Ans
  go_enter Try.func5, Try.ntmps5
  go_wp2_with (first | (go_at_call 7; refine (rcheck_any _ _ _).mono ?_; rintro e w' ⟨rfl, rfl⟩) | (go_at_call 13; refine (rint_no1 _).mono ?_; rintro e w' ⟨rfl, rfl⟩) | fail)
  go_ret2
  exact ⟨rfl, 0, rfl⟩

set_option maxHeartbeats 400000 in
theorem runary0_6 (x : Int) (w : World) (hx : chk 6 x = true) : Calls Try.prog 5 #[.string ⟨#[73, 100, 101, 110, 116, 105, 116, 121]⟩, .int .i64 6, .int .i64 x] w (Ans (x) (0) w) := by
  unfold Ans
  go_enter Try.func5, Try.ntmps5
  go_wp2_with (first | (go_at_call 7; refine (rcheck_any _ _ _).mono ?_; rintro e w' ⟨rfl, rfl⟩) | (go_at_call 13; refine (rint_yes6 _).mono ?_; rintro e w' ⟨rfl, rfl⟩) | (go_at_call 14; refine (rwrap6 _ _).mono ?_; rintro e w' ⟨rfl, rfl⟩) | fail)
  go_ret2
  exact ⟨rfl, 0, rfl⟩

set_option maxHeartbeats 400000 in
theorem runary0_7 (x : Int) (w : World) (hx : chk 7 x = true) : Calls Try.prog 5 #[.string ⟨#[73, 100, 101, 110, 116, 105, 116, 121]⟩, .int .i64 7, .int .i64 x] w (Ans (x) (0) w) := by
  unfold Ans
  go_enter Try.func5, Try.ntmps5
  go_wp2_with (first | (go_at_call 7; refine (rcheck_any _ _ _).mono ?_; rintro e w' ⟨rfl, rfl⟩) | (go_at_call 13; refine (rint_yes7 _).mono ?_; rintro e w' ⟨rfl, rfl⟩) | (go_at_call 14; refine (rwrap7 _ _).mono ?_; rintro e w' ⟨rfl, rfl⟩) | fail)
  go_ret2
  exact ⟨rfl, 0, rfl⟩

set_option maxHeartbeats 400000 in
theorem runary0_9 (x : Int) (w : World) (hx : chk 9 x = true) : Calls Try.prog 5 #[.string ⟨#[73, 100, 101, 110, 116, 105, 116, 121]⟩, .int .i64 9, .int .i64 x] w (Ans (x) (0) w) := by
  unfold Ans
  go_enter Try.func5, Try.ntmps5
  go_wp2_with (first | (go_at_call 7; refine (rcheck_any _ _ _).mono ?_; rintro e w' ⟨rfl, rfl⟩) | (go_at_call 13; refine (rint_no9 _).mono ?_; rintro e w' ⟨rfl, rfl⟩) | fail)
  go_ret2
  exact ⟨rfl, 0, rfl⟩

set_option maxHeartbeats 400000 in
theorem runary1_1 (x : Int) (w : World) (hx : chk 1 x = true) : Calls Try.prog 5 #[.string ⟨#[78, 101, 103]⟩, .int .i64 1, .int .i64 x] w (Ans (tob (negF (fb x))) (0) w) := by
  have HX : Hid (chk 1 x = true) := hx
  unfold Ans
  go_enter Try.func5, Try.ntmps5
  go_wp2_with (first | (go_at_call 7; refine (rcheck_any _ _ _).mono ?_; rintro e w' ⟨rfl, rfl⟩) | (go_at_call 13; refine (rint_no1 _).mono ?_; rintro e w' ⟨rfl, rfl⟩) | (go_at_call 15; refine (rone1 _ _ HX.out).mono ?_; rintro e w' ⟨n, rfl, rfl⟩) | fail)
  go_ret2
  exact ⟨rfl, _, rfl⟩

set_option maxHeartbeats 400000 in
theorem runary1_6 (x : Int) (w : World) (hx : chk 6 x = true) : Calls Try.prog 5 #[.string ⟨#[78, 101, 103]⟩, .int .i64 6, .int .i64 x] w (Ans (wrapT 6 (wrap64 (-x))) (0) w) := by
  unfold Ans
  go_enter Try.func5, Try.ntmps5
  go_wp2_with (first | (go_at_call 7; refine (rcheck_any _ _ _).mono ?_; rintro e w' ⟨rfl, rfl⟩) | (go_at_call 13; refine (rint_yes6 _).mono ?_; rintro e w' ⟨rfl, rfl⟩) | (go_at_call 14; refine (rwrap6 _ _).mono ?_; rintro e w' ⟨rfl, rfl⟩) | fail)
  go_ret2
  exact ⟨rfl, 0, rfl⟩

set_option maxHeartbeats 400000 in
theorem runary1_7 (x : Int) (w : World) (hx : chk 7 x = true) : Calls Try.prog 5 #[.string ⟨#[78, 101, 103]⟩, .int .i64 7, .int .i64 x] w (Ans (wrapT 7 (wrap64 (-x))) (0) w) := by
  unfold Ans
  go_enter Try.func5, Try.ntmps5
  go_wp2_with (first | (go_at_call 7; refine (rcheck_any _ _ _).mono ?_; rintro e w' ⟨rfl, rfl⟩) | (go_at_call 13; refine (rint_yes7 _).mono ?_; rintro e w' ⟨rfl, rfl⟩) | (go_at_call 14; refine (rwrap7 _ _).mono ?_; rintro e w' ⟨rfl, rfl⟩) | fail)
  go_ret2
  exact ⟨rfl, 0, rfl⟩

set_option maxHeartbeats 400000 in
theorem runary1_9 (x : Int) (w : World) (hx : chk 9 x = true) : Calls Try.prog 5 #[.string ⟨#[78, 101, 103]⟩, .int .i64 9, .int .i64 x] w (Ans (0) (1) w) := by
  unfold Ans
  go_enter Try.func5, Try.ntmps5
  go_wp2_with (first | (go_at_call 7; refine (rcheck_any _ _ _).mono ?_; rintro e w' ⟨rfl, rfl⟩) | (go_at_call 13; refine (rint_no9 _).mono ?_; rintro e w' ⟨rfl, rfl⟩) | fail)
  go_ret2
  exact ⟨rfl, 0, rfl⟩

set_option maxHeartbeats 400000 in
theorem runary2_1 (x : Int) (w : World) (hx : chk 1 x = true) : Calls Try.prog 5 #[.string ⟨#[65, 98, 115]⟩, .int .i64 1, .int .i64 x] w (Ans (tob (absF (fb x))) (0) w) := by
  have HX : Hid (chk 1 x = true) := hx
  unfold Ans
  go_enter Try.func5, Try.ntmps5
  go_wp2_with (first | (go_at_call 7; refine (rcheck_any _ _ _).mono ?_; rintro e w' ⟨rfl, rfl⟩) | (go_at_call 13; refine (rint_no1 _).mono ?_; rintro e w' ⟨rfl, rfl⟩) | (go_at_call 15; refine (rone2 _ _ HX.out).mono ?_; rintro e w' ⟨n, rfl, rfl⟩) | fail)
  go_ret2
  exact ⟨rfl, _, rfl⟩

set_option maxHeartbeats 400000 in
theorem runary2_6 (x : Int) (w : World) (hx : chk 6 x = true) : Calls Try.prog 5 #[.string ⟨#[65, 98, 115]⟩, .int .i64 6, .int .i64 x] w (Ans (absI 6 x) (0) w) := by
  by_cases h : x < 0
  · have HA : absI 6 x = wrapT 6 (wrap64 (-x)) := by unfold absI; rw [if_pos h]
    rw [HA]
    clear HA
    unfold Ans
    go_enter Try.func5, Try.ntmps5
    go_wp2_with (first | (go_at_call 7; refine (rcheck_any _ _ _).mono ?_; rintro e w' ⟨rfl, rfl⟩) | (go_at_call 13; refine (rint_yes6 _).mono ?_; rintro e w' ⟨rfl, rfl⟩) | (go_at_call 14; refine (rwrap6 _ _).mono ?_; rintro e w' ⟨rfl, rfl⟩) | fail)
    go_ret2
    exact ⟨rfl, 0, rfl⟩
  · have HA : absI 6 x = x := by unfold absI; rw [if_neg h]
    rw [HA]
    clear HA
    unfold Ans
    go_enter Try.func5, Try.ntmps5
    go_wp2_with (first | (go_at_call 7; refine (rcheck_any _ _ _).mono ?_; rintro e w' ⟨rfl, rfl⟩) | (go_at_call 13; refine (rint_yes6 _).mono ?_; rintro e w' ⟨rfl, rfl⟩) | (go_at_call 14; refine (rwrap6 _ _).mono ?_; rintro e w' ⟨rfl, rfl⟩) | fail)
    go_ret2
    exact ⟨rfl, 0, rfl⟩

set_option maxHeartbeats 400000 in
theorem runary2_7 (x : Int) (w : World) (hx : chk 7 x = true) : Calls Try.prog 5 #[.string ⟨#[65, 98, 115]⟩, .int .i64 7, .int .i64 x] w (Ans (absI 7 x) (0) w) := by
  by_cases h : x < 0
  · have HA : absI 7 x = wrapT 7 (wrap64 (-x)) := by unfold absI; rw [if_pos h]
    rw [HA]
    clear HA
    unfold Ans
    go_enter Try.func5, Try.ntmps5
    go_wp2_with (first | (go_at_call 7; refine (rcheck_any _ _ _).mono ?_; rintro e w' ⟨rfl, rfl⟩) | (go_at_call 13; refine (rint_yes7 _).mono ?_; rintro e w' ⟨rfl, rfl⟩) | (go_at_call 14; refine (rwrap7 _ _).mono ?_; rintro e w' ⟨rfl, rfl⟩) | fail)
    go_ret2
    exact ⟨rfl, 0, rfl⟩
  · have HA : absI 7 x = x := by unfold absI; rw [if_neg h]
    rw [HA]
    clear HA
    unfold Ans
    go_enter Try.func5, Try.ntmps5
    go_wp2_with (first | (go_at_call 7; refine (rcheck_any _ _ _).mono ?_; rintro e w' ⟨rfl, rfl⟩) | (go_at_call 13; refine (rint_yes7 _).mono ?_; rintro e w' ⟨rfl, rfl⟩) | (go_at_call 14; refine (rwrap7 _ _).mono ?_; rintro e w' ⟨rfl, rfl⟩) | fail)
    go_ret2
    exact ⟨rfl, 0, rfl⟩

set_option maxHeartbeats 400000 in
theorem runary2_9 (x : Int) (w : World) (hx : chk 9 x = true) : Calls Try.prog 5 #[.string ⟨#[65, 98, 115]⟩, .int .i64 9, .int .i64 x] w (Ans (0) (1) w) := by
  unfold Ans
  go_enter Try.func5, Try.ntmps5
  go_wp2_with (first | (go_at_call 7; refine (rcheck_any _ _ _).mono ?_; rintro e w' ⟨rfl, rfl⟩) | (go_at_call 13; refine (rint_no9 _).mono ?_; rintro e w' ⟨rfl, rfl⟩) | fail)
  go_ret2
  exact ⟨rfl, 0, rfl⟩

set_option maxHeartbeats 400000 in
theorem runary3_1 (x : Int) (w : World) (hx : chk 1 x = true) : Calls Try.prog 5 #[.string ⟨#[78, 111, 116]⟩, .int .i64 1, .int .i64 x] w (Ans (0) (1) w) := by
  unfold Ans
  go_enter Try.func5, Try.ntmps5
  go_wp2_with (first | (go_at_call 7; refine (rcheck_any _ _ _).mono ?_; rintro e w' ⟨rfl, rfl⟩) | (go_at_call 13; refine (rint_no1 _).mono ?_; rintro e w' ⟨rfl, rfl⟩) | (go_at_call 15; refine (rone3 _ _).mono ?_; rintro e w' ⟨n, rfl, rfl⟩) | fail)
  go_ret2
  exact ⟨rfl, _, rfl⟩

set_option maxHeartbeats 400000 in
theorem runary3_6 (x : Int) (w : World) (hx : chk 6 x = true) : Calls Try.prog 5 #[.string ⟨#[78, 111, 116]⟩, .int .i64 6, .int .i64 x] w (Ans (0) (1) w) := by
  unfold Ans
  go_enter Try.func5, Try.ntmps5
  go_wp2_with (first | (go_at_call 7; refine (rcheck_any _ _ _).mono ?_; rintro e w' ⟨rfl, rfl⟩) | (go_at_call 13; refine (rint_yes6 _).mono ?_; rintro e w' ⟨rfl, rfl⟩) | (go_at_call 14; refine (rwrap6 _ _).mono ?_; rintro e w' ⟨rfl, rfl⟩) | fail)
  go_ret2
  exact ⟨rfl, 0, rfl⟩

set_option maxHeartbeats 400000 in
theorem runary3_7 (x : Int) (w : World) (hx : chk 7 x = true) : Calls Try.prog 5 #[.string ⟨#[78, 111, 116]⟩, .int .i64 7, .int .i64 x] w (Ans (0) (1) w) := by
  unfold Ans
  go_enter Try.func5, Try.ntmps5
  go_wp2_with (first | (go_at_call 7; refine (rcheck_any _ _ _).mono ?_; rintro e w' ⟨rfl, rfl⟩) | (go_at_call 13; refine (rint_yes7 _).mono ?_; rintro e w' ⟨rfl, rfl⟩) | (go_at_call 14; refine (rwrap7 _ _).mono ?_; rintro e w' ⟨rfl, rfl⟩) | fail)
  go_ret2
  exact ⟨rfl, 0, rfl⟩

set_option maxHeartbeats 400000 in
theorem runary3_9 (x : Int) (w : World) (hx : chk 9 x = true) : Calls Try.prog 5 #[.string ⟨#[78, 111, 116]⟩, .int .i64 9, .int .i64 x] w (Ans ((1 - x)) (0) w) := by
  have e9 : wrap64 (1 - x) = 1 - x := by have h := hx; unfold chk at h; simp at h; unfold wrap64; omega
  unfold Ans
  go_enter Try.func5, Try.ntmps5
  go_wp2_with (first | (go_at_call 7; refine (rcheck_any _ _ _).mono ?_; rintro e w' ⟨rfl, rfl⟩) | (go_at_call 13; refine (rint_no9 _).mono ?_; rintro e w' ⟨rfl, rfl⟩) | fail)
  go_ret2
  exact ⟨congrArg (fun z => Ending.returned (Value.tuple #[.int .i64 z, .int .i64 0])) e9, 0, rfl⟩

set_option maxHeartbeats 400000 in
theorem runary4_1 (x : Int) (w : World) (hx : chk 1 x = true) : Calls Try.prog 5 #[.string ⟨#[82, 101, 108, 117]⟩, .int .i64 1, .int .i64 x] w (Ans (tob (reluF (fb x))) (0) w) := by
  have HX : Hid (chk 1 x = true) := hx
  unfold Ans
  go_enter Try.func5, Try.ntmps5
  go_wp2_with (first | (go_at_call 7; refine (rcheck_any _ _ _).mono ?_; rintro e w' ⟨rfl, rfl⟩) | (go_at_call 13; refine (rint_no1 _).mono ?_; rintro e w' ⟨rfl, rfl⟩) | (go_at_call 15; refine (rone4 _ _ HX.out).mono ?_; rintro e w' ⟨n, rfl, rfl⟩) | fail)
  go_ret2
  exact ⟨rfl, _, rfl⟩

set_option maxHeartbeats 400000 in
theorem runary4_6 (x : Int) (w : World) (hx : chk 6 x = true) : Calls Try.prog 5 #[.string ⟨#[82, 101, 108, 117]⟩, .int .i64 6, .int .i64 x] w (Ans (0) (1) w) := by
  unfold Ans
  go_enter Try.func5, Try.ntmps5
  go_wp2_with (first | (go_at_call 7; refine (rcheck_any _ _ _).mono ?_; rintro e w' ⟨rfl, rfl⟩) | (go_at_call 13; refine (rint_yes6 _).mono ?_; rintro e w' ⟨rfl, rfl⟩) | (go_at_call 14; refine (rwrap6 _ _).mono ?_; rintro e w' ⟨rfl, rfl⟩) | fail)
  go_ret2
  exact ⟨rfl, 0, rfl⟩

set_option maxHeartbeats 400000 in
theorem runary4_7 (x : Int) (w : World) (hx : chk 7 x = true) : Calls Try.prog 5 #[.string ⟨#[82, 101, 108, 117]⟩, .int .i64 7, .int .i64 x] w (Ans (0) (1) w) := by
  unfold Ans
  go_enter Try.func5, Try.ntmps5
  go_wp2_with (first | (go_at_call 7; refine (rcheck_any _ _ _).mono ?_; rintro e w' ⟨rfl, rfl⟩) | (go_at_call 13; refine (rint_yes7 _).mono ?_; rintro e w' ⟨rfl, rfl⟩) | (go_at_call 14; refine (rwrap7 _ _).mono ?_; rintro e w' ⟨rfl, rfl⟩) | fail)
  go_ret2
  exact ⟨rfl, 0, rfl⟩

set_option maxHeartbeats 400000 in
theorem runary4_9 (x : Int) (w : World) (hx : chk 9 x = true) : Calls Try.prog 5 #[.string ⟨#[82, 101, 108, 117]⟩, .int .i64 9, .int .i64 x] w (Ans (0) (1) w) := by
  unfold Ans
  go_enter Try.func5, Try.ntmps5
  go_wp2_with (first | (go_at_call 7; refine (rcheck_any _ _ _).mono ?_; rintro e w' ⟨rfl, rfl⟩) | (go_at_call 13; refine (rint_no9 _).mono ?_; rintro e w' ⟨rfl, rfl⟩) | fail)
  go_ret2
  exact ⟨rfl, 0, rfl⟩

set_option maxHeartbeats 400000 in
theorem runary5_1 (x : Int) (w : World) (hx : chk 1 x = true) : Calls Try.prog 5 #[.string ⟨#[83, 113, 114, 116]⟩, .int .i64 1, .int .i64 x] w (Ans (sqB (fb x)) (0) w) := by
  unfold Ans
  go_enter Try.func5, Try.ntmps5
  go_wp2_with (first | (go_at_call 7; refine (rcheck_any _ _ _).mono ?_; rintro e w' ⟨rfl, rfl⟩) | (go_at_call 13; refine (rint_no1 _).mono ?_; rintro e w' ⟨rfl, rfl⟩) | (go_at_call 15; refine (rone5 _ _).mono ?_; rintro e w' ⟨n, rfl, rfl⟩) | fail)
  go_ret2
  exact ⟨rfl, _, rfl⟩

set_option maxHeartbeats 400000 in
theorem runary5_6 (x : Int) (w : World) (hx : chk 6 x = true) : Calls Try.prog 5 #[.string ⟨#[83, 113, 114, 116]⟩, .int .i64 6, .int .i64 x] w (Ans (0) (1) w) := by
  unfold Ans
  go_enter Try.func5, Try.ntmps5
  go_wp2_with (first | (go_at_call 7; refine (rcheck_any _ _ _).mono ?_; rintro e w' ⟨rfl, rfl⟩) | (go_at_call 13; refine (rint_yes6 _).mono ?_; rintro e w' ⟨rfl, rfl⟩) | (go_at_call 14; refine (rwrap6 _ _).mono ?_; rintro e w' ⟨rfl, rfl⟩) | fail)
  go_ret2
  exact ⟨rfl, 0, rfl⟩

set_option maxHeartbeats 400000 in
theorem runary5_7 (x : Int) (w : World) (hx : chk 7 x = true) : Calls Try.prog 5 #[.string ⟨#[83, 113, 114, 116]⟩, .int .i64 7, .int .i64 x] w (Ans (0) (1) w) := by
  unfold Ans
  go_enter Try.func5, Try.ntmps5
  go_wp2_with (first | (go_at_call 7; refine (rcheck_any _ _ _).mono ?_; rintro e w' ⟨rfl, rfl⟩) | (go_at_call 13; refine (rint_yes7 _).mono ?_; rintro e w' ⟨rfl, rfl⟩) | (go_at_call 14; refine (rwrap7 _ _).mono ?_; rintro e w' ⟨rfl, rfl⟩) | fail)
  go_ret2
  exact ⟨rfl, 0, rfl⟩

set_option maxHeartbeats 400000 in
theorem runary5_9 (x : Int) (w : World) (hx : chk 9 x = true) : Calls Try.prog 5 #[.string ⟨#[83, 113, 114, 116]⟩, .int .i64 9, .int .i64 x] w (Ans (0) (1) w) := by
  unfold Ans
  go_enter Try.func5, Try.ntmps5
  go_wp2_with (first | (go_at_call 7; refine (rcheck_any _ _ _).mono ?_; rintro e w' ⟨rfl, rfl⟩) | (go_at_call 13; refine (rint_no9 _).mono ?_; rintro e w' ⟨rfl, rfl⟩) | fail)
  go_ret2
  exact ⟨rfl, 0, rfl⟩

set_option maxHeartbeats 400000 in
theorem runary6_1 (x : Int) (w : World) (hx : chk 1 x = true) : Calls Try.prog 5 #[.string ⟨#[70, 108, 111, 111, 114]⟩, .int .i64 1, .int .i64 x] w (Ans (flB (fb x)) (0) w) := by
  unfold Ans
  go_enter Try.func5, Try.ntmps5
  go_wp2_with (first | (go_at_call 7; refine (rcheck_any _ _ _).mono ?_; rintro e w' ⟨rfl, rfl⟩) | (go_at_call 13; refine (rint_no1 _).mono ?_; rintro e w' ⟨rfl, rfl⟩) | (go_at_call 15; refine (rone6 _ _).mono ?_; rintro e w' ⟨n, rfl, rfl⟩) | fail)
  go_ret2
  exact ⟨rfl, _, rfl⟩

set_option maxHeartbeats 400000 in
theorem runary6_6 (x : Int) (w : World) (hx : chk 6 x = true) : Calls Try.prog 5 #[.string ⟨#[70, 108, 111, 111, 114]⟩, .int .i64 6, .int .i64 x] w (Ans (0) (1) w) := by
  unfold Ans
  go_enter Try.func5, Try.ntmps5
  go_wp2_with (first | (go_at_call 7; refine (rcheck_any _ _ _).mono ?_; rintro e w' ⟨rfl, rfl⟩) | (go_at_call 13; refine (rint_yes6 _).mono ?_; rintro e w' ⟨rfl, rfl⟩) | (go_at_call 14; refine (rwrap6 _ _).mono ?_; rintro e w' ⟨rfl, rfl⟩) | fail)
  go_ret2
  exact ⟨rfl, 0, rfl⟩

set_option maxHeartbeats 400000 in
theorem runary6_7 (x : Int) (w : World) (hx : chk 7 x = true) : Calls Try.prog 5 #[.string ⟨#[70, 108, 111, 111, 114]⟩, .int .i64 7, .int .i64 x] w (Ans (0) (1) w) := by
  unfold Ans
  go_enter Try.func5, Try.ntmps5
  go_wp2_with (first | (go_at_call 7; refine (rcheck_any _ _ _).mono ?_; rintro e w' ⟨rfl, rfl⟩) | (go_at_call 13; refine (rint_yes7 _).mono ?_; rintro e w' ⟨rfl, rfl⟩) | (go_at_call 14; refine (rwrap7 _ _).mono ?_; rintro e w' ⟨rfl, rfl⟩) | fail)
  go_ret2
  exact ⟨rfl, 0, rfl⟩

set_option maxHeartbeats 400000 in
theorem runary6_9 (x : Int) (w : World) (hx : chk 9 x = true) : Calls Try.prog 5 #[.string ⟨#[70, 108, 111, 111, 114]⟩, .int .i64 9, .int .i64 x] w (Ans (0) (1) w) := by
  unfold Ans
  go_enter Try.func5, Try.ntmps5
  go_wp2_with (first | (go_at_call 7; refine (rcheck_any _ _ _).mono ?_; rintro e w' ⟨rfl, rfl⟩) | (go_at_call 13; refine (rint_no9 _).mono ?_; rintro e w' ⟨rfl, rfl⟩) | fail)
  go_ret2
  exact ⟨rfl, 0, rfl⟩

set_option maxHeartbeats 400000 in
theorem runary7_1 (x : Int) (w : World) (hx : chk 1 x = true) : Calls Try.prog 5 #[.string ⟨#[69, 120, 112]⟩, .int .i64 1, .int .i64 x] w (Ans (tob (exW (fb x))) (0) w) := by
  unfold Ans
  go_enter Try.func5, Try.ntmps5
  go_wp2_with (first | (go_at_call 7; refine (rcheck_any _ _ _).mono ?_; rintro e w' ⟨rfl, rfl⟩) | (go_at_call 13; refine (rint_no1 _).mono ?_; rintro e w' ⟨rfl, rfl⟩) | (go_at_call 15; refine (rone7 _ _).mono ?_; rintro e w' ⟨n, rfl, rfl⟩) | fail)
  go_ret2
  exact ⟨rfl, _, rfl⟩

set_option maxHeartbeats 400000 in
theorem runary7_6 (x : Int) (w : World) (hx : chk 6 x = true) : Calls Try.prog 5 #[.string ⟨#[69, 120, 112]⟩, .int .i64 6, .int .i64 x] w (Ans (0) (1) w) := by
  unfold Ans
  go_enter Try.func5, Try.ntmps5
  go_wp2_with (first | (go_at_call 7; refine (rcheck_any _ _ _).mono ?_; rintro e w' ⟨rfl, rfl⟩) | (go_at_call 13; refine (rint_yes6 _).mono ?_; rintro e w' ⟨rfl, rfl⟩) | (go_at_call 14; refine (rwrap6 _ _).mono ?_; rintro e w' ⟨rfl, rfl⟩) | fail)
  go_ret2
  exact ⟨rfl, 0, rfl⟩

set_option maxHeartbeats 400000 in
theorem runary7_7 (x : Int) (w : World) (hx : chk 7 x = true) : Calls Try.prog 5 #[.string ⟨#[69, 120, 112]⟩, .int .i64 7, .int .i64 x] w (Ans (0) (1) w) := by
  unfold Ans
  go_enter Try.func5, Try.ntmps5
  go_wp2_with (first | (go_at_call 7; refine (rcheck_any _ _ _).mono ?_; rintro e w' ⟨rfl, rfl⟩) | (go_at_call 13; refine (rint_yes7 _).mono ?_; rintro e w' ⟨rfl, rfl⟩) | (go_at_call 14; refine (rwrap7 _ _).mono ?_; rintro e w' ⟨rfl, rfl⟩) | fail)
  go_ret2
  exact ⟨rfl, 0, rfl⟩

set_option maxHeartbeats 400000 in
theorem runary7_9 (x : Int) (w : World) (hx : chk 9 x = true) : Calls Try.prog 5 #[.string ⟨#[69, 120, 112]⟩, .int .i64 9, .int .i64 x] w (Ans (0) (1) w) := by
  unfold Ans
  go_enter Try.func5, Try.ntmps5
  go_wp2_with (first | (go_at_call 7; refine (rcheck_any _ _ _).mono ?_; rintro e w' ⟨rfl, rfl⟩) | (go_at_call 13; refine (rint_no9 _).mono ?_; rintro e w' ⟨rfl, rfl⟩) | fail)
  go_ret2
  exact ⟨rfl, 0, rfl⟩

set_option maxHeartbeats 400000 in
theorem runary8_1 (x : Int) (w : World) (hx : chk 1 x = true) : Calls Try.prog 5 #[.string ⟨#[83, 105, 103, 109, 111, 105, 100]⟩, .int .i64 1, .int .i64 x] w (Ans (sgI (exW (negF (fb x)))) (0) w) := by
  have HX : Hid (chk 1 x = true) := hx
  unfold Ans
  go_enter Try.func5, Try.ntmps5
  go_wp2_with (first | (go_at_call 7; refine (rcheck_any _ _ _).mono ?_; rintro e w' ⟨rfl, rfl⟩) | (go_at_call 13; refine (rint_no1 _).mono ?_; rintro e w' ⟨rfl, rfl⟩) | (go_at_call 15; refine (rone8 _ _ HX.out).mono ?_; rintro e w' ⟨n, rfl, rfl⟩) | fail)
  go_ret2
  exact ⟨rfl, _, rfl⟩

set_option maxHeartbeats 400000 in
theorem runary8_6 (x : Int) (w : World) (hx : chk 6 x = true) : Calls Try.prog 5 #[.string ⟨#[83, 105, 103, 109, 111, 105, 100]⟩, .int .i64 6, .int .i64 x] w (Ans (0) (1) w) := by
  unfold Ans
  go_enter Try.func5, Try.ntmps5
  go_wp2_with (first | (go_at_call 7; refine (rcheck_any _ _ _).mono ?_; rintro e w' ⟨rfl, rfl⟩) | (go_at_call 13; refine (rint_yes6 _).mono ?_; rintro e w' ⟨rfl, rfl⟩) | (go_at_call 14; refine (rwrap6 _ _).mono ?_; rintro e w' ⟨rfl, rfl⟩) | fail)
  go_ret2
  exact ⟨rfl, 0, rfl⟩

set_option maxHeartbeats 400000 in
theorem runary8_7 (x : Int) (w : World) (hx : chk 7 x = true) : Calls Try.prog 5 #[.string ⟨#[83, 105, 103, 109, 111, 105, 100]⟩, .int .i64 7, .int .i64 x] w (Ans (0) (1) w) := by
  unfold Ans
  go_enter Try.func5, Try.ntmps5
  go_wp2_with (first | (go_at_call 7; refine (rcheck_any _ _ _).mono ?_; rintro e w' ⟨rfl, rfl⟩) | (go_at_call 13; refine (rint_yes7 _).mono ?_; rintro e w' ⟨rfl, rfl⟩) | (go_at_call 14; refine (rwrap7 _ _).mono ?_; rintro e w' ⟨rfl, rfl⟩) | fail)
  go_ret2
  exact ⟨rfl, 0, rfl⟩

set_option maxHeartbeats 400000 in
theorem runary8_9 (x : Int) (w : World) (hx : chk 9 x = true) : Calls Try.prog 5 #[.string ⟨#[83, 105, 103, 109, 111, 105, 100]⟩, .int .i64 9, .int .i64 x] w (Ans (0) (1) w) := by
  unfold Ans
  go_enter Try.func5, Try.ntmps5
  go_wp2_with (first | (go_at_call 7; refine (rcheck_any _ _ _).mono ?_; rintro e w' ⟨rfl, rfl⟩) | (go_at_call 13; refine (rint_no9 _).mono ?_; rintro e w' ⟨rfl, rfl⟩) | fail)
  go_ret2
  exact ⟨rfl, 0, rfl⟩

set_option maxHeartbeats 400000 in
theorem runary9_1 (x : Int) (w : World) (hx : chk 1 x = true) : Calls Try.prog 5 #[.string ⟨#[84, 97, 110, 104]⟩, .int .i64 1, .int .i64 x] w (Ans (thI (fb x)) (0) w) := by
  have HX : Hid (chk 1 x = true) := hx
  unfold Ans
  go_enter Try.func5, Try.ntmps5
  go_wp2_with (first | (go_at_call 7; refine (rcheck_any _ _ _).mono ?_; rintro e w' ⟨rfl, rfl⟩) | (go_at_call 13; refine (rint_no1 _).mono ?_; rintro e w' ⟨rfl, rfl⟩) | (go_at_call 15; refine (rone9 _ _ HX.out).mono ?_; rintro e w' ⟨n, rfl, rfl⟩) | fail)
  go_ret2
  exact ⟨rfl, _, rfl⟩

set_option maxHeartbeats 400000 in
theorem runary9_6 (x : Int) (w : World) (hx : chk 6 x = true) : Calls Try.prog 5 #[.string ⟨#[84, 97, 110, 104]⟩, .int .i64 6, .int .i64 x] w (Ans (0) (1) w) := by
  unfold Ans
  go_enter Try.func5, Try.ntmps5
  go_wp2_with (first | (go_at_call 7; refine (rcheck_any _ _ _).mono ?_; rintro e w' ⟨rfl, rfl⟩) | (go_at_call 13; refine (rint_yes6 _).mono ?_; rintro e w' ⟨rfl, rfl⟩) | (go_at_call 14; refine (rwrap6 _ _).mono ?_; rintro e w' ⟨rfl, rfl⟩) | fail)
  go_ret2
  exact ⟨rfl, 0, rfl⟩

set_option maxHeartbeats 400000 in
theorem runary9_7 (x : Int) (w : World) (hx : chk 7 x = true) : Calls Try.prog 5 #[.string ⟨#[84, 97, 110, 104]⟩, .int .i64 7, .int .i64 x] w (Ans (0) (1) w) := by
  unfold Ans
  go_enter Try.func5, Try.ntmps5
  go_wp2_with (first | (go_at_call 7; refine (rcheck_any _ _ _).mono ?_; rintro e w' ⟨rfl, rfl⟩) | (go_at_call 13; refine (rint_yes7 _).mono ?_; rintro e w' ⟨rfl, rfl⟩) | (go_at_call 14; refine (rwrap7 _ _).mono ?_; rintro e w' ⟨rfl, rfl⟩) | fail)
  go_ret2
  exact ⟨rfl, 0, rfl⟩

set_option maxHeartbeats 400000 in
theorem runary9_9 (x : Int) (w : World) (hx : chk 9 x = true) : Calls Try.prog 5 #[.string ⟨#[84, 97, 110, 104]⟩, .int .i64 9, .int .i64 x] w (Ans (0) (1) w) := by
  unfold Ans
  go_enter Try.func5, Try.ntmps5
  go_wp2_with (first | (go_at_call 7; refine (rcheck_any _ _ _).mono ?_; rintro e w' ⟨rfl, rfl⟩) | (go_at_call 13; refine (rint_no9 _).mono ?_; rintro e w' ⟨rfl, rfl⟩) | fail)
  go_ret2
  exact ⟨rfl, 0, rfl⟩

set_option maxHeartbeats 400000 in
theorem unaryF5 (x : Int) (w : World) (hx : chk 1 x = true) : Calls Try.prog 4 #[.string ⟨#[83, 113, 114, 116]⟩, .int .i64 1, .int .i64 x] w (Ans (sqB (fb x)) 0 w) := by
  unfold Ans
  go_enter Try.func4, Try.ntmps4
  go_wp2_with (first | (go_at_call 6; refine (check_any _ _ _).mono ?_; rintro e w' ⟨rfl, rfl⟩) | (go_at_call 10; refine (from_any _ _).mono ?_; rintro e w' ⟨rfl, rfl⟩) | (go_at_call 9; refine (round5_s _ _ (fb_lt _)).mono ?_; rintro e w' ⟨n, rfl, rfl⟩) | fail)
  go_ret2
  exact ⟨rfl, _, rfl⟩

set_option maxHeartbeats 400000 in
theorem unaryF6 (x : Int) (w : World) (hx : chk 1 x = true) : Calls Try.prog 4 #[.string ⟨#[70, 108, 111, 111, 114]⟩, .int .i64 1, .int .i64 x] w (Ans (flB (fb x)) 0 w) := by
  unfold Ans
  go_enter Try.func4, Try.ntmps4
  go_wp2_with (first | (go_at_call 6; refine (check_any _ _ _).mono ?_; rintro e w' ⟨rfl, rfl⟩) | (go_at_call 10; refine (from_any _ _).mono ?_; rintro e w' ⟨rfl, rfl⟩) | (go_at_call 9; refine (round6_s _ _ (fb_lt _)).mono ?_; rintro e w' ⟨n, rfl, rfl⟩) | fail)
  go_ret2
  exact ⟨rfl, _, rfl⟩

set_option maxHeartbeats 400000 in
theorem unaryF7 (x : Int) (w : World) (hx : chk 1 x = true) : Calls Try.prog 4 #[.string ⟨#[69, 120, 112]⟩, .int .i64 1, .int .i64 x] w (Ans (tob (exW (fb x))) 0 w) := by
  unfold Ans
  go_enter Try.func4, Try.ntmps4
  go_wp2_with (first | (go_at_call 6; refine (check_any _ _ _).mono ?_; rintro e w' ⟨rfl, rfl⟩) | (go_at_call 10; refine (from_any _ _).mono ?_; rintro e w' ⟨rfl, rfl⟩) | (go_at_call 9; refine (round7_s _ _ (fb_lt _)).mono ?_; rintro e w' ⟨n, rfl, rfl⟩) | fail)
  go_ret2
  exact ⟨rfl, _, rfl⟩

set_option maxHeartbeats 400000 in
theorem unaryF8 (x : Int) (w : World) (hx : chk 1 x = true) : Calls Try.prog 4 #[.string ⟨#[83, 105, 103, 109, 111, 105, 100]⟩, .int .i64 1, .int .i64 x] w (Ans (sgI (exW (negF (fb x)))) 0 w) := by
  unfold Ans
  go_enter Try.func4, Try.ntmps4
  go_wp2_with (first | (go_at_call 6; refine (check_any _ _ _).mono ?_; rintro e w' ⟨rfl, rfl⟩) | (go_at_call 10; refine (from_any _ _).mono ?_; rintro e w' ⟨rfl, rfl⟩) | (go_at_call 9; refine (round8_s _ _ (fb_lt _)).mono ?_; rintro e w' ⟨n, rfl, rfl⟩) | fail)
  go_ret2
  exact ⟨rfl, _, rfl⟩

set_option maxHeartbeats 400000 in
theorem unaryF9 (x : Int) (w : World) (hx : chk 1 x = true) : Calls Try.prog 4 #[.string ⟨#[84, 97, 110, 104]⟩, .int .i64 1, .int .i64 x] w (Ans (thI (fb x)) 0 w) := by
  unfold Ans
  go_enter Try.func4, Try.ntmps4
  go_wp2_with (first | (go_at_call 6; refine (check_any _ _ _).mono ?_; rintro e w' ⟨rfl, rfl⟩) | (go_at_call 10; refine (from_any _ _).mono ?_; rintro e w' ⟨rfl, rfl⟩) | (go_at_call 9; refine (round9_s _ _ (fb_lt _)).mono ?_; rintro e w' ⟨n, rfl, rfl⟩) | fail)
  go_ret2
  exact ⟨rfl, _, rfl⟩

structure Other1 (s : ByteArray) : Prop where
  n0 : (s.toList == [73, 100, 101, 110, 116, 105, 116, 121]) = false
  n1 : (s.toList == [78, 101, 103]) = false
  n2 : (s.toList == [65, 98, 115]) = false
  n3 : (s.toList == [78, 111, 116]) = false
  n4 : (s.toList == [82, 101, 108, 117]) = false
  n5 : (s.toList == [83, 113, 114, 116]) = false
  n6 : (s.toList == [70, 108, 111, 111, 114]) = false
  n7 : (s.toList == [69, 120, 112]) = false
  n8 : (s.toList == [83, 105, 103, 109, 111, 105, 100]) = false
  n9 : (s.toList == [84, 97, 110, 104]) = false

set_option maxHeartbeats 400000 in
theorem rone_other (s : ByteArray) (ho : Other1 s) (x : Int) (w : World) : Calls Try.prog 15 #[.string s, .int .i64 x] w fun e w' => e = .returned (.tuple #[.int .i64 0, .bool false]) ∧ w' = w := by
  have o0 := ho.n0
  have o1 := ho.n1
  have o2 := ho.n2
  have o3 := ho.n3
  have o4 := ho.n4
  have o5 := ho.n5
  have o6 := ho.n6
  have o7 := ho.n7
  have o8 := ho.n8
  have o9 := ho.n9
  clear ho
  go_enter Try.func15, Try.ntmps15
  go_wp2_with (first | (go_at_call 16; refine (rf_any _ _).mono ?_; rintro e w' ⟨rfl, rfl⟩) | fail)
  go_ret2
  exact ⟨rfl, rfl⟩

set_option maxHeartbeats 400000 in
theorem unaryFloat_other (s : ByteArray) (ho : Other1 s) (b : Nat) (w : World) : Calls Try.prog 9 #[.string s, .float .f32 b] w fun e w' => e = .returned (.tuple #[.int .i64 0, .int .i64 1]) ∧ w' = w := by
  have o0 := ho.n0
  have o1 := ho.n1
  have o2 := ho.n2
  have o3 := ho.n3
  have o4 := ho.n4
  have o5 := ho.n5
  have o6 := ho.n6
  have o7 := ho.n7
  have o8 := ho.n8
  have o9 := ho.n9
  clear ho
  go_enter Try.func9, Try.ntmps9
  go_wp2_with fail
  go_ret2
  exact ⟨rfl, rfl⟩

set_option maxHeartbeats 400000 in
theorem unaryInt_other (s : ByteArray) (ho : Other1 s) (t x : Int) (w : World) : Calls Try.prog 11 #[.string s, .int .i64 t, .int .i64 x] w fun e w' => e = .returned (.tuple #[.int .i64 0, .int .i64 1]) ∧ w' = w := by
  have o0 := ho.n0
  have o1 := ho.n1
  have o2 := ho.n2
  have o3 := ho.n3
  have o4 := ho.n4
  have o5 := ho.n5
  have o6 := ho.n6
  have o7 := ho.n7
  have o8 := ho.n8
  have o9 := ho.n9
  clear ho
  go_enter Try.func11, Try.ntmps11
  go_wp2_with fail
  go_ret2
  exact ⟨rfl, rfl⟩

set_option maxHeartbeats 400000 in
theorem unaryBool_other (s : ByteArray) (ho : Other1 s) (x : Int) (w : World) : Calls Try.prog 12 #[.string s, .int .i64 x] w fun e w' => e = .returned (.tuple #[.int .i64 0, .int .i64 1]) ∧ w' = w := by
  have o0 := ho.n0
  have o1 := ho.n1
  have o2 := ho.n2
  have o3 := ho.n3
  have o4 := ho.n4
  have o5 := ho.n5
  have o6 := ho.n6
  have o7 := ho.n7
  have o8 := ho.n8
  have o9 := ho.n9
  clear ho
  go_enter Try.func12, Try.ntmps12
  go_wp2_with fail
  go_ret2
  exact ⟨rfl, rfl⟩

set_option maxHeartbeats 1000000 in
theorem other1_ref (s : ByteArray) (ho : Other1 s) (t x : Int) (w : World) (hx : chk t x = true) : Calls Try.prog 5 #[.string s, .int .i64 t, .int .i64 x] w (Ans 0 1 w) := by
  have HO : Hid (Other1 s) := ho
  unfold Ans
  have o0 := ho.n0
  have o1 := ho.n1
  have o2 := ho.n2
  have o3 := ho.n3
  have o4 := ho.n4
  have o5 := ho.n5
  have o6 := ho.n6
  have o7 := ho.n7
  have o8 := ho.n8
  have o9 := ho.n9
  clear ho
  rcases chk_types t x hx with rfl | rfl | rfl | rfl
  all_goals
    go_enter Try.func5, Try.ntmps5
    go_wp2_with (first | (go_at_call 7; refine (rcheck_any _ _ _).mono ?_; rintro e w' ⟨rfl, rfl⟩) | (go_at_call 15; refine (rone_other _ HO.out _ _).mono ?_; rintro e w' ⟨rfl, rfl⟩) | go_in)
    go_ret2
    exact ⟨rfl, 0, rfl⟩

set_option maxHeartbeats 1000000 in
theorem other1_code (s : ByteArray) (ho : Other1 s) (t x : Int) (w : World) (hx : chk t x = true) : Calls Try.prog 4 #[.string s, .int .i64 t, .int .i64 x] w (Ans 0 1 w) := by
  have HO : Hid (Other1 s) := ho
  unfold Ans
  have o0 := ho.n0
  have o1 := ho.n1
  have o2 := ho.n2
  have o3 := ho.n3
  have o4 := ho.n4
  have o5 := ho.n5
  have o6 := ho.n6
  have o7 := ho.n7
  have o8 := ho.n8
  have o9 := ho.n9
  clear ho
  rcases chk_types t x hx with rfl | rfl | rfl | rfl
  all_goals
    go_enter Try.func4, Try.ntmps4
    go_wp2_with (first | (go_at_call 6; refine (check_any _ _ _).mono ?_; rintro e w' ⟨rfl, rfl⟩) | (go_at_call 9; refine (unaryFloat_other _ HO.out _ _).mono ?_; rintro e w' ⟨rfl, rfl⟩) | (go_at_call 11; refine (unaryInt_other _ HO.out _ _ _).mono ?_; rintro e w' ⟨rfl, rfl⟩) | (go_at_call 12; refine (unaryBool_other _ HO.out _ _).mono ?_; rintro e w' ⟨rfl, rfl⟩) | (go_at_call 10; refine (from_any _ _).mono ?_; rintro e w' ⟨rfl, rfl⟩) | go_in)
    go_ret2
    exact ⟨rfl, 0, rfl⟩

end Go.Proofs.Ytlehjdjhikgffaa
