/- The walks of the document's own Check and operators of two: they give what package num gives. -/
import Derived.Test.YtcfgnhjoajibkabWalkF
import Derived.Test.YtcfgnhjoajibkabPlainR
namespace Go.Proofs.Ytcfgnhjoajibkab
open Go.RowKit
attribute [local go_sem] ext_from ext_bits

set_option maxHeartbeats 400000 in
theorem rf_any (x : Int) (w : World) : Calls Try.prog 27 #[.int .i64 x] w fun e w' => e = .returned (.float .f32 (fb x)) ∧ w' = w := by
  go_enter Try.func27, Try.ntmps27
  go_wp2
  go_ret
  exact ⟨rfl, rfl⟩

set_option maxHeartbeats 400000 in
theorem rbits_any (b : Nat) (w : World) (hb : b < 4294967296) : Calls Try.prog 39 #[.float .f32 b] w fun e w' => e = .returned (.int .i64 (tob b)) ∧ w' = w := by
  by_cases h : (FloatKind.f32.format.order b b != some .eq) = true
  · have c : tob b = 2143289344 := by unfold tob; rw [if_pos h]
    rw [c]; clear c
    go_enter Try.func39, Try.ntmps39
    go_wp2
    go_ret
    exact ⟨rfl, rfl⟩
  · have c : tob b = b := by unfold tob; rw [if_neg h]
    have h' : (FloatKind.f32.format.order b b != some .eq) = false := by simpa using h
    rw [c]; clear c h
    go_enter Try.func39, Try.ntmps39
    go_wp2
    go_ret
    exact ⟨rfl, rfl⟩

set_option maxHeartbeats 400000 in
theorem rcheck_1 (x : Int) (w : World) : Calls Try.prog 12 #[.int .i64 1, .int .i64 x] w fun e w' => e = .returned (.bool (chk 1 x)) ∧ w' = w := by
  by_cases h0 : 0 ≤ x
  · by_cases h1 : x < 4294967296
    · rw [rchk1 x h0 h1]
      cases h : (FloatKind.f32.format.order (fb x) (fb x) == some .eq) with
      | true =>
        go_enter Try.func12, Try.ntmps12
        go_wp2_with (first | (go_at_call 27; refine (rf_any _ _).mono ?_; rintro e w' ⟨rfl, rfl⟩) | go_in)
        go_ret
        exact ⟨rfl, rfl⟩
      | false =>
        go_enter Try.func12, Try.ntmps12
        go_wp2_with (first | (go_at_call 27; refine (rf_any _ _).mono ?_; rintro e w' ⟨rfl, rfl⟩) | go_in)
        go_ret
        exact ⟨rfl, rfl⟩
    · have c : chk 1 x = false := by rw [chk_float 1 x rfl]; simp; omega
      rw [c]; clear c
      go_enter Try.func12, Try.ntmps12
      go_wp2_with (first | (go_at_call 27; refine (rf_any _ _).mono ?_; rintro e w' ⟨rfl, rfl⟩) | go_in)
      go_ret
      exact ⟨rfl, rfl⟩
  · have c : chk 1 x = false := by rw [chk_float 1 x rfl]; simp; omega
    rw [c]; clear c
    go_enter Try.func12, Try.ntmps12
    go_wp2_with (first | (go_at_call 27; refine (rf_any _ _).mono ?_; rintro e w' ⟨rfl, rfl⟩) | go_in)
    go_ret
    exact ⟨rfl, rfl⟩

set_option maxHeartbeats 400000 in
theorem rcheck_6 (x : Int) (w : World) : Calls Try.prog 12 #[.int .i64 6, .int .i64 x] w fun e w' => e = .returned (.bool (chk 6 x)) ∧ w' = w := by
  by_cases h0 : -2147483648 ≤ x
  · have c : chk 6 x = decide (x ≤ 2147483647) := by simp [chk, h0]
    rw [c]; clear c
    go_enter Try.func12, Try.ntmps12
    go_wp2
    go_ret
    exact ⟨rfl, rfl⟩
  · have c : chk 6 x = false := by simp [chk, h0]
    rw [c]; clear c
    go_enter Try.func12, Try.ntmps12
    go_wp2
    go_ret
    exact ⟨rfl, rfl⟩

set_option maxHeartbeats 400000 in
theorem rcheck_7 (x : Int) (w : World) : Calls Try.prog 12 #[.int .i64 7, .int .i64 x] w fun e w' => e = .returned (.bool (chk 7 x)) ∧ w' = w := by
  have c : chk 7 x = true := by simp [chk]
  rw [c]; clear c
  go_enter Try.func12, Try.ntmps12
  go_wp2
  go_ret
  exact ⟨rfl, rfl⟩

set_option maxHeartbeats 400000 in
theorem rcheck_9 (x : Int) (w : World) : Calls Try.prog 12 #[.int .i64 9, .int .i64 x] w fun e w' => e = .returned (.bool (chk 9 x)) ∧ w' = w := by
  by_cases h0 : x = 0
  · have c : chk 9 x = true := by simp [chk, h0]
    rw [c]; clear c; subst h0
    go_enter Try.func12, Try.ntmps12
    go_wp2
    go_ret
    exact ⟨rfl, rfl⟩
  · have c : chk 9 x = (x == 1) := by rw [Bool.eq_iff_iff]; simp [chk, h0]
    have h0' : (x == 0) = false := by simpa using h0
    rw [c]; clear c h0
    go_enter Try.func12, Try.ntmps12
    go_wp2
    go_ret
    exact ⟨rfl, rfl⟩

set_option maxHeartbeats 400000 in
theorem rcheck_no (t x : Int) (w : World) (h1 : (t == 1) = false) (h6 : (t == 6) = false) (h7 : (t == 7) = false) (h9 : (t == 9) = false) : Calls Try.prog 12 #[.int .i64 t, .int .i64 x] w fun e w' => e = .returned (.bool false) ∧ w' = w := by
  go_enter Try.func12, Try.ntmps12
  go_wp2
  go_ret
  exact ⟨rfl, rfl⟩

theorem rcheck_any (t x : Int) (w : World) : Calls Try.prog 12 #[.int .i64 t, .int .i64 x] w fun e w' => e = .returned (.bool (chk t x)) ∧ w' = w := by
  by_cases h1 : t = 1
  · subst h1; exact rcheck_1 x w
  · by_cases h6 : t = 6
    · subst h6; exact rcheck_6 x w
    · by_cases h7 : t = 7
      · subst h7; exact rcheck_7 x w
      · by_cases h9 : t = 9
        · subst h9; exact rcheck_9 x w
        · have c : chk t x = false := by simp [chk, h1, h6, h7, h9]
          rw [c]; exact rcheck_no t x w (by simpa using h1) (by simpa using h6) (by simpa using h7) (by simpa using h9)

set_option maxHeartbeats 400000 in
theorem rfl0 (x y : Int) (w : World) : Calls Try.prog 31 #[.string ⟨#[65, 100, 100]⟩, .int .i64 x, .int .i64 y] w fun e w' => e = .returned (.tuple #[.int .i64 (binFl 0 (fb x) (fb y)).1, .bool true]) ∧ ∃ n, w' = w.drewN n := by
  show Calls _ _ _ _ fun e w' => e = .returned (.tuple #[.int .i64 (tobO (floatBits .add .f32 (fb x) (fb y))), .bool true]) ∧ ∃ n, w' = w.drewN n
  cases h : floatBits .add .f32 (fb x) (fb y) with
  | some r =>
    have hr : r < 4294967296 := Ieee.Format.add_lt _ h
    have hrun := fun w t => run_float_arith (P := Try.prog) w .add t .f32 (fb x) (fb y) r h
    show Calls _ _ _ _ fun e w' => e = .returned (.tuple #[.int .i64 (tob r), .bool true]) ∧ ∃ n, w' = w.drewN n
    clear h
    go_enter Try.func31, Try.ntmps31
    go_wp2_with (first | (go_at_call 27; refine (rf_any _ _).mono ?_; rintro e w' ⟨rfl, rfl⟩) | (go_at_call 39; refine (rbits_any _ _ hr).mono ?_; rintro e w' ⟨rfl, rfl⟩) | go_in)
    go_ret2
    exact ⟨rfl, 0, rfl⟩
  | none =>
    have hrun := fun w t => run_float_none (P := Try.prog) w .add t (fb x) (fb y) (by decide) h
    show Calls _ _ _ _ fun e w' => e = .returned (.tuple #[.int .i64 2143289344, .bool true]) ∧ ∃ n, w' = w.drewN n
    clear h
    go_enter Try.func31, Try.ntmps31
    go_wp2_with (first | (go_at_call 27; refine (rf_any _ _).mono ?_; rintro e w' ⟨rfl, rfl⟩) | (go_at_call 39; refine (rbits_any _ _ (nb_lt _ _ _)).mono ?_; rw [tob_nb]; rintro e w' ⟨rfl, rfl⟩) | go_in)
    go_ret2
    exact ⟨rfl, 1, rfl⟩

set_option maxHeartbeats 400000 in
theorem rfl1 (x y : Int) (w : World) : Calls Try.prog 31 #[.string ⟨#[83, 117, 98]⟩, .int .i64 x, .int .i64 y] w fun e w' => e = .returned (.tuple #[.int .i64 (binFl 1 (fb x) (fb y)).1, .bool true]) ∧ ∃ n, w' = w.drewN n := by
  show Calls _ _ _ _ fun e w' => e = .returned (.tuple #[.int .i64 (tobO (floatBits .sub .f32 (fb x) (fb y))), .bool true]) ∧ ∃ n, w' = w.drewN n
  cases h : floatBits .sub .f32 (fb x) (fb y) with
  | some r =>
    have hr : r < 4294967296 := Ieee.Format.sub_lt _ h
    have hrun := fun w t => run_float_arith (P := Try.prog) w .sub t .f32 (fb x) (fb y) r h
    show Calls _ _ _ _ fun e w' => e = .returned (.tuple #[.int .i64 (tob r), .bool true]) ∧ ∃ n, w' = w.drewN n
    clear h
    go_enter Try.func31, Try.ntmps31
    go_wp2_with (first | (go_at_call 27; refine (rf_any _ _).mono ?_; rintro e w' ⟨rfl, rfl⟩) | (go_at_call 39; refine (rbits_any _ _ hr).mono ?_; rintro e w' ⟨rfl, rfl⟩) | go_in)
    go_ret2
    exact ⟨rfl, 0, rfl⟩
  | none =>
    have hrun := fun w t => run_float_none (P := Try.prog) w .sub t (fb x) (fb y) (by decide) h
    show Calls _ _ _ _ fun e w' => e = .returned (.tuple #[.int .i64 2143289344, .bool true]) ∧ ∃ n, w' = w.drewN n
    clear h
    go_enter Try.func31, Try.ntmps31
    go_wp2_with (first | (go_at_call 27; refine (rf_any _ _).mono ?_; rintro e w' ⟨rfl, rfl⟩) | (go_at_call 39; refine (rbits_any _ _ (nb_lt _ _ _)).mono ?_; rw [tob_nb]; rintro e w' ⟨rfl, rfl⟩) | go_in)
    go_ret2
    exact ⟨rfl, 1, rfl⟩

set_option maxHeartbeats 400000 in
theorem rfl2 (x y : Int) (w : World) : Calls Try.prog 31 #[.string ⟨#[77, 117, 108]⟩, .int .i64 x, .int .i64 y] w fun e w' => e = .returned (.tuple #[.int .i64 (binFl 2 (fb x) (fb y)).1, .bool true]) ∧ ∃ n, w' = w.drewN n := by
  show Calls _ _ _ _ fun e w' => e = .returned (.tuple #[.int .i64 (tobO (floatBits .mul .f32 (fb x) (fb y))), .bool true]) ∧ ∃ n, w' = w.drewN n
  cases h : floatBits .mul .f32 (fb x) (fb y) with
  | some r =>
    have hr : r < 4294967296 := Ieee.Format.mul_lt _ h
    have hrun := fun w t => run_float_arith (P := Try.prog) w .mul t .f32 (fb x) (fb y) r h
    show Calls _ _ _ _ fun e w' => e = .returned (.tuple #[.int .i64 (tob r), .bool true]) ∧ ∃ n, w' = w.drewN n
    clear h
    go_enter Try.func31, Try.ntmps31
    go_wp2_with (first | (go_at_call 27; refine (rf_any _ _).mono ?_; rintro e w' ⟨rfl, rfl⟩) | (go_at_call 39; refine (rbits_any _ _ hr).mono ?_; rintro e w' ⟨rfl, rfl⟩) | go_in)
    go_ret2
    exact ⟨rfl, 0, rfl⟩
  | none =>
    have hrun := fun w t => run_float_none (P := Try.prog) w .mul t (fb x) (fb y) (by decide) h
    show Calls _ _ _ _ fun e w' => e = .returned (.tuple #[.int .i64 2143289344, .bool true]) ∧ ∃ n, w' = w.drewN n
    clear h
    go_enter Try.func31, Try.ntmps31
    go_wp2_with (first | (go_at_call 27; refine (rf_any _ _).mono ?_; rintro e w' ⟨rfl, rfl⟩) | (go_at_call 39; refine (rbits_any _ _ (nb_lt _ _ _)).mono ?_; rw [tob_nb]; rintro e w' ⟨rfl, rfl⟩) | go_in)
    go_ret2
    exact ⟨rfl, 1, rfl⟩

set_option maxHeartbeats 400000 in
theorem rfl3 (x y : Int) (w : World) : Calls Try.prog 31 #[.string ⟨#[68, 105, 118]⟩, .int .i64 x, .int .i64 y] w fun e w' => e = .returned (.tuple #[.int .i64 (binFl 3 (fb x) (fb y)).1, .bool true]) ∧ ∃ n, w' = w.drewN n := by
  show Calls _ _ _ _ fun e w' => e = .returned (.tuple #[.int .i64 (tobO (floatBits .quo .f32 (fb x) (fb y))), .bool true]) ∧ ∃ n, w' = w.drewN n
  cases h : floatBits .quo .f32 (fb x) (fb y) with
  | some r =>
    have hr : r < 4294967296 := Ieee.Format.div_lt _ h
    have hrun := fun w t => run_float_arith (P := Try.prog) w .quo t .f32 (fb x) (fb y) r h
    show Calls _ _ _ _ fun e w' => e = .returned (.tuple #[.int .i64 (tob r), .bool true]) ∧ ∃ n, w' = w.drewN n
    clear h
    go_enter Try.func31, Try.ntmps31
    go_wp2_with (first | (go_at_call 27; refine (rf_any _ _).mono ?_; rintro e w' ⟨rfl, rfl⟩) | (go_at_call 39; refine (rbits_any _ _ hr).mono ?_; rintro e w' ⟨rfl, rfl⟩) | go_in)
    go_ret2
    exact ⟨rfl, 0, rfl⟩
  | none =>
    have hrun := fun w t => run_float_none (P := Try.prog) w .quo t (fb x) (fb y) (by decide) h
    show Calls _ _ _ _ fun e w' => e = .returned (.tuple #[.int .i64 2143289344, .bool true]) ∧ ∃ n, w' = w.drewN n
    clear h
    go_enter Try.func31, Try.ntmps31
    go_wp2_with (first | (go_at_call 27; refine (rf_any _ _).mono ?_; rintro e w' ⟨rfl, rfl⟩) | (go_at_call 39; refine (rbits_any _ _ (nb_lt _ _ _)).mono ?_; rw [tob_nb]; rintro e w' ⟨rfl, rfl⟩) | go_in)
    go_ret2
    exact ⟨rfl, 1, rfl⟩

set_option maxHeartbeats 400000 in
theorem rfl9 (x y : Int) (w : World) : Calls Try.prog 31 #[.string ⟨#[69, 113, 117, 97, 108]⟩, .int .i64 x, .int .i64 y] w fun e w' => e = .returned (.tuple #[.int .i64 (binFl 9 (fb x) (fb y)).1, .bool true]) ∧ ∃ n, w' = w.drewN n := by
  show Calls _ _ _ _ fun e w' => e = .returned (.tuple #[.int .i64 (b2i (ord (fb x) (fb y) == some .eq)), .bool true]) ∧ ∃ n, w' = w.drewN n
  cases h : (ord (fb x) (fb y) == some .eq) with
  | true =>
    have h' : (FloatKind.f32.format.order (fb x) (fb y) == some .eq) = true := h
    show Calls _ _ _ _ fun e w' => e = .returned (.tuple #[.int .i64 1, .bool true]) ∧ ∃ n, w' = w.drewN n
    clear h
    go_enter Try.func31, Try.ntmps31
    go_wp2_with (first | (go_at_call 27; refine (rf_any _ _).mono ?_; rintro e w' ⟨rfl, rfl⟩) | go_in)
    go_ret2
    exact ⟨rfl, 0, rfl⟩
  | false =>
    have h' : (FloatKind.f32.format.order (fb x) (fb y) == some .eq) = false := h
    show Calls _ _ _ _ fun e w' => e = .returned (.tuple #[.int .i64 0, .bool true]) ∧ ∃ n, w' = w.drewN n
    clear h
    go_enter Try.func31, Try.ntmps31
    go_wp2_with (first | (go_at_call 27; refine (rf_any _ _).mono ?_; rintro e w' ⟨rfl, rfl⟩) | go_in)
    go_ret2
    exact ⟨rfl, 0, rfl⟩

set_option maxHeartbeats 400000 in
theorem rfl10 (x y : Int) (w : World) : Calls Try.prog 31 #[.string ⟨#[76, 101, 115, 115]⟩, .int .i64 x, .int .i64 y] w fun e w' => e = .returned (.tuple #[.int .i64 (binFl 10 (fb x) (fb y)).1, .bool true]) ∧ ∃ n, w' = w.drewN n := by
  show Calls _ _ _ _ fun e w' => e = .returned (.tuple #[.int .i64 (b2i (ord (fb x) (fb y) == some .lt)), .bool true]) ∧ ∃ n, w' = w.drewN n
  cases h : (ord (fb x) (fb y) == some .lt) with
  | true =>
    have h' : (FloatKind.f32.format.order (fb x) (fb y) == some .lt) = true := h
    show Calls _ _ _ _ fun e w' => e = .returned (.tuple #[.int .i64 1, .bool true]) ∧ ∃ n, w' = w.drewN n
    clear h
    go_enter Try.func31, Try.ntmps31
    go_wp2_with (first | (go_at_call 27; refine (rf_any _ _).mono ?_; rintro e w' ⟨rfl, rfl⟩) | go_in)
    go_ret2
    exact ⟨rfl, 0, rfl⟩
  | false =>
    have h' : (FloatKind.f32.format.order (fb x) (fb y) == some .lt) = false := h
    show Calls _ _ _ _ fun e w' => e = .returned (.tuple #[.int .i64 0, .bool true]) ∧ ∃ n, w' = w.drewN n
    clear h
    go_enter Try.func31, Try.ntmps31
    go_wp2_with (first | (go_at_call 27; refine (rf_any _ _).mono ?_; rintro e w' ⟨rfl, rfl⟩) | go_in)
    go_ret2
    exact ⟨rfl, 0, rfl⟩

set_option maxHeartbeats 400000 in
theorem rfl11 (x y : Int) (w : World) : Calls Try.prog 31 #[.string ⟨#[71, 114, 101, 97, 116, 101, 114]⟩, .int .i64 x, .int .i64 y] w fun e w' => e = .returned (.tuple #[.int .i64 (binFl 11 (fb x) (fb y)).1, .bool true]) ∧ ∃ n, w' = w.drewN n := by
  show Calls _ _ _ _ fun e w' => e = .returned (.tuple #[.int .i64 (b2i (ord (fb x) (fb y) == some .gt)), .bool true]) ∧ ∃ n, w' = w.drewN n
  cases h : (ord (fb x) (fb y) == some .gt) with
  | true =>
    have h' : (FloatKind.f32.format.order (fb x) (fb y) == some .gt) = true := h
    show Calls _ _ _ _ fun e w' => e = .returned (.tuple #[.int .i64 1, .bool true]) ∧ ∃ n, w' = w.drewN n
    clear h
    go_enter Try.func31, Try.ntmps31
    go_wp2_with (first | (go_at_call 27; refine (rf_any _ _).mono ?_; rintro e w' ⟨rfl, rfl⟩) | go_in)
    go_ret2
    exact ⟨rfl, 0, rfl⟩
  | false =>
    have h' : (FloatKind.f32.format.order (fb x) (fb y) == some .gt) = false := h
    show Calls _ _ _ _ fun e w' => e = .returned (.tuple #[.int .i64 0, .bool true]) ∧ ∃ n, w' = w.drewN n
    clear h
    go_enter Try.func31, Try.ntmps31
    go_wp2_with (first | (go_at_call 27; refine (rf_any _ _).mono ?_; rintro e w' ⟨rfl, rfl⟩) | go_in)
    go_ret2
    exact ⟨rfl, 0, rfl⟩

set_option maxHeartbeats 400000 in
theorem rfl4_nan (x y : Int) (w : World) (h : (x == 2143289344) = true ∨ (x == 2143289344) = false ∧ (y == 2143289344) = true) : Calls Try.prog 31 #[.string ⟨#[77, 97, 120]⟩, .int .i64 x, .int .i64 y] w fun e w' => e = .returned (.tuple #[.int .i64 2143289344, .bool true]) ∧ ∃ n, w' = w.drewN n := by
  rcases h with h | ⟨h, h'⟩
  all_goals
    go_enter Try.func31, Try.ntmps31
    go_wp2_with (first | (go_at_call 27; refine (rf_any _ _).mono ?_; rintro e w' ⟨rfl, rfl⟩) | go_in)
    go_ret2
    exact ⟨rfl, 0, rfl⟩

set_option maxHeartbeats 400000 in
theorem rfl4_zero (x y : Int) (w : World) (h : (x == 2143289344) = false) (h' : (y == 2143289344) = false) (zx : (FloatKind.f32.format.order (fb x) 0 == some .eq) = true) (zy : (FloatKind.f32.format.order (fb y) 0 == some .eq) = true) : Calls Try.prog 31 #[.string ⟨#[77, 97, 120]⟩, .int .i64 x, .int .i64 y] w fun e w' => e = .returned (.tuple #[.int .i64 (minI x y), .bool true]) ∧ ∃ n, w' = w.drewN n := by
  by_cases hm : y < x
  · rw [show minI x y = y from if_pos hm]
    go_enter Try.func31, Try.ntmps31
    go_wp2_with (first | (go_at_call 27; refine (rf_any _ _).mono ?_; rintro e w' ⟨rfl, rfl⟩) | go_in)
    go_ret2
    exact ⟨rfl, 0, rfl⟩
  · rw [show minI x y = x from if_neg hm]
    go_enter Try.func31, Try.ntmps31
    go_wp2_with (first | (go_at_call 27; refine (rf_any _ _).mono ?_; rintro e w' ⟨rfl, rfl⟩) | go_in)
    go_ret2
    exact ⟨rfl, 0, rfl⟩

set_option maxHeartbeats 400000 in
theorem rfl4_gt (x y : Int) (w : World) (h : (x == 2143289344) = false) (h' : (y == 2143289344) = false) (z : (FloatKind.f32.format.order (fb x) 0 == some .eq) = false ∨ (FloatKind.f32.format.order (fb x) 0 == some .eq) = true ∧ (FloatKind.f32.format.order (fb y) 0 == some .eq) = false)
    (hg : (FloatKind.f32.format.order (fb x) (fb y) == some .gt) = true) : Calls Try.prog 31 #[.string ⟨#[77, 97, 120]⟩, .int .i64 x, .int .i64 y] w fun e w' => e = .returned (.tuple #[.int .i64 x, .bool true]) ∧ ∃ n, w' = w.drewN n := by
  rcases z with z | ⟨z, z'⟩
  all_goals
    go_enter Try.func31, Try.ntmps31
    go_wp2_with (first | (go_at_call 27; refine (rf_any _ _).mono ?_; rintro e w' ⟨rfl, rfl⟩) | go_in)
    go_ret2
    exact ⟨rfl, 0, rfl⟩

set_option maxHeartbeats 400000 in
theorem rfl4_ngt (x y : Int) (w : World) (h : (x == 2143289344) = false) (h' : (y == 2143289344) = false) (z : (FloatKind.f32.format.order (fb x) 0 == some .eq) = false ∨ (FloatKind.f32.format.order (fb x) 0 == some .eq) = true ∧ (FloatKind.f32.format.order (fb y) 0 == some .eq) = false)
    (hg : (FloatKind.f32.format.order (fb x) (fb y) == some .gt) = false) : Calls Try.prog 31 #[.string ⟨#[77, 97, 120]⟩, .int .i64 x, .int .i64 y] w fun e w' => e = .returned (.tuple #[.int .i64 y, .bool true]) ∧ ∃ n, w' = w.drewN n := by
  rcases z with z | ⟨z, z'⟩
  all_goals
    go_enter Try.func31, Try.ntmps31
    go_wp2_with (first | (go_at_call 27; refine (rf_any _ _).mono ?_; rintro e w' ⟨rfl, rfl⟩) | go_in)
    go_ret2
    exact ⟨rfl, 0, rfl⟩

theorem rfl4 (x y : Int) (w : World) (hx : chk 1 x = true) (hy : chk 1 y = true) : Calls Try.prog 31 #[.string ⟨#[77, 97, 120]⟩, .int .i64 x, .int .i64 y] w fun e w' => e = .returned (.tuple #[.int .i64 (binFl 4 (fb x) (fb y)).1, .bool true]) ∧ ∃ n, w' = w.drewN n := by
  show Calls Try.prog 31 #[.string ⟨#[77, 97, 120]⟩, .int .i64 x, .int .i64 y] w fun e w' => e = .returned (.tuple #[.int .i64 (maxF (fb x) (fb y)), .bool true]) ∧ ∃ n, w' = w.drewN n
  by_cases hn : x = 2143289344 ∨ y = 2143289344
  · rw [show maxF (fb x) (fb y) = 2143289344 from by simp [maxF, (ord_none x y hx hy).2 hn]]
    refine rfl4_nan x y w ?_
    by_cases h1 : x = 2143289344
    · exact .inl (by simpa using h1)
    · exact .inr ⟨by simpa using h1, by simpa using hn.resolve_left h1⟩
  · have h1 : (x == 2143289344) = false := by simp; omega
    have h2 : (y == 2143289344) = false := by simp; omega
    by_cases hz : (x = 0 ∨ x = 2147483648) ∧ (y = 0 ∨ y = 2147483648)
    · rw [(zeros_max x y hz.1 hz.2).1]
      exact rfl4_zero x y w h1 h2 (by rw [zero_iff x hx]; simpa using hz.1) (by rw [zero_iff y hy]; simpa using hz.2)
    · have z : (FloatKind.f32.format.order (fb x) 0 == some .eq) = false ∨ (FloatKind.f32.format.order (fb x) 0 == some .eq) = true ∧ (FloatKind.f32.format.order (fb y) 0 == some .eq) = false := by
        by_cases zx : x = 0 ∨ x = 2147483648
        · right
          exact ⟨by rw [zero_iff x hx]; simpa using zx, by rw [zero_iff y hy]; exact decide_eq_false (fun hh => hz ⟨zx, hh⟩)⟩
        · left; rw [zero_iff x hx]; exact decide_eq_false zx
      by_cases h : ord (fb x) (fb y) = some .gt
      · rw [max_gt x y hx h]
        exact rfl4_gt x y w h1 h2 z (by rw [show FloatKind.f32.format.order (fb x) (fb y) = some .gt from h]; rfl)
      · rw [max_ngt x y hx hy hn hz h]
        exact rfl4_ngt x y w h1 h2 z (by
          have h' : ¬ FloatKind.f32.format.order (fb x) (fb y) = some .gt := h
          simpa using h')

set_option maxHeartbeats 400000 in
theorem rfl5_nan (x y : Int) (w : World) (h : (x == 2143289344) = true ∨ (x == 2143289344) = false ∧ (y == 2143289344) = true) : Calls Try.prog 31 #[.string ⟨#[77, 105, 110]⟩, .int .i64 x, .int .i64 y] w fun e w' => e = .returned (.tuple #[.int .i64 2143289344, .bool true]) ∧ ∃ n, w' = w.drewN n := by
  rcases h with h | ⟨h, h'⟩
  all_goals
    go_enter Try.func31, Try.ntmps31
    go_wp2_with (first | (go_at_call 27; refine (rf_any _ _).mono ?_; rintro e w' ⟨rfl, rfl⟩) | go_in)
    go_ret2
    exact ⟨rfl, 0, rfl⟩

set_option maxHeartbeats 400000 in
theorem rfl5_zero (x y : Int) (w : World) (h : (x == 2143289344) = false) (h' : (y == 2143289344) = false) (zx : (FloatKind.f32.format.order (fb x) 0 == some .eq) = true) (zy : (FloatKind.f32.format.order (fb y) 0 == some .eq) = true) : Calls Try.prog 31 #[.string ⟨#[77, 105, 110]⟩, .int .i64 x, .int .i64 y] w fun e w' => e = .returned (.tuple #[.int .i64 (maxI x y), .bool true]) ∧ ∃ n, w' = w.drewN n := by
  by_cases hm : x < y
  · rw [show maxI x y = y from if_pos hm]
    go_enter Try.func31, Try.ntmps31
    go_wp2_with (first | (go_at_call 27; refine (rf_any _ _).mono ?_; rintro e w' ⟨rfl, rfl⟩) | go_in)
    go_ret2
    exact ⟨rfl, 0, rfl⟩
  · rw [show maxI x y = x from if_neg hm]
    go_enter Try.func31, Try.ntmps31
    go_wp2_with (first | (go_at_call 27; refine (rf_any _ _).mono ?_; rintro e w' ⟨rfl, rfl⟩) | go_in)
    go_ret2
    exact ⟨rfl, 0, rfl⟩

set_option maxHeartbeats 400000 in
theorem rfl5_gt (x y : Int) (w : World) (h : (x == 2143289344) = false) (h' : (y == 2143289344) = false) (z : (FloatKind.f32.format.order (fb x) 0 == some .eq) = false ∨ (FloatKind.f32.format.order (fb x) 0 == some .eq) = true ∧ (FloatKind.f32.format.order (fb y) 0 == some .eq) = false)
    (hg : (FloatKind.f32.format.order (fb x) (fb y) == some .gt) = true) : Calls Try.prog 31 #[.string ⟨#[77, 105, 110]⟩, .int .i64 x, .int .i64 y] w fun e w' => e = .returned (.tuple #[.int .i64 y, .bool true]) ∧ ∃ n, w' = w.drewN n := by
  rcases z with z | ⟨z, z'⟩
  all_goals
    go_enter Try.func31, Try.ntmps31
    go_wp2_with (first | (go_at_call 27; refine (rf_any _ _).mono ?_; rintro e w' ⟨rfl, rfl⟩) | go_in)
    go_ret2
    exact ⟨rfl, 0, rfl⟩

set_option maxHeartbeats 400000 in
theorem rfl5_ngt (x y : Int) (w : World) (h : (x == 2143289344) = false) (h' : (y == 2143289344) = false) (z : (FloatKind.f32.format.order (fb x) 0 == some .eq) = false ∨ (FloatKind.f32.format.order (fb x) 0 == some .eq) = true ∧ (FloatKind.f32.format.order (fb y) 0 == some .eq) = false)
    (hg : (FloatKind.f32.format.order (fb x) (fb y) == some .gt) = false) : Calls Try.prog 31 #[.string ⟨#[77, 105, 110]⟩, .int .i64 x, .int .i64 y] w fun e w' => e = .returned (.tuple #[.int .i64 x, .bool true]) ∧ ∃ n, w' = w.drewN n := by
  rcases z with z | ⟨z, z'⟩
  all_goals
    go_enter Try.func31, Try.ntmps31
    go_wp2_with (first | (go_at_call 27; refine (rf_any _ _).mono ?_; rintro e w' ⟨rfl, rfl⟩) | go_in)
    go_ret2
    exact ⟨rfl, 0, rfl⟩

theorem rfl5 (x y : Int) (w : World) (hx : chk 1 x = true) (hy : chk 1 y = true) : Calls Try.prog 31 #[.string ⟨#[77, 105, 110]⟩, .int .i64 x, .int .i64 y] w fun e w' => e = .returned (.tuple #[.int .i64 (binFl 5 (fb x) (fb y)).1, .bool true]) ∧ ∃ n, w' = w.drewN n := by
  show Calls Try.prog 31 #[.string ⟨#[77, 105, 110]⟩, .int .i64 x, .int .i64 y] w fun e w' => e = .returned (.tuple #[.int .i64 (minF (fb x) (fb y)), .bool true]) ∧ ∃ n, w' = w.drewN n
  by_cases hn : x = 2143289344 ∨ y = 2143289344
  · rw [show minF (fb x) (fb y) = 2143289344 from by simp [minF, (ord_none x y hx hy).2 hn]]
    refine rfl5_nan x y w ?_
    by_cases h1 : x = 2143289344
    · exact .inl (by simpa using h1)
    · exact .inr ⟨by simpa using h1, by simpa using hn.resolve_left h1⟩
  · have h1 : (x == 2143289344) = false := by simp; omega
    have h2 : (y == 2143289344) = false := by simp; omega
    by_cases hz : (x = 0 ∨ x = 2147483648) ∧ (y = 0 ∨ y = 2147483648)
    · rw [(zeros_max x y hz.1 hz.2).2]
      exact rfl5_zero x y w h1 h2 (by rw [zero_iff x hx]; simpa using hz.1) (by rw [zero_iff y hy]; simpa using hz.2)
    · have z : (FloatKind.f32.format.order (fb x) 0 == some .eq) = false ∨ (FloatKind.f32.format.order (fb x) 0 == some .eq) = true ∧ (FloatKind.f32.format.order (fb y) 0 == some .eq) = false := by
        by_cases zx : x = 0 ∨ x = 2147483648
        · right
          exact ⟨by rw [zero_iff x hx]; simpa using zx, by rw [zero_iff y hy]; exact decide_eq_false (fun hh => hz ⟨zx, hh⟩)⟩
        · left; rw [zero_iff x hx]; exact decide_eq_false zx
      by_cases h : ord (fb x) (fb y) = some .gt
      · rw [min_gt x y hy h]
        exact rfl5_gt x y w h1 h2 z (by rw [show FloatKind.f32.format.order (fb x) (fb y) = some .gt from h]; rfl)
      · rw [min_ngt x y hx hy hn hz h]
        exact rfl5_ngt x y w h1 h2 z (by
          have h' : ¬ FloatKind.f32.format.order (fb x) (fb y) = some .gt := h
          simpa using h')

set_option maxHeartbeats 400000 in
theorem rfl6 (x y : Int) (w : World) : Calls Try.prog 31 #[.string ⟨#[65, 110, 100]⟩, .int .i64 x, .int .i64 y] w fun e w' => e = .returned (.tuple #[.int .i64 0, .bool false]) ∧ ∃ n, w' = w.drewN n := by
  go_enter Try.func31, Try.ntmps31
  go_wp2_with (first | (go_at_call 27; refine (rf_any _ _).mono ?_; rintro e w' ⟨rfl, rfl⟩) | go_in)
  go_ret2
  exact ⟨rfl, 0, rfl⟩

set_option maxHeartbeats 400000 in
theorem rfl7 (x y : Int) (w : World) : Calls Try.prog 31 #[.string ⟨#[79, 114]⟩, .int .i64 x, .int .i64 y] w fun e w' => e = .returned (.tuple #[.int .i64 0, .bool false]) ∧ ∃ n, w' = w.drewN n := by
  go_enter Try.func31, Try.ntmps31
  go_wp2_with (first | (go_at_call 27; refine (rf_any _ _).mono ?_; rintro e w' ⟨rfl, rfl⟩) | go_in)
  go_ret2
  exact ⟨rfl, 0, rfl⟩

set_option maxHeartbeats 400000 in
theorem rfl8 (x y : Int) (w : World) : Calls Try.prog 31 #[.string ⟨#[88, 111, 114]⟩, .int .i64 x, .int .i64 y] w fun e w' => e = .returned (.tuple #[.int .i64 0, .bool false]) ∧ ∃ n, w' = w.drewN n := by
  go_enter Try.func31, Try.ntmps31
  go_wp2_with (first | (go_at_call 27; refine (rf_any _ _).mono ?_; rintro e w' ⟨rfl, rfl⟩) | go_in)
  go_ret2
  exact ⟨rfl, 0, rfl⟩

set_option maxHeartbeats 400000 in
theorem rint0 (t x y : Int) (w : World) : Calls Try.prog 32 #[.string ⟨#[65, 100, 100]⟩, .int .i64 t, .int .i64 x, .int .i64 y] w fun e w' => e = .returned (.tuple #[.int .i64 (wrapT t (wrap64 (x + y))), .int .i64 0, .bool true]) ∧ w' = w := by
  cases h : (t == 6) with
  | true =>
    rw [wrapT6 t _ h]
    go_enter Try.func32, Try.ntmps32
    go_wp2
    go_ret3
    exact ⟨rfl, rfl⟩
  | false =>
    rw [wrapT7 t _ h]
    go_enter Try.func32, Try.ntmps32
    go_wp2
    go_ret3
    exact ⟨rfl, rfl⟩

set_option maxHeartbeats 400000 in
theorem rint1 (t x y : Int) (w : World) : Calls Try.prog 32 #[.string ⟨#[83, 117, 98]⟩, .int .i64 t, .int .i64 x, .int .i64 y] w fun e w' => e = .returned (.tuple #[.int .i64 (wrapT t (wrap64 (x - y))), .int .i64 0, .bool true]) ∧ w' = w := by
  cases h : (t == 6) with
  | true =>
    rw [wrapT6 t _ h]
    go_enter Try.func32, Try.ntmps32
    go_wp2
    go_ret3
    exact ⟨rfl, rfl⟩
  | false =>
    rw [wrapT7 t _ h]
    go_enter Try.func32, Try.ntmps32
    go_wp2
    go_ret3
    exact ⟨rfl, rfl⟩

set_option maxHeartbeats 400000 in
theorem rint2 (t x y : Int) (w : World) : Calls Try.prog 32 #[.string ⟨#[77, 117, 108]⟩, .int .i64 t, .int .i64 x, .int .i64 y] w fun e w' => e = .returned (.tuple #[.int .i64 (wrapT t (wrap64 (x * y))), .int .i64 0, .bool true]) ∧ w' = w := by
  cases h : (t == 6) with
  | true =>
    rw [wrapT6 t _ h]
    go_enter Try.func32, Try.ntmps32
    go_wp2
    go_ret3
    exact ⟨rfl, rfl⟩
  | false =>
    rw [wrapT7 t _ h]
    go_enter Try.func32, Try.ntmps32
    go_wp2
    go_ret3
    exact ⟨rfl, rfl⟩

set_option maxHeartbeats 400000 in
theorem rint3_no (t x y : Int) (w : World) (hy : (y == 0) = true) : Calls Try.prog 32 #[.string ⟨#[68, 105, 118]⟩, .int .i64 t, .int .i64 x, .int .i64 y] w fun e w' => e = .returned (.tuple #[.int .i64 0, .int .i64 7, .bool true]) ∧ w' = w := by
  go_enter Try.func32, Try.ntmps32
  go_wp2
  go_ret3
  exact ⟨rfl, rfl⟩

set_option maxHeartbeats 400000 in
theorem rint3_neg (t x y : Int) (w : World) (hy : (y == 0) = false) (hy1 : (y == -1) = true) : Calls Try.prog 32 #[.string ⟨#[68, 105, 118]⟩, .int .i64 t, .int .i64 x, .int .i64 y] w fun e w' => e = .returned (.tuple #[.int .i64 (wrapT t (wrap64 (-x))), .int .i64 0, .bool true]) ∧ w' = w := by
  cases h : (t == 6) with
  | true =>
    rw [wrapT6 t _ h]
    go_enter Try.func32, Try.ntmps32
    go_wp2
    go_ret3
    exact ⟨rfl, rfl⟩
  | false =>
    rw [wrapT7 t _ h]
    go_enter Try.func32, Try.ntmps32
    go_wp2
    go_ret3
    exact ⟨rfl, rfl⟩

set_option maxHeartbeats 400000 in
theorem rint3_yes (t x y : Int) (w : World) (hy : (y == 0) = false) (hy1 : (y == -1) = false) : Calls Try.prog 32 #[.string ⟨#[68, 105, 118]⟩, .int .i64 t, .int .i64 x, .int .i64 y] w fun e w' => e = .returned (.tuple #[.int .i64 (wrap64 (x.tdiv y)), .int .i64 0, .bool true]) ∧ w' = w := by
  have hy' : ¬ y = 0 := by simpa using hy
  go_enter Try.func32, Try.ntmps32
  go_wp2
  go_ret3
  exact ⟨rfl, rfl⟩

set_option maxHeartbeats 400000 in
theorem rint4 (t x y : Int) (w : World) : Calls Try.prog 32 #[.string ⟨#[77, 97, 120]⟩, .int .i64 t, .int .i64 x, .int .i64 y] w fun e w' => e = .returned (.tuple #[.int .i64 (maxI x y), .int .i64 0, .bool true]) ∧ w' = w := by
  by_cases hm : x < y
  · rw [show maxI x y = y from if_pos hm]
    go_enter Try.func32, Try.ntmps32
    go_wp2
    go_ret3
    exact ⟨rfl, rfl⟩
  · rw [show maxI x y = x from if_neg hm]
    go_enter Try.func32, Try.ntmps32
    go_wp2
    go_ret3
    exact ⟨rfl, rfl⟩

set_option maxHeartbeats 400000 in
theorem rint5 (t x y : Int) (w : World) : Calls Try.prog 32 #[.string ⟨#[77, 105, 110]⟩, .int .i64 t, .int .i64 x, .int .i64 y] w fun e w' => e = .returned (.tuple #[.int .i64 (minI x y), .int .i64 0, .bool true]) ∧ w' = w := by
  by_cases hm : y < x
  · rw [show minI x y = y from if_pos hm]
    go_enter Try.func32, Try.ntmps32
    go_wp2
    go_ret3
    exact ⟨rfl, rfl⟩
  · rw [show minI x y = x from if_neg hm]
    go_enter Try.func32, Try.ntmps32
    go_wp2
    go_ret3
    exact ⟨rfl, rfl⟩

set_option maxHeartbeats 400000 in
theorem rint9 (t x y : Int) (w : World) : Calls Try.prog 32 #[.string ⟨#[69, 113, 117, 97, 108]⟩, .int .i64 t, .int .i64 x, .int .i64 y] w fun e w' => e = .returned (.tuple #[.int .i64 (b2i (x == y)), .int .i64 0, .bool true]) ∧ w' = w := by
  cases h : (x == y) with
  | true =>
    show Calls _ _ _ _ fun e w' => e = .returned (.tuple #[.int .i64 1, .int .i64 0, .bool true]) ∧ w' = w
    go_enter Try.func32, Try.ntmps32
    go_wp2
    go_ret3
    exact ⟨rfl, rfl⟩
  | false =>
    show Calls _ _ _ _ fun e w' => e = .returned (.tuple #[.int .i64 0, .int .i64 0, .bool true]) ∧ w' = w
    go_enter Try.func32, Try.ntmps32
    go_wp2
    go_ret3
    exact ⟨rfl, rfl⟩

set_option maxHeartbeats 400000 in
theorem rint10 (t x y : Int) (w : World) : Calls Try.prog 32 #[.string ⟨#[76, 101, 115, 115]⟩, .int .i64 t, .int .i64 x, .int .i64 y] w fun e w' => e = .returned (.tuple #[.int .i64 (b2i (decide (x < y))), .int .i64 0, .bool true]) ∧ w' = w := by
  cases h : (decide (x < y)) with
  | true =>
    show Calls _ _ _ _ fun e w' => e = .returned (.tuple #[.int .i64 1, .int .i64 0, .bool true]) ∧ w' = w
    go_enter Try.func32, Try.ntmps32
    go_wp2
    go_ret3
    exact ⟨rfl, rfl⟩
  | false =>
    show Calls _ _ _ _ fun e w' => e = .returned (.tuple #[.int .i64 0, .int .i64 0, .bool true]) ∧ w' = w
    go_enter Try.func32, Try.ntmps32
    go_wp2
    go_ret3
    exact ⟨rfl, rfl⟩

set_option maxHeartbeats 400000 in
theorem rint11 (t x y : Int) (w : World) : Calls Try.prog 32 #[.string ⟨#[71, 114, 101, 97, 116, 101, 114]⟩, .int .i64 t, .int .i64 x, .int .i64 y] w fun e w' => e = .returned (.tuple #[.int .i64 (b2i (decide (y < x))), .int .i64 0, .bool true]) ∧ w' = w := by
  cases h : (decide (y < x)) with
  | true =>
    show Calls _ _ _ _ fun e w' => e = .returned (.tuple #[.int .i64 1, .int .i64 0, .bool true]) ∧ w' = w
    go_enter Try.func32, Try.ntmps32
    go_wp2
    go_ret3
    exact ⟨rfl, rfl⟩
  | false =>
    show Calls _ _ _ _ fun e w' => e = .returned (.tuple #[.int .i64 0, .int .i64 0, .bool true]) ∧ w' = w
    go_enter Try.func32, Try.ntmps32
    go_wp2
    go_ret3
    exact ⟨rfl, rfl⟩

set_option maxHeartbeats 400000 in
theorem rint6 (t x y : Int) (w : World) : Calls Try.prog 32 #[.string ⟨#[65, 110, 100]⟩, .int .i64 t, .int .i64 x, .int .i64 y] w fun e w' => e = .returned (.tuple #[.int .i64 0, .int .i64 0, .bool false]) ∧ w' = w := by
  go_enter Try.func32, Try.ntmps32
  go_wp2
  go_ret3
  exact ⟨rfl, rfl⟩

set_option maxHeartbeats 400000 in
theorem rint7 (t x y : Int) (w : World) : Calls Try.prog 32 #[.string ⟨#[79, 114]⟩, .int .i64 t, .int .i64 x, .int .i64 y] w fun e w' => e = .returned (.tuple #[.int .i64 0, .int .i64 0, .bool false]) ∧ w' = w := by
  go_enter Try.func32, Try.ntmps32
  go_wp2
  go_ret3
  exact ⟨rfl, rfl⟩

set_option maxHeartbeats 400000 in
theorem rint8 (t x y : Int) (w : World) : Calls Try.prog 32 #[.string ⟨#[88, 111, 114]⟩, .int .i64 t, .int .i64 x, .int .i64 y] w fun e w' => e = .returned (.tuple #[.int .i64 0, .int .i64 0, .bool false]) ∧ w' = w := by
  go_enter Try.func32, Try.ntmps32
  go_wp2
  go_ret3
  exact ⟨rfl, rfl⟩

end Go.Proofs.Ytcfgnhjoajibkab
