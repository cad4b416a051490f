/- The walks of package num's sums, differences, products and quotients of floats. -/
import Derived.Test.YteigfipgmghgmaaGreatDoorNuWalkA
import Derived.Test.YteigfipgmghgmaaGreatDoorNuPlainF
namespace Go.Proofs.YteigfipgmghgmaaGreatDoor.Nu
open Go.RowKit

theorem ext_from (n : Int) (w : World) : (callFunc 42 #[.int .u32 n]).run Tryz.prog w = .ok (.value (.float .f32 n.toNat)) w := by kernel_rfl
theorem ext_bits (b : Nat) (w : World) : (callFunc 92 #[.float .f32 b]).run Tryz.prog w = .ok (.value (.int .u32 b)) w := by kernel_rfl
attribute [local go_sem] ext_from ext_bits

set_option maxHeartbeats 400000 in
theorem from_any (x : Int) (w : World) : Calls Tryz.prog 50 #[.int .i64 x] w fun e w' => e = .returned (.float .f32 (fb x)) ∧ w' = w := by
  go_enter Tryz.func50, Tryz.ntmps50
  go_wp2
  go_ret
  exact ⟨rfl, rfl⟩

set_option maxHeartbeats 400000 in
theorem to_any (b : Nat) (w : World) (hb : b < 4294967296) : Calls Tryz.prog 62 #[.float .f32 b] w fun e w' => e = .returned (.int .i64 (tob b)) ∧ w' = w := by
  by_cases h : (FloatKind.f32.format.order b b != some .eq) = true
  · have c : tob b = 2143289344 := by unfold tob; rw [if_pos h]
    rw [c]; clear c
    go_enter Tryz.func62, Tryz.ntmps62
    go_wp2
    go_ret
    exact ⟨rfl, rfl⟩
  · have c : tob b = b := by unfold tob; rw [if_neg h]
    have h' : (FloatKind.f32.format.order b b != some .eq) = false := by simpa using h
    rw [c]; clear c h
    go_enter Tryz.func62, Tryz.ntmps62
    go_wp2
    go_ret
    exact ⟨rfl, rfl⟩

set_option maxHeartbeats 400000 in
theorem add_f (x y : Nat) (w : World) : Calls Tryz.prog 53 #[.string ⟨#[65, 100, 100]⟩, .float .f32 x, .float .f32 y] w fun e w' => e = .returned (.tuple #[.int .i64 (tobO (floatBits .add .f32 x y)), .int .i64 0]) ∧ ∃ n, w' = w.drewN n := by
  cases h : floatBits .add .f32 x y with
  | some r =>
    have hr : r < 4294967296 := Ieee.Format.add_lt _ h
    have hrun := fun w t => run_float_arith (P := Tryz.prog) w .add t .f32 x y r h
    show Calls _ _ _ _ fun e w' => e = .returned (.tuple #[.int .i64 (tob r), .int .i64 0]) ∧ ∃ n, w' = w.drewN n
    clear h
    go_enter Tryz.func53, Tryz.ntmps53
    go_wp2_with (first | (go_at_call 62; refine (to_any _ _ hr).mono ?_; rintro e w' ⟨rfl, rfl⟩) | go_in)
    go_ret2
    exact ⟨rfl, 0, rfl⟩
  | none =>
    have hrun := fun w t => run_float_none (P := Tryz.prog) w .add t x y (by decide) h
    show Calls _ _ _ _ fun e w' => e = .returned (.tuple #[.int .i64 2143289344, .int .i64 0]) ∧ ∃ n, w' = w.drewN n
    clear h
    go_enter Tryz.func53, Tryz.ntmps53
    go_wp2_with (first | (go_at_call 62; refine (to_any _ _ (nb_lt _ _ _)).mono ?_; rw [tob_nb]; rintro e w' ⟨rfl, rfl⟩) | go_in)
    go_ret2
    exact ⟨rfl, 1, rfl⟩

set_option maxHeartbeats 400000 in
theorem sub_f (x y : Nat) (w : World) : Calls Tryz.prog 53 #[.string ⟨#[83, 117, 98]⟩, .float .f32 x, .float .f32 y] w fun e w' => e = .returned (.tuple #[.int .i64 (tobO (floatBits .sub .f32 x y)), .int .i64 0]) ∧ ∃ n, w' = w.drewN n := by
  cases h : floatBits .sub .f32 x y with
  | some r =>
    have hr : r < 4294967296 := Ieee.Format.sub_lt _ h
    have hrun := fun w t => run_float_arith (P := Tryz.prog) w .sub t .f32 x y r h
    show Calls _ _ _ _ fun e w' => e = .returned (.tuple #[.int .i64 (tob r), .int .i64 0]) ∧ ∃ n, w' = w.drewN n
    clear h
    go_enter Tryz.func53, Tryz.ntmps53
    go_wp2_with (first | (go_at_call 62; refine (to_any _ _ hr).mono ?_; rintro e w' ⟨rfl, rfl⟩) | go_in)
    go_ret2
    exact ⟨rfl, 0, rfl⟩
  | none =>
    have hrun := fun w t => run_float_none (P := Tryz.prog) w .sub t x y (by decide) h
    show Calls _ _ _ _ fun e w' => e = .returned (.tuple #[.int .i64 2143289344, .int .i64 0]) ∧ ∃ n, w' = w.drewN n
    clear h
    go_enter Tryz.func53, Tryz.ntmps53
    go_wp2_with (first | (go_at_call 62; refine (to_any _ _ (nb_lt _ _ _)).mono ?_; rw [tob_nb]; rintro e w' ⟨rfl, rfl⟩) | go_in)
    go_ret2
    exact ⟨rfl, 1, rfl⟩

set_option maxHeartbeats 400000 in
theorem mul_f (x y : Nat) (w : World) : Calls Tryz.prog 53 #[.string ⟨#[77, 117, 108]⟩, .float .f32 x, .float .f32 y] w fun e w' => e = .returned (.tuple #[.int .i64 (tobO (floatBits .mul .f32 x y)), .int .i64 0]) ∧ ∃ n, w' = w.drewN n := by
  cases h : floatBits .mul .f32 x y with
  | some r =>
    have hr : r < 4294967296 := Ieee.Format.mul_lt _ h
    have hrun := fun w t => run_float_arith (P := Tryz.prog) w .mul t .f32 x y r h
    show Calls _ _ _ _ fun e w' => e = .returned (.tuple #[.int .i64 (tob r), .int .i64 0]) ∧ ∃ n, w' = w.drewN n
    clear h
    go_enter Tryz.func53, Tryz.ntmps53
    go_wp2_with (first | (go_at_call 62; refine (to_any _ _ hr).mono ?_; rintro e w' ⟨rfl, rfl⟩) | go_in)
    go_ret2
    exact ⟨rfl, 0, rfl⟩
  | none =>
    have hrun := fun w t => run_float_none (P := Tryz.prog) w .mul t x y (by decide) h
    show Calls _ _ _ _ fun e w' => e = .returned (.tuple #[.int .i64 2143289344, .int .i64 0]) ∧ ∃ n, w' = w.drewN n
    clear h
    go_enter Tryz.func53, Tryz.ntmps53
    go_wp2_with (first | (go_at_call 62; refine (to_any _ _ (nb_lt _ _ _)).mono ?_; rw [tob_nb]; rintro e w' ⟨rfl, rfl⟩) | go_in)
    go_ret2
    exact ⟨rfl, 1, rfl⟩

set_option maxHeartbeats 400000 in
theorem div_f (x y : Nat) (w : World) : Calls Tryz.prog 53 #[.string ⟨#[68, 105, 118]⟩, .float .f32 x, .float .f32 y] w fun e w' => e = .returned (.tuple #[.int .i64 (tobO (floatBits .quo .f32 x y)), .int .i64 0]) ∧ ∃ n, w' = w.drewN n := by
  cases h : floatBits .quo .f32 x y with
  | some r =>
    have hr : r < 4294967296 := Ieee.Format.div_lt _ h
    have hrun := fun w t => run_float_arith (P := Tryz.prog) w .quo t .f32 x y r h
    show Calls _ _ _ _ fun e w' => e = .returned (.tuple #[.int .i64 (tob r), .int .i64 0]) ∧ ∃ n, w' = w.drewN n
    clear h
    go_enter Tryz.func53, Tryz.ntmps53
    go_wp2_with (first | (go_at_call 62; refine (to_any _ _ hr).mono ?_; rintro e w' ⟨rfl, rfl⟩) | go_in)
    go_ret2
    exact ⟨rfl, 0, rfl⟩
  | none =>
    have hrun := fun w t => run_float_none (P := Tryz.prog) w .quo t x y (by decide) h
    show Calls _ _ _ _ fun e w' => e = .returned (.tuple #[.int .i64 2143289344, .int .i64 0]) ∧ ∃ n, w' = w.drewN n
    clear h
    go_enter Tryz.func53, Tryz.ntmps53
    go_wp2_with (first | (go_at_call 62; refine (to_any _ _ (nb_lt _ _ _)).mono ?_; rw [tob_nb]; rintro e w' ⟨rfl, rfl⟩) | go_in)
    go_ret2
    exact ⟨rfl, 1, rfl⟩

end Go.Proofs.YteigfipgmghgmaaGreatDoor.Nu
