/- Sigmoid of both sides. -/
import Derived.Test.YteigfipgmghgmaaGreatDoorNuWalkE5
namespace Go.Proofs.YteigfipgmghgmaaGreatDoor.Nu
open Go.RowKit Mo
attribute [local go_sem] ext_bits64 ext_from64 ext_from ext_bits negF_eq run_fadd run_fsub run_fmul run_fquo

set_option maxHeartbeats 400000 in
theorem sigmoid_e (b : Nat) (w : World) (hb : b < 4294967296) : Calls Tryz.prog 84 #[.float .f32 b] w fun e w' => ∃ r n, Hid (tob r = sgI (exW (negF b)) ∧ r < 4294967296) ∧ e = .returned (.float .f32 r) ∧ w' = w.drewN n := by
  have EX : Hid (∀ w, Calls Tryz.prog 83 #[.float .f32 (negF b)] w fun e w' => e = .returned (.float .f32 (exW (negF b))) ∧ ∃ n, w' = w.drewN n) := fun w => exp_e _ w (negF_lt b hb)
  clear hb
  go_enter Tryz.func84, Tryz.ntmps84
  go_wp2_with (first | (go_at_call 83; refine (EX.out _).mono ?_; rintro e w' ⟨rfl, n, rfl⟩) | fail)
  go_ret
  exact ⟨_, _, ⟨sg_val _ _ _, fval_lt _ _ _ _⟩, rfl, rfl⟩

set_option maxHeartbeats 400000 in
theorem round8_s (b : Nat) (w : World) (hb : b < 4294967296) : Calls Tryz.prog 49 #[.string ⟨#[83, 105, 103, 109, 111, 105, 100]⟩, .float .f32 b] w fun e w' => ∃ n, e = .returned (.tuple #[.int .i64 (sgI (exW (negF b))), .int .i64 0]) ∧ w' = w.drewN n := by
  have SG : Hid (∀ w, Calls Tryz.prog 84 #[.float .f32 b] w fun e w' => ∃ r n, Hid (tob r = sgI (exW (negF b)) ∧ r < 4294967296) ∧ e = .returned (.float .f32 r) ∧ w' = w.drewN n) := fun w => sigmoid_e b w hb
  clear hb
  go_enter Tryz.func49, Tryz.ntmps49
  go_wp2_with (first | (go_at_call 84; refine (SG.out _).mono ?_; rintro e w' ⟨r, n, hr, rfl, rfl⟩) | (go_at_call 62; refine (to_any _ _ hr.out.2).mono ?_; rintro e w' ⟨rfl, rfl⟩) | fail)
  go_ret2
  exact ⟨_, congrArg (fun z => Ending.returned (Value.tuple #[.int .i64 z, .int .i64 0])) hr.out.1, rfl⟩

theorem tobO_fval (op : BinOp) (x y : Nat) (w : World) : tob (fval op .f32 x y w) = tobO (floatBits op .f32 x y) := by
  unfold fval
  cases h : floatBits op .f32 x y with
  | some r => rfl
  | none => exact nan_cut _ _ _

/-- The document's Neg of a float. -/
def ngI (x : Int) : Int := if x = 2143289344 then x else (x + 2147483648) % 4294967296

end Go.Proofs.YteigfipgmghgmaaGreatDoor.Nu
