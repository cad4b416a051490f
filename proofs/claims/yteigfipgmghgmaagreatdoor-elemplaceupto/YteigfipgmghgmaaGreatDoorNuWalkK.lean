/- The walks of package num's operators of one that round: each gives some float's bits, and draws some answers. -/
import Derived.Test.YteigfipgmghgmaaGreatDoorNuWalkU
import Derived.Test.YteigfipgmghgmaaGreatDoorNuPlainK
namespace Go.Proofs.YteigfipgmghgmaaGreatDoor.Nu
open Go.RowKit

theorem sqrt_eq (x : Nat) : Extern.MathSqrt.sqrt #[.float .f64 x] = (match FloatKind.f64.format.sqrt x with
    | some r => pure (.float .f64 r)
    | none => do pure (.float .f64 (← choose (.nanBits .f64 x x)))) := rfl

theorem ext_sqrt_ex (x : Nat) (w : World) : ∃ r n, (callFunc 131 #[.float .f64 x]).run Tryz.prog w = .ok (.value (.float .f64 r)) (w.drewN n) := by
  have e : (callFunc 131 #[.float .f64 x]).run Tryz.prog w = ((Extern.MathSqrt.sqrt #[.float .f64 x]).run Tryz.prog w).andThen fun v w' => .ok (.value v) w' :=
    run_callFunc_extern (fn := Tryz.f131) (by kernel_rfl) (by kernel_rfl) (by kernel_rfl) (by kernel_rfl) (by kernel_rfl) _ _
  rw [e, sqrt_eq]
  cases h : FloatKind.f64.format.sqrt x with
  | some r => exact ⟨r, 0, by simp; rfl⟩
  | none => exact ⟨_, 1, by simp [Question.forced]; exact ⟨rfl, rfl⟩⟩

theorem ext_floor_ex (x : Nat) (w : World) : ∃ r n, (callFunc 132 #[.float .f64 x]).run Tryz.prog w = .ok (.value (.float .f64 r)) (w.drewN n) := by
  have e : (callFunc 132 #[.float .f64 x]).run Tryz.prog w = ((Extern.MathFloor.toIntegral "math.archFloor" .down #[.float .f64 x]).run Tryz.prog w).andThen fun v w' => .ok (.value v) w' :=
    run_callFunc_extern (fn := Tryz.f132) (by kernel_rfl) (by kernel_rfl) (by kernel_rfl) (by kernel_rfl) (by kernel_rfl) _ _
  rw [e]
  have e2 : ∃ q : Question, q.forced = false ∧ Extern.MathFloor.toIntegral "math.archFloor" .down #[.float .f64 x] = (match FloatKind.f64.decode x with
    | .nan s t =>
      if FloatKind.f64.format.quiet t = t then pure (.float .f64 x) else do
      let kept ← choose q
      pure (.float .f64 (if kept == 1 then x else FloatKind.f64.encode (.nan s (FloatKind.f64.format.quiet t))))
    | d => pure (.float .f64 (FloatKind.f64.encode (d.integral .down)))) := ⟨_, by decide, rfl⟩
  obtain ⟨q, hq, e2⟩ := e2
  rw [e2]
  cases h : FloatKind.f64.decode x with
  | number s m i => exact ⟨_, 0, by simp; exact ⟨rfl, rfl⟩⟩
  | infinity s => exact ⟨_, 0, by simp; exact ⟨rfl, rfl⟩⟩
  | nan s t =>
    by_cases ht : FloatKind.f64.format.quiet t = t
    · exact ⟨_, 0, by simp [ht]; exact ⟨rfl, rfl⟩⟩
    · exact ⟨_, 1, by simp [ht, hq]; exact ⟨rfl, rfl⟩⟩

theorem ext_sqrt : ∃ (r : Nat → World → Nat) (n : Nat → World → Nat), ∀ x w, (callFunc 131 #[.float .f64 x]).run Tryz.prog w = .ok (.value (.float .f64 (r x w))) (w.drewN (n x w)) :=
  ⟨fun x w => Classical.choose (ext_sqrt_ex x w), fun x w => Classical.choose (Classical.choose_spec (ext_sqrt_ex x w)), fun x w => Classical.choose_spec (Classical.choose_spec (ext_sqrt_ex x w))⟩
theorem ext_floor : ∃ (r : Nat → World → Nat) (n : Nat → World → Nat), ∀ x w, (callFunc 132 #[.float .f64 x]).run Tryz.prog w = .ok (.value (.float .f64 (r x w))) (w.drewN (n x w)) :=
  ⟨fun x w => Classical.choose (ext_floor_ex x w), fun x w => Classical.choose (Classical.choose_spec (ext_floor_ex x w)), fun x w => Classical.choose_spec (Classical.choose_spec (ext_floor_ex x w))⟩

theorem conv_up (b : Nat) (w : World) : (convert 64 119 (.float .f32 b)).run Tryz.prog w = .ok (.float .f64 (cval .f32 .f64 b w)) (w.drewN (cdr .f32 .f64 b)) := run_cval w _ _ _ _ _ (by kernel_rfl) (by kernel_rfl)
theorem conv_down (b : Nat) (w : World) : (convert 119 64 (.float .f64 b)).run Tryz.prog w = .ok (.float .f32 (cval .f64 .f32 b w)) (w.drewN (cdr .f64 .f32 b)) := run_cval w _ _ _ _ _ (by kernel_rfl) (by kernel_rfl)
theorem conv_int (b : Nat) (w : World) : (convert 119 3 (.float .f64 b)).run Tryz.prog w = .ok (.int .i64 (ival .f64 .i64 b w)) (w.drewN (idr .f64 .i64 b)) := run_ival w _ _ _ _ _ (by kernel_rfl) (by kernel_rfl)
theorem ext_bits64 (b : Nat) (w : World) : (callFunc 173 #[.float .f64 b]).run Tryz.prog w = .ok (.value (.int .u64 b)) w := by kernel_rfl
theorem ext_from64 (n : Int) (w : World) : (callFunc 175 #[.int .u64 n]).run Tryz.prog w = .ok (.value (.float .f64 n.toNat)) w := by kernel_rfl
attribute [local go_sem] conv_up conv_down conv_int ext_bits64 ext_from64 ext_from ext_bits run_fadd run_fsub run_fmul run_fquo negF_eq

set_option maxHeartbeats 400000 in
theorem floor_w (x : Nat) (w : World) : Calls Tryz.prog 82 #[.float .f64 x] w fun e w' => ∃ r n, e = .returned (.float .f64 r) ∧ w' = w.drewN n := by
  obtain ⟨r, n, h⟩ := ext_floor
  go_enter Tryz.func82, Tryz.ntmps82
  go_wp2
  go_ret
  exact ⟨_, _, rfl, rfl⟩

set_option maxHeartbeats 400000 in
theorem sqrt_w (x : Nat) (w : World) : Calls Tryz.prog 81 #[.float .f64 x] w fun e w' => ∃ r n, e = .returned (.float .f64 r) ∧ w' = w.drewN n := by
  obtain ⟨r, n, h⟩ := ext_sqrt
  go_enter Tryz.func81, Tryz.ntmps81
  go_wp2
  go_ret
  exact ⟨_, _, rfl, rfl⟩

set_option maxHeartbeats 1000000 in
theorem normalize_w (x : Nat) (w : World) : Calls Tryz.prog 172 #[.float .f64 x] w fun e w' => ∃ r m n, e = .returned (.tuple #[.float .f64 r, .int .i64 m]) ∧ w' = w.drewN n := by
  go_enter Tryz.func172, Tryz.ntmps172
  go_wp2
  all_goals
    go_ret2
    first | exact ⟨_, _, 0, rfl, rfl⟩ | exact ⟨_, _, _, rfl, rfl⟩

set_option maxHeartbeats 1000000 in
theorem copysign_w (x y : Nat) (w : World) : Calls Tryz.prog 171 #[.float .f64 x, .float .f64 y] w fun e w' => ∃ r n, e = .returned (.float .f64 r) ∧ w' = w.drewN n := by
  go_enter Tryz.func171, Tryz.ntmps171
  go_wp2
  all_goals
    go_ret
    exact ⟨_, 0, rfl, rfl⟩
end Go.Proofs.YteigfipgmghgmaaGreatDoor.Nu
