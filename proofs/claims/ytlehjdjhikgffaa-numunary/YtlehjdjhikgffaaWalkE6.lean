/- Sigmoid of both sides. -/
import Derived.Test.YtlehjdjhikgffaaWalkE5
namespace Go.Proofs.Ytlehjdjhikgffaa
open Go.RowKit Mo
attribute [local go_sem] ext_bits64 ext_from64 ext_from ext_bits negF_eq run_fadd run_fsub run_fmul run_fquo

set_option maxHeartbeats 400000 in
theorem sigmoid_e (b : Nat) (w : World) (hb : b < 4294967296) : Calls Try.prog 25 #[.float .f32 b] w fun e w' => ∃ r n, Hid (tob r = sgI (exW (negF b)) ∧ r < 4294967296) ∧ e = .returned (.float .f32 r) ∧ w' = w.drewN n := by
  have EX : Hid (∀ w, Calls Try.prog 24 #[.float .f32 (negF b)] w fun e w' => e = .returned (.float .f32 (exW (negF b))) ∧ ∃ n, w' = w.drewN n) := fun w => exp_e _ w (negF_lt b hb)
  clear hb
  go_enter Try.func25, Try.ntmps25
  go_wp2_with (first | (go_at_call 24; refine (EX.out _).mono ?_; rintro e w' ⟨rfl, n, rfl⟩) | fail)
  go_ret
  exact ⟨_, _, ⟨sg_val _ _ _, fval_lt _ _ _ _⟩, rfl, rfl⟩

set_option maxHeartbeats 400000 in
theorem round8_s (b : Nat) (w : World) (hb : b < 4294967296) : Calls Try.prog 9 #[.string ⟨#[83, 105, 103, 109, 111, 105, 100]⟩, .float .f32 b] w fun e w' => ∃ n, e = .returned (.tuple #[.int .i64 (sgI (exW (negF b))), .int .i64 0]) ∧ w' = w.drewN n := by
  have SG : Hid (∀ w, Calls Try.prog 25 #[.float .f32 b] w fun e w' => ∃ r n, Hid (tob r = sgI (exW (negF b)) ∧ r < 4294967296) ∧ e = .returned (.float .f32 r) ∧ w' = w.drewN n) := fun w => sigmoid_e b w hb
  clear hb
  go_enter Try.func9, Try.ntmps9
  go_wp2_with (first | (go_at_call 25; refine (SG.out _).mono ?_; rintro e w' ⟨r, n, hr, rfl, rfl⟩) | (go_at_call 19; refine (to_any _ _ hr.out.2).mono ?_; rintro e w' ⟨rfl, rfl⟩) | fail)
  go_ret2
  exact ⟨_, congrArg (fun z => Ending.returned (Value.tuple #[.int .i64 z, .int .i64 0])) hr.out.1, rfl⟩

theorem tobO_fval (op : BinOp) (x y : Nat) (w : World) : tob (fval op .f32 x y w) = tobO (floatBits op .f32 x y) := by
  unfold fval
  cases h : floatBits op .f32 x y with
  | some r => rfl
  | none => exact nan_cut _ _ _

set_option maxHeartbeats 400000 in
theorem radd_any (x y : Int) (w : World) : Calls Try.prog 32 #[.int .i64 x, .int .i64 y] w fun e w' => e = .returned (.int .i64 (tobO (floatBits .add .f32 (fb x) (fb y)))) ∧ ∃ n, w' = w.drewN n := by
  go_enter Try.func32, Try.ntmps32
  go_wp2_with (first | (go_at_call 16; refine (rf_any _ _).mono ?_; rintro e w' ⟨rfl, rfl⟩) | (go_at_call 29; refine (rbits_any _ _ (fval_lt _ _ _ _)).mono ?_; rintro e w' ⟨rfl, rfl⟩) | fail)
  go_ret
  exact ⟨congrArg (fun z => Ending.returned (Value.int .i64 z)) (tobO_fval _ _ _ _), _, rfl⟩

set_option maxHeartbeats 400000 in
theorem rsub_any (x y : Int) (w : World) : Calls Try.prog 46 #[.int .i64 x, .int .i64 y] w fun e w' => e = .returned (.int .i64 (tobO (floatBits .sub .f32 (fb x) (fb y)))) ∧ ∃ n, w' = w.drewN n := by
  go_enter Try.func46, Try.ntmps46
  go_wp2_with (first | (go_at_call 16; refine (rf_any _ _).mono ?_; rintro e w' ⟨rfl, rfl⟩) | (go_at_call 29; refine (rbits_any _ _ (fval_lt _ _ _ _)).mono ?_; rintro e w' ⟨rfl, rfl⟩) | fail)
  go_ret
  exact ⟨congrArg (fun z => Ending.returned (Value.int .i64 z)) (tobO_fval _ _ _ _), _, rfl⟩

set_option maxHeartbeats 400000 in
theorem rdiv_any (x y : Int) (w : World) : Calls Try.prog 31 #[.int .i64 x, .int .i64 y] w fun e w' => e = .returned (.int .i64 (tobO (floatBits .quo .f32 (fb x) (fb y)))) ∧ ∃ n, w' = w.drewN n := by
  go_enter Try.func31, Try.ntmps31
  go_wp2_with (first | (go_at_call 16; refine (rf_any _ _).mono ?_; rintro e w' ⟨rfl, rfl⟩) | (go_at_call 29; refine (rbits_any _ _ (fval_lt _ _ _ _)).mono ?_; rintro e w' ⟨rfl, rfl⟩) | fail)
  go_ret
  exact ⟨congrArg (fun z => Ending.returned (Value.int .i64 z)) (tobO_fval _ _ _ _), _, rfl⟩

/-- The document's Neg of a float. -/
def ngI (x : Int) : Int := if x = 2143289344 then x else (x + 2147483648) % 4294967296

set_option maxHeartbeats 400000 in
theorem rneg_any (x : Int) (w : World) (h0 : 0 ≤ x) (h1 : x < 4294967296) : Calls Try.prog 15 #[.string ⟨#[78, 101, 103]⟩, .int .i64 x] w fun e w' => e = .returned (.tuple #[.int .i64 (ngI x), .bool true]) ∧ w' = w := by
  have RF : Hid (∀ w, Calls Try.prog 16 #[.int .i64 x] w fun e w' => e = .returned (.float .f32 (fb x)) ∧ w' = w) := fun w => rf_any x w
  by_cases hx : x = 2143289344
  · have HN : Hid (ngI x = x) := by show ngI x = x; unfold ngI; rw [if_pos hx]
    have e1 : (x == 2143289344) = true := by simpa using hx
    clear hx h0 h1
    go_enter Try.func15, Try.ntmps15
    go_wp2_with (first | (go_at_call 16; refine (RF.out _).mono ?_; rintro e w' ⟨rfl, rfl⟩) | fail)
    go_ret2
    exact ⟨by rw [HN.out]; rfl, rfl⟩
  · have HN : Hid (ngI x = (x + 2147483648) % 4294967296) := by show ngI x = _; unfold ngI; rw [if_neg hx]
    have e1 : (x == 2143289344) = false := by simpa using hx
    have e2 : wrap64 (x + 2147483648) = x + 2147483648 := by unfold wrap64; omega
    have e3 : (x + 2147483648).tmod 4294967296 = (x + 2147483648) % 4294967296 := Int.tmod_eq_emod_of_nonneg (by omega)
    clear hx
    go_enter Try.func15, Try.ntmps15
    go_wp2_with (first | (go_at_call 16; refine (RF.out _).mono ?_; rintro e w' ⟨rfl, rfl⟩) | fail)
    go_ret2
    exact ⟨by rw [HN.out]; first | rfl | simp [e3], rfl⟩
end Go.Proofs.Ytlehjdjhikgffaa
