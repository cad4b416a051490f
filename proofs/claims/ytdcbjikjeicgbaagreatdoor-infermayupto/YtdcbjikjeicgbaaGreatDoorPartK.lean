/- Joined texts: NuPlainK, NuWalkK, NuWalkK2, NuWalkK3, INum. -/
import Derived.Test.YtdcbjikjeicgbaaGreatDoorPartJ
import Derived.Test.YtdcbjikjeicgbaaGreatDoorPartG
/- What an operation on floats gives, whatever comes: the bits, and how many answers it draws. Nothing here names the program. -/
namespace Go.Proofs.YtdcbjikjeicgbaaGreatDoor.Nu
open Go.RowKit

/-- The bits that come of an operation, of a NaN the ones that are drawn. -/
def fval (op : BinOp) (k : FloatKind) (x y : Nat) (w : World) : Nat :=
  match floatBits op k x y with
  | some r => r
  | none => (Question.nanBits k x y).cut (w.tape w.drawn (.nanBits k x y))
def fdr (op : BinOp) (k : FloatKind) (x y : Nat) : Nat :=
  match floatBits op k x y with
  | some _ => 0
  | none => 1

theorem run_fval {P : Program} (w : World) (op : BinOp) (t : TypeId) (k : FloatKind) (x y : Nat) (ho : op = .add ∨ op = .sub ∨ op = .mul ∨ op = .quo) :
    (binOp op t (.float k x) (.float k y)).run P w = .ok (.float k (fval op k x y w)) (w.drewN (fdr op k x y)) := by
  cases h : floatBits op k x y with
  | some r => rw [run_float_arith w op t k x y r h]; simp only [fval, fdr, h]; rfl
  | none =>
    simp only [fval, fdr, h]
    unfold floatBits at h
    rcases ho with rfl | rfl | rfl | rfl <;> simp only at h <;> simp [binOp, Op.floatArith, h, Question.forced] <;> rfl

section
variable {P : Program} (w : World) (t : TypeId) (k : FloatKind) (x y : Nat)
theorem run_fadd : (binOp .add t (.float k x) (.float k y)).run P w = .ok (.float k (fval .add k x y w)) (w.drewN (fdr .add k x y)) := run_fval w .add t k x y (by decide)
theorem run_fsub : (binOp .sub t (.float k x) (.float k y)).run P w = .ok (.float k (fval .sub k x y w)) (w.drewN (fdr .sub k x y)) := run_fval w .sub t k x y (by decide)
theorem run_fmul : (binOp .mul t (.float k x) (.float k y)).run P w = .ok (.float k (fval .mul k x y w)) (w.drewN (fdr .mul k x y)) := run_fval w .mul t k x y (by decide)
theorem run_fquo : (binOp .quo t (.float k x) (.float k y)).run P w = .ok (.float k (fval .quo k x y w)) (w.drewN (fdr .quo k x y)) := run_fval w .quo t k x y (by decide)
end

theorem fval_lt (op : BinOp) (x y : Nat) (w : World) : fval op .f32 x y w < 4294967296 := by
  unfold fval
  split
  · rename_i r h
    have := floatBits_wf h
    simpa [Lit.wf] using this
  · exact nb_lt x y _

/-- The bits of a float as one of the other kind. -/
def cq (s k : FloatKind) (b : Nat) : Question := if (s.decode b).isNaN then .nanConv k b else .floatToFloat b
def cval (s k : FloatKind) (b : Nat) (w : World) : Nat :=
  match floatToFloatBits s b k with
  | some r => r
  | none => (cq s k b).cut (w.tape w.drawn (cq s k b))
def cdr (s k : FloatKind) (b : Nat) : Nat :=
  match floatToFloatBits s b k with
  | some _ => 0
  | none => 1

theorem run_cval {P : Program} (w : World) (src dst : TypeId) (s k : FloatKind) (b : Nat) (hs : (P.underlying src).isSome = true) (hd : P.underlying dst = some (.float k)) :
    (convert src dst (.float s b)).run P w = .ok (.float k (cval s k b w)) (w.drewN (cdr s k b)) := by
  cases h : floatToFloatBits s b k with
  | some r => rw [run_convert_float_float w src dst s k b r hs hd h]; simp only [cval, cdr, h]; rfl
  | none =>
    simp only [cval, cdr, h]
    obtain ⟨u, hs'⟩ := Option.isSome_iff_exists.1 hs
    unfold floatToFloatBits at h
    split at h
    · cases h
    · rename_i ne
      split at h
      · rename_i a c he
        cases u <;> simp [convert, run_underlying hs', run_underlying hd, Conv.floatToFloat, ne, he, cq, Ieee.Datum.isNaN, Question.forced] <;> rfl
      · cases h
      · rename_i sg m e he
        split at h
        · rename_i ho
          cases u <;> simp [convert, run_underlying hs', run_underlying hd, Conv.floatToFloat, ne, he, ho, cq, Ieee.Datum.isNaN, Question.forced] <;> rfl
        · cases h

theorem cval_lt (b : Nat) (w : World) : cval .f64 .f32 b w < 4294967296 := by
  unfold cval
  split
  · rename_i r h
    unfold floatToFloatBits at h
    rw [if_neg (by decide)] at h
    split at h
    · cases h
    · cases h; have := encode_wf .f32 (.infinity ‹_›); simpa [Lit.wf] using this
    · split at h
      · cases h
      · cases h; rename_i a b c _ _; have := encode_wf .f32 (.number a b c); simpa [Lit.wf] using this
  · unfold cq
    split
    · exact nb_lt b b _
    · show _ % 2 ^ 32 < _
      exact Nat.mod_lt _ (by decide)

/-- The whole number of a float; and how many answers are drawn for it. -/
def ival (s : FloatKind) (k : IntKind) (b : Nat) (w : World) : Int :=
  match floatToIntVal s b k with
  | some n => n
  | none => k.wrap ((Question.floatToInt s b k).cut (w.tape w.drawn (.floatToInt s b k)))
def idr (s : FloatKind) (k : IntKind) (b : Nat) : Nat :=
  match floatToIntVal s b k with
  | some _ => 0
  | none => 1

theorem run_ival {P : Program} (w : World) (src dst : TypeId) (s : FloatKind) (k : IntKind) (b : Nat) (hs : (P.underlying src).isSome = true) (hd : P.underlying dst = some (.int k)) :
    (convert src dst (.float s b)).run P w = .ok (.int k (ival s k b w)) (w.drewN (idr s k b)) := by
  cases h : floatToIntVal s b k with
  | some r => rw [run_convert_float_int w src dst s k b r hs hd h]; simp only [ival, idr, h]; rfl
  | none =>
    simp only [ival, idr, h]
    obtain ⟨u, hs'⟩ := Option.isSome_iff_exists.1 hs
    unfold floatToIntVal at h
    split at h
    · rename_i m he
      split at h
      · cases h
      · rename_i hb
        cases u <;> simp [convert, run_underlying hs', run_underlying hd, Conv.floatToInt, he, hb, Question.forced] <;> rfl
    · rename_i he
      cases u <;> simp [convert, run_underlying hs', run_underlying hd, Conv.floatToInt, he, Question.forced] <;> rfl
end Go.Proofs.YtdcbjikjeicgbaaGreatDoor.Nu

/- The walks of package num's operators of one that round: each gives some float's bits, and draws some answers. -/
namespace Go.Proofs.YtdcbjikjeicgbaaGreatDoor.Nu
open Go.RowKit

theorem sqrt_eq (x : Nat) : Extern.MathSqrt.sqrt #[.float .f64 x] = (match FloatKind.f64.format.sqrt x with
    | some r => pure (.float .f64 r)
    | none => do pure (.float .f64 (← choose (.nanBits .f64 x x)))) := rfl

theorem ext_sqrt_ex (x : Nat) (w : World) : ∃ r n, (callFunc 199 #[.float .f64 x]).run Tryz.prog w = .ok (.value (.float .f64 r)) (w.drewN n) := by
  have e : (callFunc 199 #[.float .f64 x]).run Tryz.prog w = ((Extern.MathSqrt.sqrt #[.float .f64 x]).run Tryz.prog w).andThen fun v w' => .ok (.value v) w' :=
    run_callFunc_extern (fn := Tryz.f199) (by kernel_rfl) (by kernel_rfl) (by kernel_rfl) (by kernel_rfl) (by kernel_rfl) _ _
  rw [e, sqrt_eq]
  cases h : FloatKind.f64.format.sqrt x with
  | some r => exact ⟨r, 0, by simp; rfl⟩
  | none => exact ⟨_, 1, by simp [Question.forced]; exact ⟨rfl, rfl⟩⟩

theorem ext_floor_ex (x : Nat) (w : World) : ∃ r n, (callFunc 200 #[.float .f64 x]).run Tryz.prog w = .ok (.value (.float .f64 r)) (w.drewN n) := by
  have e : (callFunc 200 #[.float .f64 x]).run Tryz.prog w = ((Extern.MathFloor.toIntegral "math.archFloor" .down #[.float .f64 x]).run Tryz.prog w).andThen fun v w' => .ok (.value v) w' :=
    run_callFunc_extern (fn := Tryz.f200) (by kernel_rfl) (by kernel_rfl) (by kernel_rfl) (by kernel_rfl) (by kernel_rfl) _ _
  rw [e]
  have e2 : ∃ q : Question, q.forced = false ∧ Extern.MathFloor.toIntegral "math.archFloor" .down #[.float .f64 x] = (match FloatKind.f64.decode x with
    | .nan s t =>
      if FloatKind.f64.format.quiet t = t then pure (.float .f64 x) else do
      let kept ← choose q
      pure (.float .f64 (if kept == 1 then x else FloatKind.f64.encode (.nan s (FloatKind.f64.format.quiet t))))
    | d => pure (.float .f64 (FloatKind.f64.encode (d.integral .down)))) := ⟨_, by decide, rfl⟩
  obtain ⟨q, hq, e2⟩ := e2
  rw [e2]
  cases h : FloatKind.f64.decode x with
  | number s m i => exact ⟨_, 0, by simp; exact ⟨rfl, rfl⟩⟩
  | infinity s => exact ⟨_, 0, by simp; exact ⟨rfl, rfl⟩⟩
  | nan s t =>
    by_cases ht : FloatKind.f64.format.quiet t = t
    · exact ⟨_, 0, by simp [ht]; exact ⟨rfl, rfl⟩⟩
    · exact ⟨_, 1, by simp [ht, hq]; exact ⟨rfl, rfl⟩⟩

theorem ext_sqrt : ∃ (r : Nat → World → Nat) (n : Nat → World → Nat), ∀ x w, (callFunc 199 #[.float .f64 x]).run Tryz.prog w = .ok (.value (.float .f64 (r x w))) (w.drewN (n x w)) :=
  ⟨fun x w => Classical.choose (ext_sqrt_ex x w), fun x w => Classical.choose (Classical.choose_spec (ext_sqrt_ex x w)), fun x w => Classical.choose_spec (Classical.choose_spec (ext_sqrt_ex x w))⟩
theorem ext_floor : ∃ (r : Nat → World → Nat) (n : Nat → World → Nat), ∀ x w, (callFunc 200 #[.float .f64 x]).run Tryz.prog w = .ok (.value (.float .f64 (r x w))) (w.drewN (n x w)) :=
  ⟨fun x w => Classical.choose (ext_floor_ex x w), fun x w => Classical.choose (Classical.choose_spec (ext_floor_ex x w)), fun x w => Classical.choose_spec (Classical.choose_spec (ext_floor_ex x w))⟩

theorem conv_up (b : Nat) (w : World) : (convert 121 170 (.float .f32 b)).run Tryz.prog w = .ok (.float .f64 (cval .f32 .f64 b w)) (w.drewN (cdr .f32 .f64 b)) := run_cval w _ _ _ _ _ (by kernel_rfl) (by kernel_rfl)
theorem conv_down (b : Nat) (w : World) : (convert 170 121 (.float .f64 b)).run Tryz.prog w = .ok (.float .f32 (cval .f64 .f32 b w)) (w.drewN (cdr .f64 .f32 b)) := run_cval w _ _ _ _ _ (by kernel_rfl) (by kernel_rfl)
theorem conv_int (b : Nat) (w : World) : (convert 170 3 (.float .f64 b)).run Tryz.prog w = .ok (.int .i64 (ival .f64 .i64 b w)) (w.drewN (idr .f64 .i64 b)) := run_ival w _ _ _ _ _ (by kernel_rfl) (by kernel_rfl)
theorem ext_bits64 (b : Nat) (w : World) : (callFunc 241 #[.float .f64 b]).run Tryz.prog w = .ok (.value (.int .u64 b)) w := by kernel_rfl
theorem ext_from64 (n : Int) (w : World) : (callFunc 240 #[.int .u64 n]).run Tryz.prog w = .ok (.value (.float .f64 n.toNat)) w := by kernel_rfl
attribute [local go_sem] conv_up conv_down conv_int ext_bits64 ext_from64 ext_from ext_bits run_fadd run_fsub run_fmul run_fquo negF_eq

set_option maxHeartbeats 400000 in
theorem floor_w (x : Nat) (w : World) : Calls Tryz.prog 142 #[.float .f64 x] w fun e w' => ∃ r n, e = .returned (.float .f64 r) ∧ w' = w.drewN n := by
  obtain ⟨r, n, h⟩ := ext_floor
  go_enter Tryz.func142, Tryz.ntmps142
  go_wp2
  go_ret
  exact ⟨_, _, rfl, rfl⟩

set_option maxHeartbeats 400000 in
theorem sqrt_w (x : Nat) (w : World) : Calls Tryz.prog 141 #[.float .f64 x] w fun e w' => ∃ r n, e = .returned (.float .f64 r) ∧ w' = w.drewN n := by
  obtain ⟨r, n, h⟩ := ext_sqrt
  go_enter Tryz.func141, Tryz.ntmps141
  go_wp2
  go_ret
  exact ⟨_, _, rfl, rfl⟩

set_option maxHeartbeats 1000000 in
theorem normalize_w (x : Nat) (w : World) : Calls Tryz.prog 244 #[.float .f64 x] w fun e w' => ∃ r m n, e = .returned (.tuple #[.float .f64 r, .int .i64 m]) ∧ w' = w.drewN n := by
  go_enter Tryz.func244, Tryz.ntmps244
  go_wp2
  all_goals
    go_ret2
    first | exact ⟨_, _, 0, rfl, rfl⟩ | exact ⟨_, _, _, rfl, rfl⟩

set_option maxHeartbeats 1000000 in
theorem copysign_w (x y : Nat) (w : World) : Calls Tryz.prog 235 #[.float .f64 x, .float .f64 y] w fun e w' => ∃ r n, e = .returned (.float .f64 r) ∧ w' = w.drewN n := by
  go_enter Tryz.func235, Tryz.ntmps235
  go_wp2
  all_goals
    go_ret
    exact ⟨_, 0, rfl, rfl⟩
end Go.Proofs.YtdcbjikjeicgbaaGreatDoor.Nu

/- The walks of Ldexp, exp, sigmoid and tanh: each gives some float's bits, and draws some answers. -/
namespace Go.Proofs.YtdcbjikjeicgbaaGreatDoor.Nu
open Go.RowKit
attribute [local go_sem] conv_up conv_down conv_int ext_bits64 ext_from64 ext_from ext_bits run_fadd run_fsub run_fmul run_fquo negF_eq

set_option maxHeartbeats 2000000 in
theorem ldexp_w (x : Nat) (m : Int) (w : World) : Calls Tryz.prog 239 #[.float .f64 x, .int .i64 m] w fun e w' => ∃ r n, e = .returned (.float .f64 r) ∧ w' = w.drewN n := by
  go_enter Tryz.func239, Tryz.ntmps239
  go_wp2_with (first | (go_at_call 244; refine (normalize_w _ _).mono ?_; rintro e w' ⟨r, m, n, rfl, rfl⟩) | (go_at_call 235; refine (copysign_w _ _ _).mono ?_; rintro e w' ⟨r, n, rfl, rfl⟩) | go_in)
  all_goals
    go_ret
    first | exact ⟨_, 0, rfl, rfl⟩ | exact ⟨_, _, rfl, rfl⟩

set_option maxHeartbeats 400000 in
theorem Ldexp_w (x : Nat) (m : Int) (w : World) : Calls Tryz.prog 231 #[.float .f64 x, .int .i64 m] w fun e w' => ∃ r n, e = .returned (.float .f64 r) ∧ w' = w.drewN n := by
  go_enter Tryz.func231, Tryz.ntmps231
  go_wp2_with (first | (go_at_call 239; refine (ldexp_w _ _ _).mono ?_; rintro e w' ⟨r, n, rfl, rfl⟩) | go_in)
  go_ret
  exact ⟨_, _, rfl, rfl⟩

set_option maxHeartbeats 1000000 in
theorem exp_w (x : Nat) (w : World) (hx : x < 4294967296) : Calls Tryz.prog 215 #[.float .f32 x] w fun e w' => ∃ r n, r < 4294967296 ∧ e = .returned (.float .f32 r) ∧ w' = w.drewN n := by
  cases h1 : (FloatKind.f32.format.order x x != some .eq) with
  | true =>
    go_enter Tryz.func215, Tryz.ntmps215
    go_wp2
    go_ret
    exact ⟨x, 0, hx, rfl, rfl⟩
  | false =>
    cases h2 : (FloatKind.f32.format.order x 1118961664 == some .gt) with
    | true =>
      go_enter Tryz.func215, Tryz.ntmps215
      go_wp2_with (first | (go_at_call 191; refine (from_any _ _).mono ?_; rintro e w' ⟨rfl, rfl⟩) | go_in)
      go_ret
      exact ⟨_, 0, fb_lt _, rfl, rfl⟩
    | false =>
      cases h3 : (FloatKind.f32.format.order x 3268542464 == some .lt) with
      | true =>
        go_enter Tryz.func215, Tryz.ntmps215
        go_wp2
        go_ret
        exact ⟨0, 0, by decide, rfl, rfl⟩
      | false =>
        go_enter Tryz.func215, Tryz.ntmps215
        go_wp2_with (first | (go_at_call 142; refine (floor_w _ _).mono ?_; rintro e w' ⟨kf, n1, rfl, rfl⟩) | fail)
        go_loopw [6, 7] (fun p i w' => ∃ (k r n : Nat), k ≤ 13 ∧ i = .int .i64 k ∧ p = .float .f64 r ∧ w' = w.drewN n) (fun _ i _ => (intOf i).toNat)
        case atStart => exact ⟨13, _, _, Nat.le_refl _, rfl, rfl, rfl⟩
        case round =>
          obtain ⟨k, r, n, hk, rfl, rfl, rfl⟩ := hrel
          by_cases hlt : 1 ≤ k
          · go_wp2
            go_roundw
            case rel => exact ⟨k - 1, _, _, by omega, by go_num, rfl, rfl⟩
            case measure => simp [intOf]; omega
          · go_wp2_with (first | (go_at_call 231; refine (Ldexp_w _ _ _).mono ?_; rintro e w' ⟨rl, nl, rfl, rfl⟩) | (go_at_call 191; refine (from_any _ _).mono ?_; rintro e w' ⟨rfl, rfl⟩) | go_in)
            all_goals
              go_ret
              first | exact ⟨_, _, fb_lt _, rfl, rfl⟩ | exact ⟨_, _, cval_lt _ _, rfl, rfl⟩
end Go.Proofs.YtdcbjikjeicgbaaGreatDoor.Nu

/- The walks of sigmoid and tanh, and of Unary at the operators that round: each gives some float's bits, and draws some answers. -/
namespace Go.Proofs.YtdcbjikjeicgbaaGreatDoor.Nu
open Go.RowKit
attribute [local go_sem] conv_up conv_down conv_int ext_bits64 ext_from64 ext_from ext_bits run_fadd run_fsub run_fmul run_fquo negF_eq

theorem bits_u32_lt (op : BinOp) (a b : Int) : (bits op .u32 a b).toNat < 4294967296 := by
  unfold bits
  rw [IntKind.wrap_u32']
  omega

set_option maxHeartbeats 400000 in
theorem sign_w (x y : Nat) (w : World) : Calls Tryz.prog 232 #[.float .f32 x, .float .f32 y] w fun e w' => ∃ r, r < 4294967296 ∧ e = .returned (.float .f32 r) ∧ w' = w := by
  go_enter Tryz.func232, Tryz.ntmps232
  go_wp2
  go_ret
  exact ⟨_, bits_u32_lt _ _ _, rfl, rfl⟩

set_option maxHeartbeats 400000 in
theorem sigmoid_w (x : Nat) (w : World) (hx : x < 4294967296) : Calls Tryz.prog 216 #[.float .f32 x] w fun e w' => ∃ r n, r < 4294967296 ∧ e = .returned (.float .f32 r) ∧ w' = w.drewN n := by
  have hn := negF_lt x hx
  go_enter Tryz.func216, Tryz.ntmps216
  go_wp2_with (first | (go_at_call 215; refine (exp_w _ _ hn).mono ?_; rintro e w' ⟨r, n, hr, rfl, rfl⟩) | go_in)
  go_ret
  exact ⟨_, _, fval_lt _ _ _ _, rfl, rfl⟩

set_option maxHeartbeats 1000000 in
theorem tanh_w (x : Nat) (w : World) (hx : x < 4294967296) : Calls Tryz.prog 217 #[.float .f32 x] w fun e w' => ∃ r n, r < 4294967296 ∧ e = .returned (.float .f32 r) ∧ w' = w.drewN n := by
  cases h1 : (FloatKind.f32.format.order (absF x) 1092616192 == some .gt) with
  | true =>
    go_enter Tryz.func217, Tryz.ntmps217
    go_wp2_with (first | (go_at_call 213; refine (absolute_any _ _ hx).mono ?_; rintro e w' ⟨rfl, rfl⟩) | (go_at_call 232; refine (sign_w _ _ _).mono ?_; rintro e w' ⟨rs, hs, rfl, rfl⟩) | go_in)
    go_ret
    exact ⟨_, 0, ‹_›, rfl, rfl⟩
  | false =>
    go_enter Tryz.func217, Tryz.ntmps217
    go_wp2_with (first | (go_at_call 213; refine (absolute_any _ _ hx).mono ?_; rintro e w' ⟨rfl, rfl⟩) | (go_at_call 215; refine (exp_w _ _ (fval_lt _ _ _ _)).mono ?_; rintro e w' ⟨r, n, hr, rfl, rfl⟩) | (go_at_call 232; refine (sign_w _ _ _).mono ?_; rintro e w' ⟨rs, hs, rfl, rfl⟩) | go_in)
    go_ret
    exact ⟨_, _, ‹_›, rfl, rfl⟩

set_option maxHeartbeats 400000 in
theorem round5_f (b : Nat) (w : World) (_hb : b < 4294967296) : Calls Tryz.prog 190 #[.string ⟨#[83, 113, 114, 116]⟩, .float .f32 b] w fun e w' => ∃ r n, r < 4294967296 ∧ e = .returned (.tuple #[.int .i64 (tob r), .int .i64 0]) ∧ w' = w.drewN n := by
  go_enter Tryz.func190, Tryz.ntmps190
  go_wp2_with (first | (go_at_call 141; refine (sqrt_w _ _).mono ?_; rintro e w' ⟨r, n, rfl, rfl⟩) | (go_at_call 212; refine (to_any _ _ (cval_lt _ _)).mono ?_; rintro e w' ⟨rfl, rfl⟩) | go_in)
  go_ret2
  exact ⟨_, _, cval_lt _ _, rfl, rfl⟩

set_option maxHeartbeats 400000 in
theorem round6_f (b : Nat) (w : World) (_hb : b < 4294967296) : Calls Tryz.prog 190 #[.string ⟨#[70, 108, 111, 111, 114]⟩, .float .f32 b] w fun e w' => ∃ r n, r < 4294967296 ∧ e = .returned (.tuple #[.int .i64 (tob r), .int .i64 0]) ∧ w' = w.drewN n := by
  go_enter Tryz.func190, Tryz.ntmps190
  go_wp2_with (first | (go_at_call 142; refine (floor_w _ _).mono ?_; rintro e w' ⟨r, n, rfl, rfl⟩) | (go_at_call 212; refine (to_any _ _ (cval_lt _ _)).mono ?_; rintro e w' ⟨rfl, rfl⟩) | go_in)
  go_ret2
  exact ⟨_, _, cval_lt _ _, rfl, rfl⟩

set_option maxHeartbeats 400000 in
theorem round7_f (b : Nat) (w : World) (hb : b < 4294967296) : Calls Tryz.prog 190 #[.string ⟨#[69, 120, 112]⟩, .float .f32 b] w fun e w' => ∃ r n, r < 4294967296 ∧ e = .returned (.tuple #[.int .i64 (tob r), .int .i64 0]) ∧ w' = w.drewN n := by
  go_enter Tryz.func190, Tryz.ntmps190
  go_wp2_with (first | (go_at_call 215; refine (exp_w _ _ hb).mono ?_; rintro e w' ⟨r, n, hr, rfl, rfl⟩) | (go_at_call 212; refine (to_any _ _ (by assumption)).mono ?_; rintro e w' ⟨rfl, rfl⟩) | go_in)
  go_ret2
  exact ⟨_, _, ‹_›, rfl, rfl⟩

set_option maxHeartbeats 400000 in
theorem round8_f (b : Nat) (w : World) (hb : b < 4294967296) : Calls Tryz.prog 190 #[.string ⟨#[83, 105, 103, 109, 111, 105, 100]⟩, .float .f32 b] w fun e w' => ∃ r n, r < 4294967296 ∧ e = .returned (.tuple #[.int .i64 (tob r), .int .i64 0]) ∧ w' = w.drewN n := by
  go_enter Tryz.func190, Tryz.ntmps190
  go_wp2_with (first | (go_at_call 216; refine (sigmoid_w _ _ hb).mono ?_; rintro e w' ⟨r, n, hr, rfl, rfl⟩) | (go_at_call 212; refine (to_any _ _ (by assumption)).mono ?_; rintro e w' ⟨rfl, rfl⟩) | go_in)
  go_ret2
  exact ⟨_, _, ‹_›, rfl, rfl⟩

set_option maxHeartbeats 400000 in
theorem round9_f (b : Nat) (w : World) (hb : b < 4294967296) : Calls Tryz.prog 190 #[.string ⟨#[84, 97, 110, 104]⟩, .float .f32 b] w fun e w' => ∃ r n, r < 4294967296 ∧ e = .returned (.tuple #[.int .i64 (tob r), .int .i64 0]) ∧ w' = w.drewN n := by
  go_enter Tryz.func190, Tryz.ntmps190
  go_wp2_with (first | (go_at_call 217; refine (tanh_w _ _ hb).mono ?_; rintro e w' ⟨r, n, hr, rfl, rfl⟩) | (go_at_call 212; refine (to_any _ _ (by assumption)).mono ?_; rintro e w' ⟨rfl, rfl⟩) | go_in)
  go_ret2
  exact ⟨_, _, ‹_›, rfl, rfl⟩

set_option maxHeartbeats 400000 in
theorem unary5_1 (x : Int) (w : World) (hx : chk 1 x = true) : Calls Tryz.prog 120 #[.string ⟨#[83, 113, 114, 116]⟩, .int .i64 1, .int .i64 x] w fun e w' => ∃ r n, r < 4294967296 ∧ e = .returned (.tuple #[.int .i64 (tob r), .int .i64 0]) ∧ w' = w.drewN n := by
  go_enter Tryz.func120, Tryz.ntmps120
  go_wp2_with (first | (go_at_call 168; refine (check_any _ _ _).mono ?_; rintro e w' ⟨rfl, rfl⟩) | (go_at_call 191; refine (from_any _ _).mono ?_; rintro e w' ⟨rfl, rfl⟩) | (go_at_call 190; refine (round5_f _ _ (fb_lt _)).mono ?_; rintro e w' ⟨r, n, hr, rfl, rfl⟩))
  go_ret2
  exact ⟨_, _, ‹_›, rfl, rfl⟩

set_option maxHeartbeats 400000 in
theorem unary6_1 (x : Int) (w : World) (hx : chk 1 x = true) : Calls Tryz.prog 120 #[.string ⟨#[70, 108, 111, 111, 114]⟩, .int .i64 1, .int .i64 x] w fun e w' => ∃ r n, r < 4294967296 ∧ e = .returned (.tuple #[.int .i64 (tob r), .int .i64 0]) ∧ w' = w.drewN n := by
  go_enter Tryz.func120, Tryz.ntmps120
  go_wp2_with (first | (go_at_call 168; refine (check_any _ _ _).mono ?_; rintro e w' ⟨rfl, rfl⟩) | (go_at_call 191; refine (from_any _ _).mono ?_; rintro e w' ⟨rfl, rfl⟩) | (go_at_call 190; refine (round6_f _ _ (fb_lt _)).mono ?_; rintro e w' ⟨r, n, hr, rfl, rfl⟩))
  go_ret2
  exact ⟨_, _, ‹_›, rfl, rfl⟩

set_option maxHeartbeats 400000 in
theorem unary7_1 (x : Int) (w : World) (hx : chk 1 x = true) : Calls Tryz.prog 120 #[.string ⟨#[69, 120, 112]⟩, .int .i64 1, .int .i64 x] w fun e w' => ∃ r n, r < 4294967296 ∧ e = .returned (.tuple #[.int .i64 (tob r), .int .i64 0]) ∧ w' = w.drewN n := by
  go_enter Tryz.func120, Tryz.ntmps120
  go_wp2_with (first | (go_at_call 168; refine (check_any _ _ _).mono ?_; rintro e w' ⟨rfl, rfl⟩) | (go_at_call 191; refine (from_any _ _).mono ?_; rintro e w' ⟨rfl, rfl⟩) | (go_at_call 190; refine (round7_f _ _ (fb_lt _)).mono ?_; rintro e w' ⟨r, n, hr, rfl, rfl⟩))
  go_ret2
  exact ⟨_, _, ‹_›, rfl, rfl⟩

set_option maxHeartbeats 400000 in
theorem unary8_1 (x : Int) (w : World) (hx : chk 1 x = true) : Calls Tryz.prog 120 #[.string ⟨#[83, 105, 103, 109, 111, 105, 100]⟩, .int .i64 1, .int .i64 x] w fun e w' => ∃ r n, r < 4294967296 ∧ e = .returned (.tuple #[.int .i64 (tob r), .int .i64 0]) ∧ w' = w.drewN n := by
  go_enter Tryz.func120, Tryz.ntmps120
  go_wp2_with (first | (go_at_call 168; refine (check_any _ _ _).mono ?_; rintro e w' ⟨rfl, rfl⟩) | (go_at_call 191; refine (from_any _ _).mono ?_; rintro e w' ⟨rfl, rfl⟩) | (go_at_call 190; refine (round8_f _ _ (fb_lt _)).mono ?_; rintro e w' ⟨r, n, hr, rfl, rfl⟩))
  go_ret2
  exact ⟨_, _, ‹_›, rfl, rfl⟩

set_option maxHeartbeats 400000 in
theorem unary9_1 (x : Int) (w : World) (hx : chk 1 x = true) : Calls Tryz.prog 120 #[.string ⟨#[84, 97, 110, 104]⟩, .int .i64 1, .int .i64 x] w fun e w' => ∃ r n, r < 4294967296 ∧ e = .returned (.tuple #[.int .i64 (tob r), .int .i64 0]) ∧ w' = w.drewN n := by
  go_enter Tryz.func120, Tryz.ntmps120
  go_wp2_with (first | (go_at_call 168; refine (check_any _ _ _).mono ?_; rintro e w' ⟨rfl, rfl⟩) | (go_at_call 191; refine (from_any _ _).mono ?_; rintro e w' ⟨rfl, rfl⟩) | (go_at_call 190; refine (round9_f _ _ (fb_lt _)).mono ?_; rintro e w' ⟨r, n, hr, rfl, rfl⟩))
  go_ret2
  exact ⟨_, _, ‹_›, rfl, rfl⟩

theorem wrapT_stays (t n : Int) (h : t = 6 ∨ t = 7) : chk t (wrapT t n) = true := by
  rcases h with rfl | rfl
  · have : -2147483648 ≤ wrapT 6 n ∧ wrapT 6 n ≤ 2147483647 := by
      simp only [wrapT, if_true]; unfold wrap64 wrap32; omega
    simpa [chk] using this
  · simp [chk]

theorem un_stays (k : Nat) (t x : Int) (hk : k < 5) : (un k t x).2 = 0 ∧ chk t (un k t x).1 = true ∨ (un k t x).2 = 1 := by
  cases hx : chk t x with
  | false => right; rw [un_no k t x hx]
  | true =>
    have hk' : k = 0 ∨ k = 1 ∨ k = 2 ∨ k = 3 ∨ k = 4 := by omega
    rcases chk_types t x hx with rfl | rfl | rfl | rfl
    · rcases hk' with rfl | rfl | rfl | rfl | rfl
      · rw [un_0 1 x hx]; exact .inl ⟨rfl, hx⟩
      · rw [un_1 1 x hx (by decide)]; exact .inl ⟨rfl, chk_tob _ (negF_lt _ (fb_lt x))⟩
      · rw [un_1 2 x hx (by decide)]; exact .inl ⟨rfl, chk_tob _ (absF_lt _)⟩
      · rw [un_1 3 x hx (by decide)]; exact .inr rfl
      · rw [un_1 4 x hx (by decide)]; exact .inl ⟨rfl, chk_tob _ (reluF_lt _ (fb_lt x))⟩
    · rcases hk' with rfl | rfl | rfl | rfl | rfl
      · rw [un_0 6 x hx]; exact .inl ⟨rfl, hx⟩
      · rw [un_6 1 x hx (by decide)]; exact .inl ⟨rfl, wrapT_stays 6 _ (by decide)⟩
      · rw [un_6 2 x hx (by decide)]
        refine .inl ⟨rfl, ?_⟩
        show chk 6 (absI 6 x) = true
        unfold absI; split
        · exact wrapT_stays 6 _ (by decide)
        · exact hx
      · rw [un_6 3 x hx (by decide)]; exact .inr rfl
      · rw [un_6 4 x hx (by decide)]; exact .inr rfl
    · rcases hk' with rfl | rfl | rfl | rfl | rfl
      · rw [un_0 7 x hx]; exact .inl ⟨rfl, hx⟩
      · rw [un_7 1 x hx (by decide)]; exact .inl ⟨rfl, wrapT_stays 7 _ (by decide)⟩
      · rw [un_7 2 x hx (by decide)]; exact .inl ⟨rfl, by simp [chk]⟩
      · rw [un_7 3 x hx (by decide)]; exact .inr rfl
      · rw [un_7 4 x hx (by decide)]; exact .inr rfl
    · rcases hk' with rfl | rfl | rfl | rfl | rfl
      · rw [un_0 9 x hx]; exact .inl ⟨rfl, hx⟩
      · rw [un_9 1 x hx (by decide)]; exact .inr rfl
      · rw [un_9 2 x hx (by decide)]; exact .inr rfl
      · rw [un_9 3 x hx (by decide)]
        refine .inl ⟨rfl, ?_⟩
        show chk 9 (1 - x) = true
        rcases chk9 x hx with rfl | rfl <;> decide
      · rw [un_9 4 x hx (by decide)]; exact .inr rfl

theorem stay_un0 (t x : Int) (w : World) : Calls Tryz.prog 120 #[.string ⟨#[73, 100, 101, 110, 116, 105, 116, 121]⟩, .int .i64 t, .int .i64 x] w fun e w' => ∃ (v c : Int) (n : Nat), (c = 0 ∧ chk t v = true ∨ c = 1) ∧ e = .returned (.tuple #[.int .i64 v, .int .i64 c]) ∧ w' = w.drewN n := by
  refine (unary0 t x w).mono ?_
  rintro e w' ⟨rfl, rfl⟩
  exact ⟨_, _, 0, un_stays 0 t x (by decide), rfl, rfl⟩

theorem stay_un1 (t x : Int) (w : World) : Calls Tryz.prog 120 #[.string ⟨#[78, 101, 103]⟩, .int .i64 t, .int .i64 x] w fun e w' => ∃ (v c : Int) (n : Nat), (c = 0 ∧ chk t v = true ∨ c = 1) ∧ e = .returned (.tuple #[.int .i64 v, .int .i64 c]) ∧ w' = w.drewN n := by
  refine (unary1 t x w).mono ?_
  rintro e w' ⟨rfl, rfl⟩
  exact ⟨_, _, 0, un_stays 1 t x (by decide), rfl, rfl⟩

theorem stay_un2 (t x : Int) (w : World) : Calls Tryz.prog 120 #[.string ⟨#[65, 98, 115]⟩, .int .i64 t, .int .i64 x] w fun e w' => ∃ (v c : Int) (n : Nat), (c = 0 ∧ chk t v = true ∨ c = 1) ∧ e = .returned (.tuple #[.int .i64 v, .int .i64 c]) ∧ w' = w.drewN n := by
  refine (unary2 t x w).mono ?_
  rintro e w' ⟨rfl, rfl⟩
  exact ⟨_, _, 0, un_stays 2 t x (by decide), rfl, rfl⟩

theorem stay_un3 (t x : Int) (w : World) : Calls Tryz.prog 120 #[.string ⟨#[78, 111, 116]⟩, .int .i64 t, .int .i64 x] w fun e w' => ∃ (v c : Int) (n : Nat), (c = 0 ∧ chk t v = true ∨ c = 1) ∧ e = .returned (.tuple #[.int .i64 v, .int .i64 c]) ∧ w' = w.drewN n := by
  refine (unary3 t x w).mono ?_
  rintro e w' ⟨rfl, rfl⟩
  exact ⟨_, _, 0, un_stays 3 t x (by decide), rfl, rfl⟩

theorem stay_un4 (t x : Int) (w : World) : Calls Tryz.prog 120 #[.string ⟨#[82, 101, 108, 117]⟩, .int .i64 t, .int .i64 x] w fun e w' => ∃ (v c : Int) (n : Nat), (c = 0 ∧ chk t v = true ∨ c = 1) ∧ e = .returned (.tuple #[.int .i64 v, .int .i64 c]) ∧ w' = w.drewN n := by
  refine (unary4 t x w).mono ?_
  rintro e w' ⟨rfl, rfl⟩
  exact ⟨_, _, 0, un_stays 4 t x (by decide), rfl, rfl⟩

theorem stay_un5 (t x : Int) (w : World) : Calls Tryz.prog 120 #[.string ⟨#[83, 113, 114, 116]⟩, .int .i64 t, .int .i64 x] w fun e w' => ∃ (v c : Int) (n : Nat), (c = 0 ∧ chk t v = true ∨ c = 1) ∧ e = .returned (.tuple #[.int .i64 v, .int .i64 c]) ∧ w' = w.drewN n := by
  cases hx : chk t x with
  | false =>
    refine (unary5_no t x w hx).mono ?_
    rintro e w' ⟨rfl, rfl⟩
    exact ⟨_, _, 0, .inr (by rw [un_no 5 t x hx]), rfl, rfl⟩
  | true =>
    rcases chk_types t x hx with rfl | rfl | rfl | rfl
    · refine (unary5_1 x w hx).mono ?_
      rintro e w' ⟨r, n, hr, rfl, rfl⟩
      exact ⟨_, _, n, .inl ⟨rfl, chk_tob r hr⟩, rfl, rfl⟩
    · refine (unary5_6 x w hx).mono ?_
      rintro e w' ⟨rfl, rfl⟩
      exact ⟨_, _, 0, .inr (by rw [un_6 5 x hx (by decide)]; rfl), rfl, rfl⟩
    · refine (unary5_7 x w hx).mono ?_
      rintro e w' ⟨rfl, rfl⟩
      exact ⟨_, _, 0, .inr (by rw [un_7 5 x hx (by decide)]; rfl), rfl, rfl⟩
    · refine (unary5_9 x w hx).mono ?_
      rintro e w' ⟨rfl, rfl⟩
      exact ⟨_, _, 0, .inr (by rw [un_9 5 x hx (by decide)]; rfl), rfl, rfl⟩

theorem stay_un6 (t x : Int) (w : World) : Calls Tryz.prog 120 #[.string ⟨#[70, 108, 111, 111, 114]⟩, .int .i64 t, .int .i64 x] w fun e w' => ∃ (v c : Int) (n : Nat), (c = 0 ∧ chk t v = true ∨ c = 1) ∧ e = .returned (.tuple #[.int .i64 v, .int .i64 c]) ∧ w' = w.drewN n := by
  cases hx : chk t x with
  | false =>
    refine (unary6_no t x w hx).mono ?_
    rintro e w' ⟨rfl, rfl⟩
    exact ⟨_, _, 0, .inr (by rw [un_no 6 t x hx]), rfl, rfl⟩
  | true =>
    rcases chk_types t x hx with rfl | rfl | rfl | rfl
    · refine (unary6_1 x w hx).mono ?_
      rintro e w' ⟨r, n, hr, rfl, rfl⟩
      exact ⟨_, _, n, .inl ⟨rfl, chk_tob r hr⟩, rfl, rfl⟩
    · refine (unary6_6 x w hx).mono ?_
      rintro e w' ⟨rfl, rfl⟩
      exact ⟨_, _, 0, .inr (by rw [un_6 6 x hx (by decide)]; rfl), rfl, rfl⟩
    · refine (unary6_7 x w hx).mono ?_
      rintro e w' ⟨rfl, rfl⟩
      exact ⟨_, _, 0, .inr (by rw [un_7 6 x hx (by decide)]; rfl), rfl, rfl⟩
    · refine (unary6_9 x w hx).mono ?_
      rintro e w' ⟨rfl, rfl⟩
      exact ⟨_, _, 0, .inr (by rw [un_9 6 x hx (by decide)]; rfl), rfl, rfl⟩

theorem stay_un7 (t x : Int) (w : World) : Calls Tryz.prog 120 #[.string ⟨#[69, 120, 112]⟩, .int .i64 t, .int .i64 x] w fun e w' => ∃ (v c : Int) (n : Nat), (c = 0 ∧ chk t v = true ∨ c = 1) ∧ e = .returned (.tuple #[.int .i64 v, .int .i64 c]) ∧ w' = w.drewN n := by
  cases hx : chk t x with
  | false =>
    refine (unary7_no t x w hx).mono ?_
    rintro e w' ⟨rfl, rfl⟩
    exact ⟨_, _, 0, .inr (by rw [un_no 7 t x hx]), rfl, rfl⟩
  | true =>
    rcases chk_types t x hx with rfl | rfl | rfl | rfl
    · refine (unary7_1 x w hx).mono ?_
      rintro e w' ⟨r, n, hr, rfl, rfl⟩
      exact ⟨_, _, n, .inl ⟨rfl, chk_tob r hr⟩, rfl, rfl⟩
    · refine (unary7_6 x w hx).mono ?_
      rintro e w' ⟨rfl, rfl⟩
      exact ⟨_, _, 0, .inr (by rw [un_6 7 x hx (by decide)]; rfl), rfl, rfl⟩
    · refine (unary7_7 x w hx).mono ?_
      rintro e w' ⟨rfl, rfl⟩
      exact ⟨_, _, 0, .inr (by rw [un_7 7 x hx (by decide)]; rfl), rfl, rfl⟩
    · refine (unary7_9 x w hx).mono ?_
      rintro e w' ⟨rfl, rfl⟩
      exact ⟨_, _, 0, .inr (by rw [un_9 7 x hx (by decide)]; rfl), rfl, rfl⟩

theorem stay_un8 (t x : Int) (w : World) : Calls Tryz.prog 120 #[.string ⟨#[83, 105, 103, 109, 111, 105, 100]⟩, .int .i64 t, .int .i64 x] w fun e w' => ∃ (v c : Int) (n : Nat), (c = 0 ∧ chk t v = true ∨ c = 1) ∧ e = .returned (.tuple #[.int .i64 v, .int .i64 c]) ∧ w' = w.drewN n := by
  cases hx : chk t x with
  | false =>
    refine (unary8_no t x w hx).mono ?_
    rintro e w' ⟨rfl, rfl⟩
    exact ⟨_, _, 0, .inr (by rw [un_no 8 t x hx]), rfl, rfl⟩
  | true =>
    rcases chk_types t x hx with rfl | rfl | rfl | rfl
    · refine (unary8_1 x w hx).mono ?_
      rintro e w' ⟨r, n, hr, rfl, rfl⟩
      exact ⟨_, _, n, .inl ⟨rfl, chk_tob r hr⟩, rfl, rfl⟩
    · refine (unary8_6 x w hx).mono ?_
      rintro e w' ⟨rfl, rfl⟩
      exact ⟨_, _, 0, .inr (by rw [un_6 8 x hx (by decide)]; rfl), rfl, rfl⟩
    · refine (unary8_7 x w hx).mono ?_
      rintro e w' ⟨rfl, rfl⟩
      exact ⟨_, _, 0, .inr (by rw [un_7 8 x hx (by decide)]; rfl), rfl, rfl⟩
    · refine (unary8_9 x w hx).mono ?_
      rintro e w' ⟨rfl, rfl⟩
      exact ⟨_, _, 0, .inr (by rw [un_9 8 x hx (by decide)]; rfl), rfl, rfl⟩

theorem stay_un9 (t x : Int) (w : World) : Calls Tryz.prog 120 #[.string ⟨#[84, 97, 110, 104]⟩, .int .i64 t, .int .i64 x] w fun e w' => ∃ (v c : Int) (n : Nat), (c = 0 ∧ chk t v = true ∨ c = 1) ∧ e = .returned (.tuple #[.int .i64 v, .int .i64 c]) ∧ w' = w.drewN n := by
  cases hx : chk t x with
  | false =>
    refine (unary9_no t x w hx).mono ?_
    rintro e w' ⟨rfl, rfl⟩
    exact ⟨_, _, 0, .inr (by rw [un_no 9 t x hx]), rfl, rfl⟩
  | true =>
    rcases chk_types t x hx with rfl | rfl | rfl | rfl
    · refine (unary9_1 x w hx).mono ?_
      rintro e w' ⟨r, n, hr, rfl, rfl⟩
      exact ⟨_, _, n, .inl ⟨rfl, chk_tob r hr⟩, rfl, rfl⟩
    · refine (unary9_6 x w hx).mono ?_
      rintro e w' ⟨rfl, rfl⟩
      exact ⟨_, _, 0, .inr (by rw [un_6 9 x hx (by decide)]; rfl), rfl, rfl⟩
    · refine (unary9_7 x w hx).mono ?_
      rintro e w' ⟨rfl, rfl⟩
      exact ⟨_, _, 0, .inr (by rw [un_7 9 x hx (by decide)]; rfl), rfl, rfl⟩
    · refine (unary9_9 x w hx).mono ?_
      rintro e w' ⟨rfl, rfl⟩
      exact ⟨_, _, 0, .inr (by rw [un_9 9 x hx (by decide)]; rfl), rfl, rfl⟩

end Go.Proofs.YtdcbjikjeicgbaaGreatDoor.Nu

/- Which operators there are for which types (mkINum.py). -/
namespace Go.Proofs.YtdcbjikjeicgbaaGreatDoor
open Go.RowKit

def names1 : List (List UInt8) := [[73, 100, 101, 110, 116, 105, 116, 121], [78, 101, 103], [65, 98, 115], [78, 111, 116], [82, 101, 108, 117], [83, 113, 114, 116], [70, 108, 111, 111, 114], [69, 120, 112], [83, 105, 103, 109, 111, 105, 100], [84, 97, 110, 104]]
def names2 : List (List UInt8) := [[65, 100, 100], [83, 117, 98], [77, 117, 108], [68, 105, 118], [77, 97, 120], [77, 105, 110], [65, 110, 100], [79, 114], [88, 111, 114], [69, 113, 117, 97, 108], [76, 101, 115, 115], [71, 114, 101, 97, 116, 101, 114]]

/-- Is there an operator of one for a type? -/
def oneOK (op : List UInt8) (t : Int) : Bool := op == [73, 100, 101, 110, 116, 105, 116, 121] || (t == 1 && [[78, 101, 103], [65, 98, 115], [82, 101, 108, 117], [83, 113, 114, 116], [70, 108, 111, 111, 114], [69, 120, 112], [83, 105, 103, 109, 111, 105, 100], [84, 97, 110, 104]].contains op) || (t == 9 && op == [78, 111, 116]) || ((t == 6 || t == 7) && [[78, 101, 103], [65, 98, 115]].contains op)

/-- Is there an operator of two for a type? -/
def twoOK (op : List UInt8) (t : Int) : Bool := (t == 9 && [[65, 110, 100], [79, 114], [88, 111, 114], [69, 113, 117, 97, 108]].contains op) || ((t == 1 || t == 6 || t == 7) && [[65, 100, 100], [83, 117, 98], [77, 117, 108], [68, 105, 118], [77, 97, 120], [77, 105, 110], [69, 113, 117, 97, 108], [76, 101, 115, 115], [71, 114, 101, 97, 116, 101, 114]].contains op)

/-- Behind an operator of one at the element 1. -/
def Opd (w : World) (c : Int) (e : Ending) (w' : World) : Prop := ∃ z, e = .returned (.tuple #[.int .i64 z, .int .i64 c]) ∧ w.grownBy w' none

theorem opd_same {w : World} {z c d : Int} (h : c = d) : ∀ e w', (e = Ending.returned (.tuple #[.int .i64 z, .int .i64 c]) ∧ w' = w) → Opd w d e w' := by
  rintro e w' ⟨rfl, rfl⟩
  exact ⟨z, by rw [h], grown_refl _⟩

theorem opd_drew {w : World} {z c d : Int} (h : c = d) : ∀ e w', (e = Ending.returned (.tuple #[.int .i64 z, .int .i64 c]) ∧ ∃ n, w' = w.drewN n) → Opd w d e w' := by
  rintro e w' ⟨rfl, n, rfl⟩
  exact ⟨z, by rw [h], ⟨rfl, rfl, rfl, Nat.le_refl _, fun k hk hn => rfl⟩⟩

theorem opd_round {w : World} : ∀ e w', (∃ r n, r < 4294967296 ∧ e = Ending.returned (.tuple #[.int .i64 (Nu.tob r), .int .i64 0]) ∧ w' = w.drewN n) → Opd w 0 e w' := by
  rintro e w' ⟨r, n, -, rfl, rfl⟩
  exact ⟨_, rfl, ⟨rfl, rfl, rfl, Nat.le_refl _, fun k hk hn => rfl⟩⟩

theorem typ_cases {t : Int} (h : isTypeP t = true) : t = 1 ∨ t = 6 ∨ t = 7 ∨ t = 9 := by
  simpa [isTypeP, or_assoc] using h

theorem one_Identity (t : Int) (ht : isTypeP t = true) (w : World) : Calls Tryz.prog 120 #[.string ⟨#[73, 100, 101, 110, 116, 105, 116, 121]⟩, .int .i64 t, .int .i64 1] w (Opd w (if oneOK [73, 100, 101, 110, 116, 105, 116, 121] t = true then 0 else 1)) := by
  rcases typ_cases ht with rfl | rfl | rfl | rfl
  · exact (Nu.unary0 1 1 w).mono (opd_same (by rw [Nu.un_0 1 1 (by decide)]; decide))
  · exact (Nu.unary0 6 1 w).mono (opd_same (by rw [Nu.un_0 6 1 (by decide)]; decide))
  · exact (Nu.unary0 7 1 w).mono (opd_same (by rw [Nu.un_0 7 1 (by decide)]; decide))
  · exact (Nu.unary0 9 1 w).mono (opd_same (by rw [Nu.un_0 9 1 (by decide)]; decide))

theorem one_Neg (t : Int) (ht : isTypeP t = true) (w : World) : Calls Tryz.prog 120 #[.string ⟨#[78, 101, 103]⟩, .int .i64 t, .int .i64 1] w (Opd w (if oneOK [78, 101, 103] t = true then 0 else 1)) := by
  rcases typ_cases ht with rfl | rfl | rfl | rfl
  · exact (Nu.unary1_1 1 w (by decide)).mono (opd_same (by rw [Nu.un_1 1 1 (by decide) (by decide)]; rfl))
  · exact (Nu.unary1_6 1 w (by decide)).mono (opd_same (by rw [Nu.un_6 1 1 (by decide) (by decide)]; rfl))
  · exact (Nu.unary1_7 1 w (by decide)).mono (opd_same (by rw [Nu.un_7 1 1 (by decide) (by decide)]; rfl))
  · exact (Nu.unary1_9 1 w (by decide)).mono (opd_same (by rw [Nu.un_9 1 1 (by decide) (by decide)]; rfl))

theorem one_Abs (t : Int) (ht : isTypeP t = true) (w : World) : Calls Tryz.prog 120 #[.string ⟨#[65, 98, 115]⟩, .int .i64 t, .int .i64 1] w (Opd w (if oneOK [65, 98, 115] t = true then 0 else 1)) := by
  rcases typ_cases ht with rfl | rfl | rfl | rfl
  · exact (Nu.unary2_1 1 w (by decide)).mono (opd_same (by rw [Nu.un_1 2 1 (by decide) (by decide)]; rfl))
  · exact (Nu.unary2_6 1 w (by decide)).mono (opd_same (by rw [Nu.un_6 2 1 (by decide) (by decide)]; rfl))
  · exact (Nu.unary2_7 1 w (by decide)).mono (opd_same (by rw [Nu.un_7 2 1 (by decide) (by decide)]; rfl))
  · exact (Nu.unary2_9 1 w (by decide)).mono (opd_same (by rw [Nu.un_9 2 1 (by decide) (by decide)]; rfl))

theorem one_Not (t : Int) (ht : isTypeP t = true) (w : World) : Calls Tryz.prog 120 #[.string ⟨#[78, 111, 116]⟩, .int .i64 t, .int .i64 1] w (Opd w (if oneOK [78, 111, 116] t = true then 0 else 1)) := by
  rcases typ_cases ht with rfl | rfl | rfl | rfl
  · exact (Nu.unary3_1 1 w (by decide)).mono (opd_same (by rw [Nu.un_1 3 1 (by decide) (by decide)]; rfl))
  · exact (Nu.unary3_6 1 w (by decide)).mono (opd_same (by rw [Nu.un_6 3 1 (by decide) (by decide)]; rfl))
  · exact (Nu.unary3_7 1 w (by decide)).mono (opd_same (by rw [Nu.un_7 3 1 (by decide) (by decide)]; rfl))
  · exact (Nu.unary3_9 1 w (by decide)).mono (opd_same (by rw [Nu.un_9 3 1 (by decide) (by decide)]; rfl))

theorem one_Relu (t : Int) (ht : isTypeP t = true) (w : World) : Calls Tryz.prog 120 #[.string ⟨#[82, 101, 108, 117]⟩, .int .i64 t, .int .i64 1] w (Opd w (if oneOK [82, 101, 108, 117] t = true then 0 else 1)) := by
  rcases typ_cases ht with rfl | rfl | rfl | rfl
  · exact (Nu.unary4_1 1 w (by decide)).mono (opd_same (by rw [Nu.un_1 4 1 (by decide) (by decide)]; rfl))
  · exact (Nu.unary4_6 1 w (by decide)).mono (opd_same (by rw [Nu.un_6 4 1 (by decide) (by decide)]; rfl))
  · exact (Nu.unary4_7 1 w (by decide)).mono (opd_same (by rw [Nu.un_7 4 1 (by decide) (by decide)]; rfl))
  · exact (Nu.unary4_9 1 w (by decide)).mono (opd_same (by rw [Nu.un_9 4 1 (by decide) (by decide)]; rfl))

theorem one_Sqrt (t : Int) (ht : isTypeP t = true) (w : World) : Calls Tryz.prog 120 #[.string ⟨#[83, 113, 114, 116]⟩, .int .i64 t, .int .i64 1] w (Opd w (if oneOK [83, 113, 114, 116] t = true then 0 else 1)) := by
  rcases typ_cases ht with rfl | rfl | rfl | rfl
  · exact (Nu.unary5_1 1 w (by decide)).mono opd_round
  · exact (Nu.unary5_6 1 w (by decide)).mono (opd_same (by rw [Nu.un_6 5 1 (by decide) (by decide)]; rfl))
  · exact (Nu.unary5_7 1 w (by decide)).mono (opd_same (by rw [Nu.un_7 5 1 (by decide) (by decide)]; rfl))
  · exact (Nu.unary5_9 1 w (by decide)).mono (opd_same (by rw [Nu.un_9 5 1 (by decide) (by decide)]; rfl))

theorem one_Floor (t : Int) (ht : isTypeP t = true) (w : World) : Calls Tryz.prog 120 #[.string ⟨#[70, 108, 111, 111, 114]⟩, .int .i64 t, .int .i64 1] w (Opd w (if oneOK [70, 108, 111, 111, 114] t = true then 0 else 1)) := by
  rcases typ_cases ht with rfl | rfl | rfl | rfl
  · exact (Nu.unary6_1 1 w (by decide)).mono opd_round
  · exact (Nu.unary6_6 1 w (by decide)).mono (opd_same (by rw [Nu.un_6 6 1 (by decide) (by decide)]; rfl))
  · exact (Nu.unary6_7 1 w (by decide)).mono (opd_same (by rw [Nu.un_7 6 1 (by decide) (by decide)]; rfl))
  · exact (Nu.unary6_9 1 w (by decide)).mono (opd_same (by rw [Nu.un_9 6 1 (by decide) (by decide)]; rfl))

theorem one_Exp (t : Int) (ht : isTypeP t = true) (w : World) : Calls Tryz.prog 120 #[.string ⟨#[69, 120, 112]⟩, .int .i64 t, .int .i64 1] w (Opd w (if oneOK [69, 120, 112] t = true then 0 else 1)) := by
  rcases typ_cases ht with rfl | rfl | rfl | rfl
  · exact (Nu.unary7_1 1 w (by decide)).mono opd_round
  · exact (Nu.unary7_6 1 w (by decide)).mono (opd_same (by rw [Nu.un_6 7 1 (by decide) (by decide)]; rfl))
  · exact (Nu.unary7_7 1 w (by decide)).mono (opd_same (by rw [Nu.un_7 7 1 (by decide) (by decide)]; rfl))
  · exact (Nu.unary7_9 1 w (by decide)).mono (opd_same (by rw [Nu.un_9 7 1 (by decide) (by decide)]; rfl))

theorem one_Sigmoid (t : Int) (ht : isTypeP t = true) (w : World) : Calls Tryz.prog 120 #[.string ⟨#[83, 105, 103, 109, 111, 105, 100]⟩, .int .i64 t, .int .i64 1] w (Opd w (if oneOK [83, 105, 103, 109, 111, 105, 100] t = true then 0 else 1)) := by
  rcases typ_cases ht with rfl | rfl | rfl | rfl
  · exact (Nu.unary8_1 1 w (by decide)).mono opd_round
  · exact (Nu.unary8_6 1 w (by decide)).mono (opd_same (by rw [Nu.un_6 8 1 (by decide) (by decide)]; rfl))
  · exact (Nu.unary8_7 1 w (by decide)).mono (opd_same (by rw [Nu.un_7 8 1 (by decide) (by decide)]; rfl))
  · exact (Nu.unary8_9 1 w (by decide)).mono (opd_same (by rw [Nu.un_9 8 1 (by decide) (by decide)]; rfl))

theorem one_Tanh (t : Int) (ht : isTypeP t = true) (w : World) : Calls Tryz.prog 120 #[.string ⟨#[84, 97, 110, 104]⟩, .int .i64 t, .int .i64 1] w (Opd w (if oneOK [84, 97, 110, 104] t = true then 0 else 1)) := by
  rcases typ_cases ht with rfl | rfl | rfl | rfl
  · exact (Nu.unary9_1 1 w (by decide)).mono opd_round
  · exact (Nu.unary9_6 1 w (by decide)).mono (opd_same (by rw [Nu.un_6 9 1 (by decide) (by decide)]; rfl))
  · exact (Nu.unary9_7 1 w (by decide)).mono (opd_same (by rw [Nu.un_7 9 1 (by decide) (by decide)]; rfl))
  · exact (Nu.unary9_9 1 w (by decide)).mono (opd_same (by rw [Nu.un_9 9 1 (by decide) (by decide)]; rfl))

theorem two_Add (t : Int) (ht : isTypeP t = true) (w : World) : Calls Tryz.prog 173 #[.string ⟨#[65, 100, 100]⟩, .int .i64 t, .int .i64 1, .int .i64 1] w (Opd w (if twoOK [65, 100, 100] t = true then 0 else 1)) := by
  rcases typ_cases ht with rfl | rfl | rfl | rfl
  · exact (Nu.binary0 1 1 1 w).mono (opd_drew (by rfl))
  · exact (Nu.binary0 6 1 1 w).mono (opd_drew (by rfl))
  · exact (Nu.binary0 7 1 1 w).mono (opd_drew (by rfl))
  · exact (Nu.binary0 9 1 1 w).mono (opd_drew (by rfl))

theorem two_Sub (t : Int) (ht : isTypeP t = true) (w : World) : Calls Tryz.prog 173 #[.string ⟨#[83, 117, 98]⟩, .int .i64 t, .int .i64 1, .int .i64 1] w (Opd w (if twoOK [83, 117, 98] t = true then 0 else 1)) := by
  rcases typ_cases ht with rfl | rfl | rfl | rfl
  · exact (Nu.binary1 1 1 1 w).mono (opd_drew (by rfl))
  · exact (Nu.binary1 6 1 1 w).mono (opd_drew (by rfl))
  · exact (Nu.binary1 7 1 1 w).mono (opd_drew (by rfl))
  · exact (Nu.binary1 9 1 1 w).mono (opd_drew (by rfl))

theorem two_Mul (t : Int) (ht : isTypeP t = true) (w : World) : Calls Tryz.prog 173 #[.string ⟨#[77, 117, 108]⟩, .int .i64 t, .int .i64 1, .int .i64 1] w (Opd w (if twoOK [77, 117, 108] t = true then 0 else 1)) := by
  rcases typ_cases ht with rfl | rfl | rfl | rfl
  · exact (Nu.binary2 1 1 1 w).mono (opd_drew (by rfl))
  · exact (Nu.binary2 6 1 1 w).mono (opd_drew (by rfl))
  · exact (Nu.binary2 7 1 1 w).mono (opd_drew (by rfl))
  · exact (Nu.binary2 9 1 1 w).mono (opd_drew (by rfl))

theorem two_Div (t : Int) (ht : isTypeP t = true) (w : World) : Calls Tryz.prog 173 #[.string ⟨#[68, 105, 118]⟩, .int .i64 t, .int .i64 1, .int .i64 1] w (Opd w (if twoOK [68, 105, 118] t = true then 0 else 1)) := by
  rcases typ_cases ht with rfl | rfl | rfl | rfl
  · exact (Nu.binary3 1 1 1 w).mono (opd_drew (by rfl))
  · exact (Nu.binary3 6 1 1 w).mono (opd_drew (by rfl))
  · exact (Nu.binary3 7 1 1 w).mono (opd_drew (by rfl))
  · exact (Nu.binary3 9 1 1 w).mono (opd_drew (by rfl))

theorem two_Max (t : Int) (ht : isTypeP t = true) (w : World) : Calls Tryz.prog 173 #[.string ⟨#[77, 97, 120]⟩, .int .i64 t, .int .i64 1, .int .i64 1] w (Opd w (if twoOK [77, 97, 120] t = true then 0 else 1)) := by
  rcases typ_cases ht with rfl | rfl | rfl | rfl
  · exact (Nu.binary4 1 1 1 w).mono (opd_drew (by rfl))
  · exact (Nu.binary4 6 1 1 w).mono (opd_drew (by rfl))
  · exact (Nu.binary4 7 1 1 w).mono (opd_drew (by rfl))
  · exact (Nu.binary4 9 1 1 w).mono (opd_drew (by rfl))

theorem two_Min (t : Int) (ht : isTypeP t = true) (w : World) : Calls Tryz.prog 173 #[.string ⟨#[77, 105, 110]⟩, .int .i64 t, .int .i64 1, .int .i64 1] w (Opd w (if twoOK [77, 105, 110] t = true then 0 else 1)) := by
  rcases typ_cases ht with rfl | rfl | rfl | rfl
  · exact (Nu.binary5 1 1 1 w).mono (opd_drew (by rfl))
  · exact (Nu.binary5 6 1 1 w).mono (opd_drew (by rfl))
  · exact (Nu.binary5 7 1 1 w).mono (opd_drew (by rfl))
  · exact (Nu.binary5 9 1 1 w).mono (opd_drew (by rfl))

theorem two_And (t : Int) (ht : isTypeP t = true) (w : World) : Calls Tryz.prog 173 #[.string ⟨#[65, 110, 100]⟩, .int .i64 t, .int .i64 1, .int .i64 1] w (Opd w (if twoOK [65, 110, 100] t = true then 0 else 1)) := by
  rcases typ_cases ht with rfl | rfl | rfl | rfl
  · exact (Nu.binary6 1 1 1 w).mono (opd_drew (by rfl))
  · exact (Nu.binary6 6 1 1 w).mono (opd_drew (by rfl))
  · exact (Nu.binary6 7 1 1 w).mono (opd_drew (by rfl))
  · exact (Nu.binary6 9 1 1 w).mono (opd_drew (by rfl))

theorem two_Or (t : Int) (ht : isTypeP t = true) (w : World) : Calls Tryz.prog 173 #[.string ⟨#[79, 114]⟩, .int .i64 t, .int .i64 1, .int .i64 1] w (Opd w (if twoOK [79, 114] t = true then 0 else 1)) := by
  rcases typ_cases ht with rfl | rfl | rfl | rfl
  · exact (Nu.binary7 1 1 1 w).mono (opd_drew (by rfl))
  · exact (Nu.binary7 6 1 1 w).mono (opd_drew (by rfl))
  · exact (Nu.binary7 7 1 1 w).mono (opd_drew (by rfl))
  · exact (Nu.binary7 9 1 1 w).mono (opd_drew (by rfl))

theorem two_Xor (t : Int) (ht : isTypeP t = true) (w : World) : Calls Tryz.prog 173 #[.string ⟨#[88, 111, 114]⟩, .int .i64 t, .int .i64 1, .int .i64 1] w (Opd w (if twoOK [88, 111, 114] t = true then 0 else 1)) := by
  rcases typ_cases ht with rfl | rfl | rfl | rfl
  · exact (Nu.binary8 1 1 1 w).mono (opd_drew (by rfl))
  · exact (Nu.binary8 6 1 1 w).mono (opd_drew (by rfl))
  · exact (Nu.binary8 7 1 1 w).mono (opd_drew (by rfl))
  · exact (Nu.binary8 9 1 1 w).mono (opd_drew (by rfl))

theorem two_Equal (t : Int) (ht : isTypeP t = true) (w : World) : Calls Tryz.prog 173 #[.string ⟨#[69, 113, 117, 97, 108]⟩, .int .i64 t, .int .i64 1, .int .i64 1] w (Opd w (if twoOK [69, 113, 117, 97, 108] t = true then 0 else 1)) := by
  rcases typ_cases ht with rfl | rfl | rfl | rfl
  · exact (Nu.binary9 1 1 1 w).mono (opd_drew (by rfl))
  · exact (Nu.binary9 6 1 1 w).mono (opd_drew (by rfl))
  · exact (Nu.binary9 7 1 1 w).mono (opd_drew (by rfl))
  · exact (Nu.binary9 9 1 1 w).mono (opd_drew (by rfl))

theorem two_Less (t : Int) (ht : isTypeP t = true) (w : World) : Calls Tryz.prog 173 #[.string ⟨#[76, 101, 115, 115]⟩, .int .i64 t, .int .i64 1, .int .i64 1] w (Opd w (if twoOK [76, 101, 115, 115] t = true then 0 else 1)) := by
  rcases typ_cases ht with rfl | rfl | rfl | rfl
  · exact (Nu.binary10 1 1 1 w).mono (opd_drew (by rfl))
  · exact (Nu.binary10 6 1 1 w).mono (opd_drew (by rfl))
  · exact (Nu.binary10 7 1 1 w).mono (opd_drew (by rfl))
  · exact (Nu.binary10 9 1 1 w).mono (opd_drew (by rfl))

theorem two_Greater (t : Int) (ht : isTypeP t = true) (w : World) : Calls Tryz.prog 173 #[.string ⟨#[71, 114, 101, 97, 116, 101, 114]⟩, .int .i64 t, .int .i64 1, .int .i64 1] w (Opd w (if twoOK [71, 114, 101, 97, 116, 101, 114] t = true then 0 else 1)) := by
  rcases typ_cases ht with rfl | rfl | rfl | rfl
  · exact (Nu.binary11 1 1 1 w).mono (opd_drew (by rfl))
  · exact (Nu.binary11 6 1 1 w).mono (opd_drew (by rfl))
  · exact (Nu.binary11 7 1 1 w).mono (opd_drew (by rfl))
  · exact (Nu.binary11 9 1 1 w).mono (opd_drew (by rfl))

theorem one_any (op : ByteArray) (t : Int) (h : op.toList ∈ names1) (ht : isTypeP t = true) (w : World) : Calls Tryz.prog 120 #[.string op, .int .i64 t, .int .i64 1] w (Opd w (if oneOK op.toList t = true then 0 else 1)) := by
  have e : op = B op.toList := by rw [bytes_toList, B_self]
  simp only [names1, List.mem_cons, List.not_mem_nil, or_false] at h
  rcases h with h | h | h | h | h | h | h | h | h | h
  · rw [h, show op = ⟨#[73, 100, 101, 110, 116, 105, 116, 121]⟩ from e.trans (by rw [h]; rfl)]; exact one_Identity t ht w
  · rw [h, show op = ⟨#[78, 101, 103]⟩ from e.trans (by rw [h]; rfl)]; exact one_Neg t ht w
  · rw [h, show op = ⟨#[65, 98, 115]⟩ from e.trans (by rw [h]; rfl)]; exact one_Abs t ht w
  · rw [h, show op = ⟨#[78, 111, 116]⟩ from e.trans (by rw [h]; rfl)]; exact one_Not t ht w
  · rw [h, show op = ⟨#[82, 101, 108, 117]⟩ from e.trans (by rw [h]; rfl)]; exact one_Relu t ht w
  · rw [h, show op = ⟨#[83, 113, 114, 116]⟩ from e.trans (by rw [h]; rfl)]; exact one_Sqrt t ht w
  · rw [h, show op = ⟨#[70, 108, 111, 111, 114]⟩ from e.trans (by rw [h]; rfl)]; exact one_Floor t ht w
  · rw [h, show op = ⟨#[69, 120, 112]⟩ from e.trans (by rw [h]; rfl)]; exact one_Exp t ht w
  · rw [h, show op = ⟨#[83, 105, 103, 109, 111, 105, 100]⟩ from e.trans (by rw [h]; rfl)]; exact one_Sigmoid t ht w
  · rw [h, show op = ⟨#[84, 97, 110, 104]⟩ from e.trans (by rw [h]; rfl)]; exact one_Tanh t ht w

theorem two_any (op : ByteArray) (t : Int) (h : op.toList ∈ names2) (ht : isTypeP t = true) (w : World) : Calls Tryz.prog 173 #[.string op, .int .i64 t, .int .i64 1, .int .i64 1] w (Opd w (if twoOK op.toList t = true then 0 else 1)) := by
  have e : op = B op.toList := by rw [bytes_toList, B_self]
  simp only [names2, List.mem_cons, List.not_mem_nil, or_false] at h
  rcases h with h | h | h | h | h | h | h | h | h | h | h | h
  · rw [h, show op = ⟨#[65, 100, 100]⟩ from e.trans (by rw [h]; rfl)]; exact two_Add t ht w
  · rw [h, show op = ⟨#[83, 117, 98]⟩ from e.trans (by rw [h]; rfl)]; exact two_Sub t ht w
  · rw [h, show op = ⟨#[77, 117, 108]⟩ from e.trans (by rw [h]; rfl)]; exact two_Mul t ht w
  · rw [h, show op = ⟨#[68, 105, 118]⟩ from e.trans (by rw [h]; rfl)]; exact two_Div t ht w
  · rw [h, show op = ⟨#[77, 97, 120]⟩ from e.trans (by rw [h]; rfl)]; exact two_Max t ht w
  · rw [h, show op = ⟨#[77, 105, 110]⟩ from e.trans (by rw [h]; rfl)]; exact two_Min t ht w
  · rw [h, show op = ⟨#[65, 110, 100]⟩ from e.trans (by rw [h]; rfl)]; exact two_And t ht w
  · rw [h, show op = ⟨#[79, 114]⟩ from e.trans (by rw [h]; rfl)]; exact two_Or t ht w
  · rw [h, show op = ⟨#[88, 111, 114]⟩ from e.trans (by rw [h]; rfl)]; exact two_Xor t ht w
  · rw [h, show op = ⟨#[69, 113, 117, 97, 108]⟩ from e.trans (by rw [h]; rfl)]; exact two_Equal t ht w
  · rw [h, show op = ⟨#[76, 101, 115, 115]⟩ from e.trans (by rw [h]; rfl)]; exact two_Less t ht w
  · rw [h, show op = ⟨#[71, 114, 101, 97, 116, 101, 114]⟩ from e.trans (by rw [h]; rfl)]; exact two_Greater t ht w

theorem mustone_any (op : ByteArray) (t : Int) (h : op.toList ∈ names1) (ht : isTypeP t = true) (w : World) : Calls Tryz.prog 51 #[.string op, .int .i64 t] w (Ended w (mustP (oneOK op.toList t)) fun _ v _ => v = .tuple #[]) := by
  have C := hide (one_any op t h ht w)
  cases hx : oneOK op.toList t with
  | true =>
    rw [hx, if_pos rfl] at C
    clear hx h ht
    go_enter Tryz.func51, Tryz.ntmps51
    go_wp2_with (first | (go_at_call 120; refine C.out.mono ?_; rintro e w' ⟨z, rfl, hg⟩) | (go_at_call 45; refine (must_yes _).mono ?_; rintro e w' ⟨rfl, rfl⟩))
    go_end0
    exact ⟨hg, _, rfl, rfl⟩
  | false =>
    rw [hx, if_neg (by decide)] at C
    clear hx h ht
    go_enter Tryz.func51, Tryz.ntmps51
    go_wp2_with (first | (go_at_call 120; refine C.out.mono ?_; rintro e w' ⟨z, rfl, hg⟩) | (go_at_call 45; refine (must_no _).mono ?_; rintro e w' ⟨rfl, rfl⟩))
    exact ⟨rfl, hg, rfl⟩

theorem musttwo_any (op : ByteArray) (t : Int) (h : op.toList ∈ names2) (ht : isTypeP t = true) (w : World) : Calls Tryz.prog 95 #[.string op, .int .i64 t] w (Ended w (mustP (twoOK op.toList t)) fun _ v _ => v = .tuple #[]) := by
  have C := hide (two_any op t h ht w)
  cases hx : twoOK op.toList t with
  | true =>
    rw [hx, if_pos rfl] at C
    clear hx h ht
    go_enter Tryz.func95, Tryz.ntmps95
    go_wp2_with (first | (go_at_call 173; refine C.out.mono ?_; rintro e w' ⟨z, rfl, hg⟩) | (go_at_call 45; refine (must_yes _).mono ?_; rintro e w' ⟨rfl, rfl⟩))
    go_end0
    exact ⟨hg, _, rfl, rfl⟩
  | false =>
    rw [hx, if_neg (by decide)] at C
    clear hx h ht
    go_enter Tryz.func95, Tryz.ntmps95
    go_wp2_with (first | (go_at_call 173; refine C.out.mono ?_; rintro e w' ⟨z, rfl, hg⟩) | (go_at_call 45; refine (must_no _).mono ?_; rintro e w' ⟨rfl, rfl⟩))
    exact ⟨rfl, hg, rfl⟩

end Go.Proofs.YtdcbjikjeicgbaaGreatDoor
