/- Sqrt, Exp and Sigmoid of package num: what they answer of any float. -/
import Derived.Test.YteigfipgmghgmaaGreatDoorNuWalkE4
import Derived.Test.YteigfipgmghgmaaGreatDoorNuPlainE5
namespace Go.Proofs.YteigfipgmghgmaaGreatDoor.Nu
open Go.RowKit Mo
attribute [local go_sem] conv_up conv_down ext_bits64 ext_from64 ext_from ext_bits negF_eq

/-- What Sqrt gives of a float of 64 bits. -/
def SqS (x r : Nat) : Prop := match FloatKind.f64.format.sqrt x with
  | some q => r = q
  | none => (FloatKind.f64.decode r).isNaN = true

theorem nan64b (t x y : Nat) : (FloatKind.f64.decode ((Question.nanBits .f64 x y).cut t)).isNaN = true := nan64 t 0

theorem ext_sqrtS_ex (x : Nat) (w : World) : ∃ r n, (callFunc 131 #[.float .f64 x]).run Tryz.prog w = .ok (.value (.float .f64 r)) (w.drewN n) ∧ SqS x r := by
  have e : (callFunc 131 #[.float .f64 x]).run Tryz.prog w = ((Extern.MathSqrt.sqrt #[.float .f64 x]).run Tryz.prog w).andThen fun v w' => .ok (.value v) w' :=
    run_callFunc_extern (fn := Tryz.f131) (by kernel_rfl) (by kernel_rfl) (by kernel_rfl) (by kernel_rfl) (by kernel_rfl) _ _
  rw [e, sqrt_eq]
  unfold SqS
  cases h : FloatKind.f64.format.sqrt x with
  | some r => exact ⟨r, 0, by simp; rfl, rfl⟩
  | none => exact ⟨_, 1, by simp [Question.forced]; exact ⟨rfl, rfl⟩, nan64b _ x x⟩

theorem ext_sqrtS : ∃ (r : Nat → World → Nat) (n : Nat → World → Nat), ∀ x w, (callFunc 131 #[.float .f64 x]).run Tryz.prog w = .ok (.value (.float .f64 (r x w))) (w.drewN (n x w)) ∧ SqS x (r x w) :=
  ⟨fun x w => Classical.choose (ext_sqrtS_ex x w), fun x w => Classical.choose (Classical.choose_spec (ext_sqrtS_ex x w)), fun x w => Classical.choose_spec (Classical.choose_spec (ext_sqrtS_ex x w))⟩

set_option maxHeartbeats 400000 in
theorem sqrt_s (x : Nat) (w : World) : Calls Tryz.prog 81 #[.float .f64 x] w fun e w' => ∃ r n, Hid (SqS x r) ∧ e = .returned (.float .f64 r) ∧ w' = w.drewN n := by
  obtain ⟨r, n, hh⟩ := ext_sqrtS
  have h := fun x w => (hh x w).1
  have HS : Hid (∀ x w, SqS x (r x w)) := fun x w => (hh x w).2
  clear hh
  go_enter Tryz.func81, Tryz.ntmps81
  go_wp2
  go_ret
  exact ⟨_, _, HS.out _ _, rfl, rfl⟩

def sqB (b : Nat) : Int := tobO ((floatToFloatBits .f32 b .f64).bind fun x => (FloatKind.f64.format.sqrt x).bind fun r => floatToFloatBits .f64 r .f32)

theorem down_nan (r : Nat) (w : World) (h : (FloatKind.f64.decode r).isNaN = true) : tob (cval .f64 .f32 r w) = 2143289344 := by
  have e2 : floatToFloatBits .f64 r .f32 = none := by
    unfold floatToFloatBits
    rw [if_neg (by decide)]
    cases hd : FloatKind.f64.decode r with
    | nan s t => rfl
    | number s m i => rw [hd] at h; cases h
    | infinity s => rw [hd] at h; cases h
  unfold cval cq
  rw [e2, if_pos h]
  exact nan_cut _ r r

theorem sqrt_nan (x : Nat) (h : (FloatKind.f64.decode x).isNaN = true) : FloatKind.f64.format.sqrt x = none := by
  have h' : (FloatKind.f64.format.read x).isNaN = true := h
  unfold Ieee.Format.sqrt
  cases hd : FloatKind.f64.format.read x with
  | nan s t => rfl
  | number s m i => rw [hd] at h'; cases h'
  | infinity s => rw [hd] at h'; cases h'

theorem sq_all (b : Nat) (hb : b < 4294967296) (w1 w2 : World) (r : Nat) (hr : SqS (cval .f32 .f64 b w1) r) : tob (cval .f64 .f32 r w2) = sqB b := by
  unfold sqB
  cases hx : floatToFloatBits .f32 b .f64 with
  | none =>
    have hn : (FloatKind.f32.decode b).isNaN = true := by
      have hd : FloatKind.f32.decode b = rdm (decide (2147483648 ≤ b)) (b % 2147483648) := read_eq b hb
      by_cases h1 : b % 2147483648 < 2139095040
      · obtain ⟨ry, e1, e2, e3, e4⟩ := cv_word b hb h1
        rw [hx] at e4; cases e4
      · by_cases h2 : b % 2147483648 = 2139095040
        · obtain ⟨s, g1, g2⟩ := inf_dec b hb h2
          unfold floatToFloatBits at hx
          rw [if_neg (by decide), g1] at hx
          cases hx
        · have := read32_nan b hb
          rw [show FloatKind.f32.decode b = FloatKind.f32.format.read b from rfl, this, decide_eq_true (by omega)]
    have hc : (FloatKind.f64.decode (cval .f32 .f64 b w1)).isNaN = true := by
      unfold cval cq
      rw [hx, if_pos hn]
      exact nan64 _ b
    unfold SqS at hr
    rw [sqrt_nan _ hc] at hr
    rw [down_nan r w2 hr]; rfl
  | some x =>
    have hc : cval .f32 .f64 b w1 = x := by unfold cval; rw [hx]
    unfold SqS at hr
    rw [hc] at hr
    cases hs : FloatKind.f64.format.sqrt x with
    | none =>
      rw [hs] at hr
      rw [down_nan r w2 hr, Option.bind_some, hs]; rfl
    | some q =>
      rw [hs] at hr
      obtain ⟨r32, e⟩ := sq_some b hb x q hx hs
      have hq : r = q := hr
      rw [Option.bind_some, hs, Option.bind_some, hq, e]
      unfold cval
      rw [e]; rfl

set_option maxHeartbeats 400000 in
theorem round5_s (b : Nat) (w : World) (hb : b < 4294967296) : Calls Tryz.prog 49 #[.string ⟨#[83, 113, 114, 116]⟩, .float .f32 b] w fun e w' => ∃ n, e = .returned (.tuple #[.int .i64 (sqB b), .int .i64 0]) ∧ w' = w.drewN n := by
  have FA : Hid (∀ w1 w2 r, SqS (cval .f32 .f64 b w1) r → tob (cval .f64 .f32 r w2) = sqB b) := fun w1 w2 r hr => sq_all b hb w1 w2 r hr
  clear hb
  go_enter Tryz.func49, Tryz.ntmps49
  go_wp2_with (first | (go_at_call 81; refine (sqrt_s _ _).mono ?_; rintro e w' ⟨r, n, hs, rfl, rfl⟩) | (go_at_call 62; refine (to_any _ _ (cval_lt _ _)).mono ?_; rintro e w' ⟨rfl, rfl⟩) | go_in)
  go_ret2
  exact ⟨_, congrArg (fun z => Ending.returned (Value.tuple #[.int .i64 z, .int .i64 0])) (FA.out _ _ _ (Hid.out ‹_›)), rfl⟩

set_option maxHeartbeats 400000 in
theorem round7_s (b : Nat) (w : World) (hb : b < 4294967296) : Calls Tryz.prog 49 #[.string ⟨#[69, 120, 112]⟩, .float .f32 b] w fun e w' => ∃ n, e = .returned (.tuple #[.int .i64 (tob (exW b)), .int .i64 0]) ∧ w' = w.drewN n := by
  have EX : Hid (∀ w, Calls Tryz.prog 83 #[.float .f32 b] w fun e w' => e = .returned (.float .f32 (exW b)) ∧ ∃ n, w' = w.drewN n) := fun w => exp_e b w hb
  have TB : Hid (∀ w, Calls Tryz.prog 62 #[.float .f32 (exW b)] w fun e w' => e = .returned (.int .i64 (tob (exW b))) ∧ w' = w) := fun w => to_any _ w (exW_lt b hb)
  clear hb
  go_enter Tryz.func49, Tryz.ntmps49
  go_wp2_with (first | (go_at_call 83; refine (EX.out _).mono ?_; rintro e w' ⟨rfl, n, rfl⟩) | (go_at_call 62; refine (TB.out _).mono ?_; rintro e w' ⟨rfl, rfl⟩) | go_in)
  go_ret2
  exact ⟨_, rfl, rfl⟩

theorem quo_nan (x y : Nat) (h : (FloatKind.f32.format.read y).isNaN = true) : floatBits .quo .f32 x y = none := by
  show (Option.map _ (Ieee.Datum.quotient _ (FloatKind.f32.format.read x) (FloatKind.f32.format.read y))) = none
  cases hy : FloatKind.f32.format.read y with
  | nan s t => cases FloatKind.f32.format.read x <;> rfl
  | number s m i => rw [hy] at h; cases h
  | infinity s => rw [hy] at h; cases h

theorem nb_nan (x y t : Nat) : (FloatKind.f32.format.read (nb x y t)).isNaN = true := by
  have h := tob_nb x y t
  rw [tob_eq] at h
  cases hn : (FloatKind.f32.format.read (nb x y t)).isNaN with
  | true => rfl
  | false =>
    rw [hn, if_neg (by decide)] at h
    have h' : nb x y t = 2143289344 := by omega
    rw [h'] at hn
    exact absurd hn (by decide +kernel)

/-- What Sigmoid answers, given what exp does. -/
def sgI (e : Nat) : Int := match floatBits .add .f32 1065353216 e with
  | some a => tobO (floatBits .quo .f32 1065353216 a)
  | none => 2143289344

theorem sg_val (e : Nat) (w1 w2 : World) : tob (fval .quo .f32 1065353216 (fval .add .f32 1065353216 e w1) w2) = sgI e := by
  have hq : ∀ y, tob (fval .quo .f32 1065353216 y w2) = tobO (floatBits .quo .f32 1065353216 y) := fun y => by
    unfold fval
    cases h : floatBits .quo .f32 1065353216 y with
    | some r => rfl
    | none => exact nan_cut _ _ _
  rw [hq]
  unfold sgI
  cases h : floatBits .add .f32 1065353216 e with
  | some a => unfold fval; rw [h]
  | none =>
    unfold fval
    rw [h]
    show tobO (floatBits .quo .f32 1065353216 (nb 1065353216 e _)) = 2143289344
    rw [quo_nan _ _ (nb_nan _ _ _)]; rfl
end Go.Proofs.YteigfipgmghgmaaGreatDoor.Nu
