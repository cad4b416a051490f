/- A part. -/
import Derived.Test.YteigfipgmghgmaaGreatDoorPartAT
import Derived.Test.YteigfipgmghgmaaGreatDoorPartAR
set_option maxHeartbeats 2000000
namespace Go.Proofs.YteigfipgmghgmaaGreatDoor.Nu
open Go.RowKit
theorem jp9 (x : Nat) : Extern.MathSqrt.sqrt #[.float .f64 x] = (match FloatKind.f64.format.sqrt x with
    | some r => pure (.float .f64 r)
    | none => do pure (.float .f64 (← choose (.nanBits .f64 x x)))) := rfl
theorem jdB (x : Nat) (w : World) : ∃ r n, (callFunc 131 #[.float .f64 x]).run Tryz.prog w = .ok (.value (.float .f64 r)) (w.drewN n) := by
 have e : (callFunc 131 #[.float .f64 x]).run Tryz.prog w = ((Extern.MathSqrt.sqrt #[.float .f64 x]).run Tryz.prog w).andThen fun v w' => .ok (.value v) w' :=
  run_callFunc_extern (fn := Tryz.f131) (by kernel_rfl) (by kernel_rfl) (by kernel_rfl) (by kernel_rfl) (by kernel_rfl) _ _
 rw [e, jp9]
 cases h : FloatKind.f64.format.sqrt x with
 | some r => exact ⟨r, 0, by simp; rfl⟩
 | none => exact ⟨_, 1, by simp [Question.forced]; exact ⟨rfl, rfl⟩⟩
theorem jc0 (x : Nat) (w : World) : ∃ r n, (callFunc 132 #[.float .f64 x]).run Tryz.prog w = .ok (.value (.float .f64 r)) (w.drewN n) := by
 have e : (callFunc 132 #[.float .f64 x]).run Tryz.prog w = ((Extern.MathFloor.toIntegral "math.archFloor" .down #[.float .f64 x]).run Tryz.prog w).andThen fun v w' => .ok (.value v) w' :=
  run_callFunc_extern (fn := Tryz.f132) (by kernel_rfl) (by kernel_rfl) (by kernel_rfl) (by kernel_rfl) (by kernel_rfl) _ _
 rw [e]
 have e2 : ∃ q : Question, q.forced = false ∧ Extern.MathFloor.toIntegral "math.archFloor" .down #[.float .f64 x] = (match FloatKind.f64.decode x with
  | .nan s t =>
   if FloatKind.f64.format.quiet t = t then pure (.float .f64 x) else do
   let kept ← choose q
   pure (.float .f64 (if kept == 1 then x else FloatKind.f64.encode (.nan s (FloatKind.f64.format.quiet t))))
  | d => pure (.float .f64 (FloatKind.f64.encode (d.integral .down)))) := ⟨_, by decide, rfl⟩
 obtain ⟨q, hq, e2⟩ := e2
 rw [e2]
 cases h : FloatKind.f64.decode x with
 | number s m i => exact ⟨_, 0, by simp; exact ⟨rfl, rfl⟩⟩
 | infinity s => exact ⟨_, 0, by simp; exact ⟨rfl, rfl⟩⟩
 | nan s t =>
  by_cases ht : FloatKind.f64.format.quiet t = t
  ·exact ⟨_, 0, by simp [ht]; exact ⟨rfl, rfl⟩⟩
  ·exact ⟨_, 1, by simp [ht, hq]; exact ⟨rfl, rfl⟩⟩
theorem joj : ∃ (r : Nat → World → Nat) (n : Nat → World → Nat), ∀ x w, (callFunc 131 #[.float .f64 x]).run Tryz.prog w = .ok (.value (.float .f64 (r x w))) (w.drewN (n x w)) :=
 ⟨fun x w => Classical.choose (jdB x w), fun x w => Classical.choose (Classical.choose_spec (jdB x w)), fun x w => Classical.choose_spec (Classical.choose_spec (jdB x w))⟩
theorem jmi : ∃ (r : Nat → World → Nat) (n : Nat → World → Nat), ∀ x w, (callFunc 132 #[.float .f64 x]).run Tryz.prog w = .ok (.value (.float .f64 (r x w))) (w.drewN (n x w)) :=
 ⟨fun x w => Classical.choose (jc0 x w), fun x w => Classical.choose (Classical.choose_spec (jc0 x w)), fun x w => Classical.choose_spec (Classical.choose_spec (jc0 x w))⟩
theorem jig (b : Nat) (w : World) : (convert 64 119 (.float .f32 b)).run Tryz.prog w = .ok (.float .f64 (jpW .f32 .f64 b w)) (w.drewN (cdr .f32 .f64 b)) := jjb w _ _ _ _ _ (by kernel_rfl) (by kernel_rfl)
theorem jeV (b : Nat) (w : World) : (convert 119 64 (.float .f64 b)).run Tryz.prog w = .ok (.float .f32 (jpW .f64 .f32 b w)) (w.drewN (cdr .f64 .f32 b)) := jjb w _ _ _ _ _ (by kernel_rfl) (by kernel_rfl)
theorem jgz (b : Nat) (w : World) : (convert 119 3 (.float .f64 b)).run Tryz.prog w = .ok (.int .i64 (ival .f64 .i64 b w)) (w.drewN (idr .f64 .i64 b)) := jn0 w _ _ _ _ _ (by kernel_rfl) (by kernel_rfl)
theorem jea (b : Nat) (w : World) : (callFunc 173 #[.float .f64 b]).run Tryz.prog w = .ok (.value (.int .u64 b)) w := by kernel_rfl
theorem jeb (n : Int) (w : World) : (callFunc 175 #[.int .u64 n]).run Tryz.prog w = .ok (.value (.float .f64 n.toNat)) w := by kernel_rfl
attribute [local go_sem] jig jeV jgz jea jeb jdM jdN jgp jgq jgr jgs jgo
theorem jmj (x : Nat) (w : World) : Calls Tryz.prog 82 #[.float .f64 x] w fun e w' => ∃ r n, e = .returned (.float .f64 r) ∧ w' = w.drewN n := by
 obtain ⟨r, n, h⟩ := jmi
 go_enter Tryz.func82, Tryz.ntmps82
 go_wp2
 go_ret
 exact ⟨_, _, rfl, rfl⟩
theorem jq4 (x : Nat) (w : World) : Calls Tryz.prog 81 #[.float .f64 x] w fun e w' => ∃ r n, e = .returned (.float .f64 r) ∧ w' = w.drewN n := by
 obtain ⟨r, n, h⟩ := joj
 go_enter Tryz.func81, Tryz.ntmps81
 go_wp2
 go_ret
 exact ⟨_, _, rfl, rfl⟩
theorem jih (x : Nat) (w : World) : Calls Tryz.prog 172 #[.float .f64 x] w fun e w' => ∃ r m n, e = .returned (.tuple #[.float .f64 r, .int .i64 m]) ∧ w' = w.drewN n := by
 go_enter Tryz.func172, Tryz.ntmps172
 go_wp2
 all_goals
  go_ret2
  first | exact ⟨_, _, 0, rfl, rfl⟩ | exact ⟨_, _, _, rfl, rfl⟩
theorem jj2 (x y : Nat) (w : World) : Calls Tryz.prog 171 #[.float .f64 x, .float .f64 y] w fun e w' => ∃ r n, e = .returned (.float .f64 r) ∧ w' = w.drewN n := by
 go_enter Tryz.func171, Tryz.ntmps171
 go_wp2
 all_goals
  go_ret
  exact ⟨_, 0, rfl, rfl⟩
end Go.Proofs.YteigfipgmghgmaaGreatDoor.Nu
namespace Go.Proofs.YteigfipgmghgmaaGreatDoor.Nu
open Go.RowKit
attribute [local go_sem] jig jeV jgz jea jeb jdM jdN jgp jgq jgr jgs jgo
theorem jqa (x : Nat) (m : Int) (w : World) : Calls Tryz.prog 163 #[.float .f64 x, .int .i64 m] w fun e w' => ∃ r n, e = .returned (.float .f64 r) ∧ w' = w.drewN n := by
 go_enter Tryz.func163, Tryz.ntmps163
 go_wp2_with (first | (go_at_call 172; refine (jih _ _).mono ?_; rintro e w' ⟨r, m, n, rfl, rfl⟩) | (go_at_call 171; refine (jj2 _ _ _).mono ?_; rintro e w' ⟨r, n, rfl, rfl⟩) | go_in)
 all_goals
  go_ret
  first | exact ⟨_, 0, rfl, rfl⟩ | exact ⟨_, _, rfl, rfl⟩
theorem jqb (x : Nat) (m : Int) (w : World) : Calls Tryz.prog 134 #[.float .f64 x, .int .i64 m] w fun e w' => ∃ r n, e = .returned (.float .f64 r) ∧ w' = w.drewN n := by
 go_enter Tryz.func134, Tryz.ntmps134
 go_wp2_with (first | (go_at_call 163; refine (jqa _ _ _).mono ?_; rintro e w' ⟨r, n, rfl, rfl⟩) | go_in)
 go_ret
 exact ⟨_, _, rfl, rfl⟩
theorem jqc (x : Nat) (w : World) (hx : x < 4294967296) : Calls Tryz.prog 83 #[.float .f32 x] w fun e w' => ∃ r n, r < 4294967296 ∧ e = .returned (.float .f32 r) ∧ w' = w.drewN n := by
 cases h1 : (FloatKind.f32.format.order x x != some .eq) with
 | true =>
  go_enter Tryz.func83, Tryz.ntmps83
  go_wp2
  go_ret
  exact ⟨x, 0, hx, rfl, rfl⟩
 | false =>
  cases h2 : (FloatKind.f32.format.order x 1118961664 == some .gt) with
  | true =>
   go_enter Tryz.func83, Tryz.ntmps83
   go_wp2_with (first | (go_at_call 50; refine (jaU _ _).mono ?_; rintro e w' ⟨rfl, rfl⟩) | go_in)
   go_ret
   exact ⟨_, 0, jcS _, rfl, rfl⟩
  | false =>
   cases h3 : (FloatKind.f32.format.order x 3268542464 == some .lt) with
   | true =>
    go_enter Tryz.func83, Tryz.ntmps83
    go_wp2
    go_ret
    exact ⟨0, 0, by decide, rfl, rfl⟩
   | false =>
    go_enter Tryz.func83, Tryz.ntmps83
    go_wp2_with (first | (go_at_call 82; refine (jmj _ _).mono ?_; rintro e w' ⟨kf, n1, rfl, rfl⟩) | fail)
    go_loopw [6, 7] (fun p i w' => ∃ (k r n : Nat), k ≤ 13 ∧ i = .int .i64 k ∧ p = .float .f64 r ∧ w' = w.drewN n) (fun _ i _ => (intOf i).toNat)
    case atStart => exact ⟨13, _, _, Nat.le_refl _, rfl, rfl, rfl⟩
    case round =>
     obtain ⟨k, r, n, hk, rfl, rfl, rfl⟩ := hrel
     by_cases hlt : 1 ≤ k
     ·go_wp2
      go_roundw
      case rel => exact ⟨k - 1, _, _, by omega, by go_num, rfl, rfl⟩
      case measure => simp [intOf]; omega
     ·go_wp2_with (first | (go_at_call 134; refine (jqb _ _ _).mono ?_; rintro e w' ⟨rl, nl, rfl, rfl⟩) | (go_at_call 50; refine (jaU _ _).mono ?_; rintro e w' ⟨rfl, rfl⟩) | go_in)
      all_goals
       go_ret
       first | exact ⟨_, _, jcS _, rfl, rfl⟩ | exact ⟨_, _, jeQ _ _, rfl, rfl⟩
end Go.Proofs.YteigfipgmghgmaaGreatDoor.Nu
namespace Go.Proofs.YteigfipgmghgmaaGreatDoor.Nu
open Go.RowKit
attribute [local go_sem] jig jeV jgz jea jeb jdM jdN jgp jgq jgr jgs jgo
theorem jii (op : BinOp) (a b : Int) : (bits op .u32 a b).toNat < 4294967296 := by
 unfold bits
 rw [IntKind.wrap_u32']
 omega
theorem jpl (x y : Nat) (w : World) : Calls Tryz.prog 135 #[.float .f32 x, .float .f32 y] w fun e w' => ∃ r, r < 4294967296 ∧ e = .returned (.float .f32 r) ∧ w' = w := by
 go_enter Tryz.func135, Tryz.ntmps135
 go_wp2
 go_ret
 exact ⟨_, jii _ _ _, rfl, rfl⟩
theorem jmk (x : Nat) (w : World) (hx : x < 4294967296) : Calls Tryz.prog 84 #[.float .f32 x] w fun e w' => ∃ r n, r < 4294967296 ∧ e = .returned (.float .f32 r) ∧ w' = w.drewN n := by
 have hn := jlk x hx
 go_enter Tryz.func84, Tryz.ntmps84
 go_wp2_with (first | (go_at_call 83; refine (jqc _ _ hn).mono ?_; rintro e w' ⟨r, n, hr, rfl, rfl⟩) | go_in)
 go_ret
 exact ⟨_, _, jll _ _ _ _, rfl, rfl⟩
theorem jq5 (x : Nat) (w : World) (hx : x < 4294967296) : Calls Tryz.prog 85 #[.float .f32 x] w fun e w' => ∃ r n, r < 4294967296 ∧ e = .returned (.float .f32 r) ∧ w' = w.drewN n := by
 cases h1 : (FloatKind.f32.format.order (jpT x) 1092616192 == some .gt) with
 | true =>
  go_enter Tryz.func85, Tryz.ntmps85
  go_wp2_with (first | (go_at_call 79; refine (jcZ _ _ hx).mono ?_; rintro e w' ⟨rfl, rfl⟩) | (go_at_call 135; refine (jpl _ _ _).mono ?_; rintro e w' ⟨rs, hs, rfl, rfl⟩) | go_in)
  go_ret
  exact ⟨_, 0, ‹_›, rfl, rfl⟩
 | false =>
  go_enter Tryz.func85, Tryz.ntmps85
  go_wp2_with (first | (go_at_call 79; refine (jcZ _ _ hx).mono ?_; rintro e w' ⟨rfl, rfl⟩) | (go_at_call 83; refine (jqc _ _ (jll _ _ _ _)).mono ?_; rintro e w' ⟨r, n, hr, rfl, rfl⟩) | (go_at_call 135; refine (jpl _ _ _).mono ?_; rintro e w' ⟨rs, hs, rfl, rfl⟩) | go_in)
  go_ret
  exact ⟨_, _, ‹_›, rfl, rfl⟩
theorem jok (b : Nat) (w : World) (_hb : b < 4294967296) : Calls Tryz.prog 49 #[.string ⟨#[83, 113, 114, 116]⟩, .float .f32 b] w fun e w' => ∃ r n, r < 4294967296 ∧ e = .returned (.tuple #[.int .i64 (tob r), .int .i64 0]) ∧ w' = w.drewN n := by
 go_enter Tryz.func49, Tryz.ntmps49
 go_wp2_with (first | (go_at_call 81; refine (jq4 _ _).mono ?_; rintro e w' ⟨r, n, rfl, rfl⟩) | (go_at_call 62; refine (jbF _ _ (jeQ _ _)).mono ?_; rintro e w' ⟨rfl, rfl⟩) | go_in)
 go_ret2
 exact ⟨_, _, jeQ _ _, rfl, rfl⟩
theorem jol (b : Nat) (w : World) (_hb : b < 4294967296) : Calls Tryz.prog 49 #[.string ⟨#[70, 108, 111, 111, 114]⟩, .float .f32 b] w fun e w' => ∃ r n, r < 4294967296 ∧ e = .returned (.tuple #[.int .i64 (tob r), .int .i64 0]) ∧ w' = w.drewN n := by
 go_enter Tryz.func49, Tryz.ntmps49
 go_wp2_with (first | (go_at_call 82; refine (jmj _ _).mono ?_; rintro e w' ⟨r, n, rfl, rfl⟩) | (go_at_call 62; refine (jbF _ _ (jeQ _ _)).mono ?_; rintro e w' ⟨rfl, rfl⟩) | go_in)
 go_ret2
 exact ⟨_, _, jeQ _ _, rfl, rfl⟩
theorem jom (b : Nat) (w : World) (hb : b < 4294967296) : Calls Tryz.prog 49 #[.string ⟨#[69, 120, 112]⟩, .float .f32 b] w fun e w' => ∃ r n, r < 4294967296 ∧ e = .returned (.tuple #[.int .i64 (tob r), .int .i64 0]) ∧ w' = w.drewN n := by
 go_enter Tryz.func49, Tryz.ntmps49
 go_wp2_with (first | (go_at_call 83; refine (jqc _ _ hb).mono ?_; rintro e w' ⟨r, n, hr, rfl, rfl⟩) | (go_at_call 62; refine (jbF _ _ (by assumption)).mono ?_; rintro e w' ⟨rfl, rfl⟩) | go_in)
 go_ret2
 exact ⟨_, _, ‹_›, rfl, rfl⟩
theorem jon (b : Nat) (w : World) (hb : b < 4294967296) : Calls Tryz.prog 49 #[.string ⟨#[83, 105, 103, 109, 111, 105, 100]⟩, .float .f32 b] w fun e w' => ∃ r n, r < 4294967296 ∧ e = .returned (.tuple #[.int .i64 (tob r), .int .i64 0]) ∧ w' = w.drewN n := by
 go_enter Tryz.func49, Tryz.ntmps49
 go_wp2_with (first | (go_at_call 84; refine (jmk _ _ hb).mono ?_; rintro e w' ⟨r, n, hr, rfl, rfl⟩) | (go_at_call 62; refine (jbF _ _ (by assumption)).mono ?_; rintro e w' ⟨rfl, rfl⟩) | go_in)
 go_ret2
 exact ⟨_, _, ‹_›, rfl, rfl⟩
theorem joo (b : Nat) (w : World) (hb : b < 4294967296) : Calls Tryz.prog 49 #[.string ⟨#[84, 97, 110, 104]⟩, .float .f32 b] w fun e w' => ∃ r n, r < 4294967296 ∧ e = .returned (.tuple #[.int .i64 (tob r), .int .i64 0]) ∧ w' = w.drewN n := by
 go_enter Tryz.func49, Tryz.ntmps49
 go_wp2_with (first | (go_at_call 85; refine (jq5 _ _ hb).mono ?_; rintro e w' ⟨r, n, hr, rfl, rfl⟩) | (go_at_call 62; refine (jbF _ _ (by assumption)).mono ?_; rintro e w' ⟨rfl, rfl⟩) | go_in)
 go_ret2
 exact ⟨_, _, ‹_›, rfl, rfl⟩
theorem unary5_1 (x : Int) (w : World) (hx : chk 1 x = true) : Calls Tryz.prog 29 #[.string ⟨#[83, 113, 114, 116]⟩, .int .i64 1, .int .i64 x] w fun e w' => ∃ r n, r < 4294967296 ∧ e = .returned (.tuple #[.int .i64 (tob r), .int .i64 0]) ∧ w' = w.drewN n := by
 go_enter Tryz.func29, Tryz.ntmps29
 go_wp2_with (first | (go_at_call 45; refine (jak _ _ _).mono ?_; rintro e w' ⟨rfl, rfl⟩) | (go_at_call 50; refine (jaU _ _).mono ?_; rintro e w' ⟨rfl, rfl⟩) | (go_at_call 49; refine (jok _ _ (jcS _)).mono ?_; rintro e w' ⟨r, n, hr, rfl, rfl⟩))
 go_ret2
 exact ⟨_, _, ‹_›, rfl, rfl⟩
theorem unary6_1 (x : Int) (w : World) (hx : chk 1 x = true) : Calls Tryz.prog 29 #[.string ⟨#[70, 108, 111, 111, 114]⟩, .int .i64 1, .int .i64 x] w fun e w' => ∃ r n, r < 4294967296 ∧ e = .returned (.tuple #[.int .i64 (tob r), .int .i64 0]) ∧ w' = w.drewN n := by
 go_enter Tryz.func29, Tryz.ntmps29
 go_wp2_with (first | (go_at_call 45; refine (jak _ _ _).mono ?_; rintro e w' ⟨rfl, rfl⟩) | (go_at_call 50; refine (jaU _ _).mono ?_; rintro e w' ⟨rfl, rfl⟩) | (go_at_call 49; refine (jol _ _ (jcS _)).mono ?_; rintro e w' ⟨r, n, hr, rfl, rfl⟩))
 go_ret2
 exact ⟨_, _, ‹_›, rfl, rfl⟩
theorem unary7_1 (x : Int) (w : World) (hx : chk 1 x = true) : Calls Tryz.prog 29 #[.string ⟨#[69, 120, 112]⟩, .int .i64 1, .int .i64 x] w fun e w' => ∃ r n, r < 4294967296 ∧ e = .returned (.tuple #[.int .i64 (tob r), .int .i64 0]) ∧ w' = w.drewN n := by
 go_enter Tryz.func29, Tryz.ntmps29
 go_wp2_with (first | (go_at_call 45; refine (jak _ _ _).mono ?_; rintro e w' ⟨rfl, rfl⟩) | (go_at_call 50; refine (jaU _ _).mono ?_; rintro e w' ⟨rfl, rfl⟩) | (go_at_call 49; refine (jom _ _ (jcS _)).mono ?_; rintro e w' ⟨r, n, hr, rfl, rfl⟩))
 go_ret2
 exact ⟨_, _, ‹_›, rfl, rfl⟩
theorem unary8_1 (x : Int) (w : World) (hx : chk 1 x = true) : Calls Tryz.prog 29 #[.string ⟨#[83, 105, 103, 109, 111, 105, 100]⟩, .int .i64 1, .int .i64 x] w fun e w' => ∃ r n, r < 4294967296 ∧ e = .returned (.tuple #[.int .i64 (tob r), .int .i64 0]) ∧ w' = w.drewN n := by
 go_enter Tryz.func29, Tryz.ntmps29
 go_wp2_with (first | (go_at_call 45; refine (jak _ _ _).mono ?_; rintro e w' ⟨rfl, rfl⟩) | (go_at_call 50; refine (jaU _ _).mono ?_; rintro e w' ⟨rfl, rfl⟩) | (go_at_call 49; refine (jon _ _ (jcS _)).mono ?_; rintro e w' ⟨r, n, hr, rfl, rfl⟩))
 go_ret2
 exact ⟨_, _, ‹_›, rfl, rfl⟩
theorem unary9_1 (x : Int) (w : World) (hx : chk 1 x = true) : Calls Tryz.prog 29 #[.string ⟨#[84, 97, 110, 104]⟩, .int .i64 1, .int .i64 x] w fun e w' => ∃ r n, r < 4294967296 ∧ e = .returned (.tuple #[.int .i64 (tob r), .int .i64 0]) ∧ w' = w.drewN n := by
 go_enter Tryz.func29, Tryz.ntmps29
 go_wp2_with (first | (go_at_call 45; refine (jak _ _ _).mono ?_; rintro e w' ⟨rfl, rfl⟩) | (go_at_call 50; refine (jaU _ _).mono ?_; rintro e w' ⟨rfl, rfl⟩) | (go_at_call 49; refine (joo _ _ (jcS _)).mono ?_; rintro e w' ⟨r, n, hr, rfl, rfl⟩))
 go_ret2
 exact ⟨_, _, ‹_›, rfl, rfl⟩
end Go.Proofs.YteigfipgmghgmaaGreatDoor.Nu
