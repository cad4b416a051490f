/- The walk of the statements' own anchor 'live': it answers true. Its calls at fixed numbers are run in the kernel. -/
import Derived.Test.YtlehjdjhikgffaaWalkU
namespace Go.Proofs.Ytlehjdjhikgffaa
open Go.RowKit

theorem grown_drewN {W w' : World} {n : Nat} (h : Grown W w') : Grown W (w'.drewN n) := h

def topOf (s : Stepped) : Frame :=
  match s with
  | .next m => match m.gs.toList with
    | [g] => g.frame
    | _ => { fn := 0, tmps := #[], todo := [], defers := [], mode := .run, kind := .normal }
  | _ => { fn := 0, tmps := #[], todo := [], defers := [], mode := .run, kind := .normal }

/-- A call that ends, by a run of so many steps: whatever the world and the callers. -/
theorem calls_of_run {P : Program} {f : FuncId} {fn : Func} {args : Array Value} {w : World} {v : Value} (N : Nat) (hf : P.funcs[f]? = some fn)
    (h1 : ∀ cs, runN P N (lone (Frame.enter P f args .normal) cs w) = .next (lone (topOf (runN P N (lone (Frame.enter P f args .normal) cs w))) cs w))
    (h2 : ∀ cs, (fun fr : Frame => (fr.fn, fr.mode, fr.defers, fr.kind, (results fn fr.tmps).run P w)) (topOf (runN P N (lone (Frame.enter P f args .normal) cs w))) = (f, .returning, [], .normal, .ok v w)) :
    Calls P f args w fun e w' => e = .returned v ∧ w' = w := by
  intro cs
  have a := h2 cs
  simp only [Prod.mk.injEq] at a
  obtain ⟨a1, a2, a3, a4, a5⟩ := a
  refine ⟨.returned v, w, topOf (runN P N (lone (Frame.enter P f args .normal) cs w)), ⟨rfl, rfl⟩, ⟨N, h1 cs⟩, a1, a2, a3, a4, fn, ?_, a5⟩
  rw [a1]; exact hf

theorem live_exp (w : World) : Calls Try.prog 4 #[.string ⟨#[69, 120, 112]⟩, .int .i64 1, .int .i64 1065353216] w fun e w' => e = .returned (.tuple #[.int .i64 1076754516, .int .i64 0]) ∧ w' = w :=
  calls_of_run (fn := Try.f4) 853 (by kernel_rfl) (fun cs => by kernel_rfl) (fun cs => by kernel_rfl)

theorem live_cast (w : World) : Calls Try.prog 18 #[.int .i64 1, .int .i64 6, .int .i64 3223322624] w fun e w' => e = .returned (.tuple #[.int .i64 (-2), .int .i64 0]) ∧ w' = w :=
  calls_of_run (fn := Try.f18) 201 (by kernel_rfl) (fun cs => by kernel_rfl) (fun cs => by kernel_rfl)

theorem live_add (w : World) : Calls Try.prog 17 #[.string ⟨#[65, 100, 100]⟩, .int .i64 1, .int .i64 1065353216, .int .i64 1073741824] w fun e w' => e = .returned (.tuple #[.int .i64 1077936128, .int .i64 0]) ∧ ∃ n, w' = w.drewN n := by
  have h := binary0 1 1065353216 1073741824 w
  rw [show bin 0 1 1065353216 1073741824 = (1077936128, 0) from by kernel_rfl] at h
  exact h

theorem live_div (w : World) : Calls Try.prog 17 #[.string ⟨#[68, 105, 118]⟩, .int .i64 6, .int .i64 1, .int .i64 0] w fun e w' => e = .returned (.tuple #[.int .i64 0, .int .i64 7]) ∧ ∃ n, w' = w.drewN n := by
  have h := binary3 6 1 0 w
  rw [show bin 3 6 1 0 = (0, 7) from by kernel_rfl] at h
  exact h

theorem live_nan : chk 1 2143289344 = true := by kernel_rfl
theorem live_nan1 : chk 1 2143289345 = false := by kernel_rfl

set_option maxHeartbeats 400000 in
theorem live_any (w : World) : Calls Try.prog 8 #[] w fun e w' => e = .returned (.bool true) ∧ ∃ n, w' = w.drewN n := by
  have c1 := live_nan
  have c2 := live_nan1
  go_enter Try.func8, Try.ntmps8
  go_wp2_with fail
  refine (live_add _).mono ?_
  rintro e w' ⟨rfl, n1, rfl⟩
  go_wp2_with fail
  refine (live_exp _).mono ?_
  rintro e w' ⟨rfl, rfl⟩
  go_wp2_with fail
  refine (live_div _).mono ?_
  rintro e w' ⟨rfl, n2, rfl⟩
  go_wp2_with fail
  refine (live_cast _).mono ?_
  rintro e w' ⟨rfl, rfl⟩
  go_wp2_with (go_at_call 6; refine (check_any _ _ _).mono ?_; rintro e w' ⟨rfl, rfl⟩)
  go_ret
  exact ⟨rfl, n1 + n2, rfl⟩
end Go.Proofs.Ytlehjdjhikgffaa
