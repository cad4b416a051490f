/- The walk of the statement on Abs and Relu: it answers true, whatever the type and the number. -/
import Derived.Test.YtcfgnhjoajibkacLive
import Derived.Test.YtcfgnhjoajibkacPlainM
namespace Go.Proofs.Ytcfgnhjoajibkac
open Go.RowKit

set_option maxHeartbeats 1000000 in
theorem abs_no (t x : Int) (w : World) (h2 : (un 2 t x).2 = 1) (h1 : (un 1 t x).2 = 1) : Calls Try.prog 6 #[.int .i64 t, .int .i64 x] w fun e w' => e = .returned (.bool true) ∧ Grown w w' := by
  go_enter Try.func6, Try.ntmps6
  go_wp2_with fail
  refine (unary2 _ _ _).mono ?_
  rintro e w' ⟨rfl, rfl⟩
  go_wp2_with fail
  refine (unary1 _ _ _).mono ?_
  rintro e w' ⟨rfl, rfl⟩
  go_wp2_with fail
  refine (live_any _).mono ?_
  rintro e w' ⟨rfl, n3, rfl⟩
  go_wp2_with fail
  go_ret
  exact ⟨rfl, by repeat (first | exact Grown.refl _ | apply grown_drewN | apply Grown.alloc)⟩

set_option maxHeartbeats 1000000 in
theorem abs_yes (t x : Int) (w : World) (h2 : (un 2 t x).2 = 0) (h1 : (un 1 t x).2 = 0) (h4 : (bin 4 t x (un 1 t x).1).2 = 0) (a4 : (bin 4 t x (un 1 t x).1).1 = (un 2 t x).1)
    (hr : (un 4 t x).2 = 1 ∨ (un 4 t x).2 = 0 ∧ (bin 4 t x 0).2 = 0 ∧ (bin 4 t x 0).1 = (un 4 t x).1) : Calls Try.prog 6 #[.int .i64 t, .int .i64 x] w fun e w' => e = .returned (.bool true) ∧ Grown w w' := by
  rcases hr with r1 | ⟨r0, m0, m1⟩
  all_goals
    go_enter Try.func6, Try.ntmps6
    go_wp2_with fail
    refine (unary2 _ _ _).mono ?_
    rintro e w' ⟨rfl, rfl⟩
    go_wp2_with fail
    refine (unary1 _ _ _).mono ?_
    rintro e w' ⟨rfl, rfl⟩
    go_wp2_with fail
    refine (binary4 _ _ _ _).mono ?_
    rintro e w' ⟨rfl, n1, rfl⟩
    go_wp2_with fail
    refine (unary4 _ _ _).mono ?_
    rintro e w' ⟨rfl, rfl⟩
    go_wp2_with fail
    refine (binary4 _ _ _ _).mono ?_
    rintro e w' ⟨rfl, n2, rfl⟩
    go_wp2_with fail
    refine (live_any _).mono ?_
    rintro e w' ⟨rfl, n3, rfl⟩
    go_wp2_with fail
    go_ret
    exact ⟨rfl, by repeat (first | exact Grown.refl _ | apply grown_drewN | apply Grown.alloc)⟩

theorem wf64 (x : Int) (h : (Lit.int .i64 x).wf = true) : -9223372036854775808 ≤ x ∧ x ≤ 9223372036854775807 := by
  simpa [Lit.wf, IntKind.min, IntKind.max, IntKind.signed, IntKind.bits] using h

theorem abs_ends (t : Int) (_ : (Lit.int .i64 t).wf = true) (x : Int) (hx : (Lit.int .i64 x).wf = true) (w : World) : Calls Try.prog 6 #[.int .i64 t, .int .i64 x] w fun e w' => e = .returned (.bool true) ∧ Grown w w' := by
  rcases abs_all t x (wf64 x hx) with ⟨h2, h1⟩ | ⟨h2, h1, h4, a4, hr⟩
  · exact abs_no t x w h2 h1
  · exact abs_yes t x w h2 h1 h4 a4 hr
end Go.Proofs.Ytcfgnhjoajibkac
