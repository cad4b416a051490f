/- The walk of the statement on casts: it answers true, whatever the types and the number. -/
import Derived.Test.YtcfgnhjoajibkabWalkW
import Derived.Test.YtcfgnhjoajibkabLive
namespace Go.Proofs.Ytcfgnhjoajibkab
open Go.RowKit
set_option maxHeartbeats 1000000 in
theorem cast_walk (f t x : Int) (w : World) : Calls Try.prog 5 #[.int .i64 f, .int .i64 t, .int .i64 x] w fun e w' => e = .returned (.bool true) ∧ Grown w w' := by
  go_enter Try.func5, Try.ntmps5
  go_wp2_with fail
  refine (cast_code _ _ _ _).mono ?_
  rintro e w' ⟨rfl, n1, rfl⟩
  go_wp2_with fail
  refine (cast_ref _ _ _ _).mono ?_
  rintro e w' ⟨rfl, n2, rfl⟩
  go_wp2_with fail
  refine (live_any _).mono ?_
  rintro e w' ⟨rfl, n3, rfl⟩
  go_wp2_with fail
  go_ret
  exact ⟨rfl, by repeat (first | exact Grown.refl _ | apply grown_drewN | apply Grown.alloc)⟩

theorem cast_ends (f : Int) (_ : (Lit.int .i64 f).wf = true) (t : Int) (_ : (Lit.int .i64 t).wf = true) (x : Int) (_ : (Lit.int .i64 x).wf = true) (w : World) : Calls Try.prog 5 #[.int .i64 f, .int .i64 t, .int .i64 x] w fun e w' => e = .returned (.bool true) ∧ Grown w w' := cast_walk f t x w
end Go.Proofs.Ytcfgnhjoajibkab
