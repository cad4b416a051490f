/- The walk of the statement on differences: it answers true, whatever the type and the numbers. -/
import Derived.Test.YtcfgnhjoajibkacLive
import Derived.Test.YtcfgnhjoajibkacPlainL
namespace Go.Proofs.Ytcfgnhjoajibkac
open Go.RowKit
set_option maxHeartbeats 1000000 in
theorem minus_walk (t x y : Int) (w : World) : Calls Try.prog 5 #[.int .i64 t, .agg #[.int .i64 x, .int .i64 y]] w fun e w' => e = .returned (.bool true) ∧ Grown w w' := by
  rcases minus_all t x y with h | ⟨h1, h2, h3, h4⟩
  · by_cases h1 : (bin 1 t x y).2 = 0
    · have h2 : ((un 1 t y).2 != 0) = true := by
        rcases h with h | h
        · exact absurd h1 h
        · simpa using h
      clear h
      go_enter Try.func5, Try.ntmps5
      go_wp2_with fail
      refine (binary1 _ _ _ _).mono ?_
      rintro e w' ⟨rfl, n1, rfl⟩
      go_wp2_with fail
      refine (unary1 _ _ _).mono ?_
      rintro e w' ⟨rfl, rfl⟩
      go_wp2_with fail
      refine (live_any _).mono ?_
      rintro e w' ⟨rfl, n2, rfl⟩
      go_wp2_with fail
      go_ret
      exact ⟨rfl, by repeat (first | exact Grown.refl _ | apply grown_drewN | apply Grown.alloc)⟩
    · have h1' : ((bin 1 t x y).2 != 0) = true := by simpa using h1
      clear h h1
      go_enter Try.func5, Try.ntmps5
      go_wp2_with fail
      refine (binary1 _ _ _ _).mono ?_
      rintro e w' ⟨rfl, n1, rfl⟩
      go_wp2_with fail
      refine (unary1 _ _ _).mono ?_
      rintro e w' ⟨rfl, rfl⟩
      go_wp2_with fail
      refine (live_any _).mono ?_
      rintro e w' ⟨rfl, n2, rfl⟩
      go_wp2_with fail
      go_ret
      exact ⟨rfl, by repeat (first | exact Grown.refl _ | apply grown_drewN | apply Grown.alloc)⟩
  · go_enter Try.func5, Try.ntmps5
    go_wp2_with fail
    refine (binary1 _ _ _ _).mono ?_
    rintro e w' ⟨rfl, n1, rfl⟩
    go_wp2_with fail
    refine (unary1 _ _ _).mono ?_
    rintro e w' ⟨rfl, rfl⟩
    go_wp2_with fail
    refine (binary0 _ _ _ _).mono ?_
    rintro e w' ⟨rfl, n2, rfl⟩
    go_wp2_with fail
    refine (live_any _).mono ?_
    rintro e w' ⟨rfl, n3, rfl⟩
    go_wp2_with fail
    go_ret
    exact ⟨rfl, by repeat (first | exact Grown.refl _ | apply grown_drewN | apply Grown.alloc)⟩
theorem minus_ends (t : Int) (_ : (Lit.int .i64 t).wf = true) (x y : Int) (_ : (Lit.int .i64 x).wf = true) (_ : (Lit.int .i64 y).wf = true) (w : World) : Calls Try.prog 5 #[.int .i64 t, .agg #[.int .i64 x, .int .i64 y]] w fun e w' => e = .returned (.bool true) ∧ Grown w w' := minus_walk t x y w
end Go.Proofs.Ytcfgnhjoajibkac
