/- The walk of the statement on what goes in either order: it answers true, whatever the operator, the type and the numbers. -/
import Derived.Test.YtcfgnhjoajibkabOps2
import Derived.Test.YtcfgnhjoajibkabPlainN
namespace Go.Proofs.Ytcfgnhjoajibkab
open Go.RowKit

set_option maxHeartbeats 1000000 in
theorem turns_0 (n t x y : Int) (w : World) (hn : -9223372036854775808 ≤ n ∧ n ≤ 9223372036854775807) (h : idx2 n = 0) : Calls Try.prog 7 #[.int .i64 n, .int .i64 t, .agg #[.int .i64 x, .int .i64 y]] w fun e w' => e = .returned (.bool true) ∧ Grown w w' := by
  have ht := turns_all 0 t x y (by decide)
  go_enter Try.func7, Try.ntmps7
  go_wp2_with fail
  refine (ops2_0 _ _ hn h).mono ?_
  rintro e w' ⟨rfl, cs, T, rfl⟩
  go_wp2_with fail
  refine (binary0 _ _ _ _).mono ?_
  rintro e w' ⟨rfl, n1, rfl⟩
  go_wp2_with fail
  refine (binary0 _ _ _ _).mono ?_
  rintro e w' ⟨rfl, n2, rfl⟩
  go_wp2_with fail
  refine (live_any _).mono ?_
  rintro e w' ⟨rfl, n3, rfl⟩
  go_wp2_with fail
  go_ret
  exact ⟨rfl, by repeat (first | exact Grown.refl _ | apply grown_drewN | apply Grown.alloc)⟩

set_option maxHeartbeats 1000000 in
theorem turns_1 (n t x y : Int) (w : World) (hn : -9223372036854775808 ≤ n ∧ n ≤ 9223372036854775807) (h : idx2 n = 1) : Calls Try.prog 7 #[.int .i64 n, .int .i64 t, .agg #[.int .i64 x, .int .i64 y]] w fun e w' => e = .returned (.bool true) ∧ Grown w w' := by
  go_enter Try.func7, Try.ntmps7
  go_wp2_with fail
  refine (ops2_1 _ _ hn h).mono ?_
  rintro e w' ⟨rfl, cs, T, rfl⟩
  go_wp2_with fail
  refine (live_any _).mono ?_
  rintro e w' ⟨rfl, n3, rfl⟩
  go_wp2_with fail
  go_ret
  exact ⟨rfl, by repeat (first | exact Grown.refl _ | apply grown_drewN | apply Grown.alloc)⟩

set_option maxHeartbeats 1000000 in
theorem turns_2 (n t x y : Int) (w : World) (hn : -9223372036854775808 ≤ n ∧ n ≤ 9223372036854775807) (h : idx2 n = 2) : Calls Try.prog 7 #[.int .i64 n, .int .i64 t, .agg #[.int .i64 x, .int .i64 y]] w fun e w' => e = .returned (.bool true) ∧ Grown w w' := by
  have ht := turns_all 2 t x y (by decide)
  go_enter Try.func7, Try.ntmps7
  go_wp2_with fail
  refine (ops2_2 _ _ hn h).mono ?_
  rintro e w' ⟨rfl, cs, T, rfl⟩
  go_wp2_with fail
  refine (binary2 _ _ _ _).mono ?_
  rintro e w' ⟨rfl, n1, rfl⟩
  go_wp2_with fail
  refine (binary2 _ _ _ _).mono ?_
  rintro e w' ⟨rfl, n2, rfl⟩
  go_wp2_with fail
  refine (live_any _).mono ?_
  rintro e w' ⟨rfl, n3, rfl⟩
  go_wp2_with fail
  go_ret
  exact ⟨rfl, by repeat (first | exact Grown.refl _ | apply grown_drewN | apply Grown.alloc)⟩

set_option maxHeartbeats 1000000 in
theorem turns_3 (n t x y : Int) (w : World) (hn : -9223372036854775808 ≤ n ∧ n ≤ 9223372036854775807) (h : idx2 n = 3) : Calls Try.prog 7 #[.int .i64 n, .int .i64 t, .agg #[.int .i64 x, .int .i64 y]] w fun e w' => e = .returned (.bool true) ∧ Grown w w' := by
  go_enter Try.func7, Try.ntmps7
  go_wp2_with fail
  refine (ops2_3 _ _ hn h).mono ?_
  rintro e w' ⟨rfl, cs, T, rfl⟩
  go_wp2_with fail
  refine (live_any _).mono ?_
  rintro e w' ⟨rfl, n3, rfl⟩
  go_wp2_with fail
  go_ret
  exact ⟨rfl, by repeat (first | exact Grown.refl _ | apply grown_drewN | apply Grown.alloc)⟩

set_option maxHeartbeats 1000000 in
theorem turns_4 (n t x y : Int) (w : World) (hn : -9223372036854775808 ≤ n ∧ n ≤ 9223372036854775807) (h : idx2 n = 4) : Calls Try.prog 7 #[.int .i64 n, .int .i64 t, .agg #[.int .i64 x, .int .i64 y]] w fun e w' => e = .returned (.bool true) ∧ Grown w w' := by
  have ht := turns_all 4 t x y (by decide)
  go_enter Try.func7, Try.ntmps7
  go_wp2_with fail
  refine (ops2_4 _ _ hn h).mono ?_
  rintro e w' ⟨rfl, cs, T, rfl⟩
  go_wp2_with fail
  refine (binary4 _ _ _ _).mono ?_
  rintro e w' ⟨rfl, n1, rfl⟩
  go_wp2_with fail
  refine (binary4 _ _ _ _).mono ?_
  rintro e w' ⟨rfl, n2, rfl⟩
  go_wp2_with fail
  refine (live_any _).mono ?_
  rintro e w' ⟨rfl, n3, rfl⟩
  go_wp2_with fail
  go_ret
  exact ⟨rfl, by repeat (first | exact Grown.refl _ | apply grown_drewN | apply Grown.alloc)⟩

set_option maxHeartbeats 1000000 in
theorem turns_5 (n t x y : Int) (w : World) (hn : -9223372036854775808 ≤ n ∧ n ≤ 9223372036854775807) (h : idx2 n = 5) : Calls Try.prog 7 #[.int .i64 n, .int .i64 t, .agg #[.int .i64 x, .int .i64 y]] w fun e w' => e = .returned (.bool true) ∧ Grown w w' := by
  have ht := turns_all 5 t x y (by decide)
  go_enter Try.func7, Try.ntmps7
  go_wp2_with fail
  refine (ops2_5 _ _ hn h).mono ?_
  rintro e w' ⟨rfl, cs, T, rfl⟩
  go_wp2_with fail
  refine (binary5 _ _ _ _).mono ?_
  rintro e w' ⟨rfl, n1, rfl⟩
  go_wp2_with fail
  refine (binary5 _ _ _ _).mono ?_
  rintro e w' ⟨rfl, n2, rfl⟩
  go_wp2_with fail
  refine (live_any _).mono ?_
  rintro e w' ⟨rfl, n3, rfl⟩
  go_wp2_with fail
  go_ret
  exact ⟨rfl, by repeat (first | exact Grown.refl _ | apply grown_drewN | apply Grown.alloc)⟩

set_option maxHeartbeats 1000000 in
theorem turns_6 (n t x y : Int) (w : World) (hn : -9223372036854775808 ≤ n ∧ n ≤ 9223372036854775807) (h : idx2 n = 6) : Calls Try.prog 7 #[.int .i64 n, .int .i64 t, .agg #[.int .i64 x, .int .i64 y]] w fun e w' => e = .returned (.bool true) ∧ Grown w w' := by
  have ht := turns_all 6 t x y (by decide)
  go_enter Try.func7, Try.ntmps7
  go_wp2_with fail
  refine (ops2_6 _ _ hn h).mono ?_
  rintro e w' ⟨rfl, cs, T, rfl⟩
  go_wp2_with fail
  refine (binary6 _ _ _ _).mono ?_
  rintro e w' ⟨rfl, n1, rfl⟩
  go_wp2_with fail
  refine (binary6 _ _ _ _).mono ?_
  rintro e w' ⟨rfl, n2, rfl⟩
  go_wp2_with fail
  refine (live_any _).mono ?_
  rintro e w' ⟨rfl, n3, rfl⟩
  go_wp2_with fail
  go_ret
  exact ⟨rfl, by repeat (first | exact Grown.refl _ | apply grown_drewN | apply Grown.alloc)⟩

set_option maxHeartbeats 1000000 in
theorem turns_7 (n t x y : Int) (w : World) (hn : -9223372036854775808 ≤ n ∧ n ≤ 9223372036854775807) (h : idx2 n = 7) : Calls Try.prog 7 #[.int .i64 n, .int .i64 t, .agg #[.int .i64 x, .int .i64 y]] w fun e w' => e = .returned (.bool true) ∧ Grown w w' := by
  have ht := turns_all 7 t x y (by decide)
  go_enter Try.func7, Try.ntmps7
  go_wp2_with fail
  refine (ops2_7 _ _ hn h).mono ?_
  rintro e w' ⟨rfl, cs, T, rfl⟩
  go_wp2_with fail
  refine (binary7 _ _ _ _).mono ?_
  rintro e w' ⟨rfl, n1, rfl⟩
  go_wp2_with fail
  refine (binary7 _ _ _ _).mono ?_
  rintro e w' ⟨rfl, n2, rfl⟩
  go_wp2_with fail
  refine (live_any _).mono ?_
  rintro e w' ⟨rfl, n3, rfl⟩
  go_wp2_with fail
  go_ret
  exact ⟨rfl, by repeat (first | exact Grown.refl _ | apply grown_drewN | apply Grown.alloc)⟩

set_option maxHeartbeats 1000000 in
theorem turns_8 (n t x y : Int) (w : World) (hn : -9223372036854775808 ≤ n ∧ n ≤ 9223372036854775807) (h : idx2 n = 8) : Calls Try.prog 7 #[.int .i64 n, .int .i64 t, .agg #[.int .i64 x, .int .i64 y]] w fun e w' => e = .returned (.bool true) ∧ Grown w w' := by
  have ht := turns_all 8 t x y (by decide)
  go_enter Try.func7, Try.ntmps7
  go_wp2_with fail
  refine (ops2_8 _ _ hn h).mono ?_
  rintro e w' ⟨rfl, cs, T, rfl⟩
  go_wp2_with fail
  refine (binary8 _ _ _ _).mono ?_
  rintro e w' ⟨rfl, n1, rfl⟩
  go_wp2_with fail
  refine (binary8 _ _ _ _).mono ?_
  rintro e w' ⟨rfl, n2, rfl⟩
  go_wp2_with fail
  refine (live_any _).mono ?_
  rintro e w' ⟨rfl, n3, rfl⟩
  go_wp2_with fail
  go_ret
  exact ⟨rfl, by repeat (first | exact Grown.refl _ | apply grown_drewN | apply Grown.alloc)⟩

set_option maxHeartbeats 1000000 in
theorem turns_9 (n t x y : Int) (w : World) (hn : -9223372036854775808 ≤ n ∧ n ≤ 9223372036854775807) (h : idx2 n = 9) : Calls Try.prog 7 #[.int .i64 n, .int .i64 t, .agg #[.int .i64 x, .int .i64 y]] w fun e w' => e = .returned (.bool true) ∧ Grown w w' := by
  have ht := turns_all 9 t x y (by decide)
  go_enter Try.func7, Try.ntmps7
  go_wp2_with fail
  refine (ops2_9 _ _ hn h).mono ?_
  rintro e w' ⟨rfl, cs, T, rfl⟩
  go_wp2_with fail
  refine (binary9 _ _ _ _).mono ?_
  rintro e w' ⟨rfl, n1, rfl⟩
  go_wp2_with fail
  refine (binary9 _ _ _ _).mono ?_
  rintro e w' ⟨rfl, n2, rfl⟩
  go_wp2_with fail
  refine (live_any _).mono ?_
  rintro e w' ⟨rfl, n3, rfl⟩
  go_wp2_with fail
  go_ret
  exact ⟨rfl, by repeat (first | exact Grown.refl _ | apply grown_drewN | apply Grown.alloc)⟩

set_option maxHeartbeats 1000000 in
theorem turns_10 (n t x y : Int) (w : World) (hn : -9223372036854775808 ≤ n ∧ n ≤ 9223372036854775807) (h : idx2 n = 10) : Calls Try.prog 7 #[.int .i64 n, .int .i64 t, .agg #[.int .i64 x, .int .i64 y]] w fun e w' => e = .returned (.bool true) ∧ Grown w w' := by
  go_enter Try.func7, Try.ntmps7
  go_wp2_with fail
  refine (ops2_10 _ _ hn h).mono ?_
  rintro e w' ⟨rfl, cs, T, rfl⟩
  go_wp2_with fail
  refine (live_any _).mono ?_
  rintro e w' ⟨rfl, n3, rfl⟩
  go_wp2_with fail
  go_ret
  exact ⟨rfl, by repeat (first | exact Grown.refl _ | apply grown_drewN | apply Grown.alloc)⟩

set_option maxHeartbeats 1000000 in
theorem turns_11 (n t x y : Int) (w : World) (hn : -9223372036854775808 ≤ n ∧ n ≤ 9223372036854775807) (h : idx2 n = 11) : Calls Try.prog 7 #[.int .i64 n, .int .i64 t, .agg #[.int .i64 x, .int .i64 y]] w fun e w' => e = .returned (.bool true) ∧ Grown w w' := by
  go_enter Try.func7, Try.ntmps7
  go_wp2_with fail
  refine (ops2_11 _ _ hn h).mono ?_
  rintro e w' ⟨rfl, cs, T, rfl⟩
  go_wp2_with fail
  refine (live_any _).mono ?_
  rintro e w' ⟨rfl, n3, rfl⟩
  go_wp2_with fail
  go_ret
  exact ⟨rfl, by repeat (first | exact Grown.refl _ | apply grown_drewN | apply Grown.alloc)⟩

theorem turns_ends (n : Int) (hn : (Lit.int .i64 n).wf = true) (t : Int) (_ : (Lit.int .i64 t).wf = true) (x y : Int) (_ : (Lit.int .i64 x).wf = true) (_ : (Lit.int .i64 y).wf = true) (w : World) : Calls Try.prog 7 #[.int .i64 n, .int .i64 t, .agg #[.int .i64 x, .int .i64 y]] w fun e w' => e = .returned (.bool true) ∧ Grown w w' := by
  have hw : -9223372036854775808 ≤ n ∧ n ≤ 9223372036854775807 := by
    simpa [Lit.wf, IntKind.min, IntKind.max, IntKind.signed, IntKind.bits] using hn
  rcases idx2_cases n with h | h | h | h | h | h | h | h | h | h | h | h
  · exact turns_0 n t x y w hw h
  · exact turns_1 n t x y w hw h
  · exact turns_2 n t x y w hw h
  · exact turns_3 n t x y w hw h
  · exact turns_4 n t x y w hw h
  · exact turns_5 n t x y w hw h
  · exact turns_6 n t x y w hw h
  · exact turns_7 n t x y w hw h
  · exact turns_8 n t x y w hw h
  · exact turns_9 n t x y w hw h
  · exact turns_10 n t x y w hw h
  · exact turns_11 n t x y w hw h
end Go.Proofs.Ytcfgnhjoajibkab
