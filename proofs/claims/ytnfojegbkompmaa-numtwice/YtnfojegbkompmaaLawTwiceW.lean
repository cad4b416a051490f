/- The walk of the statement on an operator done twice: it answers true, whatever the operator, the type and the number (mkTwice.py). -/
import Derived.Test.YtnfojegbkompmaaWalkZ
import Derived.Test.YtnfojegbkompmaaOps1
import Derived.Test.YtnfojegbkompmaaLive
import Derived.Deep.RegionWith
namespace Go.Proofs.Ytnfojegbkompmaa
open Go.RowKit

theorem hide {p : Prop} (h : p) : Hid p := h

theorem wf64 (x : Int) (h : (Lit.int .i64 x).wf = true) : -9223372036854775808 ≤ x ∧ x ≤ 9223372036854775807 := by
  simpa [Lit.wf, IntKind.min, IntKind.max, IntKind.signed, IntKind.bits] using h

set_option maxHeartbeats 2000000 in
theorem twice0 (n t x : Int) (w : World) (hn : -9223372036854775808 ≤ n ∧ n ≤ 9223372036854775807) (hx : -9223372036854775808 ≤ x ∧ x ≤ 9223372036854775807) (h : idx1 n = 0) : Calls Try.prog 4 #[.int .i64 n, .int .i64 t, .int .i64 x] w fun e w' => e = .returned (.bool true) ∧ Grown w w' := by
  have OP := hide (ops1_0 n w hn h)
  have HX := hide hx
  clear hn h hx
  go_enter Try.func4, Try.ntmps4
  go_wp2_with fail
  refine OP.out.mono ?_
  rintro e w' ⟨rfl, cs, T, rfl⟩
  go_wp2_with fail
  refine (again0 _ _ _ HX.out).mono ?_
  rintro e w' ⟨v, c, n1, rfl, rfl, hc⟩
  rcases hc with rfl | ⟨rfl, hc⟩
  · go_wp2_with fail
    refine (live_any _).mono ?_
    rintro e w' ⟨rfl, n3, rfl⟩
    go_wp2_with fail
    go_ret
    exact ⟨rfl, by repeat (first | exact Grown.refl _ | apply grown_drewN | apply Grown.alloc)⟩
  · have HC := hide hc
    clear hc
    go_wp2_with fail
    refine (HC.out _).mono ?_
    rintro e w' ⟨v2, n2, ht, rfl, rfl⟩
    have ht2 : v2 = x := ht
    subst ht2
    go_wp2_with fail
    refine (live_any _).mono ?_
    rintro e w' ⟨rfl, n3, rfl⟩
    go_wp2_with fail
    go_ret
    exact ⟨rfl, by repeat (first | exact Grown.refl _ | apply grown_drewN | apply Grown.alloc)⟩

set_option maxHeartbeats 2000000 in
theorem twice1 (n t x : Int) (w : World) (hn : -9223372036854775808 ≤ n ∧ n ≤ 9223372036854775807) (hx : -9223372036854775808 ≤ x ∧ x ≤ 9223372036854775807) (h : idx1 n = 1) : Calls Try.prog 4 #[.int .i64 n, .int .i64 t, .int .i64 x] w fun e w' => e = .returned (.bool true) ∧ Grown w w' := by
  have OP := hide (ops1_1 n w hn h)
  have HX := hide hx
  clear hn h hx
  go_enter Try.func4, Try.ntmps4
  go_wp2_with fail
  refine OP.out.mono ?_
  rintro e w' ⟨rfl, cs, T, rfl⟩
  go_wp2_with fail
  refine (again1 _ _ _ HX.out).mono ?_
  rintro e w' ⟨v, c, n1, rfl, rfl, hc⟩
  rcases hc with rfl | ⟨rfl, hc⟩
  · go_wp2_with fail
    refine (live_any _).mono ?_
    rintro e w' ⟨rfl, n3, rfl⟩
    go_wp2_with fail
    go_ret
    exact ⟨rfl, by repeat (first | exact Grown.refl _ | apply grown_drewN | apply Grown.alloc)⟩
  · have HC := hide hc
    clear hc
    go_wp2_with fail
    refine (HC.out _).mono ?_
    rintro e w' ⟨v2, n2, ht, rfl, rfl⟩
    have ht2 : v2 = x := ht
    subst ht2
    go_wp2_with fail
    refine (live_any _).mono ?_
    rintro e w' ⟨rfl, n3, rfl⟩
    go_wp2_with fail
    go_ret
    exact ⟨rfl, by repeat (first | exact Grown.refl _ | apply grown_drewN | apply Grown.alloc)⟩

set_option maxHeartbeats 2000000 in
theorem twice2 (n t x : Int) (w : World) (hn : -9223372036854775808 ≤ n ∧ n ≤ 9223372036854775807) (hx : -9223372036854775808 ≤ x ∧ x ≤ 9223372036854775807) (h : idx1 n = 2) : Calls Try.prog 4 #[.int .i64 n, .int .i64 t, .int .i64 x] w fun e w' => e = .returned (.bool true) ∧ Grown w w' := by
  have OP := hide (ops1_2 n w hn h)
  have HX := hide hx
  clear hn h hx
  go_enter Try.func4, Try.ntmps4
  go_wp2_with fail
  refine OP.out.mono ?_
  rintro e w' ⟨rfl, cs, T, rfl⟩
  go_wp2_with fail
  refine (again2 _ _ _ HX.out).mono ?_
  rintro e w' ⟨v, c, n1, rfl, rfl, hc⟩
  rcases hc with rfl | ⟨rfl, hc⟩
  · go_wp2_with fail
    refine (live_any _).mono ?_
    rintro e w' ⟨rfl, n3, rfl⟩
    go_wp2_with fail
    go_ret
    exact ⟨rfl, by repeat (first | exact Grown.refl _ | apply grown_drewN | apply Grown.alloc)⟩
  · have HC := hide hc
    clear hc
    go_wp2_with fail
    refine (HC.out _).mono ?_
    rintro e w' ⟨v2, n2, ht, rfl, rfl⟩
    have ht2 : v2 = v := ht
    subst ht2
    go_wp2_with fail
    refine (live_any _).mono ?_
    rintro e w' ⟨rfl, n3, rfl⟩
    go_wp2_with fail
    go_ret
    exact ⟨rfl, by repeat (first | exact Grown.refl _ | apply grown_drewN | apply Grown.alloc)⟩

set_option maxHeartbeats 2000000 in
theorem twice3 (n t x : Int) (w : World) (hn : -9223372036854775808 ≤ n ∧ n ≤ 9223372036854775807) (hx : -9223372036854775808 ≤ x ∧ x ≤ 9223372036854775807) (h : idx1 n = 3) : Calls Try.prog 4 #[.int .i64 n, .int .i64 t, .int .i64 x] w fun e w' => e = .returned (.bool true) ∧ Grown w w' := by
  have OP := hide (ops1_3 n w hn h)
  have HX := hide hx
  clear hn h hx
  go_enter Try.func4, Try.ntmps4
  go_wp2_with fail
  refine OP.out.mono ?_
  rintro e w' ⟨rfl, cs, T, rfl⟩
  go_wp2_with fail
  refine (again3 _ _ _ HX.out).mono ?_
  rintro e w' ⟨v, c, n1, rfl, rfl, hc⟩
  rcases hc with rfl | ⟨rfl, hc⟩
  · go_wp2_with fail
    refine (live_any _).mono ?_
    rintro e w' ⟨rfl, n3, rfl⟩
    go_wp2_with fail
    go_ret
    exact ⟨rfl, by repeat (first | exact Grown.refl _ | apply grown_drewN | apply Grown.alloc)⟩
  · have HC := hide hc
    clear hc
    go_wp2_with fail
    refine (HC.out _).mono ?_
    rintro e w' ⟨v2, n2, ht, rfl, rfl⟩
    have ht2 : v2 = x := ht
    subst ht2
    go_wp2_with fail
    refine (live_any _).mono ?_
    rintro e w' ⟨rfl, n3, rfl⟩
    go_wp2_with fail
    go_ret
    exact ⟨rfl, by repeat (first | exact Grown.refl _ | apply grown_drewN | apply Grown.alloc)⟩

set_option maxHeartbeats 2000000 in
theorem twice4 (n t x : Int) (w : World) (hn : -9223372036854775808 ≤ n ∧ n ≤ 9223372036854775807) (hx : -9223372036854775808 ≤ x ∧ x ≤ 9223372036854775807) (h : idx1 n = 4) : Calls Try.prog 4 #[.int .i64 n, .int .i64 t, .int .i64 x] w fun e w' => e = .returned (.bool true) ∧ Grown w w' := by
  have OP := hide (ops1_4 n w hn h)
  have HX := hide hx
  clear hn h hx
  go_enter Try.func4, Try.ntmps4
  go_wp2_with fail
  refine OP.out.mono ?_
  rintro e w' ⟨rfl, cs, T, rfl⟩
  go_wp2_with fail
  refine (again4 _ _ _ HX.out).mono ?_
  rintro e w' ⟨v, c, n1, rfl, rfl, hc⟩
  rcases hc with rfl | ⟨rfl, hc⟩
  · go_wp2_with fail
    refine (live_any _).mono ?_
    rintro e w' ⟨rfl, n3, rfl⟩
    go_wp2_with fail
    go_ret
    exact ⟨rfl, by repeat (first | exact Grown.refl _ | apply grown_drewN | apply Grown.alloc)⟩
  · have HC := hide hc
    clear hc
    go_wp2_with fail
    refine (HC.out _).mono ?_
    rintro e w' ⟨v2, n2, ht, rfl, rfl⟩
    have ht2 : v2 = v := ht
    subst ht2
    go_wp2_with fail
    refine (live_any _).mono ?_
    rintro e w' ⟨rfl, n3, rfl⟩
    go_wp2_with fail
    go_ret
    exact ⟨rfl, by repeat (first | exact Grown.refl _ | apply grown_drewN | apply Grown.alloc)⟩

set_option maxHeartbeats 2000000 in
theorem twice5 (n t x : Int) (w : World) (hn : -9223372036854775808 ≤ n ∧ n ≤ 9223372036854775807) (hx : -9223372036854775808 ≤ x ∧ x ≤ 9223372036854775807) (h : idx1 n = 5) : Calls Try.prog 4 #[.int .i64 n, .int .i64 t, .int .i64 x] w fun e w' => e = .returned (.bool true) ∧ Grown w w' := by
  have OP := hide (ops1_5 n w hn h)
  have HX := hide hx
  clear hn h hx
  go_enter Try.func4, Try.ntmps4
  go_wp2_with fail
  refine OP.out.mono ?_
  rintro e w' ⟨rfl, cs, T, rfl⟩
  go_wp2_with fail
  refine (again5 _ _ _ HX.out).mono ?_
  rintro e w' ⟨v, c, n1, rfl, rfl, hc⟩
  rcases hc with rfl | ⟨rfl, hc⟩
  · go_wp2_with fail
    refine (live_any _).mono ?_
    rintro e w' ⟨rfl, n3, rfl⟩
    go_wp2_with fail
    go_ret
    exact ⟨rfl, by repeat (first | exact Grown.refl _ | apply grown_drewN | apply Grown.alloc)⟩
  · have HC := hide hc
    clear hc
    go_wp2_with fail
    refine (HC.out _).mono ?_
    rintro e w' ⟨v2, n2, ht, rfl, rfl⟩
    clear ht
    skip
    go_wp2_with fail
    refine (live_any _).mono ?_
    rintro e w' ⟨rfl, n3, rfl⟩
    go_wp2_with fail
    go_ret
    exact ⟨rfl, by repeat (first | exact Grown.refl _ | apply grown_drewN | apply Grown.alloc)⟩

set_option maxHeartbeats 2000000 in
theorem twice6 (n t x : Int) (w : World) (hn : -9223372036854775808 ≤ n ∧ n ≤ 9223372036854775807) (hx : -9223372036854775808 ≤ x ∧ x ≤ 9223372036854775807) (h : idx1 n = 6) : Calls Try.prog 4 #[.int .i64 n, .int .i64 t, .int .i64 x] w fun e w' => e = .returned (.bool true) ∧ Grown w w' := by
  have OP := hide (ops1_6 n w hn h)
  have HX := hide hx
  clear hn h hx
  go_enter Try.func4, Try.ntmps4
  go_wp2_with fail
  refine OP.out.mono ?_
  rintro e w' ⟨rfl, cs, T, rfl⟩
  go_wp2_with fail
  refine (again6 _ _ _ HX.out).mono ?_
  rintro e w' ⟨v, c, n1, rfl, rfl, hc⟩
  rcases hc with rfl | ⟨rfl, hc⟩
  · go_wp2_with fail
    refine (live_any _).mono ?_
    rintro e w' ⟨rfl, n3, rfl⟩
    go_wp2_with fail
    go_ret
    exact ⟨rfl, by repeat (first | exact Grown.refl _ | apply grown_drewN | apply Grown.alloc)⟩
  · have HC := hide hc
    clear hc
    go_wp2_with fail
    refine (HC.out _).mono ?_
    rintro e w' ⟨v2, n2, ht, rfl, rfl⟩
    have ht2 : v2 = v := ht
    subst ht2
    go_wp2_with fail
    refine (live_any _).mono ?_
    rintro e w' ⟨rfl, n3, rfl⟩
    go_wp2_with fail
    go_ret
    exact ⟨rfl, by repeat (first | exact Grown.refl _ | apply grown_drewN | apply Grown.alloc)⟩

set_option maxHeartbeats 2000000 in
theorem twice7 (n t x : Int) (w : World) (hn : -9223372036854775808 ≤ n ∧ n ≤ 9223372036854775807) (hx : -9223372036854775808 ≤ x ∧ x ≤ 9223372036854775807) (h : idx1 n = 7) : Calls Try.prog 4 #[.int .i64 n, .int .i64 t, .int .i64 x] w fun e w' => e = .returned (.bool true) ∧ Grown w w' := by
  have OP := hide (ops1_7 n w hn h)
  have HX := hide hx
  clear hn h hx
  go_enter Try.func4, Try.ntmps4
  go_wp2_with fail
  refine OP.out.mono ?_
  rintro e w' ⟨rfl, cs, T, rfl⟩
  go_wp2_with fail
  refine (again7 _ _ _ HX.out).mono ?_
  rintro e w' ⟨v, c, n1, rfl, rfl, hc⟩
  rcases hc with rfl | ⟨rfl, hc⟩
  · go_wp2_with fail
    refine (live_any _).mono ?_
    rintro e w' ⟨rfl, n3, rfl⟩
    go_wp2_with fail
    go_ret
    exact ⟨rfl, by repeat (first | exact Grown.refl _ | apply grown_drewN | apply Grown.alloc)⟩
  · have HC := hide hc
    clear hc
    go_wp2_with fail
    refine (HC.out _).mono ?_
    rintro e w' ⟨v2, n2, ht, rfl, rfl⟩
    clear ht
    skip
    go_wp2_with fail
    refine (live_any _).mono ?_
    rintro e w' ⟨rfl, n3, rfl⟩
    go_wp2_with fail
    go_ret
    exact ⟨rfl, by repeat (first | exact Grown.refl _ | apply grown_drewN | apply Grown.alloc)⟩

set_option maxHeartbeats 2000000 in
theorem twice8 (n t x : Int) (w : World) (hn : -9223372036854775808 ≤ n ∧ n ≤ 9223372036854775807) (hx : -9223372036854775808 ≤ x ∧ x ≤ 9223372036854775807) (h : idx1 n = 8) : Calls Try.prog 4 #[.int .i64 n, .int .i64 t, .int .i64 x] w fun e w' => e = .returned (.bool true) ∧ Grown w w' := by
  have OP := hide (ops1_8 n w hn h)
  have HX := hide hx
  clear hn h hx
  go_enter Try.func4, Try.ntmps4
  go_wp2_with fail
  refine OP.out.mono ?_
  rintro e w' ⟨rfl, cs, T, rfl⟩
  go_wp2_with fail
  refine (again8 _ _ _ HX.out).mono ?_
  rintro e w' ⟨v, c, n1, rfl, rfl, hc⟩
  rcases hc with rfl | ⟨rfl, hc⟩
  · go_wp2_with fail
    refine (live_any _).mono ?_
    rintro e w' ⟨rfl, n3, rfl⟩
    go_wp2_with fail
    go_ret
    exact ⟨rfl, by repeat (first | exact Grown.refl _ | apply grown_drewN | apply Grown.alloc)⟩
  · have HC := hide hc
    clear hc
    go_wp2_with fail
    refine (HC.out _).mono ?_
    rintro e w' ⟨v2, n2, ht, rfl, rfl⟩
    clear ht
    skip
    go_wp2_with fail
    refine (live_any _).mono ?_
    rintro e w' ⟨rfl, n3, rfl⟩
    go_wp2_with fail
    go_ret
    exact ⟨rfl, by repeat (first | exact Grown.refl _ | apply grown_drewN | apply Grown.alloc)⟩

set_option maxHeartbeats 2000000 in
theorem twice9 (n t x : Int) (w : World) (hn : -9223372036854775808 ≤ n ∧ n ≤ 9223372036854775807) (hx : -9223372036854775808 ≤ x ∧ x ≤ 9223372036854775807) (h : idx1 n = 9) : Calls Try.prog 4 #[.int .i64 n, .int .i64 t, .int .i64 x] w fun e w' => e = .returned (.bool true) ∧ Grown w w' := by
  have OP := hide (ops1_9 n w hn h)
  have HX := hide hx
  clear hn h hx
  go_enter Try.func4, Try.ntmps4
  go_wp2_with fail
  refine OP.out.mono ?_
  rintro e w' ⟨rfl, cs, T, rfl⟩
  go_wp2_with fail
  refine (again9 _ _ _ HX.out).mono ?_
  rintro e w' ⟨v, c, n1, rfl, rfl, hc⟩
  rcases hc with rfl | ⟨rfl, hc⟩
  · go_wp2_with fail
    refine (live_any _).mono ?_
    rintro e w' ⟨rfl, n3, rfl⟩
    go_wp2_with fail
    go_ret
    exact ⟨rfl, by repeat (first | exact Grown.refl _ | apply grown_drewN | apply Grown.alloc)⟩
  · have HC := hide hc
    clear hc
    go_wp2_with fail
    refine (HC.out _).mono ?_
    rintro e w' ⟨v2, n2, ht, rfl, rfl⟩
    clear ht
    skip
    go_wp2_with fail
    refine (live_any _).mono ?_
    rintro e w' ⟨rfl, n3, rfl⟩
    go_wp2_with fail
    go_ret
    exact ⟨rfl, by repeat (first | exact Grown.refl _ | apply grown_drewN | apply Grown.alloc)⟩

theorem twice_ends (n : Int) (hn : (Lit.int .i64 n).wf = true) (t : Int) (_ : (Lit.int .i64 t).wf = true) (x : Int) (hx : (Lit.int .i64 x).wf = true) (w : World) : Calls Try.prog 4 #[.int .i64 n, .int .i64 t, .int .i64 x] w fun e w' => e = .returned (.bool true) ∧ Grown w w' := by
  rcases idx1_cases n with h | h | h | h | h | h | h | h | h | h
  · exact twice0 n t x w (wf64 n hn) (wf64 x hx) h
  · exact twice1 n t x w (wf64 n hn) (wf64 x hx) h
  · exact twice2 n t x w (wf64 n hn) (wf64 x hx) h
  · exact twice3 n t x w (wf64 n hn) (wf64 x hx) h
  · exact twice4 n t x w (wf64 n hn) (wf64 x hx) h
  · exact twice5 n t x w (wf64 n hn) (wf64 x hx) h
  · exact twice6 n t x w (wf64 n hn) (wf64 x hx) h
  · exact twice7 n t x w (wf64 n hn) (wf64 x hx) h
  · exact twice8 n t x w (wf64 n hn) (wf64 x hx) h
  · exact twice9 n t x w (wf64 n hn) (wf64 x hx) h
end Go.Proofs.Ytnfojegbkompmaa
