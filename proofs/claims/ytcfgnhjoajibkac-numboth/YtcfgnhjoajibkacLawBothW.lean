/- The walk of the statement on the greater and the less one: it answers true, whatever the type and the numbers. -/
import Derived.Test.YtcfgnhjoajibkacLive
import Derived.Test.YtcfgnhjoajibkacPlainM
namespace Go.Proofs.Ytcfgnhjoajibkac
open Go.RowKit

set_option maxHeartbeats 1000000 in
theorem both_no (t x y : Int) (w : World) (h4 : (bin 4 t x y).2 = 1) (h5 : (bin 5 t x y).2 = 1) : Calls Try.prog 7 #[.int .i64 t, .agg #[.int .i64 x, .int .i64 y]] w fun e w' => e = .returned (.bool true) ∧ Grown w w' := by
  go_enter Try.func7, Try.ntmps7
  go_wp2_with fail
  refine (binary4 _ _ _ _).mono ?_
  rintro e w' ⟨rfl, n1, rfl⟩
  go_wp2_with fail
  refine (binary5 _ _ _ _).mono ?_
  rintro e w' ⟨rfl, n2, rfl⟩
  go_wp2_with fail
  refine (live_any _).mono ?_
  rintro e w' ⟨rfl, n3, rfl⟩
  go_wp2_with fail
  go_ret
  exact ⟨rfl, by repeat (first | exact Grown.refl _ | apply grown_drewN | apply Grown.alloc)⟩

set_option maxHeartbeats 1000000 in
theorem both_nan (t x y : Int) (w : World) (h4 : (bin 4 t x y).2 = 0) (h5 : (bin 5 t x y).2 = 0) (ht : (t == 1) = true) (hn : (x == 2143289344) = true ∨ (x == 2143289344) = false ∧ (y == 2143289344) = true)
    (a4 : (bin 4 t x y).1 = 2143289344) (a5 : (bin 5 t x y).1 = 2143289344) : Calls Try.prog 7 #[.int .i64 t, .agg #[.int .i64 x, .int .i64 y]] w fun e w' => e = .returned (.bool true) ∧ Grown w w' := by
  rcases hn with hn | ⟨hn, hm⟩
  all_goals
    go_enter Try.func7, Try.ntmps7
    go_wp2_with fail
    refine (binary4 _ _ _ _).mono ?_
    rintro e w' ⟨rfl, n1, rfl⟩
    go_wp2_with fail
    refine (binary5 _ _ _ _).mono ?_
    rintro e w' ⟨rfl, n2, rfl⟩
    go_wp2_with fail
    refine (live_any _).mono ?_
    rintro e w' ⟨rfl, n3, rfl⟩
    go_wp2_with fail
    go_ret
    exact ⟨rfl, by repeat (first | exact Grown.refl _ | apply grown_drewN | apply Grown.alloc)⟩

set_option maxHeartbeats 1000000 in
theorem both_yes (t x y : Int) (w : World) (h4 : (bin 4 t x y).2 = 0) (h5 : (bin 5 t x y).2 = 0) (ht : (t == 1) = false ∨ (t == 1) = true ∧ (x == 2143289344) = false ∧ (y == 2143289344) = false)
    (ha : (bin 4 t x y).1 = x ∧ (bin 5 t x y).1 = y ∨ (y == x) = false ∧ (bin 4 t x y).1 = y ∧ (bin 5 t x y).1 = x) : Calls Try.prog 7 #[.int .i64 t, .agg #[.int .i64 x, .int .i64 y]] w fun e w' => e = .returned (.bool true) ∧ Grown w w' := by
  rcases ht with ht | ⟨ht, hx, hy⟩ <;> rcases ha with ⟨a4, a5⟩ | ⟨hne, a4, a5⟩
  all_goals
    go_enter Try.func7, Try.ntmps7
    go_wp2_with fail
    refine (binary4 _ _ _ _).mono ?_
    rintro e w' ⟨rfl, n1, rfl⟩
    go_wp2_with fail
    refine (binary5 _ _ _ _).mono ?_
    rintro e w' ⟨rfl, n2, rfl⟩
    go_wp2_with fail
    refine (live_any _).mono ?_
    rintro e w' ⟨rfl, n3, rfl⟩
    go_wp2_with fail
    go_ret
    exact ⟨rfl, by repeat (first | exact Grown.refl _ | apply grown_drewN | apply Grown.alloc)⟩

theorem both_ends (t : Int) (_ : (Lit.int .i64 t).wf = true) (x y : Int) (_ : (Lit.int .i64 x).wf = true) (_ : (Lit.int .i64 y).wf = true) (w : World) : Calls Try.prog 7 #[.int .i64 t, .agg #[.int .i64 x, .int .i64 y]] w fun e w' => e = .returned (.bool true) ∧ Grown w w' := by
  rcases both_all t x y with ⟨h4, h5⟩ | ⟨h4, h5, h | ⟨hn, h⟩⟩
  · exact both_no t x y w h4 h5
  · obtain ⟨ht, hn, a4, a5⟩ := h
    refine both_nan t x y w h4 h5 (by simpa using ht) ?_ a4 a5
    by_cases hx : x = 2143289344
    · exact .inl (by simpa using hx)
    · exact .inr ⟨by simpa using hx, by simpa using hn.resolve_left hx⟩
  · refine both_yes t x y w h4 h5 ?_ ?_
    · by_cases ht : t = 1
      · right
        have hx : ¬ x = 2143289344 := fun hh => hn ⟨ht, .inl hh⟩
        have hy : ¬ y = 2143289344 := fun hh => hn ⟨ht, .inr hh⟩
        exact ⟨by simpa using ht, by simpa using hx, by simpa using hy⟩
      · exact .inl (by simpa using ht)
    · by_cases hxy : y = x
      · subst hxy
        rcases h with h | h
        · exact .inl h
        · exact .inl h
      · rcases h with h | h
        · exact .inl h
        · exact .inr ⟨by simpa using hxy, h⟩
end Go.Proofs.Ytcfgnhjoajibkac
