/- The walk of the statement on Less, Greater and Equal: it answers true, whatever the type and the numbers. -/
import Derived.Test.YtcfgnhjoajibkabLive
import Derived.Test.YtcfgnhjoajibkabPlainN
namespace Go.Proofs.Ytcfgnhjoajibkab
open Go.RowKit

set_option maxHeartbeats 1000000 in
theorem less_no (t x y : Int) (w : World) (h1 : (bin 10 t x y).2 = 1) (h2 : (bin 11 t x y).2 = 1) (h4 : (bin 10 t y x).2 = 1) : Calls Try.prog 8 #[.int .i64 t, .agg #[.int .i64 x, .int .i64 y]] w fun e w' => e = .returned (.bool true) ∧ Grown w w' := by
  go_enter Try.func8, Try.ntmps8
  go_wp2_with fail
  refine (binary10 _ _ _ _).mono ?_
  rintro e w' ⟨rfl, n1, rfl⟩
  go_wp2_with fail
  refine (binary11 _ _ _ _).mono ?_
  rintro e w' ⟨rfl, n2, rfl⟩
  go_wp2_with fail
  refine (binary9 _ _ _ _).mono ?_
  rintro e w' ⟨rfl, n3, rfl⟩
  go_wp2_with fail
  refine (binary10 _ _ _ _).mono ?_
  rintro e w' ⟨rfl, n4, rfl⟩
  go_wp2_with fail
  refine (live_any _).mono ?_
  rintro e w' ⟨rfl, n5, rfl⟩
  go_wp2_with fail
  go_ret
  exact ⟨rfl, by repeat (first | exact Grown.refl _ | apply grown_drewN | apply Grown.alloc)⟩

set_option maxHeartbeats 1000000 in
theorem less_yes (t x y a b c : Int) (w : World) (h1 : (bin 10 t x y).2 = 0) (h2 : (bin 11 t x y).2 = 0) (h3 : (bin 9 t x y).2 = 0) (h4 : (bin 10 t y x).2 = 0) (e1 : (bin 10 t x y).1 = a) (e2 : (bin 11 t x y).1 = b) (e3 : (bin 9 t x y).1 = c) (e4 : (bin 10 t y x).1 = b)
    (hv : a = 1 ∧ b = 0 ∧ c = 0 ∨ a = 0 ∧ b = 1 ∧ c = 0 ∨ a = 0 ∧ b = 0 ∧ c = 1) (ht : (t == 1) = false ∨ (t == 1) = true ∧ ((x == 2143289344) = true ∨ (x == 2143289344) = false)) : Calls Try.prog 8 #[.int .i64 t, .agg #[.int .i64 x, .int .i64 y]] w fun e w' => e = .returned (.bool true) ∧ Grown w w' := by
  rcases ht with ht | ⟨ht, hx | hx⟩ <;> rcases hv with ⟨rfl, rfl, rfl⟩ | ⟨rfl, rfl, rfl⟩ | ⟨rfl, rfl, rfl⟩
  all_goals
    go_enter Try.func8, Try.ntmps8
    go_wp2_with fail
    refine (binary10 _ _ _ _).mono ?_
    rintro e w' ⟨rfl, n1, rfl⟩
    go_wp2_with fail
    refine (binary11 _ _ _ _).mono ?_
    rintro e w' ⟨rfl, n2, rfl⟩
    go_wp2_with fail
    refine (binary9 _ _ _ _).mono ?_
    rintro e w' ⟨rfl, n3, rfl⟩
    go_wp2_with fail
    refine (binary10 _ _ _ _).mono ?_
    rintro e w' ⟨rfl, n4, rfl⟩
    go_wp2_with fail
    refine (live_any _).mono ?_
    rintro e w' ⟨rfl, n5, rfl⟩
    go_wp2_with fail
    go_ret
    exact ⟨rfl, by repeat (first | exact Grown.refl _ | apply grown_drewN | apply Grown.alloc)⟩

set_option maxHeartbeats 1000000 in
theorem less_nan (t x y : Int) (w : World) (h1 : (bin 10 t x y).2 = 0) (h2 : (bin 11 t x y).2 = 0) (h3 : (bin 9 t x y).2 = 0) (h4 : (bin 10 t y x).2 = 0) (e1 : (bin 10 t x y).1 = 0) (e2 : (bin 11 t x y).1 = 0) (e3 : (bin 9 t x y).1 = 0) (e4 : (bin 10 t y x).1 = 0)
    (ht : (t == 1) = true) (hn : (x == 2143289344) = true ∨ (x == 2143289344) = false ∧ (y == 2143289344) = true) : Calls Try.prog 8 #[.int .i64 t, .agg #[.int .i64 x, .int .i64 y]] w fun e w' => e = .returned (.bool true) ∧ Grown w w' := by
  rcases hn with hn | ⟨hn, hm⟩
  all_goals
    go_enter Try.func8, Try.ntmps8
    go_wp2_with fail
    refine (binary10 _ _ _ _).mono ?_
    rintro e w' ⟨rfl, n1, rfl⟩
    go_wp2_with fail
    refine (binary11 _ _ _ _).mono ?_
    rintro e w' ⟨rfl, n2, rfl⟩
    go_wp2_with fail
    refine (binary9 _ _ _ _).mono ?_
    rintro e w' ⟨rfl, n3, rfl⟩
    go_wp2_with fail
    refine (binary10 _ _ _ _).mono ?_
    rintro e w' ⟨rfl, n4, rfl⟩
    go_wp2_with fail
    refine (live_any _).mono ?_
    rintro e w' ⟨rfl, n5, rfl⟩
    go_wp2_with fail
    go_ret
    exact ⟨rfl, by repeat (first | exact Grown.refl _ | apply grown_drewN | apply Grown.alloc)⟩

theorem less_ends (t : Int) (_ : (Lit.int .i64 t).wf = true) (x y : Int) (_ : (Lit.int .i64 x).wf = true) (_ : (Lit.int .i64 y).wf = true) (w : World) : Calls Try.prog 8 #[.int .i64 t, .agg #[.int .i64 x, .int .i64 y]] w fun e w' => e = .returned (.bool true) ∧ Grown w w' := by
  have hb : ∀ z : Int, (z == 2143289344) = true ∨ (z == 2143289344) = false := fun z => by cases (z == 2143289344) <;> simp
  rcases less_all t x y with ⟨h1, h2, h4⟩ | ⟨h1, h2, h3, h4, he, h⟩
  · exact less_no t x y w h1 h2 h4
  · have hty : (t == 1) = false ∨ (t == 1) = true ∧ ((x == 2143289344) = true ∨ (x == 2143289344) = false) := by
      cases ht : (t == 1)
      · exact .inl rfl
      · exact .inr ⟨rfl, hb x⟩
    rcases h with ⟨a, b, c⟩ | ⟨a, b, c⟩ | ⟨a, b, c⟩ | ⟨a, b, c, ht, hn⟩
    · exact less_yes t x y _ _ _ w h1 h2 h3 h4 a b c (he.trans b) (.inl ⟨rfl, rfl, rfl⟩) hty
    · exact less_yes t x y _ _ _ w h1 h2 h3 h4 a b c (he.trans b) (.inr (.inl ⟨rfl, rfl, rfl⟩)) hty
    · exact less_yes t x y _ _ _ w h1 h2 h3 h4 a b c (he.trans b) (.inr (.inr ⟨rfl, rfl, rfl⟩)) hty
    · refine less_nan t x y w h1 h2 h3 h4 a b c (he.trans b) (by simpa using ht) ?_
      by_cases hx : x = 2143289344
      · exact .inl (by simpa using hx)
      · exact .inr ⟨by simpa using hx, by simpa using hn.resolve_left hx⟩
end Go.Proofs.Ytcfgnhjoajibkab
