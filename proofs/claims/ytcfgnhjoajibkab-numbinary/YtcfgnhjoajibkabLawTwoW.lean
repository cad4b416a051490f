/- The walk of the statement on operators of two: it answers true, whatever the operator, the type and the numbers. -/
import Derived.Test.YtcfgnhjoajibkabWalkS
import Derived.Test.YtcfgnhjoajibkabLive
namespace Go.Proofs.Ytcfgnhjoajibkab
open Go.RowKit

set_option maxHeartbeats 1000000 in
theorem two_0 (t x y : Int) (w : World) : Calls Try.prog 4 #[.string ⟨#[65, 100, 100]⟩, .int .i64 t, .agg #[.int .i64 x, .int .i64 y]] w fun e w' => e = .returned (.bool true) ∧ Grown w w' := by
  go_enter Try.func4, Try.ntmps4
  go_wp2_with fail
  refine (binary0 _ _ _ _).mono ?_
  rintro e w' ⟨rfl, n1, rfl⟩
  go_wp2_with fail
  refine (rbinary0 _ _ _ _).mono ?_
  rintro e w' ⟨rfl, n2, rfl⟩
  go_wp2_with fail
  refine (live_any _).mono ?_
  rintro e w' ⟨rfl, n3, rfl⟩
  go_wp2_with fail
  go_ret
  exact ⟨rfl, by repeat (first | exact Grown.refl _ | apply grown_drewN | apply Grown.alloc)⟩

set_option maxHeartbeats 1000000 in
theorem two_1 (t x y : Int) (w : World) : Calls Try.prog 4 #[.string ⟨#[83, 117, 98]⟩, .int .i64 t, .agg #[.int .i64 x, .int .i64 y]] w fun e w' => e = .returned (.bool true) ∧ Grown w w' := by
  go_enter Try.func4, Try.ntmps4
  go_wp2_with fail
  refine (binary1 _ _ _ _).mono ?_
  rintro e w' ⟨rfl, n1, rfl⟩
  go_wp2_with fail
  refine (rbinary1 _ _ _ _).mono ?_
  rintro e w' ⟨rfl, n2, rfl⟩
  go_wp2_with fail
  refine (live_any _).mono ?_
  rintro e w' ⟨rfl, n3, rfl⟩
  go_wp2_with fail
  go_ret
  exact ⟨rfl, by repeat (first | exact Grown.refl _ | apply grown_drewN | apply Grown.alloc)⟩

set_option maxHeartbeats 1000000 in
theorem two_2 (t x y : Int) (w : World) : Calls Try.prog 4 #[.string ⟨#[77, 117, 108]⟩, .int .i64 t, .agg #[.int .i64 x, .int .i64 y]] w fun e w' => e = .returned (.bool true) ∧ Grown w w' := by
  go_enter Try.func4, Try.ntmps4
  go_wp2_with fail
  refine (binary2 _ _ _ _).mono ?_
  rintro e w' ⟨rfl, n1, rfl⟩
  go_wp2_with fail
  refine (rbinary2 _ _ _ _).mono ?_
  rintro e w' ⟨rfl, n2, rfl⟩
  go_wp2_with fail
  refine (live_any _).mono ?_
  rintro e w' ⟨rfl, n3, rfl⟩
  go_wp2_with fail
  go_ret
  exact ⟨rfl, by repeat (first | exact Grown.refl _ | apply grown_drewN | apply Grown.alloc)⟩

set_option maxHeartbeats 1000000 in
theorem two_3 (t x y : Int) (w : World) (hw : -9223372036854775808 ≤ x ∧ x ≤ 9223372036854775807) : Calls Try.prog 4 #[.string ⟨#[68, 105, 118]⟩, .int .i64 t, .agg #[.int .i64 x, .int .i64 y]] w fun e w' => e = .returned (.bool true) ∧ Grown w w' := by
  go_enter Try.func4, Try.ntmps4
  go_wp2_with fail
  refine (binary3 _ _ _ _).mono ?_
  rintro e w' ⟨rfl, n1, rfl⟩
  go_wp2_with fail
  refine (rbinary3 _ _ _ _ hw).mono ?_
  rintro e w' ⟨rfl, n2, rfl⟩
  go_wp2_with fail
  refine (live_any _).mono ?_
  rintro e w' ⟨rfl, n3, rfl⟩
  go_wp2_with fail
  go_ret
  exact ⟨rfl, by repeat (first | exact Grown.refl _ | apply grown_drewN | apply Grown.alloc)⟩

set_option maxHeartbeats 1000000 in
theorem two_4 (t x y : Int) (w : World) : Calls Try.prog 4 #[.string ⟨#[77, 97, 120]⟩, .int .i64 t, .agg #[.int .i64 x, .int .i64 y]] w fun e w' => e = .returned (.bool true) ∧ Grown w w' := by
  go_enter Try.func4, Try.ntmps4
  go_wp2_with fail
  refine (binary4 _ _ _ _).mono ?_
  rintro e w' ⟨rfl, n1, rfl⟩
  go_wp2_with fail
  refine (rbinary4 _ _ _ _).mono ?_
  rintro e w' ⟨rfl, n2, rfl⟩
  go_wp2_with fail
  refine (live_any _).mono ?_
  rintro e w' ⟨rfl, n3, rfl⟩
  go_wp2_with fail
  go_ret
  exact ⟨rfl, by repeat (first | exact Grown.refl _ | apply grown_drewN | apply Grown.alloc)⟩

set_option maxHeartbeats 1000000 in
theorem two_5 (t x y : Int) (w : World) : Calls Try.prog 4 #[.string ⟨#[77, 105, 110]⟩, .int .i64 t, .agg #[.int .i64 x, .int .i64 y]] w fun e w' => e = .returned (.bool true) ∧ Grown w w' := by
  go_enter Try.func4, Try.ntmps4
  go_wp2_with fail
  refine (binary5 _ _ _ _).mono ?_
  rintro e w' ⟨rfl, n1, rfl⟩
  go_wp2_with fail
  refine (rbinary5 _ _ _ _).mono ?_
  rintro e w' ⟨rfl, n2, rfl⟩
  go_wp2_with fail
  refine (live_any _).mono ?_
  rintro e w' ⟨rfl, n3, rfl⟩
  go_wp2_with fail
  go_ret
  exact ⟨rfl, by repeat (first | exact Grown.refl _ | apply grown_drewN | apply Grown.alloc)⟩

set_option maxHeartbeats 1000000 in
theorem two_6 (t x y : Int) (w : World) : Calls Try.prog 4 #[.string ⟨#[65, 110, 100]⟩, .int .i64 t, .agg #[.int .i64 x, .int .i64 y]] w fun e w' => e = .returned (.bool true) ∧ Grown w w' := by
  go_enter Try.func4, Try.ntmps4
  go_wp2_with fail
  refine (binary6 _ _ _ _).mono ?_
  rintro e w' ⟨rfl, n1, rfl⟩
  go_wp2_with fail
  refine (rbinary6 _ _ _ _).mono ?_
  rintro e w' ⟨rfl, n2, rfl⟩
  go_wp2_with fail
  refine (live_any _).mono ?_
  rintro e w' ⟨rfl, n3, rfl⟩
  go_wp2_with fail
  go_ret
  exact ⟨rfl, by repeat (first | exact Grown.refl _ | apply grown_drewN | apply Grown.alloc)⟩

set_option maxHeartbeats 1000000 in
theorem two_7 (t x y : Int) (w : World) : Calls Try.prog 4 #[.string ⟨#[79, 114]⟩, .int .i64 t, .agg #[.int .i64 x, .int .i64 y]] w fun e w' => e = .returned (.bool true) ∧ Grown w w' := by
  go_enter Try.func4, Try.ntmps4
  go_wp2_with fail
  refine (binary7 _ _ _ _).mono ?_
  rintro e w' ⟨rfl, n1, rfl⟩
  go_wp2_with fail
  refine (rbinary7 _ _ _ _).mono ?_
  rintro e w' ⟨rfl, n2, rfl⟩
  go_wp2_with fail
  refine (live_any _).mono ?_
  rintro e w' ⟨rfl, n3, rfl⟩
  go_wp2_with fail
  go_ret
  exact ⟨rfl, by repeat (first | exact Grown.refl _ | apply grown_drewN | apply Grown.alloc)⟩

set_option maxHeartbeats 1000000 in
theorem two_8 (t x y : Int) (w : World) : Calls Try.prog 4 #[.string ⟨#[88, 111, 114]⟩, .int .i64 t, .agg #[.int .i64 x, .int .i64 y]] w fun e w' => e = .returned (.bool true) ∧ Grown w w' := by
  go_enter Try.func4, Try.ntmps4
  go_wp2_with fail
  refine (binary8 _ _ _ _).mono ?_
  rintro e w' ⟨rfl, n1, rfl⟩
  go_wp2_with fail
  refine (rbinary8 _ _ _ _).mono ?_
  rintro e w' ⟨rfl, n2, rfl⟩
  go_wp2_with fail
  refine (live_any _).mono ?_
  rintro e w' ⟨rfl, n3, rfl⟩
  go_wp2_with fail
  go_ret
  exact ⟨rfl, by repeat (first | exact Grown.refl _ | apply grown_drewN | apply Grown.alloc)⟩

set_option maxHeartbeats 1000000 in
theorem two_9 (t x y : Int) (w : World) : Calls Try.prog 4 #[.string ⟨#[69, 113, 117, 97, 108]⟩, .int .i64 t, .agg #[.int .i64 x, .int .i64 y]] w fun e w' => e = .returned (.bool true) ∧ Grown w w' := by
  go_enter Try.func4, Try.ntmps4
  go_wp2_with fail
  refine (binary9 _ _ _ _).mono ?_
  rintro e w' ⟨rfl, n1, rfl⟩
  go_wp2_with fail
  refine (rbinary9 _ _ _ _).mono ?_
  rintro e w' ⟨rfl, n2, rfl⟩
  go_wp2_with fail
  refine (live_any _).mono ?_
  rintro e w' ⟨rfl, n3, rfl⟩
  go_wp2_with fail
  go_ret
  exact ⟨rfl, by repeat (first | exact Grown.refl _ | apply grown_drewN | apply Grown.alloc)⟩

set_option maxHeartbeats 1000000 in
theorem two_10 (t x y : Int) (w : World) : Calls Try.prog 4 #[.string ⟨#[76, 101, 115, 115]⟩, .int .i64 t, .agg #[.int .i64 x, .int .i64 y]] w fun e w' => e = .returned (.bool true) ∧ Grown w w' := by
  go_enter Try.func4, Try.ntmps4
  go_wp2_with fail
  refine (binary10 _ _ _ _).mono ?_
  rintro e w' ⟨rfl, n1, rfl⟩
  go_wp2_with fail
  refine (rbinary10 _ _ _ _).mono ?_
  rintro e w' ⟨rfl, n2, rfl⟩
  go_wp2_with fail
  refine (live_any _).mono ?_
  rintro e w' ⟨rfl, n3, rfl⟩
  go_wp2_with fail
  go_ret
  exact ⟨rfl, by repeat (first | exact Grown.refl _ | apply grown_drewN | apply Grown.alloc)⟩

set_option maxHeartbeats 1000000 in
theorem two_11 (t x y : Int) (w : World) : Calls Try.prog 4 #[.string ⟨#[71, 114, 101, 97, 116, 101, 114]⟩, .int .i64 t, .agg #[.int .i64 x, .int .i64 y]] w fun e w' => e = .returned (.bool true) ∧ Grown w w' := by
  go_enter Try.func4, Try.ntmps4
  go_wp2_with fail
  refine (binary11 _ _ _ _).mono ?_
  rintro e w' ⟨rfl, n1, rfl⟩
  go_wp2_with fail
  refine (rbinary11 _ _ _ _).mono ?_
  rintro e w' ⟨rfl, n2, rfl⟩
  go_wp2_with fail
  refine (live_any _).mono ?_
  rintro e w' ⟨rfl, n3, rfl⟩
  go_wp2_with fail
  go_ret
  exact ⟨rfl, by repeat (first | exact Grown.refl _ | apply grown_drewN | apply Grown.alloc)⟩

set_option maxHeartbeats 1000000 in
theorem two_other (s : ByteArray) (ho : Other2 s) (t x y : Int) (w : World) : Calls Try.prog 4 #[.string s, .int .i64 t, .agg #[.int .i64 x, .int .i64 y]] w fun e w' => e = .returned (.bool true) ∧ Grown w w' := by
  go_enter Try.func4, Try.ntmps4
  go_wp2_with fail
  refine (other2_code _ ho _ _ _ _).mono ?_
  rintro e w' ⟨rfl, n1, rfl⟩
  go_wp2_with fail
  refine (other2_ref _ ho _ _ _ _).mono ?_
  rintro e w' ⟨rfl, n2, rfl⟩
  go_wp2_with fail
  refine (live_any _).mono ?_
  rintro e w' ⟨rfl, n3, rfl⟩
  go_wp2_with fail
  go_ret
  exact ⟨rfl, by repeat (first | exact Grown.refl _ | apply grown_drewN | apply Grown.alloc)⟩

theorem str_of (s : ByteArray) (l : List UInt8) (h : (s.toList == l) = true) : s = ⟨l.toArray⟩ := by
  have h1 : s.toList = l := by simpa using h
  rw [← h1, ByteArray.toList_eq]

theorem two_ends (s : ByteArray) (_ : s.size ≤ maxLen) (t : Int) (_ : (Lit.int .i64 t).wf = true) (x y : Int) (hx : (Lit.int .i64 x).wf = true) (_ : (Lit.int .i64 y).wf = true) (w : World) : Calls Try.prog 4 #[.string s, .int .i64 t, .agg #[.int .i64 x, .int .i64 y]] w fun e w' => e = .returned (.bool true) ∧ Grown w w' := by
  have hw : -9223372036854775808 ≤ x ∧ x ≤ 9223372036854775807 := by
    simpa [Lit.wf, IntKind.min, IntKind.max, IntKind.signed, IntKind.bits] using hx
  cases h0 : (s.toList == [65, 100, 100]) with
  | true => rw [str_of s _ h0]; exact two_0 t x y w
  | false =>
  cases h1 : (s.toList == [83, 117, 98]) with
  | true => rw [str_of s _ h1]; exact two_1 t x y w
  | false =>
  cases h2 : (s.toList == [77, 117, 108]) with
  | true => rw [str_of s _ h2]; exact two_2 t x y w
  | false =>
  cases h3 : (s.toList == [68, 105, 118]) with
  | true => rw [str_of s _ h3]; exact two_3 t x y w hw
  | false =>
  cases h4 : (s.toList == [77, 97, 120]) with
  | true => rw [str_of s _ h4]; exact two_4 t x y w
  | false =>
  cases h5 : (s.toList == [77, 105, 110]) with
  | true => rw [str_of s _ h5]; exact two_5 t x y w
  | false =>
  cases h6 : (s.toList == [65, 110, 100]) with
  | true => rw [str_of s _ h6]; exact two_6 t x y w
  | false =>
  cases h7 : (s.toList == [79, 114]) with
  | true => rw [str_of s _ h7]; exact two_7 t x y w
  | false =>
  cases h8 : (s.toList == [88, 111, 114]) with
  | true => rw [str_of s _ h8]; exact two_8 t x y w
  | false =>
  cases h9 : (s.toList == [69, 113, 117, 97, 108]) with
  | true => rw [str_of s _ h9]; exact two_9 t x y w
  | false =>
  cases h10 : (s.toList == [76, 101, 115, 115]) with
  | true => rw [str_of s _ h10]; exact two_10 t x y w
  | false =>
  cases h11 : (s.toList == [71, 114, 101, 97, 116, 101, 114]) with
  | true => rw [str_of s _ h11]; exact two_11 t x y w
  | false =>
  exact two_other s ⟨h0, h1, h2, h3, h4, h5, h6, h7, h8, h9, h10, h11⟩ t x y w
end Go.Proofs.Ytcfgnhjoajibkab
