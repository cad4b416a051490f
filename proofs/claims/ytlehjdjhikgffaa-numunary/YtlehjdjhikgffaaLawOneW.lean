/- The walk of law NumUnary: it answers true, whatever the operator, the type and the number (mkOne.py). -/
import Derived.Test.YtlehjdjhikgffaaWalkO
import Derived.Test.YtlehjdjhikgffaaLive
namespace Go.Proofs.Ytlehjdjhikgffaa
open Go.RowKit Mo

set_option maxHeartbeats 1000000 in
theorem one_of (s : ByteArray) (t x a e : Int) (w : World) (hc : ∀ w, Calls Try.prog 4 #[.string s, .int .i64 t, .int .i64 x] w (Ans a e w)) (hr : ∀ w, Calls Try.prog 5 #[.string s, .int .i64 t, .int .i64 x] w (Ans a e w)) : Calls Try.prog 3 #[.string s, .int .i64 t, .int .i64 x] w fun e w' => e = .returned (.bool true) ∧ Grown w w' := by
  have HC : Hid (∀ w, Calls Try.prog 4 #[.string s, .int .i64 t, .int .i64 x] w (Ans a e w)) := hc
  have HR : Hid (∀ w, Calls Try.prog 5 #[.string s, .int .i64 t, .int .i64 x] w (Ans a e w)) := hr
  clear hc hr
  go_enter Try.func3, Try.ntmps3
  go_wp2_with (first | (go_at_call 4; refine (HC.out _).mono ?_; rintro e w' ⟨rfl, n1, rfl⟩) | (go_at_call 5; refine (HR.out _).mono ?_; rintro e w' ⟨rfl, n2, rfl⟩) | (go_at_call 6; refine (check_any _ _ _).mono ?_; rintro e w' ⟨rfl, rfl⟩) | (go_at_call 7; refine (rcheck_any _ _ _).mono ?_; rintro e w' ⟨rfl, rfl⟩) | (go_at_call 8; refine (live_any _).mono ?_; rintro e w' ⟨rfl, n3, rfl⟩) | fail)
  go_ret
  exact ⟨rfl, by repeat (first | exact Grown.refl _ | apply grown_drewN | apply Grown.alloc)⟩

theorem str_of (s : ByteArray) (l : List UInt8) (h : (s.toList == l) = true) : s = ⟨l.toArray⟩ := by
  have h1 : s.toList = l := by simpa using h
  rw [← h1, ByteArray.toList_eq]

theorem ans_of {a e a' e' : Int} {w : World} {f : FuncId} {args : Array Value} (h : Calls Try.prog f args w fun en w' => en = .returned (.tuple #[.int .i64 a, .int .i64 e]) ∧ w' = w) (h1 : a = a') (h2 : e = e') : Calls Try.prog f args w (Ans a' e' w) := by
  subst h1 h2
  refine h.mono ?_
  rintro en w' ⟨rfl, rfl⟩
  exact ⟨rfl, 0, rfl⟩

theorem one_0 (t x : Int) (w : World) : Calls Try.prog 3 #[.string ⟨#[73, 100, 101, 110, 116, 105, 116, 121]⟩, .int .i64 t, .int .i64 x] w fun e w' => e = .returned (.bool true) ∧ Grown w w' := by
  cases hx : chk t x with
  | false => exact one_of _ t x 0 1 w (fun w => unary_no _ t x w hx) (fun w => runary_no _ t x w hx)
  | true =>
    rcases chk_types t x hx with rfl | rfl | rfl | rfl
    · exact one_of _ 1 x (x) (0) w (fun w => ans_of (unary0 1 x w) (by unfold un; rw [if_pos hx]; rfl) (by unfold un; rw [if_pos hx]; rfl)) (fun w => runary0_1 x w hx)
    · exact one_of _ 6 x (x) (0) w (fun w => ans_of (unary0 6 x w) (by unfold un; rw [if_pos hx]; rfl) (by unfold un; rw [if_pos hx]; rfl)) (fun w => runary0_6 x w hx)
    · exact one_of _ 7 x (x) (0) w (fun w => ans_of (unary0 7 x w) (by unfold un; rw [if_pos hx]; rfl) (by unfold un; rw [if_pos hx]; rfl)) (fun w => runary0_7 x w hx)
    · exact one_of _ 9 x (x) (0) w (fun w => ans_of (unary0 9 x w) (by unfold un; rw [if_pos hx]; rfl) (by unfold un; rw [if_pos hx]; rfl)) (fun w => runary0_9 x w hx)

theorem one_1 (t x : Int) (w : World) : Calls Try.prog 3 #[.string ⟨#[78, 101, 103]⟩, .int .i64 t, .int .i64 x] w fun e w' => e = .returned (.bool true) ∧ Grown w w' := by
  cases hx : chk t x with
  | false => exact one_of _ t x 0 1 w (fun w => unary_no _ t x w hx) (fun w => runary_no _ t x w hx)
  | true =>
    rcases chk_types t x hx with rfl | rfl | rfl | rfl
    · exact one_of _ 1 x (tob (negF (fb x))) (0) w (fun w => ans_of (unary1_1 x w hx) (by unfold un; rw [if_pos hx]; rfl) (by unfold un; rw [if_pos hx]; rfl)) (fun w => runary1_1 x w hx)
    · exact one_of _ 6 x (wrapT 6 (wrap64 (-x))) (0) w (fun w => ans_of (unary1_6 x w hx) (by unfold un; rw [if_pos hx]; rfl) (by unfold un; rw [if_pos hx]; rfl)) (fun w => runary1_6 x w hx)
    · exact one_of _ 7 x (wrapT 7 (wrap64 (-x))) (0) w (fun w => ans_of (unary1_7 x w hx) (by unfold un; rw [if_pos hx]; rfl) (by unfold un; rw [if_pos hx]; rfl)) (fun w => runary1_7 x w hx)
    · exact one_of _ 9 x (0) (1) w (fun w => ans_of (unary1_9 x w hx) (by unfold un; rw [if_pos hx]; rfl) (by unfold un; rw [if_pos hx]; rfl)) (fun w => runary1_9 x w hx)

theorem one_2 (t x : Int) (w : World) : Calls Try.prog 3 #[.string ⟨#[65, 98, 115]⟩, .int .i64 t, .int .i64 x] w fun e w' => e = .returned (.bool true) ∧ Grown w w' := by
  cases hx : chk t x with
  | false => exact one_of _ t x 0 1 w (fun w => unary_no _ t x w hx) (fun w => runary_no _ t x w hx)
  | true =>
    rcases chk_types t x hx with rfl | rfl | rfl | rfl
    · exact one_of _ 1 x (tob (absF (fb x))) (0) w (fun w => ans_of (unary2_1 x w hx) (by unfold un; rw [if_pos hx]; rfl) (by unfold un; rw [if_pos hx]; rfl)) (fun w => runary2_1 x w hx)
    · exact one_of _ 6 x (absI 6 x) (0) w (fun w => ans_of (unary2_6 x w hx) (by unfold un; rw [if_pos hx]; rfl) (by unfold un; rw [if_pos hx]; rfl)) (fun w => runary2_6 x w hx)
    · exact one_of _ 7 x (absI 7 x) (0) w (fun w => ans_of (unary2_7 x w hx) (by unfold un; rw [if_pos hx]; rfl) (by unfold un; rw [if_pos hx]; rfl)) (fun w => runary2_7 x w hx)
    · exact one_of _ 9 x (0) (1) w (fun w => ans_of (unary2_9 x w hx) (by unfold un; rw [if_pos hx]; rfl) (by unfold un; rw [if_pos hx]; rfl)) (fun w => runary2_9 x w hx)

theorem one_3 (t x : Int) (w : World) : Calls Try.prog 3 #[.string ⟨#[78, 111, 116]⟩, .int .i64 t, .int .i64 x] w fun e w' => e = .returned (.bool true) ∧ Grown w w' := by
  cases hx : chk t x with
  | false => exact one_of _ t x 0 1 w (fun w => unary_no _ t x w hx) (fun w => runary_no _ t x w hx)
  | true =>
    rcases chk_types t x hx with rfl | rfl | rfl | rfl
    · exact one_of _ 1 x (0) (1) w (fun w => ans_of (unary3_1 x w hx) (by unfold un; rw [if_pos hx]; rfl) (by unfold un; rw [if_pos hx]; rfl)) (fun w => runary3_1 x w hx)
    · exact one_of _ 6 x (0) (1) w (fun w => ans_of (unary3_6 x w hx) (by unfold un; rw [if_pos hx]; rfl) (by unfold un; rw [if_pos hx]; rfl)) (fun w => runary3_6 x w hx)
    · exact one_of _ 7 x (0) (1) w (fun w => ans_of (unary3_7 x w hx) (by unfold un; rw [if_pos hx]; rfl) (by unfold un; rw [if_pos hx]; rfl)) (fun w => runary3_7 x w hx)
    · exact one_of _ 9 x ((1 - x)) (0) w (fun w => ans_of (unary3_9 x w hx) (by unfold un; rw [if_pos hx]; rfl) (by unfold un; rw [if_pos hx]; rfl)) (fun w => runary3_9 x w hx)

theorem one_4 (t x : Int) (w : World) : Calls Try.prog 3 #[.string ⟨#[82, 101, 108, 117]⟩, .int .i64 t, .int .i64 x] w fun e w' => e = .returned (.bool true) ∧ Grown w w' := by
  cases hx : chk t x with
  | false => exact one_of _ t x 0 1 w (fun w => unary_no _ t x w hx) (fun w => runary_no _ t x w hx)
  | true =>
    rcases chk_types t x hx with rfl | rfl | rfl | rfl
    · exact one_of _ 1 x (tob (reluF (fb x))) (0) w (fun w => ans_of (unary4_1 x w hx) (by unfold un; rw [if_pos hx]; rfl) (by unfold un; rw [if_pos hx]; rfl)) (fun w => runary4_1 x w hx)
    · exact one_of _ 6 x (0) (1) w (fun w => ans_of (unary4_6 x w hx) (by unfold un; rw [if_pos hx]; rfl) (by unfold un; rw [if_pos hx]; rfl)) (fun w => runary4_6 x w hx)
    · exact one_of _ 7 x (0) (1) w (fun w => ans_of (unary4_7 x w hx) (by unfold un; rw [if_pos hx]; rfl) (by unfold un; rw [if_pos hx]; rfl)) (fun w => runary4_7 x w hx)
    · exact one_of _ 9 x (0) (1) w (fun w => ans_of (unary4_9 x w hx) (by unfold un; rw [if_pos hx]; rfl) (by unfold un; rw [if_pos hx]; rfl)) (fun w => runary4_9 x w hx)

theorem one_5 (t x : Int) (w : World) : Calls Try.prog 3 #[.string ⟨#[83, 113, 114, 116]⟩, .int .i64 t, .int .i64 x] w fun e w' => e = .returned (.bool true) ∧ Grown w w' := by
  cases hx : chk t x with
  | false => exact one_of _ t x 0 1 w (fun w => unary_no _ t x w hx) (fun w => runary_no _ t x w hx)
  | true =>
    rcases chk_types t x hx with rfl | rfl | rfl | rfl
    · exact one_of _ 1 x (sqB (fb x)) (0) w (fun w => unaryF5 x w hx) (fun w => runary5_1 x w hx)
    · exact one_of _ 6 x (0) (1) w (fun w => ans_of (unary5_6 x w hx) (by unfold un; rw [if_pos hx]; rfl) (by unfold un; rw [if_pos hx]; rfl)) (fun w => runary5_6 x w hx)
    · exact one_of _ 7 x (0) (1) w (fun w => ans_of (unary5_7 x w hx) (by unfold un; rw [if_pos hx]; rfl) (by unfold un; rw [if_pos hx]; rfl)) (fun w => runary5_7 x w hx)
    · exact one_of _ 9 x (0) (1) w (fun w => ans_of (unary5_9 x w hx) (by unfold un; rw [if_pos hx]; rfl) (by unfold un; rw [if_pos hx]; rfl)) (fun w => runary5_9 x w hx)

theorem one_6 (t x : Int) (w : World) : Calls Try.prog 3 #[.string ⟨#[70, 108, 111, 111, 114]⟩, .int .i64 t, .int .i64 x] w fun e w' => e = .returned (.bool true) ∧ Grown w w' := by
  cases hx : chk t x with
  | false => exact one_of _ t x 0 1 w (fun w => unary_no _ t x w hx) (fun w => runary_no _ t x w hx)
  | true =>
    rcases chk_types t x hx with rfl | rfl | rfl | rfl
    · exact one_of _ 1 x (flB (fb x)) (0) w (fun w => unaryF6 x w hx) (fun w => runary6_1 x w hx)
    · exact one_of _ 6 x (0) (1) w (fun w => ans_of (unary6_6 x w hx) (by unfold un; rw [if_pos hx]; rfl) (by unfold un; rw [if_pos hx]; rfl)) (fun w => runary6_6 x w hx)
    · exact one_of _ 7 x (0) (1) w (fun w => ans_of (unary6_7 x w hx) (by unfold un; rw [if_pos hx]; rfl) (by unfold un; rw [if_pos hx]; rfl)) (fun w => runary6_7 x w hx)
    · exact one_of _ 9 x (0) (1) w (fun w => ans_of (unary6_9 x w hx) (by unfold un; rw [if_pos hx]; rfl) (by unfold un; rw [if_pos hx]; rfl)) (fun w => runary6_9 x w hx)

theorem one_7 (t x : Int) (w : World) : Calls Try.prog 3 #[.string ⟨#[69, 120, 112]⟩, .int .i64 t, .int .i64 x] w fun e w' => e = .returned (.bool true) ∧ Grown w w' := by
  cases hx : chk t x with
  | false => exact one_of _ t x 0 1 w (fun w => unary_no _ t x w hx) (fun w => runary_no _ t x w hx)
  | true =>
    rcases chk_types t x hx with rfl | rfl | rfl | rfl
    · exact one_of _ 1 x (tob (exW (fb x))) (0) w (fun w => unaryF7 x w hx) (fun w => runary7_1 x w hx)
    · exact one_of _ 6 x (0) (1) w (fun w => ans_of (unary7_6 x w hx) (by unfold un; rw [if_pos hx]; rfl) (by unfold un; rw [if_pos hx]; rfl)) (fun w => runary7_6 x w hx)
    · exact one_of _ 7 x (0) (1) w (fun w => ans_of (unary7_7 x w hx) (by unfold un; rw [if_pos hx]; rfl) (by unfold un; rw [if_pos hx]; rfl)) (fun w => runary7_7 x w hx)
    · exact one_of _ 9 x (0) (1) w (fun w => ans_of (unary7_9 x w hx) (by unfold un; rw [if_pos hx]; rfl) (by unfold un; rw [if_pos hx]; rfl)) (fun w => runary7_9 x w hx)

theorem one_8 (t x : Int) (w : World) : Calls Try.prog 3 #[.string ⟨#[83, 105, 103, 109, 111, 105, 100]⟩, .int .i64 t, .int .i64 x] w fun e w' => e = .returned (.bool true) ∧ Grown w w' := by
  cases hx : chk t x with
  | false => exact one_of _ t x 0 1 w (fun w => unary_no _ t x w hx) (fun w => runary_no _ t x w hx)
  | true =>
    rcases chk_types t x hx with rfl | rfl | rfl | rfl
    · exact one_of _ 1 x (sgI (exW (negF (fb x)))) (0) w (fun w => unaryF8 x w hx) (fun w => runary8_1 x w hx)
    · exact one_of _ 6 x (0) (1) w (fun w => ans_of (unary8_6 x w hx) (by unfold un; rw [if_pos hx]; rfl) (by unfold un; rw [if_pos hx]; rfl)) (fun w => runary8_6 x w hx)
    · exact one_of _ 7 x (0) (1) w (fun w => ans_of (unary8_7 x w hx) (by unfold un; rw [if_pos hx]; rfl) (by unfold un; rw [if_pos hx]; rfl)) (fun w => runary8_7 x w hx)
    · exact one_of _ 9 x (0) (1) w (fun w => ans_of (unary8_9 x w hx) (by unfold un; rw [if_pos hx]; rfl) (by unfold un; rw [if_pos hx]; rfl)) (fun w => runary8_9 x w hx)

theorem one_9 (t x : Int) (w : World) : Calls Try.prog 3 #[.string ⟨#[84, 97, 110, 104]⟩, .int .i64 t, .int .i64 x] w fun e w' => e = .returned (.bool true) ∧ Grown w w' := by
  cases hx : chk t x with
  | false => exact one_of _ t x 0 1 w (fun w => unary_no _ t x w hx) (fun w => runary_no _ t x w hx)
  | true =>
    rcases chk_types t x hx with rfl | rfl | rfl | rfl
    · exact one_of _ 1 x (thI (fb x)) (0) w (fun w => unaryF9 x w hx) (fun w => runary9_1 x w hx)
    · exact one_of _ 6 x (0) (1) w (fun w => ans_of (unary9_6 x w hx) (by unfold un; rw [if_pos hx]; rfl) (by unfold un; rw [if_pos hx]; rfl)) (fun w => runary9_6 x w hx)
    · exact one_of _ 7 x (0) (1) w (fun w => ans_of (unary9_7 x w hx) (by unfold un; rw [if_pos hx]; rfl) (by unfold un; rw [if_pos hx]; rfl)) (fun w => runary9_7 x w hx)
    · exact one_of _ 9 x (0) (1) w (fun w => ans_of (unary9_9 x w hx) (by unfold un; rw [if_pos hx]; rfl) (by unfold un; rw [if_pos hx]; rfl)) (fun w => runary9_9 x w hx)

theorem one_other (s : ByteArray) (ho : Other1 s) (t x : Int) (w : World) : Calls Try.prog 3 #[.string s, .int .i64 t, .int .i64 x] w fun e w' => e = .returned (.bool true) ∧ Grown w w' := by
  cases hx : chk t x with
  | false => exact one_of _ t x 0 1 w (fun w => unary_no _ t x w hx) (fun w => runary_no _ t x w hx)
  | true => exact one_of _ t x 0 1 w (fun w => other1_code s ho t x w hx) (fun w => other1_ref s ho t x w hx)

theorem one_ends (s : ByteArray) (_ : s.size ≤ maxLen) (t : Int) (_ : (Lit.int .i64 t).wf = true) (x : Int) (_ : (Lit.int .i64 x).wf = true) (w : World) : Calls Try.prog 3 #[.string s, .int .i64 t, .int .i64 x] w fun e w' => e = .returned (.bool true) ∧ Grown w w' := by
  cases h0 : (s.toList == [73, 100, 101, 110, 116, 105, 116, 121]) with
  | true => rw [str_of s _ h0]; exact one_0 t x w
  | false =>
  cases h1 : (s.toList == [78, 101, 103]) with
  | true => rw [str_of s _ h1]; exact one_1 t x w
  | false =>
  cases h2 : (s.toList == [65, 98, 115]) with
  | true => rw [str_of s _ h2]; exact one_2 t x w
  | false =>
  cases h3 : (s.toList == [78, 111, 116]) with
  | true => rw [str_of s _ h3]; exact one_3 t x w
  | false =>
  cases h4 : (s.toList == [82, 101, 108, 117]) with
  | true => rw [str_of s _ h4]; exact one_4 t x w
  | false =>
  cases h5 : (s.toList == [83, 113, 114, 116]) with
  | true => rw [str_of s _ h5]; exact one_5 t x w
  | false =>
  cases h6 : (s.toList == [70, 108, 111, 111, 114]) with
  | true => rw [str_of s _ h6]; exact one_6 t x w
  | false =>
  cases h7 : (s.toList == [69, 120, 112]) with
  | true => rw [str_of s _ h7]; exact one_7 t x w
  | false =>
  cases h8 : (s.toList == [83, 105, 103, 109, 111, 105, 100]) with
  | true => rw [str_of s _ h8]; exact one_8 t x w
  | false =>
  cases h9 : (s.toList == [84, 97, 110, 104]) with
  | true => rw [str_of s _ h9]; exact one_9 t x w
  | false =>
  exact one_other s ⟨h0, h1, h2, h3, h4, h5, h6, h7, h8, h9⟩ t x w
end Go.Proofs.Ytlehjdjhikgffaa
