/- Unary of the document, of any type; the program's, of floats; operators that there are not (mkOne.py). -/
import Derived.Test.YteigfipgmghgmaaGreatDoorNuWalkE9
import Derived.Test.YteigfipgmghgmaaGreatDoorNuWalkF
namespace Go.Proofs.YteigfipgmghgmaaGreatDoor.Nu
open Go.RowKit Mo

/-- An answer, and answers that were drawn. -/
def Ans (a e : Int) (w : World) (en : Ending) (w' : World) : Prop := en = .returned (.tuple #[.int .i64 a, .int .i64 e]) ∧ ∃ n, w' = w.drewN n

set_option maxHeartbeats 400000 in
theorem unary_no (s : ByteArray) (t x : Int) (w : World) (hx : chk t x = false) : Calls Tryz.prog 29 #[.string s, .int .i64 t, .int .i64 x] w (Ans 0 1 w) := by
  unfold Ans
  go_enter Tryz.func29, Tryz.ntmps29
  go_wp2_with (first | (go_at_call 45; refine (check_any _ _ _).mono ?_; rintro e w' ⟨rfl, rfl⟩) | fail)
  go_ret2
  exact ⟨rfl, 0, rfl⟩

set_option maxHeartbeats 400000 in
theorem unaryF5 (x : Int) (w : World) (hx : chk 1 x = true) : Calls Tryz.prog 29 #[.string ⟨#[83, 113, 114, 116]⟩, .int .i64 1, .int .i64 x] w (Ans (sqB (fb x)) 0 w) := by
  unfold Ans
  go_enter Tryz.func29, Tryz.ntmps29
  go_wp2_with (first | (go_at_call 45; refine (check_any _ _ _).mono ?_; rintro e w' ⟨rfl, rfl⟩) | (go_at_call 50; refine (from_any _ _).mono ?_; rintro e w' ⟨rfl, rfl⟩) | (go_at_call 49; refine (round5_s _ _ (fb_lt _)).mono ?_; rintro e w' ⟨n, rfl, rfl⟩) | fail)
  go_ret2
  exact ⟨rfl, _, rfl⟩

set_option maxHeartbeats 400000 in
theorem unaryF6 (x : Int) (w : World) (hx : chk 1 x = true) : Calls Tryz.prog 29 #[.string ⟨#[70, 108, 111, 111, 114]⟩, .int .i64 1, .int .i64 x] w (Ans (flB (fb x)) 0 w) := by
  unfold Ans
  go_enter Tryz.func29, Tryz.ntmps29
  go_wp2_with (first | (go_at_call 45; refine (check_any _ _ _).mono ?_; rintro e w' ⟨rfl, rfl⟩) | (go_at_call 50; refine (from_any _ _).mono ?_; rintro e w' ⟨rfl, rfl⟩) | (go_at_call 49; refine (round6_s _ _ (fb_lt _)).mono ?_; rintro e w' ⟨n, rfl, rfl⟩) | fail)
  go_ret2
  exact ⟨rfl, _, rfl⟩

set_option maxHeartbeats 400000 in
theorem unaryF7 (x : Int) (w : World) (hx : chk 1 x = true) : Calls Tryz.prog 29 #[.string ⟨#[69, 120, 112]⟩, .int .i64 1, .int .i64 x] w (Ans (tob (exW (fb x))) 0 w) := by
  unfold Ans
  go_enter Tryz.func29, Tryz.ntmps29
  go_wp2_with (first | (go_at_call 45; refine (check_any _ _ _).mono ?_; rintro e w' ⟨rfl, rfl⟩) | (go_at_call 50; refine (from_any _ _).mono ?_; rintro e w' ⟨rfl, rfl⟩) | (go_at_call 49; refine (round7_s _ _ (fb_lt _)).mono ?_; rintro e w' ⟨n, rfl, rfl⟩) | fail)
  go_ret2
  exact ⟨rfl, _, rfl⟩

set_option maxHeartbeats 400000 in
theorem unaryF8 (x : Int) (w : World) (hx : chk 1 x = true) : Calls Tryz.prog 29 #[.string ⟨#[83, 105, 103, 109, 111, 105, 100]⟩, .int .i64 1, .int .i64 x] w (Ans (sgI (exW (negF (fb x)))) 0 w) := by
  unfold Ans
  go_enter Tryz.func29, Tryz.ntmps29
  go_wp2_with (first | (go_at_call 45; refine (check_any _ _ _).mono ?_; rintro e w' ⟨rfl, rfl⟩) | (go_at_call 50; refine (from_any _ _).mono ?_; rintro e w' ⟨rfl, rfl⟩) | (go_at_call 49; refine (round8_s _ _ (fb_lt _)).mono ?_; rintro e w' ⟨n, rfl, rfl⟩) | fail)
  go_ret2
  exact ⟨rfl, _, rfl⟩

set_option maxHeartbeats 400000 in
theorem unaryF9 (x : Int) (w : World) (hx : chk 1 x = true) : Calls Tryz.prog 29 #[.string ⟨#[84, 97, 110, 104]⟩, .int .i64 1, .int .i64 x] w (Ans (thI (fb x)) 0 w) := by
  unfold Ans
  go_enter Tryz.func29, Tryz.ntmps29
  go_wp2_with (first | (go_at_call 45; refine (check_any _ _ _).mono ?_; rintro e w' ⟨rfl, rfl⟩) | (go_at_call 50; refine (from_any _ _).mono ?_; rintro e w' ⟨rfl, rfl⟩) | (go_at_call 49; refine (round9_s _ _ (fb_lt _)).mono ?_; rintro e w' ⟨n, rfl, rfl⟩) | fail)
  go_ret2
  exact ⟨rfl, _, rfl⟩

structure Other1 (s : ByteArray) : Prop where
  n0 : (s.toList == [73, 100, 101, 110, 116, 105, 116, 121]) = false
  n1 : (s.toList == [78, 101, 103]) = false
  n2 : (s.toList == [65, 98, 115]) = false
  n3 : (s.toList == [78, 111, 116]) = false
  n4 : (s.toList == [82, 101, 108, 117]) = false
  n5 : (s.toList == [83, 113, 114, 116]) = false
  n6 : (s.toList == [70, 108, 111, 111, 114]) = false
  n7 : (s.toList == [69, 120, 112]) = false
  n8 : (s.toList == [83, 105, 103, 109, 111, 105, 100]) = false
  n9 : (s.toList == [84, 97, 110, 104]) = false

set_option maxHeartbeats 400000 in
theorem unaryFloat_other (s : ByteArray) (ho : Other1 s) (b : Nat) (w : World) : Calls Tryz.prog 49 #[.string s, .float .f32 b] w fun e w' => e = .returned (.tuple #[.int .i64 0, .int .i64 1]) ∧ w' = w := by
  have o0 := ho.n0
  have o1 := ho.n1
  have o2 := ho.n2
  have o3 := ho.n3
  have o4 := ho.n4
  have o5 := ho.n5
  have o6 := ho.n6
  have o7 := ho.n7
  have o8 := ho.n8
  have o9 := ho.n9
  clear ho
  go_enter Tryz.func49, Tryz.ntmps49
  go_wp2_with fail
  go_ret2
  exact ⟨rfl, rfl⟩

set_option maxHeartbeats 400000 in
theorem unaryInt_other (s : ByteArray) (ho : Other1 s) (t x : Int) (w : World) : Calls Tryz.prog 51 #[.string s, .int .i64 t, .int .i64 x] w fun e w' => e = .returned (.tuple #[.int .i64 0, .int .i64 1]) ∧ w' = w := by
  have o0 := ho.n0
  have o1 := ho.n1
  have o2 := ho.n2
  have o3 := ho.n3
  have o4 := ho.n4
  have o5 := ho.n5
  have o6 := ho.n6
  have o7 := ho.n7
  have o8 := ho.n8
  have o9 := ho.n9
  clear ho
  go_enter Tryz.func51, Tryz.ntmps51
  go_wp2_with fail
  go_ret2
  exact ⟨rfl, rfl⟩

set_option maxHeartbeats 400000 in
theorem unaryBool_other (s : ByteArray) (ho : Other1 s) (x : Int) (w : World) : Calls Tryz.prog 52 #[.string s, .int .i64 x] w fun e w' => e = .returned (.tuple #[.int .i64 0, .int .i64 1]) ∧ w' = w := by
  have o0 := ho.n0
  have o1 := ho.n1
  have o2 := ho.n2
  have o3 := ho.n3
  have o4 := ho.n4
  have o5 := ho.n5
  have o6 := ho.n6
  have o7 := ho.n7
  have o8 := ho.n8
  have o9 := ho.n9
  clear ho
  go_enter Tryz.func52, Tryz.ntmps52
  go_wp2_with fail
  go_ret2
  exact ⟨rfl, rfl⟩

set_option maxHeartbeats 1000000 in
theorem other1_code (s : ByteArray) (ho : Other1 s) (t x : Int) (w : World) (hx : chk t x = true) : Calls Tryz.prog 29 #[.string s, .int .i64 t, .int .i64 x] w (Ans 0 1 w) := by
  have HO : Hid (Other1 s) := ho
  unfold Ans
  have o0 := ho.n0
  have o1 := ho.n1
  have o2 := ho.n2
  have o3 := ho.n3
  have o4 := ho.n4
  have o5 := ho.n5
  have o6 := ho.n6
  have o7 := ho.n7
  have o8 := ho.n8
  have o9 := ho.n9
  clear ho
  rcases chk_types t x hx with rfl | rfl | rfl | rfl
  all_goals
    go_enter Tryz.func29, Tryz.ntmps29
    go_wp2_with (first | (go_at_call 45; refine (check_any _ _ _).mono ?_; rintro e w' ⟨rfl, rfl⟩) | (go_at_call 49; refine (unaryFloat_other _ HO.out _ _).mono ?_; rintro e w' ⟨rfl, rfl⟩) | (go_at_call 51; refine (unaryInt_other _ HO.out _ _ _).mono ?_; rintro e w' ⟨rfl, rfl⟩) | (go_at_call 52; refine (unaryBool_other _ HO.out _ _).mono ?_; rintro e w' ⟨rfl, rfl⟩) | (go_at_call 50; refine (from_any _ _).mono ?_; rintro e w' ⟨rfl, rfl⟩) | go_in)
    go_ret2
    exact ⟨rfl, 0, rfl⟩

end Go.Proofs.YteigfipgmghgmaaGreatDoor.Nu
