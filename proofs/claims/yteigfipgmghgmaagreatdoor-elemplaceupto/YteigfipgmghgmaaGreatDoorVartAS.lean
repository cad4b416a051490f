/- A part. -/
import Derived.Test.YteigfipgmghgmaaGreatDoorVartAR
import Derived.Test.YteigfipgmghgmaaGreatDoorVartAQ
set_option maxHeartbeats 2000000
namespace Go.Proofs.YteigfipgmghgmaaGreatDoor.Nu
open Go.RowKit
attribute [local go_sem] jbq jbB jcf
theorem neg_f (b:Nat) (w:World) (hb:b<4294967296):Calls Tryz.prog 49 #[.string ⟨#[78,101,103]⟩,.float .f32 b] w fun e w'=>e=.returned (.tuple #[.int .i64 (tob (negF b)),.int .i64 0])∧w'=w:=by
 have hn:=negF_lt b hb;go_enter Tryz.func49,Tryz.ntmps49;go_wp2_with (first | (go_at_call 62;refine (jbo _ _ hn).mono ?_;rintro e w' ⟨rfl,rfl⟩) | go_in);go_ret2;exact ⟨rfl,rfl⟩
theorem jcS (b:Nat) (w:World) (hb:b<4294967296):Calls Tryz.prog 79 #[.float .f32 b] w fun e w'=>e=.returned (.float .f32 (absF b))∧w'=w:=by
 have ha:=jgT b hb;go_enter Tryz.func79,Tryz.ntmps79;go_wp2;go_ret;exact ⟨by simp [absF],rfl⟩
theorem abs_f (b:Nat) (w:World) (hb:b<4294967296):Calls Tryz.prog 49 #[.string ⟨#[65,98,115]⟩,.float .f32 b] w fun e w'=>e=.returned (.tuple #[.int .i64 (tob (absF b)),.int .i64 0])∧w'=w:=by
 go_enter Tryz.func49,Tryz.ntmps49;go_wp2_with (first | (go_at_call 62;refine (jbo _ _ (absF_lt _)).mono ?_;rintro e w' ⟨rfl,rfl⟩) | (go_at_call 79;refine (jcS _ _ hb).mono ?_;rintro e w' ⟨rfl,rfl⟩) | go_in);go_ret2;exact ⟨rfl,rfl⟩
theorem jqP (b:Nat) (w:World):Calls Tryz.prog 80 #[.float .f32 b] w fun e w'=>e=.returned (.float .f32 (jfS b))∧w'=w:=by
 cases h:(FloatKind.f32.format.order b 0==some .gt) with
 | true =>
  have c:jfS b=b:=by unfold jfS;rw [if_pos h]
  rw [c];clear c;go_enter Tryz.func80,Tryz.ntmps80;go_wp2;go_ret;exact ⟨rfl,rfl⟩
 | false =>
  cases h':(FloatKind.f32.format.order b b != some .eq) with
  | true =>
   have c:jfS b=b:=by unfold jfS;rw [h,h'];rfl
   rw [c];clear c;go_enter Tryz.func80,Tryz.ntmps80;go_wp2;go_ret;exact ⟨rfl,rfl⟩
  | false =>
   have c:jfS b=0:=by unfold jfS;rw [h,h'];rfl
   rw [c];clear c;go_enter Tryz.func80,Tryz.ntmps80;go_wp2;go_ret;exact ⟨rfl,rfl⟩
theorem juG (b:Nat) (w:World) (hb:b<4294967296):Calls Tryz.prog 49 #[.string ⟨#[82,101,108,117]⟩,.float .f32 b] w fun e w'=>e=.returned (.tuple #[.int .i64 (tob (jfS b)),.int .i64 0])∧w'=w:=by
 go_enter Tryz.func49,Tryz.ntmps49;go_wp2_with (first | (go_at_call 62;refine (jbo _ _ (reluF_lt _ hb)).mono ?_;rintro e w' ⟨rfl,rfl⟩) | (go_at_call 80;refine (jqP _ _).mono ?_;rintro e w' ⟨rfl,rfl⟩) | go_in);go_ret2;exact ⟨rfl,rfl⟩
theorem not_f (b:Nat) (w:World):Calls Tryz.prog 49 #[.string ⟨#[78,111,116]⟩,.float .f32 b] w fun e w'=>e=.returned (.tuple #[.int .i64 0,.int .i64 1])∧w'=w:=by
 go_enter Tryz.func49,Tryz.ntmps49;go_wp2;go_ret2;exact ⟨rfl,rfl⟩
theorem joo (t x:Int) (w:World):Calls Tryz.prog 51 #[.string ⟨#[78,101,103]⟩,.int .i64 t,.int .i64 x] w fun e w'=>e=.returned (.tuple #[.int .i64 (wrapT t (wrap64 (-x))),.int .i64 0])∧w'=w:=by
 cases h:(t==6) with
 | true =>
  rw [jef t _ h];go_enter Tryz.func51,Tryz.ntmps51;go_wp2;go_ret2;exact ⟨rfl,rfl⟩
 | false =>
  rw [jeg t _ h];go_enter Tryz.func51,Tryz.ntmps51;go_wp2;go_ret2;exact ⟨rfl,rfl⟩
theorem jop (t x:Int) (w:World):Calls Tryz.prog 51 #[.string ⟨#[65,98,115]⟩,.int .i64 t,.int .i64 x] w fun e w'=>e=.returned (.tuple #[.int .i64 (absI t x),.int .i64 0])∧w'=w:=by
 by_cases hx:x<0
 ·rw [show absI t x=wrapT t (wrap64 (-x)) from if_pos hx]
  cases h:(t==6) with
  | true =>
   rw [jef t _ h];go_enter Tryz.func51,Tryz.ntmps51;go_wp2;go_ret2;exact ⟨rfl,rfl⟩
  | false =>
   rw [jeg t _ h];go_enter Tryz.func51,Tryz.ntmps51;go_wp2;go_ret2;exact ⟨rfl,rfl⟩
 ·rw [show absI t x=x from if_neg hx];go_enter Tryz.func51,Tryz.ntmps51;go_wp2;go_ret2;exact ⟨rfl,rfl⟩
theorem joq (t x:Int) (w:World):Calls Tryz.prog 51 #[.string ⟨#[78,111,116]⟩,.int .i64 t,.int .i64 x] w fun e w'=>e=.returned (.tuple #[.int .i64 0,.int .i64 1])∧w'=w:=by
 go_enter Tryz.func51,Tryz.ntmps51;go_wp2;go_ret2;exact ⟨rfl,rfl⟩
theorem jor (t x:Int) (w:World):Calls Tryz.prog 51 #[.string ⟨#[82,101,108,117]⟩,.int .i64 t,.int .i64 x] w fun e w'=>e=.returned (.tuple #[.int .i64 0,.int .i64 1])∧w'=w:=by
 go_enter Tryz.func51,Tryz.ntmps51;go_wp2;go_ret2;exact ⟨rfl,rfl⟩
theorem jos (t x:Int) (w:World):Calls Tryz.prog 51 #[.string ⟨#[83,113,114,116]⟩,.int .i64 t,.int .i64 x] w fun e w'=>e=.returned (.tuple #[.int .i64 0,.int .i64 1])∧w'=w:=by
 go_enter Tryz.func51,Tryz.ntmps51;go_wp2;go_ret2;exact ⟨rfl,rfl⟩
theorem jot (t x:Int) (w:World):Calls Tryz.prog 51 #[.string ⟨#[70,108,111,111,114]⟩,.int .i64 t,.int .i64 x] w fun e w'=>e=.returned (.tuple #[.int .i64 0,.int .i64 1])∧w'=w:=by
 go_enter Tryz.func51,Tryz.ntmps51;go_wp2;go_ret2;exact ⟨rfl,rfl⟩
theorem jou (t x:Int) (w:World):Calls Tryz.prog 51 #[.string ⟨#[69,120,112]⟩,.int .i64 t,.int .i64 x] w fun e w'=>e=.returned (.tuple #[.int .i64 0,.int .i64 1])∧w'=w:=by
 go_enter Tryz.func51,Tryz.ntmps51;go_wp2;go_ret2;exact ⟨rfl,rfl⟩
theorem jov (t x:Int) (w:World):Calls Tryz.prog 51 #[.string ⟨#[83,105,103,109,111,105,100]⟩,.int .i64 t,.int .i64 x] w fun e w'=>e=.returned (.tuple #[.int .i64 0,.int .i64 1])∧w'=w:=by
 go_enter Tryz.func51,Tryz.ntmps51;go_wp2;go_ret2;exact ⟨rfl,rfl⟩
theorem jow (t x:Int) (w:World):Calls Tryz.prog 51 #[.string ⟨#[84,97,110,104]⟩,.int .i64 t,.int .i64 x] w fun e w'=>e=.returned (.tuple #[.int .i64 0,.int .i64 1])∧w'=w:=by
 go_enter Tryz.func51,Tryz.ntmps51;go_wp2;go_ret2;exact ⟨rfl,rfl⟩
theorem jqQ (x:Int) (w:World) (hx:x=0∨x=1):Calls Tryz.prog 52 #[.string ⟨#[78,111,116]⟩,.int .i64 x] w fun e w'=>e=.returned (.tuple #[.int .i64 (1 - x),.int .i64 0])∧w'=w:=by
 rcases hx with rfl | rfl
 all_goals
  go_enter Tryz.func52,Tryz.ntmps52;go_wp2;go_ret2;exact ⟨rfl,rfl⟩
theorem jqR (x:Int) (w:World):Calls Tryz.prog 52 #[.string ⟨#[78,101,103]⟩,.int .i64 x] w fun e w'=>e=.returned (.tuple #[.int .i64 0,.int .i64 1])∧w'=w:=by
 go_enter Tryz.func52,Tryz.ntmps52;go_wp2;go_ret2;exact ⟨rfl,rfl⟩
theorem jqS (x:Int) (w:World):Calls Tryz.prog 52 #[.string ⟨#[65,98,115]⟩,.int .i64 x] w fun e w'=>e=.returned (.tuple #[.int .i64 0,.int .i64 1])∧w'=w:=by
 go_enter Tryz.func52,Tryz.ntmps52;go_wp2;go_ret2;exact ⟨rfl,rfl⟩
theorem jqT (x:Int) (w:World):Calls Tryz.prog 52 #[.string ⟨#[82,101,108,117]⟩,.int .i64 x] w fun e w'=>e=.returned (.tuple #[.int .i64 0,.int .i64 1])∧w'=w:=by
 go_enter Tryz.func52,Tryz.ntmps52;go_wp2;go_ret2;exact ⟨rfl,rfl⟩
theorem jqU (x:Int) (w:World):Calls Tryz.prog 52 #[.string ⟨#[83,113,114,116]⟩,.int .i64 x] w fun e w'=>e=.returned (.tuple #[.int .i64 0,.int .i64 1])∧w'=w:=by
 go_enter Tryz.func52,Tryz.ntmps52;go_wp2;go_ret2;exact ⟨rfl,rfl⟩
theorem jqV (x:Int) (w:World):Calls Tryz.prog 52 #[.string ⟨#[70,108,111,111,114]⟩,.int .i64 x] w fun e w'=>e=.returned (.tuple #[.int .i64 0,.int .i64 1])∧w'=w:=by
 go_enter Tryz.func52,Tryz.ntmps52;go_wp2;go_ret2;exact ⟨rfl,rfl⟩
theorem jqW (x:Int) (w:World):Calls Tryz.prog 52 #[.string ⟨#[69,120,112]⟩,.int .i64 x] w fun e w'=>e=.returned (.tuple #[.int .i64 0,.int .i64 1])∧w'=w:=by
 go_enter Tryz.func52,Tryz.ntmps52;go_wp2;go_ret2;exact ⟨rfl,rfl⟩
theorem jqX (x:Int) (w:World):Calls Tryz.prog 52 #[.string ⟨#[83,105,103,109,111,105,100]⟩,.int .i64 x] w fun e w'=>e=.returned (.tuple #[.int .i64 0,.int .i64 1])∧w'=w:=by
 go_enter Tryz.func52,Tryz.ntmps52;go_wp2;go_ret2;exact ⟨rfl,rfl⟩
theorem jqY (x:Int) (w:World):Calls Tryz.prog 52 #[.string ⟨#[84,97,110,104]⟩,.int .i64 x] w fun e w'=>e=.returned (.tuple #[.int .i64 0,.int .i64 1])∧w'=w:=by
 go_enter Tryz.func52,Tryz.ntmps52;go_wp2;go_ret2;exact ⟨rfl,rfl⟩
theorem un_no (k:Nat) (t x:Int) (h:chk t x=false):un k t x=(0,1):=by simp [un,h]
theorem un_0 (t x:Int) (h:chk t x=true):un 0 t x=(x,0):=by simp [un,h]
theorem un_1 (k:Nat) (x:Int) (h:chk 1 x=true) (hk:k≠0):un k 1 x=unFl k (fb x):=by simp [un,h,hk]
theorem un_6 (k:Nat) (x:Int) (h:chk 6 x=true) (hk:k≠0):un k 6 x=unIn k 6 x:=by simp [un,h,hk]
theorem un_7 (k:Nat) (x:Int) (h:chk 7 x=true) (hk:k≠0):un k 7 x=unIn k 7 x:=by simp [un,h,hk]
theorem un_9 (k:Nat) (x:Int) (h:chk 9 x=true) (hk:k≠0):un k 9 x=unBo k x:=by simp [un,h,hk]
theorem jox (t x:Int) (w:World) (hx:chk t x=false):Calls Tryz.prog 29 #[.string ⟨#[73,100,101,110,116,105,116,121]⟩,.int .i64 t,.int .i64 x] w fun e w'=>e=.returned (.tuple #[.int .i64 (un 0 t x).1,.int .i64 (un 0 t x).2])∧w'=w:=by
 rw [un_no 0 t x hx];go_enter Tryz.func29,Tryz.ntmps29;go_wp2_with (first | (go_at_call 45;refine (jah _ _ _).mono ?_;rintro e w' ⟨rfl,rfl⟩));go_ret2;exact ⟨rfl,rfl⟩
theorem jmc (t x:Int) (w:World) (hx:chk t x=true):Calls Tryz.prog 29 #[.string ⟨#[73,100,101,110,116,105,116,121]⟩,.int .i64 t,.int .i64 x] w fun e w'=>e=.returned (.tuple #[.int .i64 (un 0 t x).1,.int .i64 (un 0 t x).2])∧w'=w:=by
 rw [un_0 t x hx];go_enter Tryz.func29,Tryz.ntmps29;go_wp2_with (first | (go_at_call 45;refine (jah _ _ _).mono ?_;rintro e w' ⟨rfl,rfl⟩));go_ret2;exact ⟨rfl,rfl⟩
theorem unary0 (t x:Int) (w:World):Calls Tryz.prog 29 #[.string ⟨#[73,100,101,110,116,105,116,121]⟩,.int .i64 t,.int .i64 x] w fun e w'=>e=.returned (.tuple #[.int .i64 (un 0 t x).1,.int .i64 (un 0 t x).2])∧w'=w:=by
 cases hx:chk t x with
 | false=>exact jox t x w hx
 | true=>exact jmc t x w hx
theorem joy (t x:Int) (w:World) (hx:chk t x=false):Calls Tryz.prog 29 #[.string ⟨#[78,101,103]⟩,.int .i64 t,.int .i64 x] w fun e w'=>e=.returned (.tuple #[.int .i64 (un 1 t x).1,.int .i64 (un 1 t x).2])∧w'=w:=by
 rw [un_no 1 t x hx];go_enter Tryz.func29,Tryz.ntmps29;go_wp2_with (first | (go_at_call 45;refine (jah _ _ _).mono ?_;rintro e w' ⟨rfl,rfl⟩));go_ret2;exact ⟨rfl,rfl⟩
theorem unary1_1 (x:Int) (w:World) (hx:chk 1 x=true):Calls Tryz.prog 29 #[.string ⟨#[78,101,103]⟩,.int .i64 1,.int .i64 x] w fun e w'=>e=.returned (.tuple #[.int .i64 (un 1 1 x).1,.int .i64 (un 1 1 x).2])∧w'=w:=by
 rw [un_1 1 x hx (by decide)];go_enter Tryz.func29,Tryz.ntmps29;go_wp2_with (first | (go_at_call 45;refine (jah _ _ _).mono ?_;rintro e w' ⟨rfl,rfl⟩) | (go_at_call 50;refine (jaH _ _).mono ?_;rintro e w' ⟨rfl,rfl⟩) | (go_at_call 49;refine (neg_f _ _ (jcO _)).mono ?_;rintro e w' ⟨rfl,rfl⟩));go_ret2;exact ⟨rfl,rfl⟩
theorem unary1_6 (x:Int) (w:World) (hx:chk 6 x=true):Calls Tryz.prog 29 #[.string ⟨#[78,101,103]⟩,.int .i64 6,.int .i64 x] w fun e w'=>e=.returned (.tuple #[.int .i64 (un 1 6 x).1,.int .i64 (un 1 6 x).2])∧w'=w:=by
 rw [un_6 1 x hx (by decide)];go_enter Tryz.func29,Tryz.ntmps29;go_wp2_with (first | (go_at_call 45;refine (jah _ _ _).mono ?_;rintro e w' ⟨rfl,rfl⟩) | (go_at_call 51;refine (joo _ _ _).mono ?_;rintro e w' ⟨rfl,rfl⟩));go_ret2;exact ⟨rfl,rfl⟩
theorem unary1_7 (x:Int) (w:World) (hx:chk 7 x=true):Calls Tryz.prog 29 #[.string ⟨#[78,101,103]⟩,.int .i64 7,.int .i64 x] w fun e w'=>e=.returned (.tuple #[.int .i64 (un 1 7 x).1,.int .i64 (un 1 7 x).2])∧w'=w:=by
 rw [un_7 1 x hx (by decide)];go_enter Tryz.func29,Tryz.ntmps29;go_wp2_with (first | (go_at_call 45;refine (jah _ _ _).mono ?_;rintro e w' ⟨rfl,rfl⟩) | (go_at_call 51;refine (joo _ _ _).mono ?_;rintro e w' ⟨rfl,rfl⟩));go_ret2;exact ⟨rfl,rfl⟩
theorem unary1_9 (x:Int) (w:World) (hx:chk 9 x=true):Calls Tryz.prog 29 #[.string ⟨#[78,101,103]⟩,.int .i64 9,.int .i64 x] w fun e w'=>e=.returned (.tuple #[.int .i64 (un 1 9 x).1,.int .i64 (un 1 9 x).2])∧w'=w:=by
 rw [un_9 1 x hx (by decide)];go_enter Tryz.func29,Tryz.ntmps29;go_wp2_with (first | (go_at_call 45;refine (jah _ _ _).mono ?_;rintro e w' ⟨rfl,rfl⟩) | (go_at_call 52;refine (jqR _ _).mono ?_;rintro e w' ⟨rfl,rfl⟩));go_ret2;exact ⟨rfl,rfl⟩
theorem unary1 (t x:Int) (w:World):Calls Tryz.prog 29 #[.string ⟨#[78,101,103]⟩,.int .i64 t,.int .i64 x] w fun e w'=>e=.returned (.tuple #[.int .i64 (un 1 t x).1,.int .i64 (un 1 t x).2])∧w'=w:=by
 cases hx:chk t x with
 | false=>exact joy t x w hx
 | true =>
  rcases ja4 t x hx with rfl | rfl | rfl | rfl
  ·exact unary1_1 x w hx
  ·exact unary1_6 x w hx
  ·exact unary1_7 x w hx
  ·exact unary1_9 x w hx
theorem joz (t x:Int) (w:World) (hx:chk t x=false):Calls Tryz.prog 29 #[.string ⟨#[65,98,115]⟩,.int .i64 t,.int .i64 x] w fun e w'=>e=.returned (.tuple #[.int .i64 (un 2 t x).1,.int .i64 (un 2 t x).2])∧w'=w:=by
 rw [un_no 2 t x hx];go_enter Tryz.func29,Tryz.ntmps29;go_wp2_with (first | (go_at_call 45;refine (jah _ _ _).mono ?_;rintro e w' ⟨rfl,rfl⟩));go_ret2;exact ⟨rfl,rfl⟩
theorem unary2_1 (x:Int) (w:World) (hx:chk 1 x=true):Calls Tryz.prog 29 #[.string ⟨#[65,98,115]⟩,.int .i64 1,.int .i64 x] w fun e w'=>e=.returned (.tuple #[.int .i64 (un 2 1 x).1,.int .i64 (un 2 1 x).2])∧w'=w:=by
 rw [un_1 2 x hx (by decide)];go_enter Tryz.func29,Tryz.ntmps29;go_wp2_with (first | (go_at_call 45;refine (jah _ _ _).mono ?_;rintro e w' ⟨rfl,rfl⟩) | (go_at_call 50;refine (jaH _ _).mono ?_;rintro e w' ⟨rfl,rfl⟩) | (go_at_call 49;refine (abs_f _ _ (jcO _)).mono ?_;rintro e w' ⟨rfl,rfl⟩));go_ret2;exact ⟨rfl,rfl⟩
theorem unary2_6 (x:Int) (w:World) (hx:chk 6 x=true):Calls Tryz.prog 29 #[.string ⟨#[65,98,115]⟩,.int .i64 6,.int .i64 x] w fun e w'=>e=.returned (.tuple #[.int .i64 (un 2 6 x).1,.int .i64 (un 2 6 x).2])∧w'=w:=by
 rw [un_6 2 x hx (by decide)];go_enter Tryz.func29,Tryz.ntmps29;go_wp2_with (first | (go_at_call 45;refine (jah _ _ _).mono ?_;rintro e w' ⟨rfl,rfl⟩) | (go_at_call 51;refine (jop _ _ _).mono ?_;rintro e w' ⟨rfl,rfl⟩));go_ret2;exact ⟨rfl,rfl⟩
theorem unary2_7 (x:Int) (w:World) (hx:chk 7 x=true):Calls Tryz.prog 29 #[.string ⟨#[65,98,115]⟩,.int .i64 7,.int .i64 x] w fun e w'=>e=.returned (.tuple #[.int .i64 (un 2 7 x).1,.int .i64 (un 2 7 x).2])∧w'=w:=by
 rw [un_7 2 x hx (by decide)];go_enter Tryz.func29,Tryz.ntmps29;go_wp2_with (first | (go_at_call 45;refine (jah _ _ _).mono ?_;rintro e w' ⟨rfl,rfl⟩) | (go_at_call 51;refine (jop _ _ _).mono ?_;rintro e w' ⟨rfl,rfl⟩));go_ret2;exact ⟨rfl,rfl⟩
theorem unary2_9 (x:Int) (w:World) (hx:chk 9 x=true):Calls Tryz.prog 29 #[.string ⟨#[65,98,115]⟩,.int .i64 9,.int .i64 x] w fun e w'=>e=.returned (.tuple #[.int .i64 (un 2 9 x).1,.int .i64 (un 2 9 x).2])∧w'=w:=by
 rw [un_9 2 x hx (by decide)];go_enter Tryz.func29,Tryz.ntmps29;go_wp2_with (first | (go_at_call 45;refine (jah _ _ _).mono ?_;rintro e w' ⟨rfl,rfl⟩) | (go_at_call 52;refine (jqS _ _).mono ?_;rintro e w' ⟨rfl,rfl⟩));go_ret2;exact ⟨rfl,rfl⟩
theorem unary2 (t x:Int) (w:World):Calls Tryz.prog 29 #[.string ⟨#[65,98,115]⟩,.int .i64 t,.int .i64 x] w fun e w'=>e=.returned (.tuple #[.int .i64 (un 2 t x).1,.int .i64 (un 2 t x).2])∧w'=w:=by
 cases hx:chk t x with
 | false=>exact joz t x w hx
 | true =>
  rcases ja4 t x hx with rfl | rfl | rfl | rfl
  ·exact unary2_1 x w hx
  ·exact unary2_6 x w hx
  ·exact unary2_7 x w hx
  ·exact unary2_9 x w hx
theorem joA (t x:Int) (w:World) (hx:chk t x=false):Calls Tryz.prog 29 #[.string ⟨#[78,111,116]⟩,.int .i64 t,.int .i64 x] w fun e w'=>e=.returned (.tuple #[.int .i64 (un 3 t x).1,.int .i64 (un 3 t x).2])∧w'=w:=by
 rw [un_no 3 t x hx];go_enter Tryz.func29,Tryz.ntmps29;go_wp2_with (first | (go_at_call 45;refine (jah _ _ _).mono ?_;rintro e w' ⟨rfl,rfl⟩));go_ret2;exact ⟨rfl,rfl⟩
theorem unary3_1 (x:Int) (w:World) (hx:chk 1 x=true):Calls Tryz.prog 29 #[.string ⟨#[78,111,116]⟩,.int .i64 1,.int .i64 x] w fun e w'=>e=.returned (.tuple #[.int .i64 (un 3 1 x).1,.int .i64 (un 3 1 x).2])∧w'=w:=by
 rw [un_1 3 x hx (by decide)];go_enter Tryz.func29,Tryz.ntmps29;go_wp2_with (first | (go_at_call 45;refine (jah _ _ _).mono ?_;rintro e w' ⟨rfl,rfl⟩) | (go_at_call 50;refine (jaH _ _).mono ?_;rintro e w' ⟨rfl,rfl⟩) | (go_at_call 49;refine (not_f _ _).mono ?_;rintro e w' ⟨rfl,rfl⟩));go_ret2;exact ⟨rfl,rfl⟩
theorem unary3_6 (x:Int) (w:World) (hx:chk 6 x=true):Calls Tryz.prog 29 #[.string ⟨#[78,111,116]⟩,.int .i64 6,.int .i64 x] w fun e w'=>e=.returned (.tuple #[.int .i64 (un 3 6 x).1,.int .i64 (un 3 6 x).2])∧w'=w:=by
 rw [un_6 3 x hx (by decide)];go_enter Tryz.func29,Tryz.ntmps29;go_wp2_with (first | (go_at_call 45;refine (jah _ _ _).mono ?_;rintro e w' ⟨rfl,rfl⟩) | (go_at_call 51;refine (joq _ _ _).mono ?_;rintro e w' ⟨rfl,rfl⟩));go_ret2;exact ⟨rfl,rfl⟩
theorem unary3_7 (x:Int) (w:World) (hx:chk 7 x=true):Calls Tryz.prog 29 #[.string ⟨#[78,111,116]⟩,.int .i64 7,.int .i64 x] w fun e w'=>e=.returned (.tuple #[.int .i64 (un 3 7 x).1,.int .i64 (un 3 7 x).2])∧w'=w:=by
 rw [un_7 3 x hx (by decide)];go_enter Tryz.func29,Tryz.ntmps29;go_wp2_with (first | (go_at_call 45;refine (jah _ _ _).mono ?_;rintro e w' ⟨rfl,rfl⟩) | (go_at_call 51;refine (joq _ _ _).mono ?_;rintro e w' ⟨rfl,rfl⟩));go_ret2;exact ⟨rfl,rfl⟩
theorem unary3_9 (x:Int) (w:World) (hx:chk 9 x=true):Calls Tryz.prog 29 #[.string ⟨#[78,111,116]⟩,.int .i64 9,.int .i64 x] w fun e w'=>e=.returned (.tuple #[.int .i64 (un 3 9 x).1,.int .i64 (un 3 9 x).2])∧w'=w:=by
 rw [un_9 3 x hx (by decide)];go_enter Tryz.func29,Tryz.ntmps29;go_wp2_with (first | (go_at_call 45;refine (jah _ _ _).mono ?_;rintro e w' ⟨rfl,rfl⟩) | (go_at_call 52;refine (jqQ _ _ (jsi _ hx)).mono ?_;rintro e w' ⟨rfl,rfl⟩));go_ret2;exact ⟨rfl,rfl⟩
theorem unary3 (t x:Int) (w:World):Calls Tryz.prog 29 #[.string ⟨#[78,111,116]⟩,.int .i64 t,.int .i64 x] w fun e w'=>e=.returned (.tuple #[.int .i64 (un 3 t x).1,.int .i64 (un 3 t x).2])∧w'=w:=by
 cases hx:chk t x with
 | false=>exact joA t x w hx
 | true =>
  rcases ja4 t x hx with rfl | rfl | rfl | rfl
  ·exact unary3_1 x w hx
  ·exact unary3_6 x w hx
  ·exact unary3_7 x w hx
  ·exact unary3_9 x w hx
theorem joB (t x:Int) (w:World) (hx:chk t x=false):Calls Tryz.prog 29 #[.string ⟨#[82,101,108,117]⟩,.int .i64 t,.int .i64 x] w fun e w'=>e=.returned (.tuple #[.int .i64 (un 4 t x).1,.int .i64 (un 4 t x).2])∧w'=w:=by
 rw [un_no 4 t x hx];go_enter Tryz.func29,Tryz.ntmps29;go_wp2_with (first | (go_at_call 45;refine (jah _ _ _).mono ?_;rintro e w' ⟨rfl,rfl⟩));go_ret2;exact ⟨rfl,rfl⟩
theorem unary4_1 (x:Int) (w:World) (hx:chk 1 x=true):Calls Tryz.prog 29 #[.string ⟨#[82,101,108,117]⟩,.int .i64 1,.int .i64 x] w fun e w'=>e=.returned (.tuple #[.int .i64 (un 4 1 x).1,.int .i64 (un 4 1 x).2])∧w'=w:=by
 rw [un_1 4 x hx (by decide)];go_enter Tryz.func29,Tryz.ntmps29;go_wp2_with (first | (go_at_call 45;refine (jah _ _ _).mono ?_;rintro e w' ⟨rfl,rfl⟩) | (go_at_call 50;refine (jaH _ _).mono ?_;rintro e w' ⟨rfl,rfl⟩) | (go_at_call 49;refine (juG _ _ (jcO _)).mono ?_;rintro e w' ⟨rfl,rfl⟩));go_ret2;exact ⟨rfl,rfl⟩
theorem unary4_6 (x:Int) (w:World) (hx:chk 6 x=true):Calls Tryz.prog 29 #[.string ⟨#[82,101,108,117]⟩,.int .i64 6,.int .i64 x] w fun e w'=>e=.returned (.tuple #[.int .i64 (un 4 6 x).1,.int .i64 (un 4 6 x).2])∧w'=w:=by
 rw [un_6 4 x hx (by decide)];go_enter Tryz.func29,Tryz.ntmps29;go_wp2_with (first | (go_at_call 45;refine (jah _ _ _).mono ?_;rintro e w' ⟨rfl,rfl⟩) | (go_at_call 51;refine (jor _ _ _).mono ?_;rintro e w' ⟨rfl,rfl⟩));go_ret2;exact ⟨rfl,rfl⟩
theorem unary4_7 (x:Int) (w:World) (hx:chk 7 x=true):Calls Tryz.prog 29 #[.string ⟨#[82,101,108,117]⟩,.int .i64 7,.int .i64 x] w fun e w'=>e=.returned (.tuple #[.int .i64 (un 4 7 x).1,.int .i64 (un 4 7 x).2])∧w'=w:=by
 rw [un_7 4 x hx (by decide)];go_enter Tryz.func29,Tryz.ntmps29;go_wp2_with (first | (go_at_call 45;refine (jah _ _ _).mono ?_;rintro e w' ⟨rfl,rfl⟩) | (go_at_call 51;refine (jor _ _ _).mono ?_;rintro e w' ⟨rfl,rfl⟩));go_ret2;exact ⟨rfl,rfl⟩
theorem unary4_9 (x:Int) (w:World) (hx:chk 9 x=true):Calls Tryz.prog 29 #[.string ⟨#[82,101,108,117]⟩,.int .i64 9,.int .i64 x] w fun e w'=>e=.returned (.tuple #[.int .i64 (un 4 9 x).1,.int .i64 (un 4 9 x).2])∧w'=w:=by
 rw [un_9 4 x hx (by decide)];go_enter Tryz.func29,Tryz.ntmps29;go_wp2_with (first | (go_at_call 45;refine (jah _ _ _).mono ?_;rintro e w' ⟨rfl,rfl⟩) | (go_at_call 52;refine (jqT _ _).mono ?_;rintro e w' ⟨rfl,rfl⟩));go_ret2;exact ⟨rfl,rfl⟩
theorem unary4 (t x:Int) (w:World):Calls Tryz.prog 29 #[.string ⟨#[82,101,108,117]⟩,.int .i64 t,.int .i64 x] w fun e w'=>e=.returned (.tuple #[.int .i64 (un 4 t x).1,.int .i64 (un 4 t x).2])∧w'=w:=by
 cases hx:chk t x with
 | false=>exact joB t x w hx
 | true =>
  rcases ja4 t x hx with rfl | rfl | rfl | rfl
  ·exact unary4_1 x w hx
  ·exact unary4_6 x w hx
  ·exact unary4_7 x w hx
  ·exact unary4_9 x w hx
theorem unary5_no (t x:Int) (w:World) (hx:chk t x=false):Calls Tryz.prog 29 #[.string ⟨#[83,113,114,116]⟩,.int .i64 t,.int .i64 x] w fun e w'=>e=.returned (.tuple #[.int .i64 (un 5 t x).1,.int .i64 (un 5 t x).2])∧w'=w:=by
 rw [un_no 5 t x hx];go_enter Tryz.func29,Tryz.ntmps29;go_wp2_with (first | (go_at_call 45;refine (jah _ _ _).mono ?_;rintro e w' ⟨rfl,rfl⟩));go_ret2;exact ⟨rfl,rfl⟩
theorem unary5_6 (x:Int) (w:World) (hx:chk 6 x=true):Calls Tryz.prog 29 #[.string ⟨#[83,113,114,116]⟩,.int .i64 6,.int .i64 x] w fun e w'=>e=.returned (.tuple #[.int .i64 (un 5 6 x).1,.int .i64 (un 5 6 x).2])∧w'=w:=by
 rw [un_6 5 x hx (by decide)];go_enter Tryz.func29,Tryz.ntmps29;go_wp2_with (first | (go_at_call 45;refine (jah _ _ _).mono ?_;rintro e w' ⟨rfl,rfl⟩) | (go_at_call 51;refine (jos _ _ _).mono ?_;rintro e w' ⟨rfl,rfl⟩));go_ret2;exact ⟨rfl,rfl⟩
theorem unary5_7 (x:Int) (w:World) (hx:chk 7 x=true):Calls Tryz.prog 29 #[.string ⟨#[83,113,114,116]⟩,.int .i64 7,.int .i64 x] w fun e w'=>e=.returned (.tuple #[.int .i64 (un 5 7 x).1,.int .i64 (un 5 7 x).2])∧w'=w:=by
 rw [un_7 5 x hx (by decide)];go_enter Tryz.func29,Tryz.ntmps29;go_wp2_with (first | (go_at_call 45;refine (jah _ _ _).mono ?_;rintro e w' ⟨rfl,rfl⟩) | (go_at_call 51;refine (jos _ _ _).mono ?_;rintro e w' ⟨rfl,rfl⟩));go_ret2;exact ⟨rfl,rfl⟩
theorem unary5_9 (x:Int) (w:World) (hx:chk 9 x=true):Calls Tryz.prog 29 #[.string ⟨#[83,113,114,116]⟩,.int .i64 9,.int .i64 x] w fun e w'=>e=.returned (.tuple #[.int .i64 (un 5 9 x).1,.int .i64 (un 5 9 x).2])∧w'=w:=by
 rw [un_9 5 x hx (by decide)];go_enter Tryz.func29,Tryz.ntmps29;go_wp2_with (first | (go_at_call 45;refine (jah _ _ _).mono ?_;rintro e w' ⟨rfl,rfl⟩) | (go_at_call 52;refine (jqU _ _).mono ?_;rintro e w' ⟨rfl,rfl⟩));go_ret2;exact ⟨rfl,rfl⟩
theorem unary6_no (t x:Int) (w:World) (hx:chk t x=false):Calls Tryz.prog 29 #[.string ⟨#[70,108,111,111,114]⟩,.int .i64 t,.int .i64 x] w fun e w'=>e=.returned (.tuple #[.int .i64 (un 6 t x).1,.int .i64 (un 6 t x).2])∧w'=w:=by
 rw [un_no 6 t x hx];go_enter Tryz.func29,Tryz.ntmps29;go_wp2_with (first | (go_at_call 45;refine (jah _ _ _).mono ?_;rintro e w' ⟨rfl,rfl⟩));go_ret2;exact ⟨rfl,rfl⟩
theorem unary6_6 (x:Int) (w:World) (hx:chk 6 x=true):Calls Tryz.prog 29 #[.string ⟨#[70,108,111,111,114]⟩,.int .i64 6,.int .i64 x] w fun e w'=>e=.returned (.tuple #[.int .i64 (un 6 6 x).1,.int .i64 (un 6 6 x).2])∧w'=w:=by
 rw [un_6 6 x hx (by decide)];go_enter Tryz.func29,Tryz.ntmps29;go_wp2_with (first | (go_at_call 45;refine (jah _ _ _).mono ?_;rintro e w' ⟨rfl,rfl⟩) | (go_at_call 51;refine (jot _ _ _).mono ?_;rintro e w' ⟨rfl,rfl⟩));go_ret2;exact ⟨rfl,rfl⟩
theorem unary6_7 (x:Int) (w:World) (hx:chk 7 x=true):Calls Tryz.prog 29 #[.string ⟨#[70,108,111,111,114]⟩,.int .i64 7,.int .i64 x] w fun e w'=>e=.returned (.tuple #[.int .i64 (un 6 7 x).1,.int .i64 (un 6 7 x).2])∧w'=w:=by
 rw [un_7 6 x hx (by decide)];go_enter Tryz.func29,Tryz.ntmps29;go_wp2_with (first | (go_at_call 45;refine (jah _ _ _).mono ?_;rintro e w' ⟨rfl,rfl⟩) | (go_at_call 51;refine (jot _ _ _).mono ?_;rintro e w' ⟨rfl,rfl⟩));go_ret2;exact ⟨rfl,rfl⟩
theorem unary6_9 (x:Int) (w:World) (hx:chk 9 x=true):Calls Tryz.prog 29 #[.string ⟨#[70,108,111,111,114]⟩,.int .i64 9,.int .i64 x] w fun e w'=>e=.returned (.tuple #[.int .i64 (un 6 9 x).1,.int .i64 (un 6 9 x).2])∧w'=w:=by
 rw [un_9 6 x hx (by decide)];go_enter Tryz.func29,Tryz.ntmps29;go_wp2_with (first | (go_at_call 45;refine (jah _ _ _).mono ?_;rintro e w' ⟨rfl,rfl⟩) | (go_at_call 52;refine (jqV _ _).mono ?_;rintro e w' ⟨rfl,rfl⟩));go_ret2;exact ⟨rfl,rfl⟩
theorem unary7_no (t x:Int) (w:World) (hx:chk t x=false):Calls Tryz.prog 29 #[.string ⟨#[69,120,112]⟩,.int .i64 t,.int .i64 x] w fun e w'=>e=.returned (.tuple #[.int .i64 (un 7 t x).1,.int .i64 (un 7 t x).2])∧w'=w:=by
 rw [un_no 7 t x hx];go_enter Tryz.func29,Tryz.ntmps29;go_wp2_with (first | (go_at_call 45;refine (jah _ _ _).mono ?_;rintro e w' ⟨rfl,rfl⟩));go_ret2;exact ⟨rfl,rfl⟩
theorem unary7_6 (x:Int) (w:World) (hx:chk 6 x=true):Calls Tryz.prog 29 #[.string ⟨#[69,120,112]⟩,.int .i64 6,.int .i64 x] w fun e w'=>e=.returned (.tuple #[.int .i64 (un 7 6 x).1,.int .i64 (un 7 6 x).2])∧w'=w:=by
 rw [un_6 7 x hx (by decide)];go_enter Tryz.func29,Tryz.ntmps29;go_wp2_with (first | (go_at_call 45;refine (jah _ _ _).mono ?_;rintro e w' ⟨rfl,rfl⟩) | (go_at_call 51;refine (jou _ _ _).mono ?_;rintro e w' ⟨rfl,rfl⟩));go_ret2;exact ⟨rfl,rfl⟩
theorem unary7_7 (x:Int) (w:World) (hx:chk 7 x=true):Calls Tryz.prog 29 #[.string ⟨#[69,120,112]⟩,.int .i64 7,.int .i64 x] w fun e w'=>e=.returned (.tuple #[.int .i64 (un 7 7 x).1,.int .i64 (un 7 7 x).2])∧w'=w:=by
 rw [un_7 7 x hx (by decide)];go_enter Tryz.func29,Tryz.ntmps29;go_wp2_with (first | (go_at_call 45;refine (jah _ _ _).mono ?_;rintro e w' ⟨rfl,rfl⟩) | (go_at_call 51;refine (jou _ _ _).mono ?_;rintro e w' ⟨rfl,rfl⟩));go_ret2;exact ⟨rfl,rfl⟩
theorem unary7_9 (x:Int) (w:World) (hx:chk 9 x=true):Calls Tryz.prog 29 #[.string ⟨#[69,120,112]⟩,.int .i64 9,.int .i64 x] w fun e w'=>e=.returned (.tuple #[.int .i64 (un 7 9 x).1,.int .i64 (un 7 9 x).2])∧w'=w:=by
 rw [un_9 7 x hx (by decide)];go_enter Tryz.func29,Tryz.ntmps29;go_wp2_with (first | (go_at_call 45;refine (jah _ _ _).mono ?_;rintro e w' ⟨rfl,rfl⟩) | (go_at_call 52;refine (jqW _ _).mono ?_;rintro e w' ⟨rfl,rfl⟩));go_ret2;exact ⟨rfl,rfl⟩
theorem unary8_no (t x:Int) (w:World) (hx:chk t x=false):Calls Tryz.prog 29 #[.string ⟨#[83,105,103,109,111,105,100]⟩,.int .i64 t,.int .i64 x] w fun e w'=>e=.returned (.tuple #[.int .i64 (un 8 t x).1,.int .i64 (un 8 t x).2])∧w'=w:=by
 rw [un_no 8 t x hx];go_enter Tryz.func29,Tryz.ntmps29;go_wp2_with (first | (go_at_call 45;refine (jah _ _ _).mono ?_;rintro e w' ⟨rfl,rfl⟩));go_ret2;exact ⟨rfl,rfl⟩
theorem unary8_6 (x:Int) (w:World) (hx:chk 6 x=true):Calls Tryz.prog 29 #[.string ⟨#[83,105,103,109,111,105,100]⟩,.int .i64 6,.int .i64 x] w fun e w'=>e=.returned (.tuple #[.int .i64 (un 8 6 x).1,.int .i64 (un 8 6 x).2])∧w'=w:=by
 rw [un_6 8 x hx (by decide)];go_enter Tryz.func29,Tryz.ntmps29;go_wp2_with (first | (go_at_call 45;refine (jah _ _ _).mono ?_;rintro e w' ⟨rfl,rfl⟩) | (go_at_call 51;refine (jov _ _ _).mono ?_;rintro e w' ⟨rfl,rfl⟩));go_ret2;exact ⟨rfl,rfl⟩
theorem unary8_7 (x:Int) (w:World) (hx:chk 7 x=true):Calls Tryz.prog 29 #[.string ⟨#[83,105,103,109,111,105,100]⟩,.int .i64 7,.int .i64 x] w fun e w'=>e=.returned (.tuple #[.int .i64 (un 8 7 x).1,.int .i64 (un 8 7 x).2])∧w'=w:=by
 rw [un_7 8 x hx (by decide)];go_enter Tryz.func29,Tryz.ntmps29;go_wp2_with (first | (go_at_call 45;refine (jah _ _ _).mono ?_;rintro e w' ⟨rfl,rfl⟩) | (go_at_call 51;refine (jov _ _ _).mono ?_;rintro e w' ⟨rfl,rfl⟩));go_ret2;exact ⟨rfl,rfl⟩
theorem unary8_9 (x:Int) (w:World) (hx:chk 9 x=true):Calls Tryz.prog 29 #[.string ⟨#[83,105,103,109,111,105,100]⟩,.int .i64 9,.int .i64 x] w fun e w'=>e=.returned (.tuple #[.int .i64 (un 8 9 x).1,.int .i64 (un 8 9 x).2])∧w'=w:=by
 rw [un_9 8 x hx (by decide)];go_enter Tryz.func29,Tryz.ntmps29;go_wp2_with (first | (go_at_call 45;refine (jah _ _ _).mono ?_;rintro e w' ⟨rfl,rfl⟩) | (go_at_call 52;refine (jqX _ _).mono ?_;rintro e w' ⟨rfl,rfl⟩));go_ret2;exact ⟨rfl,rfl⟩
theorem unary9_no (t x:Int) (w:World) (hx:chk t x=false):Calls Tryz.prog 29 #[.string ⟨#[84,97,110,104]⟩,.int .i64 t,.int .i64 x] w fun e w'=>e=.returned (.tuple #[.int .i64 (un 9 t x).1,.int .i64 (un 9 t x).2])∧w'=w:=by
 rw [un_no 9 t x hx];go_enter Tryz.func29,Tryz.ntmps29;go_wp2_with (first | (go_at_call 45;refine (jah _ _ _).mono ?_;rintro e w' ⟨rfl,rfl⟩));go_ret2;exact ⟨rfl,rfl⟩
theorem unary9_6 (x:Int) (w:World) (hx:chk 6 x=true):Calls Tryz.prog 29 #[.string ⟨#[84,97,110,104]⟩,.int .i64 6,.int .i64 x] w fun e w'=>e=.returned (.tuple #[.int .i64 (un 9 6 x).1,.int .i64 (un 9 6 x).2])∧w'=w:=by
 rw [un_6 9 x hx (by decide)];go_enter Tryz.func29,Tryz.ntmps29;go_wp2_with (first | (go_at_call 45;refine (jah _ _ _).mono ?_;rintro e w' ⟨rfl,rfl⟩) | (go_at_call 51;refine (jow _ _ _).mono ?_;rintro e w' ⟨rfl,rfl⟩));go_ret2;exact ⟨rfl,rfl⟩
theorem unary9_7 (x:Int) (w:World) (hx:chk 7 x=true):Calls Tryz.prog 29 #[.string ⟨#[84,97,110,104]⟩,.int .i64 7,.int .i64 x] w fun e w'=>e=.returned (.tuple #[.int .i64 (un 9 7 x).1,.int .i64 (un 9 7 x).2])∧w'=w:=by
 rw [un_7 9 x hx (by decide)];go_enter Tryz.func29,Tryz.ntmps29;go_wp2_with (first | (go_at_call 45;refine (jah _ _ _).mono ?_;rintro e w' ⟨rfl,rfl⟩) | (go_at_call 51;refine (jow _ _ _).mono ?_;rintro e w' ⟨rfl,rfl⟩));go_ret2;exact ⟨rfl,rfl⟩
theorem unary9_9 (x:Int) (w:World) (hx:chk 9 x=true):Calls Tryz.prog 29 #[.string ⟨#[84,97,110,104]⟩,.int .i64 9,.int .i64 x] w fun e w'=>e=.returned (.tuple #[.int .i64 (un 9 9 x).1,.int .i64 (un 9 9 x).2])∧w'=w:=by
 rw [un_9 9 x hx (by decide)];go_enter Tryz.func29,Tryz.ntmps29;go_wp2_with (first | (go_at_call 45;refine (jah _ _ _).mono ?_;rintro e w' ⟨rfl,rfl⟩) | (go_at_call 52;refine (jqY _ _).mono ?_;rintro e w' ⟨rfl,rfl⟩));go_ret2;exact ⟨rfl,rfl⟩
end Go.Proofs.YteigfipgmghgmaaGreatDoor.Nu
namespace Go.Proofs.YteigfipgmghgmaaGreatDoor.Nu
open Go.RowKit
theorem joC (x : Nat) : Extern.MathSqrt.sqrt #[.float .f64 x] = (match FloatKind.f64.format.sqrt x with
    | some r=>pure (.float .f64 r)
    | none=>do pure (.float .f64 (← choose (.nanBits .f64 x x)))):=rfl
theorem jet (x:Nat) (w:World):∃ r n,(callFunc 131 #[.float .f64 x]).run Tryz.prog w=.ok (.value (.float .f64 r)) (w.drewN n):=by
 have e:(callFunc 131 #[.float .f64 x]).run Tryz.prog w=((Extern.MathSqrt.sqrt #[.float .f64 x]).run Tryz.prog w).andThen fun v w'=>.ok (.value v) w' :=
  run_callFunc_extern (fn:=Tryz.f131) (by kernel_rfl) (by kernel_rfl) (by kernel_rfl) (by kernel_rfl) (by kernel_rfl) _ _
 rw [e,joC]
 cases h:FloatKind.f64.format.sqrt x with
 | some r=>exact ⟨r,0,by simp;rfl⟩
 | none=>exact ⟨_,1,by simp [Question.forced];exact ⟨rfl,rfl⟩⟩
theorem jdF (x:Nat) (w:World):∃ r n,(callFunc 132 #[.float .f64 x]).run Tryz.prog w=.ok (.value (.float .f64 r)) (w.drewN n):=by
 have e : (callFunc 132 #[.float .f64 x]).run Tryz.prog w = ((Extern.MathFloor.toIntegral "math.archFloor" .down #[.float .f64 x]).run Tryz.prog w).andThen fun v w' => .ok (.value v) w' :=
  run_callFunc_extern (fn:=Tryz.f132) (by kernel_rfl) (by kernel_rfl) (by kernel_rfl) (by kernel_rfl) (by kernel_rfl) _ _
 rw [e]
 have e2 : ∃ q : Question, q.forced = false ∧ Extern.MathFloor.toIntegral "math.archFloor" .down #[.float .f64 x] = (match FloatKind.f64.decode x with
  | .nan s t =>
   if FloatKind.f64.format.quiet t=t then pure (.float .f64 x) else do
   let kept ← choose q
   pure (.float .f64 (if kept==1 then x else FloatKind.f64.encode (.nan s (FloatKind.f64.format.quiet t))))
  | d=>pure (.float .f64 (FloatKind.f64.encode (d.integral .down)))):=⟨_,by decide,rfl⟩
 obtain ⟨q,hq,e2⟩:=e2;rw [e2]
 cases h:FloatKind.f64.decode x with
 | number s m i=>exact ⟨_,0,by simp;exact ⟨rfl,rfl⟩⟩
 | infinity s=>exact ⟨_,0,by simp;exact ⟨rfl,rfl⟩⟩
 | nan s t =>
  by_cases ht:FloatKind.f64.format.quiet t=t
  ·exact ⟨_,0,by simp [ht];exact ⟨rfl,rfl⟩⟩
  ·exact ⟨_,1,by simp [ht,hq];exact ⟨rfl,rfl⟩⟩
theorem jqZ:∃ (r:Nat→World→Nat) (n:Nat→World→Nat),∀ x w,(callFunc 131 #[.float .f64 x]).run Tryz.prog w=.ok (.value (.float .f64 (r x w))) (w.drewN (n x w)) :=
 ⟨fun x w=>Classical.choose (jet x w),fun x w=>Classical.choose (Classical.choose_spec (jet x w)),fun x w=>Classical.choose_spec (Classical.choose_spec (jet x w))⟩
theorem joD:∃ (r:Nat→World→Nat) (n:Nat→World→Nat),∀ x w,(callFunc 132 #[.float .f64 x]).run Tryz.prog w=.ok (.value (.float .f64 (r x w))) (w.drewN (n x w)) :=
 ⟨fun x w=>Classical.choose (jdF x w),fun x w=>Classical.choose (Classical.choose_spec (jdF x w)),fun x w=>Classical.choose_spec (Classical.choose_spec (jdF x w))⟩
theorem jeu (b:Nat) (w:World):(convert 64 119 (.float .f32 b)).run Tryz.prog w=.ok (.float .f64 (cval .f32 .f64 b w)) (w.drewN (cdr .f32 .f64 b)):=jla w _ _ _ _ _ (by kernel_rfl) (by kernel_rfl)
theorem jcJ (b:Nat) (w:World):(convert 119 64 (.float .f64 b)).run Tryz.prog w=.ok (.float .f32 (cval .f64 .f32 b w)) (w.drewN (cdr .f64 .f32 b)):=jla w _ _ _ _ _ (by kernel_rfl) (by kernel_rfl)
theorem jeK (b:Nat) (w:World):(convert 119 3 (.float .f64 b)).run Tryz.prog w=.ok (.int .i64 (ival .f64 .i64 b w)) (w.drewN (idr .f64 .i64 b)):=jqC w _ _ _ _ _ (by kernel_rfl) (by kernel_rfl)
theorem jbg (b:Nat) (w:World):(callFunc 173 #[.float .f64 b]).run Tryz.prog w=.ok (.value (.int .u64 b)) w:=by kernel_rfl
theorem jbh (n:Int) (w:World):(callFunc 175 #[.int .u64 n]).run Tryz.prog w=.ok (.value (.float .f64 n.toNat)) w:=by kernel_rfl
attribute [local go_sem] jeu jcJ jeK jbg jbh jbq jbB jdY jdZ jd0 jd1 jcf
theorem joE (x:Nat) (w:World):Calls Tryz.prog 82 #[.float .f64 x] w fun e w'=>∃ r n,e=.returned (.float .f64 r)∧w'=w.drewN n:=by
 obtain ⟨r,n,h⟩:=joD;go_enter Tryz.func82,Tryz.ntmps82;go_wp2;go_ret;exact ⟨_,_,rfl,rfl⟩
theorem juH (x:Nat) (w:World):Calls Tryz.prog 81 #[.float .f64 x] w fun e w'=>∃ r n,e=.returned (.float .f64 r)∧w'=w.drewN n:=by
 obtain ⟨r,n,h⟩:=jqZ;go_enter Tryz.func81,Tryz.ntmps81;go_wp2;go_ret;exact ⟨_,_,rfl,rfl⟩
theorem jka (x:Nat) (w:World):Calls Tryz.prog 172 #[.float .f64 x] w fun e w'=>∃ r m n,e=.returned (.tuple #[.float .f64 r,.int .i64 m])∧w'=w.drewN n:=by
 go_enter Tryz.func172,Tryz.ntmps172;go_wp2
 all_goals
  go_ret2
  first | exact ⟨_,_,0,rfl,rfl⟩ | exact ⟨_,_,_,rfl,rfl⟩
theorem jmd (x y:Nat) (w:World):Calls Tryz.prog 171 #[.float .f64 x,.float .f64 y] w fun e w'=>∃ r n,e=.returned (.float .f64 r)∧w'=w.drewN n:=by
 go_enter Tryz.func171,Tryz.ntmps171;go_wp2
 all_goals
  go_ret;exact ⟨_,0,rfl,rfl⟩
end Go.Proofs.YteigfipgmghgmaaGreatDoor.Nu
namespace Go.Proofs.YteigfipgmghgmaaGreatDoor.Nu
open Go.RowKit
attribute [local go_sem] jeu jcJ jeK jbg jbh jbq jbB jdY jdZ jd0 jd1 jcf
theorem jtf (x:Nat) (m:Int) (w:World):Calls Tryz.prog 163 #[.float .f64 x,.int .i64 m] w fun e w'=>∃ r n,e=.returned (.float .f64 r)∧w'=w.drewN n:=by
 go_enter Tryz.func163,Tryz.ntmps163;go_wp2_with (first | (go_at_call 172;refine (jka _ _).mono ?_;rintro e w' ⟨r,m,n,rfl,rfl⟩) | (go_at_call 171;refine (jmd _ _ _).mono ?_;rintro e w' ⟨r,n,rfl,rfl⟩) | go_in)
 all_goals
  go_ret
  first | exact ⟨_,0,rfl,rfl⟩ | exact ⟨_,_,rfl,rfl⟩
theorem jtg (x:Nat) (m:Int) (w:World):Calls Tryz.prog 134 #[.float .f64 x,.int .i64 m] w fun e w'=>∃ r n,e=.returned (.float .f64 r)∧w'=w.drewN n:=by
 go_enter Tryz.func134,Tryz.ntmps134;go_wp2_with (first | (go_at_call 163;refine (jtf _ _ _).mono ?_;rintro e w' ⟨r,n,rfl,rfl⟩) | go_in);go_ret;exact ⟨_,_,rfl,rfl⟩
theorem jth (x:Nat) (w:World) (hx:x<4294967296):Calls Tryz.prog 83 #[.float .f32 x] w fun e w'=>∃ r n,r<4294967296∧e=.returned (.float .f32 r)∧w'=w.drewN n:=by
 cases h1:(FloatKind.f32.format.order x x != some .eq) with
 | true =>
  go_enter Tryz.func83,Tryz.ntmps83;go_wp2;go_ret;exact ⟨x,0,hx,rfl,rfl⟩
 | false =>
  cases h2:(FloatKind.f32.format.order x 1118961664==some .gt) with
  | true =>
   go_enter Tryz.func83,Tryz.ntmps83;go_wp2_with (first | (go_at_call 50;refine (jaH _ _).mono ?_;rintro e w' ⟨rfl,rfl⟩) | go_in);go_ret;exact ⟨_,0,jcO _,rfl,rfl⟩
  | false =>
   cases h3:(FloatKind.f32.format.order x 3268542464==some .lt) with
   | true =>
    go_enter Tryz.func83,Tryz.ntmps83;go_wp2;go_ret;exact ⟨0,0,by decide,rfl,rfl⟩
   | false =>
    go_enter Tryz.func83,Tryz.ntmps83;go_wp2_with (first | (go_at_call 82;refine (joE _ _).mono ?_;rintro e w' ⟨kf,n1,rfl,rfl⟩) | fail);go_loopw [6,7] (fun p i w'=>∃ (k r n:Nat),k≤13∧i=.int .i64 k∧p=.float .f64 r∧w'=w.drewN n) (fun _ i _=>(intOf i).toNat)
    case atStart=>exact ⟨13,_,_,Nat.le_refl _,rfl,rfl,rfl⟩
    case round =>
     obtain ⟨k,r,n,hk,rfl,rfl,rfl⟩:=hrel
     by_cases hlt:1≤k
     ·go_wp2;go_roundw
      case rel=>exact ⟨k - 1,_,_,by omega,by go_num,rfl,rfl⟩
      case measure=>simp [intOf];omega
     ·go_wp2_with (first | (go_at_call 134;refine (jtg _ _ _).mono ?_;rintro e w' ⟨rl,nl,rfl,rfl⟩) | (go_at_call 50;refine (jaH _ _).mono ?_;rintro e w' ⟨rfl,rfl⟩) | go_in)
      all_goals
       go_ret
       first | exact ⟨_,_,jcO _,rfl,rfl⟩ | exact ⟨_,_,cval_lt _ _,rfl,rfl⟩
end Go.Proofs.YteigfipgmghgmaaGreatDoor.Nu
namespace Go.Proofs.YteigfipgmghgmaaGreatDoor.Nu
open Go.RowKit
attribute [local go_sem] jeu jcJ jeK jbg jbh jbq jbB jdY jdZ jd0 jd1 jcf
theorem jkb (op:BinOp) (a b:Int):(bits op .u32 a b).toNat<4294967296:=by
 unfold bits;rw [IntKind.wrap_u32'];omega
theorem jsj (x y:Nat) (w:World):Calls Tryz.prog 135 #[.float .f32 x,.float .f32 y] w fun e w'=>∃ r,r<4294967296∧e=.returned (.float .f32 r)∧w'=w:=by
 go_enter Tryz.func135,Tryz.ntmps135;go_wp2;go_ret;exact ⟨_,jkb _ _ _,rfl,rfl⟩
theorem joF (x:Nat) (w:World) (hx:x<4294967296):Calls Tryz.prog 84 #[.float .f32 x] w fun e w'=>∃ r n,r<4294967296∧e=.returned (.float .f32 r)∧w'=w.drewN n:=by
 have hn:=negF_lt x hx;go_enter Tryz.func84,Tryz.ntmps84;go_wp2_with (first | (go_at_call 83;refine (jth _ _ hn).mono ?_;rintro e w' ⟨r,n,hr,rfl,rfl⟩) | go_in);go_ret;exact ⟨_,_,je3 _ _ _ _,rfl,rfl⟩
theorem juI (x:Nat) (w:World) (hx:x<4294967296):Calls Tryz.prog 85 #[.float .f32 x] w fun e w'=>∃ r n,r<4294967296∧e=.returned (.float .f32 r)∧w'=w.drewN n:=by
 cases h1:(FloatKind.f32.format.order (absF x) 1092616192==some .gt) with
 | true =>
  go_enter Tryz.func85,Tryz.ntmps85;go_wp2_with (first | (go_at_call 79;refine (jcS _ _ hx).mono ?_;rintro e w' ⟨rfl,rfl⟩) | (go_at_call 135;refine (jsj _ _ _).mono ?_;rintro e w' ⟨rs,hs,rfl,rfl⟩) | go_in);go_ret;exact ⟨_,0,‹_›,rfl,rfl⟩
 | false =>
  go_enter Tryz.func85,Tryz.ntmps85;go_wp2_with (first | (go_at_call 79;refine (jcS _ _ hx).mono ?_;rintro e w' ⟨rfl,rfl⟩) | (go_at_call 83;refine (jth _ _ (je3 _ _ _ _)).mono ?_;rintro e w' ⟨r,n,hr,rfl,rfl⟩) | (go_at_call 135;refine (jsj _ _ _).mono ?_;rintro e w' ⟨rs,hs,rfl,rfl⟩) | go_in);go_ret;exact ⟨_,_,‹_›,rfl,rfl⟩
theorem jq0 (b:Nat) (w:World) (_hb:b<4294967296):Calls Tryz.prog 49 #[.string ⟨#[83,113,114,116]⟩,.float .f32 b] w fun e w'=>∃ r n,r<4294967296∧e=.returned (.tuple #[.int .i64 (tob r),.int .i64 0])∧w'=w.drewN n:=by
 go_enter Tryz.func49,Tryz.ntmps49;go_wp2_with (first | (go_at_call 81;refine (juH _ _).mono ?_;rintro e w' ⟨r,n,rfl,rfl⟩) | (go_at_call 62;refine (jbo _ _ (cval_lt _ _)).mono ?_;rintro e w' ⟨rfl,rfl⟩) | go_in);go_ret2;exact ⟨_,_,cval_lt _ _,rfl,rfl⟩
theorem jq1 (b:Nat) (w:World) (_hb:b<4294967296):Calls Tryz.prog 49 #[.string ⟨#[70,108,111,111,114]⟩,.float .f32 b] w fun e w'=>∃ r n,r<4294967296∧e=.returned (.tuple #[.int .i64 (tob r),.int .i64 0])∧w'=w.drewN n:=by
 go_enter Tryz.func49,Tryz.ntmps49;go_wp2_with (first | (go_at_call 82;refine (joE _ _).mono ?_;rintro e w' ⟨r,n,rfl,rfl⟩) | (go_at_call 62;refine (jbo _ _ (cval_lt _ _)).mono ?_;rintro e w' ⟨rfl,rfl⟩) | go_in);go_ret2;exact ⟨_,_,cval_lt _ _,rfl,rfl⟩
theorem jq2 (b:Nat) (w:World) (hb:b<4294967296):Calls Tryz.prog 49 #[.string ⟨#[69,120,112]⟩,.float .f32 b] w fun e w'=>∃ r n,r<4294967296∧e=.returned (.tuple #[.int .i64 (tob r),.int .i64 0])∧w'=w.drewN n:=by
 go_enter Tryz.func49,Tryz.ntmps49;go_wp2_with (first | (go_at_call 83;refine (jth _ _ hb).mono ?_;rintro e w' ⟨r,n,hr,rfl,rfl⟩) | (go_at_call 62;refine (jbo _ _ (by assumption)).mono ?_;rintro e w' ⟨rfl,rfl⟩) | go_in);go_ret2;exact ⟨_,_,‹_›,rfl,rfl⟩
theorem jq3 (b:Nat) (w:World) (hb:b<4294967296):Calls Tryz.prog 49 #[.string ⟨#[83,105,103,109,111,105,100]⟩,.float .f32 b] w fun e w'=>∃ r n,r<4294967296∧e=.returned (.tuple #[.int .i64 (tob r),.int .i64 0])∧w'=w.drewN n:=by
 go_enter Tryz.func49,Tryz.ntmps49;go_wp2_with (first | (go_at_call 84;refine (joF _ _ hb).mono ?_;rintro e w' ⟨r,n,hr,rfl,rfl⟩) | (go_at_call 62;refine (jbo _ _ (by assumption)).mono ?_;rintro e w' ⟨rfl,rfl⟩) | go_in);go_ret2;exact ⟨_,_,‹_›,rfl,rfl⟩
theorem jq4 (b:Nat) (w:World) (hb:b<4294967296):Calls Tryz.prog 49 #[.string ⟨#[84,97,110,104]⟩,.float .f32 b] w fun e w'=>∃ r n,r<4294967296∧e=.returned (.tuple #[.int .i64 (tob r),.int .i64 0])∧w'=w.drewN n:=by
 go_enter Tryz.func49,Tryz.ntmps49;go_wp2_with (first | (go_at_call 85;refine (juI _ _ hb).mono ?_;rintro e w' ⟨r,n,hr,rfl,rfl⟩) | (go_at_call 62;refine (jbo _ _ (by assumption)).mono ?_;rintro e w' ⟨rfl,rfl⟩) | go_in);go_ret2;exact ⟨_,_,‹_›,rfl,rfl⟩
theorem unary5_1 (x:Int) (w:World) (hx:chk 1 x=true):Calls Tryz.prog 29 #[.string ⟨#[83,113,114,116]⟩,.int .i64 1,.int .i64 x] w fun e w'=>∃ r n,r<4294967296∧e=.returned (.tuple #[.int .i64 (tob r),.int .i64 0])∧w'=w.drewN n:=by
 go_enter Tryz.func29,Tryz.ntmps29;go_wp2_with (first | (go_at_call 45;refine (jah _ _ _).mono ?_;rintro e w' ⟨rfl,rfl⟩) | (go_at_call 50;refine (jaH _ _).mono ?_;rintro e w' ⟨rfl,rfl⟩) | (go_at_call 49;refine (jq0 _ _ (jcO _)).mono ?_;rintro e w' ⟨r,n,hr,rfl,rfl⟩));go_ret2;exact ⟨_,_,‹_›,rfl,rfl⟩
theorem unary6_1 (x:Int) (w:World) (hx:chk 1 x=true):Calls Tryz.prog 29 #[.string ⟨#[70,108,111,111,114]⟩,.int .i64 1,.int .i64 x] w fun e w'=>∃ r n,r<4294967296∧e=.returned (.tuple #[.int .i64 (tob r),.int .i64 0])∧w'=w.drewN n:=by
 go_enter Tryz.func29,Tryz.ntmps29;go_wp2_with (first | (go_at_call 45;refine (jah _ _ _).mono ?_;rintro e w' ⟨rfl,rfl⟩) | (go_at_call 50;refine (jaH _ _).mono ?_;rintro e w' ⟨rfl,rfl⟩) | (go_at_call 49;refine (jq1 _ _ (jcO _)).mono ?_;rintro e w' ⟨r,n,hr,rfl,rfl⟩));go_ret2;exact ⟨_,_,‹_›,rfl,rfl⟩
theorem unary7_1 (x:Int) (w:World) (hx:chk 1 x=true):Calls Tryz.prog 29 #[.string ⟨#[69,120,112]⟩,.int .i64 1,.int .i64 x] w fun e w'=>∃ r n,r<4294967296∧e=.returned (.tuple #[.int .i64 (tob r),.int .i64 0])∧w'=w.drewN n:=by
 go_enter Tryz.func29,Tryz.ntmps29;go_wp2_with (first | (go_at_call 45;refine (jah _ _ _).mono ?_;rintro e w' ⟨rfl,rfl⟩) | (go_at_call 50;refine (jaH _ _).mono ?_;rintro e w' ⟨rfl,rfl⟩) | (go_at_call 49;refine (jq2 _ _ (jcO _)).mono ?_;rintro e w' ⟨r,n,hr,rfl,rfl⟩));go_ret2;exact ⟨_,_,‹_›,rfl,rfl⟩
theorem unary8_1 (x:Int) (w:World) (hx:chk 1 x=true):Calls Tryz.prog 29 #[.string ⟨#[83,105,103,109,111,105,100]⟩,.int .i64 1,.int .i64 x] w fun e w'=>∃ r n,r<4294967296∧e=.returned (.tuple #[.int .i64 (tob r),.int .i64 0])∧w'=w.drewN n:=by
 go_enter Tryz.func29,Tryz.ntmps29;go_wp2_with (first | (go_at_call 45;refine (jah _ _ _).mono ?_;rintro e w' ⟨rfl,rfl⟩) | (go_at_call 50;refine (jaH _ _).mono ?_;rintro e w' ⟨rfl,rfl⟩) | (go_at_call 49;refine (jq3 _ _ (jcO _)).mono ?_;rintro e w' ⟨r,n,hr,rfl,rfl⟩));go_ret2;exact ⟨_,_,‹_›,rfl,rfl⟩
theorem unary9_1 (x:Int) (w:World) (hx:chk 1 x=true):Calls Tryz.prog 29 #[.string ⟨#[84,97,110,104]⟩,.int .i64 1,.int .i64 x] w fun e w'=>∃ r n,r<4294967296∧e=.returned (.tuple #[.int .i64 (tob r),.int .i64 0])∧w'=w.drewN n:=by
 go_enter Tryz.func29,Tryz.ntmps29;go_wp2_with (first | (go_at_call 45;refine (jah _ _ _).mono ?_;rintro e w' ⟨rfl,rfl⟩) | (go_at_call 50;refine (jaH _ _).mono ?_;rintro e w' ⟨rfl,rfl⟩) | (go_at_call 49;refine (jq4 _ _ (jcO _)).mono ?_;rintro e w' ⟨r,n,hr,rfl,rfl⟩));go_ret2;exact ⟨_,_,‹_›,rfl,rfl⟩
end Go.Proofs.YteigfipgmghgmaaGreatDoor.Nu
namespace Go.Proofs.YteigfipgmghgmaaGreatDoor.Nu
open Go.RowKit
def juh (b t:Nat):Nat:=(Question.nanConv .f64 b).cut t
theorem jlk (b t:Nat):(FloatKind.f64.format.order (juh b t) (juh b t) != some .eq)=true:=by
 have hs:∀ d:Ieee.Datum,d.isNaN=true→d.order d=none:=fun d h=>by rw [jby,h];rfl
 have hn:(FloatKind.f64.format.read (juh b t)).isNaN=true:=by
  have h1:=Nat.mod_lt t (show 0<2 by decide);have h2:=Nat.mod_lt (t / 2) (show 0<4503599627370495 by decide);have e:juh b t=(t % 2)*9223372036854775808+9218868437227405312+1+(t / 2) % 4503599627370495:=rfl;rw [e];generalize t % 2=a at *;generalize t / 2 % 4503599627370495=c at *;have e1:FloatKind.f64.format.signWeight=9223372036854775808:=rfl;have e2:FloatKind.f64.format.binade=4503599627370496:=rfl;have e3:FloatKind.f64.format.infRung=9218868437227405312:=rfl;have m:(a*9223372036854775808+9218868437227405312+1+c) % 9223372036854775808=9218868437227405312+1+c:=by omega
  unfold Ieee.Format.read;simp only [e1,e2,e3];rw [m,if_neg (by omega),if_neg (by omega),if_neg (by omega)];rfl
 unfold Ieee.Format.order;rw [hs _ hn];rfl
theorem jll {P:Program} (w:World) (src dst:TypeId) (b:Nat) (hs:(P.underlying src).isSome=true) (hd:P.underlying dst=some (.float .f64)) (h:(FloatKind.f32.format.read b).isNaN=true) :
    (convert src dst (.float .f32 b)).run P w=.ok (.float .f64 (juh b (w.tape w.drawn (.nanConv .f64 b)))) w.drew:=by
     obtain ⟨u,hs'⟩:=Option.isSome_iff_exists.1 hs
     have hk:∃ s t,FloatKind.f32.decode b=.nan s t:=by
      have h':(FloatKind.f32.decode b).isNaN=true:=h
      cases hd:FloatKind.f32.decode b with
      | nan s t=>exact ⟨s,t,rfl⟩
      | infinity s=>rw [hd] at h';cases h'
      | number s m e=>rw [hd] at h';cases h'
     obtain ⟨s,t,hk⟩:=hk
     cases u <;> simp [convert,run_underlying hs',run_underlying hd,Conv.floatToFloat,hk,juh,Question.forced]
theorem low31:floatOfInt .f64 (-2147483648)=13970166044103278592:=by decide +kernel
theorem low63:floatOfInt .f64 (-9223372036854775808)=14114281232179134464:=by decide +kernel
theorem neg31:Op.unary .neg (.float .f64 13970166044103278592)=pure (.float .f64 4746794007248502784):=rfl
theorem neg63:Op.unary .neg (.float .f64 14114281232179134464)=pure (.float .f64 4890909195324358656):=rfl
attribute [local go_sem] low31 low63 neg31 neg63
theorem joG (b:Nat) (hb:b<4294967296) (hn:b % 2147483648≤2139095040):floatToFloatBits .f32 b .f64=some (cv b)∧(FloatKind.f64.format.order (cv b) (cv b) != some .eq)=false:=by
 by_cases hf:b % 2147483648=2139095040
 ·have:b=2139095040∨b=4286578688:=by omega
  rcases this with rfl | rfl <;> exact ⟨by decide +kernel,by decide +kernel⟩
 ·obtain ⟨m,i,e,_,h⟩:=jlb b hb (by omega);refine ⟨h,?_⟩;unfold Ieee.Format.order;rw [jby,e];rfl
theorem jiZ (b c:Nat) (h:jdC b c=true):(FloatKind.f64.format.order (cv b) c==some .gt)=true∨(FloatKind.f64.format.order (cv b) c==some .gt)=false∧(FloatKind.f64.format.order (cv b) c==some .eq)=true:=by
 unfold jdC at h
 cases h1:(FloatKind.f64.format.order (cv b) c==some .gt)
 ·rw [h1] at h;exact .inr ⟨rfl,by simpa using h⟩
 ·exact .inl rfl
theorem jfu (b c:Nat) (h:jdC b c=false):(FloatKind.f64.format.order (cv b) c==some .gt)=false∧(FloatKind.f64.format.order (cv b) c==some .eq)=false:=by
 unfold jdC at h;simpa using h
theorem jq5 (b:Nat) (w:World) (h:(FloatKind.f32.format.read b).isNaN=true):Calls Tryz.prog 61 #[.int .i64 6,.float .f32 b] w fun e w'=>e=.returned (.int .i64 0)∧∃ n,w'=w.drewN n:=by
 have hconv:=fun w=>jll (P:=Tryz.prog) w 64 119 b (by kernel_rfl) (by kernel_rfl) h;have hn:=jlk b;clear h;go_enter Tryz.func61,Tryz.ntmps61;go_wp2;go_ret;exact ⟨rfl,1,rfl⟩
theorem jti (b:Nat) (w:World) (hc:floatToFloatBits .f32 b .f64=some (cv b)) (hn:(FloatKind.f64.format.order (cv b) (cv b) != some .eq)=false) (h:(FloatKind.f64.format.order (cv b) 13970166044103278592==some .lt)=true):Calls Tryz.prog 61 #[.int .i64 6,.float .f32 b] w fun e w'=>e=.returned (.int .i64 (-2147483648))∧∃ n,w'=w.drewN n:=by
 have hconv:=fun w=>run_convert_float_float (P:=Tryz.prog) w 64 119 .f32 .f64 b (cv b) (by kernel_rfl) (by kernel_rfl) hc;clear hc;go_enter Tryz.func61,Tryz.ntmps61;go_wp2;go_ret;exact ⟨rfl,0,rfl⟩
theorem jtj (b : Nat) (w : World) (hc : floatToFloatBits .f32 b .f64 = some (cv b)) (hn : (FloatKind.f64.format.order (cv b) (cv b) != some .eq) = false) (h : (FloatKind.f64.format.order (cv b) 13970166044103278592 == some .lt) = false)
    (h2:(FloatKind.f64.format.order (cv b) 4746794007248502784==some .gt)=true∨(FloatKind.f64.format.order (cv b) 4746794007248502784==some .gt)=false∧(FloatKind.f64.format.order (cv b) 4746794007248502784==some .eq)=true):Calls Tryz.prog 61 #[.int .i64 6,.float .f32 b] w fun e w'=>e=.returned (.int .i64 2147483647)∧∃ n,w'=w.drewN n:=by
     have hconv:=fun w=>run_convert_float_float (P:=Tryz.prog) w 64 119 .f32 .f64 b (cv b) (by kernel_rfl) (by kernel_rfl) hc;clear hc
     rcases h2 with h2 | ⟨h2,h3⟩
     all_goals
      go_enter Tryz.func61,Tryz.ntmps61;go_wp2;go_ret;exact ⟨rfl,0,rfl⟩
theorem jtk (b : Nat) (w : World) (n : Int) (hc : floatToFloatBits .f32 b .f64 = some (cv b)) (hn : (FloatKind.f64.format.order (cv b) (cv b) != some .eq) = false) (h : (FloatKind.f64.format.order (cv b) 13970166044103278592 == some .lt) = false)
    (h2:(FloatKind.f64.format.order (cv b) 4746794007248502784==some .gt)=false) (h3:(FloatKind.f64.format.order (cv b) 4746794007248502784==some .eq)=false) (hv:floatToIntVal .f64 (cv b) .i64=some n):Calls Tryz.prog 61 #[.int .i64 6,.float .f32 b] w fun e w'=>e=.returned (.int .i64 n)∧∃ n,w'=w.drewN n:=by
     have hconv:=fun w=>run_convert_float_float (P:=Tryz.prog) w 64 119 .f32 .f64 b (cv b) (by kernel_rfl) (by kernel_rfl) hc;have hint:=fun w=>run_convert_float_int (P:=Tryz.prog) w 119 2 .f64 .i64 (cv b) n (by kernel_rfl) (by kernel_rfl) hv;clear hc hv;go_enter Tryz.func61,Tryz.ntmps61;go_wp2;go_ret;exact ⟨rfl,0,rfl⟩
theorem jq6 (b:Nat) (w:World) (h:(FloatKind.f32.format.read b).isNaN=true):Calls Tryz.prog 61 #[.int .i64 7,.float .f32 b] w fun e w'=>e=.returned (.int .i64 0)∧∃ n,w'=w.drewN n:=by
 have hconv:=fun w=>jll (P:=Tryz.prog) w 64 119 b (by kernel_rfl) (by kernel_rfl) h;have hn:=jlk b;clear h;go_enter Tryz.func61,Tryz.ntmps61;go_wp2;go_ret;exact ⟨rfl,1,rfl⟩
theorem jtl (b:Nat) (w:World) (hc:floatToFloatBits .f32 b .f64=some (cv b)) (hn:(FloatKind.f64.format.order (cv b) (cv b) != some .eq)=false) (h:(FloatKind.f64.format.order (cv b) 14114281232179134464==some .lt)=true):Calls Tryz.prog 61 #[.int .i64 7,.float .f32 b] w fun e w'=>e=.returned (.int .i64 (-9223372036854775808))∧∃ n,w'=w.drewN n:=by
 have hconv:=fun w=>run_convert_float_float (P:=Tryz.prog) w 64 119 .f32 .f64 b (cv b) (by kernel_rfl) (by kernel_rfl) hc;clear hc;go_enter Tryz.func61,Tryz.ntmps61;go_wp2;go_ret;exact ⟨rfl,0,rfl⟩
theorem jtm (b : Nat) (w : World) (hc : floatToFloatBits .f32 b .f64 = some (cv b)) (hn : (FloatKind.f64.format.order (cv b) (cv b) != some .eq) = false) (h : (FloatKind.f64.format.order (cv b) 14114281232179134464 == some .lt) = false)
    (h2:(FloatKind.f64.format.order (cv b) 4890909195324358656==some .gt)=true∨(FloatKind.f64.format.order (cv b) 4890909195324358656==some .gt)=false∧(FloatKind.f64.format.order (cv b) 4890909195324358656==some .eq)=true):Calls Tryz.prog 61 #[.int .i64 7,.float .f32 b] w fun e w'=>e=.returned (.int .i64 9223372036854775807)∧∃ n,w'=w.drewN n:=by
     have hconv:=fun w=>run_convert_float_float (P:=Tryz.prog) w 64 119 .f32 .f64 b (cv b) (by kernel_rfl) (by kernel_rfl) hc;clear hc
     rcases h2 with h2 | ⟨h2,h3⟩
     all_goals
      go_enter Tryz.func61,Tryz.ntmps61;go_wp2;go_ret;exact ⟨rfl,0,rfl⟩
theorem jtn (b : Nat) (w : World) (n : Int) (hc : floatToFloatBits .f32 b .f64 = some (cv b)) (hn : (FloatKind.f64.format.order (cv b) (cv b) != some .eq) = false) (h : (FloatKind.f64.format.order (cv b) 14114281232179134464 == some .lt) = false)
    (h2:(FloatKind.f64.format.order (cv b) 4890909195324358656==some .gt)=false) (h3:(FloatKind.f64.format.order (cv b) 4890909195324358656==some .eq)=false) (hv:floatToIntVal .f64 (cv b) .i64=some n):Calls Tryz.prog 61 #[.int .i64 7,.float .f32 b] w fun e w'=>e=.returned (.int .i64 n)∧∃ n,w'=w.drewN n:=by
     have hconv:=fun w=>run_convert_float_float (P:=Tryz.prog) w 64 119 .f32 .f64 b (cv b) (by kernel_rfl) (by kernel_rfl) hc;have hint:=fun w=>run_convert_float_int (P:=Tryz.prog) w 119 2 .f64 .i64 (cv b) n (by kernel_rfl) (by kernel_rfl) hv;clear hc hv;go_enter Tryz.func61,Tryz.ntmps61;go_wp2;go_ret;exact ⟨rfl,0,rfl⟩
theorem val_bd (d:Nat) (n:Int) (h:floatToIntVal .f64 d .i64=some n) : -9223372036854775808≤n∧n≤9223372036854775807:=by
 have:=floatToIntVal_wf h;simpa [Lit.wf,IntKind.min,IntKind.max,IntKind.signed,IntKind.bits] using this
def f2i (t:Int) (b:Nat):Int :=
 if (FloatKind.f32.format.read b).isNaN then 0
 else if t=6 then (if je4 b 13970166044103278592 then -2147483648 else if jdC b 4746794007248502784 then 2147483647 else (floatToIntVal .f64 (cv b) .i64).getD 0)
 else (if je4 b 14114281232179134464 then -9223372036854775808 else if jdC b 4890909195324358656 then 9223372036854775807 else (floatToIntVal .f64 (cv b) .i64).getD 0)
theorem jg9 (b:Nat) (hb:b<4294967296) (h:(FloatKind.f32.format.read b).isNaN=false):b % 2147483648≤2139095040:=by
 rw [jbs b hb] at h;simpa using h
theorem f2i6 (b:Nat) (w:World) (hb:b<4294967296):Calls Tryz.prog 61 #[.int .i64 6,.float .f32 b] w fun e w'=>e=.returned (.int .i64 (f2i 6 b))∧∃ n,w'=w.drewN n:=by
 cases hN:(FloatKind.f32.format.read b).isNaN with
 | true=>rw [show f2i 6 b=0 from by simp [f2i,hN]];exact jq5 b w hN
 | false =>
  have hle:=jg9 b hb hN;obtain ⟨hc,hn⟩:=joG b hb hle
  cases hl:je4 b 13970166044103278592 with
  | true=>rw [show f2i 6 b = -2147483648 from by simp [f2i,hN,hl]];exact jti b w hc hn hl
  | false =>
   cases ha:jdC b 4746794007248502784 with
   | true=>rw [show f2i 6 b=2147483647 from by simp [f2i,hN,hl,ha]];exact jtj b w hc hn hl (jiZ b _ ha)
   | false =>
    have hv:∃ n,floatToIntVal .f64 (cv b) .i64=some n:=by
     rcases jiS b hb hle with ⟨h1,_,h3⟩ | ⟨_,h2,_,h4⟩ | ⟨_,_,_,_,n,hn,_⟩
     ·rw [hl] at h1;cases h1
     ·rw [ha] at h2;cases h2
     ·exact ⟨n,hn⟩
    obtain ⟨n,hv⟩:=hv;rw [show f2i 6 b=n from by simp [f2i,hN,hl,ha,hv]];exact jtk b w n hc hn hl (jfu b _ ha).1 (jfu b _ ha).2 hv
theorem f2i7 (b:Nat) (w:World) (hb:b<4294967296):Calls Tryz.prog 61 #[.int .i64 7,.float .f32 b] w fun e w'=>e=.returned (.int .i64 (f2i 7 b))∧∃ n,w'=w.drewN n:=by
 cases hN:(FloatKind.f32.format.read b).isNaN with
 | true=>rw [show f2i 7 b=0 from by simp [f2i,hN]];exact jq6 b w hN
 | false =>
  have hle:=jg9 b hb hN;obtain ⟨hc,hn⟩:=joG b hb hle
  cases hl:je4 b 14114281232179134464 with
  | true=>rw [show f2i 7 b = -9223372036854775808 from by simp [f2i,hN,hl]];exact jtl b w hc hn hl
  | false =>
   cases ha:jdC b 4890909195324358656 with
   | true=>rw [show f2i 7 b=9223372036854775807 from by simp [f2i,hN,hl,ha]];exact jtm b w hc hn hl (jiZ b _ ha)
   | false =>
    have hv:∃ n,floatToIntVal .f64 (cv b) .i64=some n:=by
     rcases jiS b hb hle with ⟨h1,_,h3⟩ | ⟨_,h2,_,h4⟩ | ⟨_,_,_,_,n,hn,_⟩
     ·rcases h3 with h3 | ⟨_,_,n,hn⟩;(rw [hl] at h3;cases h3);exact ⟨n,hn⟩
     ·rcases h4 with h4 | ⟨_,n,hn,_⟩;(rw [ha] at h4;cases h4);exact ⟨n,hn⟩
     ·exact ⟨n,hn⟩
    obtain ⟨n,hv⟩:=hv;rw [show f2i 7 b=n from by simp [f2i,hN,hl,ha,hv]];exact jtn b w n hc hn hl (jfu b _ ha).1 (jfu b _ ha).2 hv
end Go.Proofs.YteigfipgmghgmaaGreatDoor.Nu
namespace Go.Proofs.YteigfipgmghgmaaGreatDoor.Nu
open Go.RowKit
def isT (t:Int):Bool:=decide (t=1∨t=6∨t=7∨t=9)
theorem joH (t:Int) (h:isT t=true):t=1∨t=6∨t=7∨t=9:=by simpa [isT] using h
def cst (f t x:Int):Int×Int :=
 if (chk f x&&isT t)=true then
  (if f=t then (x,0) else if f=1∧t=9 then (b2i (FloatKind.f32.format.order (fb x) 0 != some .eq),0) else if f=1 then (f2i t (fb x),0)
   else if t=9 then (b2i (x != 0),0) else if t=1 then (tob (floatOfInt .f32 x),0) else (wrapT t x,0))
 else (0,1)
theorem foi_lt (x:Int):floatOfInt .f32 x<4294967296:=by
 have:=floatOfInt_wf .f32 x;simpa [Lit.wf] using this
theorem jaM (t:Int) (w:World):Calls Tryz.prog 59 #[.int .i64 t] w fun e w'=>e=.returned (.bool (isT t))∧w'=w:=by
 by_cases h:t=1∨t=6∨t=7∨t=9
 ·rw [show isT t=true from by simpa [isT] using h]
  rcases h with rfl | rfl | rfl | rfl
  all_goals
   go_enter Tryz.func59,Tryz.ntmps59;go_wp2;go_ret;exact ⟨rfl,rfl⟩
 ·rw [show isT t=false from by simpa [isT] using h];have h1:(t==1)=false:=by simp;omega
  have h6:(t==6)=false:=by simp;omega
  have h7:(t==7)=false:=by simp;omega
  have h9:(t==9)=false:=by simp;omega
  clear h;go_enter Tryz.func59,Tryz.ntmps59;go_wp2;go_ret;exact ⟨rfl,rfl⟩
theorem jfg (f t x:Int) (w:World) (h:chk f x=false∨chk f x=true∧isT t=false):Calls Tryz.prog 36 #[.int .i64 f,.int .i64 t,.int .i64 x] w fun e w'=>e=.returned (.tuple #[.int .i64 0,.int .i64 1])∧∃ n,w'=w.drewN n:=by
 rcases h with hx | ⟨hx,ht⟩
 all_goals
  go_enter Tryz.func36,Tryz.ntmps36;go_wp2_with (first | (go_at_call 45;refine (jah _ _ _).mono ?_;rintro e w' ⟨rfl,rfl⟩) | (go_at_call 59;refine (jaM _ _).mono ?_;rintro e w' ⟨rfl,rfl⟩) | go_in);go_ret2;exact ⟨rfl,0,rfl⟩
theorem jhR (x:Int) (w:World) (hx:chk 1 x=true):Calls Tryz.prog 36 #[.int .i64 1,.int .i64 1,.int .i64 x] w fun e w'=>e=.returned (.tuple #[.int .i64 (cst 1 1 x).1,.int .i64 (cst 1 1 x).2])∧∃ n,w'=w.drewN n:=by
 have c0:isT 1=true:=by decide
 rw [show cst 1 1 x=(x,0) from by simp [cst,hx,c0]];go_enter Tryz.func36,Tryz.ntmps36;go_wp2_with (first | (go_at_call 45;refine (jah _ _ _).mono ?_;rintro e w' ⟨rfl,rfl⟩) | (go_at_call 59;refine (jaM _ _).mono ?_;rintro e w' ⟨rfl,rfl⟩) | go_in);go_ret2;exact ⟨rfl,0,rfl⟩
theorem jhS (x:Int) (w:World) (hx:chk 1 x=true):Calls Tryz.prog 36 #[.int .i64 1,.int .i64 6,.int .i64 x] w fun e w'=>e=.returned (.tuple #[.int .i64 (cst 1 6 x).1,.int .i64 (cst 1 6 x).2])∧∃ n,w'=w.drewN n:=by
 have c0:isT 6=true:=by decide
 rw [show cst 1 6 x=(f2i 6 (fb x),0) from by simp [cst,hx,c0]];go_enter Tryz.func36,Tryz.ntmps36;go_wp2_with (first | (go_at_call 45;refine (jah _ _ _).mono ?_;rintro e w' ⟨rfl,rfl⟩) | (go_at_call 59;refine (jaM _ _).mono ?_;rintro e w' ⟨rfl,rfl⟩) | (go_at_call 50;refine (jaH _ _).mono ?_;rintro e w' ⟨rfl,rfl⟩) | (go_at_call 61;refine (f2i6 _ _ (jcO _)).mono ?_;rintro e w' ⟨rfl,n,rfl⟩) | go_in);go_ret2;exact ⟨rfl,_,rfl⟩
theorem jhT (x:Int) (w:World) (hx:chk 1 x=true):Calls Tryz.prog 36 #[.int .i64 1,.int .i64 7,.int .i64 x] w fun e w'=>e=.returned (.tuple #[.int .i64 (cst 1 7 x).1,.int .i64 (cst 1 7 x).2])∧∃ n,w'=w.drewN n:=by
 have c0:isT 7=true:=by decide
 rw [show cst 1 7 x=(f2i 7 (fb x),0) from by simp [cst,hx,c0]];go_enter Tryz.func36,Tryz.ntmps36;go_wp2_with (first | (go_at_call 45;refine (jah _ _ _).mono ?_;rintro e w' ⟨rfl,rfl⟩) | (go_at_call 59;refine (jaM _ _).mono ?_;rintro e w' ⟨rfl,rfl⟩) | (go_at_call 50;refine (jaH _ _).mono ?_;rintro e w' ⟨rfl,rfl⟩) | (go_at_call 61;refine (f2i7 _ _ (jcO _)).mono ?_;rintro e w' ⟨rfl,n,rfl⟩) | go_in);go_ret2;exact ⟨rfl,_,rfl⟩
theorem jhU (x:Int) (w:World) (hx:chk 1 x=true):Calls Tryz.prog 36 #[.int .i64 1,.int .i64 9,.int .i64 x] w fun e w'=>e=.returned (.tuple #[.int .i64 (cst 1 9 x).1,.int .i64 (cst 1 9 x).2])∧∃ n,w'=w.drewN n:=by
 have c0:isT 9=true:=by decide
 rw [show cst 1 9 x=(b2i (FloatKind.f32.format.order (fb x) 0 != some .eq),0) from by simp [cst,hx,c0]]
 cases h:(FloatKind.f32.format.order (fb x) 0 != some .eq) with
 | true =>
  show Calls _ _ _ _ fun e w'=>e=.returned (.tuple #[.int .i64 1,.int .i64 0])∧∃ n,w'=w.drewN n;go_enter Tryz.func36,Tryz.ntmps36;go_wp2_with (first | (go_at_call 45;refine (jah _ _ _).mono ?_;rintro e w' ⟨rfl,rfl⟩) | (go_at_call 59;refine (jaM _ _).mono ?_;rintro e w' ⟨rfl,rfl⟩) | (go_at_call 50;refine (jaH _ _).mono ?_;rintro e w' ⟨rfl,rfl⟩) | go_in);go_ret2;exact ⟨rfl,0,rfl⟩
 | false =>
  show Calls _ _ _ _ fun e w'=>e=.returned (.tuple #[.int .i64 0,.int .i64 0])∧∃ n,w'=w.drewN n;go_enter Tryz.func36,Tryz.ntmps36;go_wp2_with (first | (go_at_call 45;refine (jah _ _ _).mono ?_;rintro e w' ⟨rfl,rfl⟩) | (go_at_call 59;refine (jaM _ _).mono ?_;rintro e w' ⟨rfl,rfl⟩) | (go_at_call 50;refine (jaH _ _).mono ?_;rintro e w' ⟨rfl,rfl⟩) | go_in);go_ret2;exact ⟨rfl,0,rfl⟩
theorem jhV (x:Int) (w:World) (hx:chk 6 x=true):Calls Tryz.prog 36 #[.int .i64 6,.int .i64 1,.int .i64 x] w fun e w'=>e=.returned (.tuple #[.int .i64 (cst 6 1 x).1,.int .i64 (cst 6 1 x).2])∧∃ n,w'=w.drewN n:=by
 have c0:isT 1=true:=by decide
 rw [show cst 6 1 x=(tob (floatOfInt .f32 x),0) from by simp [cst,hx,c0]];go_enter Tryz.func36,Tryz.ntmps36;go_wp2_with (first | (go_at_call 45;refine (jah _ _ _).mono ?_;rintro e w' ⟨rfl,rfl⟩) | (go_at_call 59;refine (jaM _ _).mono ?_;rintro e w' ⟨rfl,rfl⟩) | (go_at_call 62;refine (jbo _ _ (foi_lt _)).mono ?_;rintro e w' ⟨rfl,rfl⟩) | go_in);go_ret2;exact ⟨rfl,0,rfl⟩
theorem jhW (x:Int) (w:World) (hx:chk 6 x=true):Calls Tryz.prog 36 #[.int .i64 6,.int .i64 6,.int .i64 x] w fun e w'=>e=.returned (.tuple #[.int .i64 (cst 6 6 x).1,.int .i64 (cst 6 6 x).2])∧∃ n,w'=w.drewN n:=by
 have c0:isT 6=true:=by decide
 rw [show cst 6 6 x=(x,0) from by simp [cst,hx,c0]];go_enter Tryz.func36,Tryz.ntmps36;go_wp2_with (first | (go_at_call 45;refine (jah _ _ _).mono ?_;rintro e w' ⟨rfl,rfl⟩) | (go_at_call 59;refine (jaM _ _).mono ?_;rintro e w' ⟨rfl,rfl⟩) | go_in);go_ret2;exact ⟨rfl,0,rfl⟩
theorem jhX (x:Int) (w:World) (hx:chk 6 x=true):Calls Tryz.prog 36 #[.int .i64 6,.int .i64 7,.int .i64 x] w fun e w'=>e=.returned (.tuple #[.int .i64 (cst 6 7 x).1,.int .i64 (cst 6 7 x).2])∧∃ n,w'=w.drewN n:=by
 have c0:isT 7=true:=by decide
 rw [show cst 6 7 x=(x,0) from by simp [cst,hx,c0,wrapT]];go_enter Tryz.func36,Tryz.ntmps36;go_wp2_with (first | (go_at_call 45;refine (jah _ _ _).mono ?_;rintro e w' ⟨rfl,rfl⟩) | (go_at_call 59;refine (jaM _ _).mono ?_;rintro e w' ⟨rfl,rfl⟩) | go_in);go_ret2;exact ⟨rfl,0,rfl⟩
theorem jhY (x:Int) (w:World) (hx:chk 6 x=true):Calls Tryz.prog 36 #[.int .i64 6,.int .i64 9,.int .i64 x] w fun e w'=>e=.returned (.tuple #[.int .i64 (cst 6 9 x).1,.int .i64 (cst 6 9 x).2])∧∃ n,w'=w.drewN n:=by
 have c0:isT 9=true:=by decide
 rw [show cst 6 9 x=(b2i (x != 0),0) from by simp [cst,hx,c0]]
 cases h:(x != 0) with
 | true =>
  show Calls _ _ _ _ fun e w'=>e=.returned (.tuple #[.int .i64 1,.int .i64 0])∧∃ n,w'=w.drewN n;go_enter Tryz.func36,Tryz.ntmps36;go_wp2_with (first | (go_at_call 45;refine (jah _ _ _).mono ?_;rintro e w' ⟨rfl,rfl⟩) | (go_at_call 59;refine (jaM _ _).mono ?_;rintro e w' ⟨rfl,rfl⟩) | go_in);go_ret2;exact ⟨rfl,0,rfl⟩
 | false =>
  show Calls _ _ _ _ fun e w'=>e=.returned (.tuple #[.int .i64 0,.int .i64 0])∧∃ n,w'=w.drewN n;go_enter Tryz.func36,Tryz.ntmps36;go_wp2_with (first | (go_at_call 45;refine (jah _ _ _).mono ?_;rintro e w' ⟨rfl,rfl⟩) | (go_at_call 59;refine (jaM _ _).mono ?_;rintro e w' ⟨rfl,rfl⟩) | go_in);go_ret2;exact ⟨rfl,0,rfl⟩
theorem jhZ (x:Int) (w:World) (hx:chk 7 x=true):Calls Tryz.prog 36 #[.int .i64 7,.int .i64 1,.int .i64 x] w fun e w'=>e=.returned (.tuple #[.int .i64 (cst 7 1 x).1,.int .i64 (cst 7 1 x).2])∧∃ n,w'=w.drewN n:=by
 have c0:isT 1=true:=by decide
 rw [show cst 7 1 x=(tob (floatOfInt .f32 x),0) from by simp [cst,hx,c0]];go_enter Tryz.func36,Tryz.ntmps36;go_wp2_with (first | (go_at_call 45;refine (jah _ _ _).mono ?_;rintro e w' ⟨rfl,rfl⟩) | (go_at_call 59;refine (jaM _ _).mono ?_;rintro e w' ⟨rfl,rfl⟩) | (go_at_call 62;refine (jbo _ _ (foi_lt _)).mono ?_;rintro e w' ⟨rfl,rfl⟩) | go_in);go_ret2;exact ⟨rfl,0,rfl⟩
theorem jh0 (x:Int) (w:World) (hx:chk 7 x=true):Calls Tryz.prog 36 #[.int .i64 7,.int .i64 6,.int .i64 x] w fun e w'=>e=.returned (.tuple #[.int .i64 (cst 7 6 x).1,.int .i64 (cst 7 6 x).2])∧∃ n,w'=w.drewN n:=by
 have c0:isT 6=true:=by decide
 rw [show cst 7 6 x=(wrap64 (wrap32 x),0) from by simp [cst,hx,c0,wrapT]];go_enter Tryz.func36,Tryz.ntmps36;go_wp2_with (first | (go_at_call 45;refine (jah _ _ _).mono ?_;rintro e w' ⟨rfl,rfl⟩) | (go_at_call 59;refine (jaM _ _).mono ?_;rintro e w' ⟨rfl,rfl⟩) | go_in);go_ret2;exact ⟨rfl,0,rfl⟩
theorem jh1 (x:Int) (w:World) (hx:chk 7 x=true):Calls Tryz.prog 36 #[.int .i64 7,.int .i64 7,.int .i64 x] w fun e w'=>e=.returned (.tuple #[.int .i64 (cst 7 7 x).1,.int .i64 (cst 7 7 x).2])∧∃ n,w'=w.drewN n:=by
 have c0:isT 7=true:=by decide
 rw [show cst 7 7 x=(x,0) from by simp [cst,hx,c0]];go_enter Tryz.func36,Tryz.ntmps36;go_wp2_with (first | (go_at_call 45;refine (jah _ _ _).mono ?_;rintro e w' ⟨rfl,rfl⟩) | (go_at_call 59;refine (jaM _ _).mono ?_;rintro e w' ⟨rfl,rfl⟩) | go_in);go_ret2;exact ⟨rfl,0,rfl⟩
theorem jh2 (x:Int) (w:World) (hx:chk 7 x=true):Calls Tryz.prog 36 #[.int .i64 7,.int .i64 9,.int .i64 x] w fun e w'=>e=.returned (.tuple #[.int .i64 (cst 7 9 x).1,.int .i64 (cst 7 9 x).2])∧∃ n,w'=w.drewN n:=by
 have c0:isT 9=true:=by decide
 rw [show cst 7 9 x=(b2i (x != 0),0) from by simp [cst,hx,c0]]
 cases h:(x != 0) with
 | true =>
  show Calls _ _ _ _ fun e w'=>e=.returned (.tuple #[.int .i64 1,.int .i64 0])∧∃ n,w'=w.drewN n;go_enter Tryz.func36,Tryz.ntmps36;go_wp2_with (first | (go_at_call 45;refine (jah _ _ _).mono ?_;rintro e w' ⟨rfl,rfl⟩) | (go_at_call 59;refine (jaM _ _).mono ?_;rintro e w' ⟨rfl,rfl⟩) | go_in);go_ret2;exact ⟨rfl,0,rfl⟩
 | false =>
  show Calls _ _ _ _ fun e w'=>e=.returned (.tuple #[.int .i64 0,.int .i64 0])∧∃ n,w'=w.drewN n;go_enter Tryz.func36,Tryz.ntmps36;go_wp2_with (first | (go_at_call 45;refine (jah _ _ _).mono ?_;rintro e w' ⟨rfl,rfl⟩) | (go_at_call 59;refine (jaM _ _).mono ?_;rintro e w' ⟨rfl,rfl⟩) | go_in);go_ret2;exact ⟨rfl,0,rfl⟩
theorem jh3 (x:Int) (w:World) (hx:chk 9 x=true):Calls Tryz.prog 36 #[.int .i64 9,.int .i64 1,.int .i64 x] w fun e w'=>e=.returned (.tuple #[.int .i64 (cst 9 1 x).1,.int .i64 (cst 9 1 x).2])∧∃ n,w'=w.drewN n:=by
 have c0:isT 1=true:=by decide
 rw [show cst 9 1 x=(tob (floatOfInt .f32 x),0) from by simp [cst,hx,c0]];go_enter Tryz.func36,Tryz.ntmps36;go_wp2_with (first | (go_at_call 45;refine (jah _ _ _).mono ?_;rintro e w' ⟨rfl,rfl⟩) | (go_at_call 59;refine (jaM _ _).mono ?_;rintro e w' ⟨rfl,rfl⟩) | (go_at_call 62;refine (jbo _ _ (foi_lt _)).mono ?_;rintro e w' ⟨rfl,rfl⟩) | go_in);go_ret2;exact ⟨rfl,0,rfl⟩
theorem jh4 (x:Int) (w:World) (hx:chk 9 x=true):Calls Tryz.prog 36 #[.int .i64 9,.int .i64 6,.int .i64 x] w fun e w'=>e=.returned (.tuple #[.int .i64 (cst 9 6 x).1,.int .i64 (cst 9 6 x).2])∧∃ n,w'=w.drewN n:=by
 have c0:isT 6=true:=by decide
 rw [show cst 9 6 x=(wrap64 (wrap32 x),0) from by simp [cst,hx,c0,wrapT]];go_enter Tryz.func36,Tryz.ntmps36;go_wp2_with (first | (go_at_call 45;refine (jah _ _ _).mono ?_;rintro e w' ⟨rfl,rfl⟩) | (go_at_call 59;refine (jaM _ _).mono ?_;rintro e w' ⟨rfl,rfl⟩) | go_in);go_ret2;exact ⟨rfl,0,rfl⟩
theorem jh5 (x:Int) (w:World) (hx:chk 9 x=true):Calls Tryz.prog 36 #[.int .i64 9,.int .i64 7,.int .i64 x] w fun e w'=>e=.returned (.tuple #[.int .i64 (cst 9 7 x).1,.int .i64 (cst 9 7 x).2])∧∃ n,w'=w.drewN n:=by
 have c0:isT 7=true:=by decide
 rw [show cst 9 7 x=(x,0) from by simp [cst,hx,c0,wrapT]];go_enter Tryz.func36,Tryz.ntmps36;go_wp2_with (first | (go_at_call 45;refine (jah _ _ _).mono ?_;rintro e w' ⟨rfl,rfl⟩) | (go_at_call 59;refine (jaM _ _).mono ?_;rintro e w' ⟨rfl,rfl⟩) | go_in);go_ret2;exact ⟨rfl,0,rfl⟩
theorem jh6 (x:Int) (w:World) (hx:chk 9 x=true):Calls Tryz.prog 36 #[.int .i64 9,.int .i64 9,.int .i64 x] w fun e w'=>e=.returned (.tuple #[.int .i64 (cst 9 9 x).1,.int .i64 (cst 9 9 x).2])∧∃ n,w'=w.drewN n:=by
 have c0:isT 9=true:=by decide
 rw [show cst 9 9 x=(x,0) from by simp [cst,hx,c0]];go_enter Tryz.func36,Tryz.ntmps36;go_wp2_with (first | (go_at_call 45;refine (jah _ _ _).mono ?_;rintro e w' ⟨rfl,rfl⟩) | (go_at_call 59;refine (jaM _ _).mono ?_;rintro e w' ⟨rfl,rfl⟩) | go_in);go_ret2;exact ⟨rfl,0,rfl⟩
theorem cast_code (f t x:Int) (w:World):Calls Tryz.prog 36 #[.int .i64 f,.int .i64 t,.int .i64 x] w fun e w'=>e=.returned (.tuple #[.int .i64 (cst f t x).1,.int .i64 (cst f t x).2])∧∃ n,w'=w.drewN n:=by
 cases hx:chk f x with
 | false=>rw [show cst f t x=(0,1) from by simp [cst,hx]];exact jfg f t x w (.inl hx)
 | true =>
  cases ht:isT t with
  | false=>rw [show cst f t x=(0,1) from by simp [cst,ht]];exact jfg f t x w (.inr ⟨hx,ht⟩)
  | true =>
   rcases ja4 f x hx with rfl | rfl | rfl | rfl <;> rcases joH t ht with rfl | rfl | rfl | rfl
   ·exact jhR x w hx
   ·exact jhS x w hx
   ·exact jhT x w hx
   ·exact jhU x w hx
   ·exact jhV x w hx
   ·exact jhW x w hx
   ·exact jhX x w hx
   ·exact jhY x w hx
   ·exact jhZ x w hx
   ·exact jh0 x w hx
   ·exact jh1 x w hx
   ·exact jh2 x w hx
   ·exact jh3 x w hx
   ·exact jh4 x w hx
   ·exact jh5 x w hx
   ·exact jh6 x w hx
end Go.Proofs.YteigfipgmghgmaaGreatDoor.Nu
