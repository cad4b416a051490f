/- A part. -/
import Derived.Test.YtekocmdfaaoggaaGreatDoorTartAS
import Derived.Test.YtekocmdfaaoggaaGreatDoorTartAR
set_option maxHeartbeats 400000
namespace Go.Proofs.YtekocmdfaaoggaaGreatDoor.Nu
open Go.RowKit
theorem chk_types (t x:Int) (h:chk t x=true):t=1∨t=6∨t=7∨t=9:=by
 unfold chk at h
 split at h
 ·omega
 ·split at h
  ·omega
  ·split at h
   ·omega
   ·split at h
    ·omega
    ·cases h
theorem jqm (x:Int) (h:chk 9 x=true):x=0∨x=1:=by simpa [chk] using h
theorem jcb (k:Nat) (t x y:Int) (h:chk t x=false):bin k t x y=(0,1):=by simp [bin,h]
theorem jcc (k:Nat) (t x y:Int) (h:chk t y=false):bin k t x y=(0,1):=by simp [bin,h]
theorem jey (k:Nat) (x y:Int) (hx:chk 1 x=true) (hy:chk 1 y=true):bin k 1 x y=jrn k (fb x) (fb y):=by simp [bin,hx,hy]
theorem jez (k:Nat) (x y:Int) (hx:chk 6 x=true) (hy:chk 6 y=true):bin k 6 x y=je3 k 6 x y:=by simp [bin,hx,hy]
theorem jeA (k:Nat) (x y:Int) (hx:chk 7 x=true) (hy:chk 7 y=true):bin k 7 x y=je3 k 7 x y:=by simp [bin,hx,hy]
theorem jeB (k:Nat) (x y:Int) (hx:chk 9 x=true) (hy:chk 9 y=true):bin k 9 x y=jc2 k x y:=by simp [bin,hx,hy]
theorem jf3 (t x y:Int) (w:World) (h:chk t x=false∨chk t x=true∧chk t y=false):Calls Tryz.prog 50 #[.string ⟨#[65,100,100]⟩,.int .i64 t,.int .i64 x,.int .i64 y] w fun e w'=>e=.returned (.tuple #[.int .i64 0,.int .i64 1])∧∃ n,w'=w.drewN n:=by
 rcases h with hx | ⟨hx,hy⟩
 all_goals
  go_enter Tryz.func50,Tryz.ntmps50;go_wp2_with (first | (go_at_call 42;refine (check_any _ _ _).mono ?_;rintro e w' ⟨rfl,rfl⟩));go_ret2;exact ⟨rfl,0,rfl⟩
theorem jlJ (x y:Int) (w:World) (hx:chk 1 x=true) (hy:chk 1 y=true):Calls Tryz.prog 50 #[.string ⟨#[65,100,100]⟩,.int .i64 1,.int .i64 x,.int .i64 y] w fun e w'=>e=.returned (.tuple #[.int .i64 (bin 0 1 x y).1,.int .i64 (bin 0 1 x y).2])∧∃ n,w'=w.drewN n:=by
 rw [jey 0 x y hx hy];go_enter Tryz.func50,Tryz.ntmps50;go_wp2_with (first | (go_at_call 42;refine (check_any _ _ _).mono ?_;rintro e w' ⟨rfl,rfl⟩) | (go_at_call 53;refine (ja2 _ _).mono ?_;rintro e w' ⟨rfl,rfl⟩) | (go_at_call 77;refine (add_f _ _ _).mono ?_;rintro e w' ⟨rfl,n,rfl⟩));go_ret2;exact ⟨rfl,_,rfl⟩
theorem jlK (x y:Int) (w:World) (hx:chk 6 x=true) (hy:chk 6 y=true):Calls Tryz.prog 50 #[.string ⟨#[65,100,100]⟩,.int .i64 6,.int .i64 x,.int .i64 y] w fun e w'=>e=.returned (.tuple #[.int .i64 (bin 0 6 x y).1,.int .i64 (bin 0 6 x y).2])∧∃ n,w'=w.drewN n:=by
 rw [jez 0 x y hx hy];go_enter Tryz.func50,Tryz.ntmps50;go_wp2_with (first | (go_at_call 42;refine (check_any _ _ _).mono ?_;rintro e w' ⟨rfl,rfl⟩) | (go_at_call 78;refine (jpA _ _ _ _).mono ?_;rintro e w' ⟨rfl,rfl⟩));go_ret2;exact ⟨rfl,0,rfl⟩
theorem jlL (x y:Int) (w:World) (hx:chk 7 x=true) (hy:chk 7 y=true):Calls Tryz.prog 50 #[.string ⟨#[65,100,100]⟩,.int .i64 7,.int .i64 x,.int .i64 y] w fun e w'=>e=.returned (.tuple #[.int .i64 (bin 0 7 x y).1,.int .i64 (bin 0 7 x y).2])∧∃ n,w'=w.drewN n:=by
 rw [jeA 0 x y hx hy];go_enter Tryz.func50,Tryz.ntmps50;go_wp2_with (first | (go_at_call 42;refine (check_any _ _ _).mono ?_;rintro e w' ⟨rfl,rfl⟩) | (go_at_call 78;refine (jpA _ _ _ _).mono ?_;rintro e w' ⟨rfl,rfl⟩));go_ret2;exact ⟨rfl,0,rfl⟩
theorem jlM (x y:Int) (w:World) (hx:chk 9 x=true) (hy:chk 9 y=true):Calls Tryz.prog 50 #[.string ⟨#[65,100,100]⟩,.int .i64 9,.int .i64 x,.int .i64 y] w fun e w'=>e=.returned (.tuple #[.int .i64 (bin 0 9 x y).1,.int .i64 (bin 0 9 x y).2])∧∃ n,w'=w.drewN n:=by
 rw [jeB 0 x y hx hy];go_enter Tryz.func50,Tryz.ntmps50;go_wp2_with (first | (go_at_call 42;refine (check_any _ _ _).mono ?_;rintro e w' ⟨rfl,rfl⟩) | (go_at_call 79;refine (jqg _ _ _).mono ?_;rintro e w' ⟨rfl,rfl⟩));go_ret2;exact ⟨rfl,0,rfl⟩
theorem binary0 (t x y:Int) (w:World):Calls Tryz.prog 50 #[.string ⟨#[65,100,100]⟩,.int .i64 t,.int .i64 x,.int .i64 y] w fun e w'=>e=.returned (.tuple #[.int .i64 (bin 0 t x y).1,.int .i64 (bin 0 t x y).2])∧∃ n,w'=w.drewN n:=by
 cases hx:chk t x with
 | false=>rw [jcb 0 t x y hx];exact jf3 t x y w (.inl hx)
 | true =>
  cases hy:chk t y with
  | false=>rw [jcc 0 t x y hy];exact jf3 t x y w (.inr ⟨hx,hy⟩)
  | true =>
   rcases chk_types t x hx with rfl | rfl | rfl | rfl
   ·exact jlJ x y w hx hy
   ·exact jlK x y w hx hy
   ·exact jlL x y w hx hy
   ·exact jlM x y w hx hy
theorem jf4 (t x y:Int) (w:World) (h:chk t x=false∨chk t x=true∧chk t y=false):Calls Tryz.prog 50 #[.string ⟨#[83,117,98]⟩,.int .i64 t,.int .i64 x,.int .i64 y] w fun e w'=>e=.returned (.tuple #[.int .i64 0,.int .i64 1])∧∃ n,w'=w.drewN n:=by
 rcases h with hx | ⟨hx,hy⟩
 all_goals
  go_enter Tryz.func50,Tryz.ntmps50;go_wp2_with (first | (go_at_call 42;refine (check_any _ _ _).mono ?_;rintro e w' ⟨rfl,rfl⟩));go_ret2;exact ⟨rfl,0,rfl⟩
theorem jlN (x y:Int) (w:World) (hx:chk 1 x=true) (hy:chk 1 y=true):Calls Tryz.prog 50 #[.string ⟨#[83,117,98]⟩,.int .i64 1,.int .i64 x,.int .i64 y] w fun e w'=>e=.returned (.tuple #[.int .i64 (bin 1 1 x y).1,.int .i64 (bin 1 1 x y).2])∧∃ n,w'=w.drewN n:=by
 rw [jey 1 x y hx hy];go_enter Tryz.func50,Tryz.ntmps50;go_wp2_with (first | (go_at_call 42;refine (check_any _ _ _).mono ?_;rintro e w' ⟨rfl,rfl⟩) | (go_at_call 53;refine (ja2 _ _).mono ?_;rintro e w' ⟨rfl,rfl⟩) | (go_at_call 77;refine (sub_f _ _ _).mono ?_;rintro e w' ⟨rfl,n,rfl⟩));go_ret2;exact ⟨rfl,_,rfl⟩
theorem jlO (x y:Int) (w:World) (hx:chk 6 x=true) (hy:chk 6 y=true):Calls Tryz.prog 50 #[.string ⟨#[83,117,98]⟩,.int .i64 6,.int .i64 x,.int .i64 y] w fun e w'=>e=.returned (.tuple #[.int .i64 (bin 1 6 x y).1,.int .i64 (bin 1 6 x y).2])∧∃ n,w'=w.drewN n:=by
 rw [jez 1 x y hx hy];go_enter Tryz.func50,Tryz.ntmps50;go_wp2_with (first | (go_at_call 42;refine (check_any _ _ _).mono ?_;rintro e w' ⟨rfl,rfl⟩) | (go_at_call 78;refine (jpB _ _ _ _).mono ?_;rintro e w' ⟨rfl,rfl⟩));go_ret2;exact ⟨rfl,0,rfl⟩
theorem jlP (x y:Int) (w:World) (hx:chk 7 x=true) (hy:chk 7 y=true):Calls Tryz.prog 50 #[.string ⟨#[83,117,98]⟩,.int .i64 7,.int .i64 x,.int .i64 y] w fun e w'=>e=.returned (.tuple #[.int .i64 (bin 1 7 x y).1,.int .i64 (bin 1 7 x y).2])∧∃ n,w'=w.drewN n:=by
 rw [jeA 1 x y hx hy];go_enter Tryz.func50,Tryz.ntmps50;go_wp2_with (first | (go_at_call 42;refine (check_any _ _ _).mono ?_;rintro e w' ⟨rfl,rfl⟩) | (go_at_call 78;refine (jpB _ _ _ _).mono ?_;rintro e w' ⟨rfl,rfl⟩));go_ret2;exact ⟨rfl,0,rfl⟩
theorem jlQ (x y:Int) (w:World) (hx:chk 9 x=true) (hy:chk 9 y=true):Calls Tryz.prog 50 #[.string ⟨#[83,117,98]⟩,.int .i64 9,.int .i64 x,.int .i64 y] w fun e w'=>e=.returned (.tuple #[.int .i64 (bin 1 9 x y).1,.int .i64 (bin 1 9 x y).2])∧∃ n,w'=w.drewN n:=by
 rw [jeB 1 x y hx hy];go_enter Tryz.func50,Tryz.ntmps50;go_wp2_with (first | (go_at_call 42;refine (check_any _ _ _).mono ?_;rintro e w' ⟨rfl,rfl⟩) | (go_at_call 79;refine (jqh _ _ _).mono ?_;rintro e w' ⟨rfl,rfl⟩));go_ret2;exact ⟨rfl,0,rfl⟩
theorem binary1 (t x y:Int) (w:World):Calls Tryz.prog 50 #[.string ⟨#[83,117,98]⟩,.int .i64 t,.int .i64 x,.int .i64 y] w fun e w'=>e=.returned (.tuple #[.int .i64 (bin 1 t x y).1,.int .i64 (bin 1 t x y).2])∧∃ n,w'=w.drewN n:=by
 cases hx:chk t x with
 | false=>rw [jcb 1 t x y hx];exact jf4 t x y w (.inl hx)
 | true =>
  cases hy:chk t y with
  | false=>rw [jcc 1 t x y hy];exact jf4 t x y w (.inr ⟨hx,hy⟩)
  | true =>
   rcases chk_types t x hx with rfl | rfl | rfl | rfl
   ·exact jlN x y w hx hy
   ·exact jlO x y w hx hy
   ·exact jlP x y w hx hy
   ·exact jlQ x y w hx hy
theorem jf5 (t x y:Int) (w:World) (h:chk t x=false∨chk t x=true∧chk t y=false):Calls Tryz.prog 50 #[.string ⟨#[77,117,108]⟩,.int .i64 t,.int .i64 x,.int .i64 y] w fun e w'=>e=.returned (.tuple #[.int .i64 0,.int .i64 1])∧∃ n,w'=w.drewN n:=by
 rcases h with hx | ⟨hx,hy⟩
 all_goals
  go_enter Tryz.func50,Tryz.ntmps50;go_wp2_with (first | (go_at_call 42;refine (check_any _ _ _).mono ?_;rintro e w' ⟨rfl,rfl⟩));go_ret2;exact ⟨rfl,0,rfl⟩
theorem jlR (x y:Int) (w:World) (hx:chk 1 x=true) (hy:chk 1 y=true):Calls Tryz.prog 50 #[.string ⟨#[77,117,108]⟩,.int .i64 1,.int .i64 x,.int .i64 y] w fun e w'=>e=.returned (.tuple #[.int .i64 (bin 2 1 x y).1,.int .i64 (bin 2 1 x y).2])∧∃ n,w'=w.drewN n:=by
 rw [jey 2 x y hx hy];go_enter Tryz.func50,Tryz.ntmps50;go_wp2_with (first | (go_at_call 42;refine (check_any _ _ _).mono ?_;rintro e w' ⟨rfl,rfl⟩) | (go_at_call 53;refine (ja2 _ _).mono ?_;rintro e w' ⟨rfl,rfl⟩) | (go_at_call 77;refine (mul_f _ _ _).mono ?_;rintro e w' ⟨rfl,n,rfl⟩));go_ret2;exact ⟨rfl,_,rfl⟩
theorem jlS (x y:Int) (w:World) (hx:chk 6 x=true) (hy:chk 6 y=true):Calls Tryz.prog 50 #[.string ⟨#[77,117,108]⟩,.int .i64 6,.int .i64 x,.int .i64 y] w fun e w'=>e=.returned (.tuple #[.int .i64 (bin 2 6 x y).1,.int .i64 (bin 2 6 x y).2])∧∃ n,w'=w.drewN n:=by
 rw [jez 2 x y hx hy];go_enter Tryz.func50,Tryz.ntmps50;go_wp2_with (first | (go_at_call 42;refine (check_any _ _ _).mono ?_;rintro e w' ⟨rfl,rfl⟩) | (go_at_call 78;refine (jpC _ _ _ _).mono ?_;rintro e w' ⟨rfl,rfl⟩));go_ret2;exact ⟨rfl,0,rfl⟩
theorem jlT (x y:Int) (w:World) (hx:chk 7 x=true) (hy:chk 7 y=true):Calls Tryz.prog 50 #[.string ⟨#[77,117,108]⟩,.int .i64 7,.int .i64 x,.int .i64 y] w fun e w'=>e=.returned (.tuple #[.int .i64 (bin 2 7 x y).1,.int .i64 (bin 2 7 x y).2])∧∃ n,w'=w.drewN n:=by
 rw [jeA 2 x y hx hy];go_enter Tryz.func50,Tryz.ntmps50;go_wp2_with (first | (go_at_call 42;refine (check_any _ _ _).mono ?_;rintro e w' ⟨rfl,rfl⟩) | (go_at_call 78;refine (jpC _ _ _ _).mono ?_;rintro e w' ⟨rfl,rfl⟩));go_ret2;exact ⟨rfl,0,rfl⟩
theorem jlU (x y:Int) (w:World) (hx:chk 9 x=true) (hy:chk 9 y=true):Calls Tryz.prog 50 #[.string ⟨#[77,117,108]⟩,.int .i64 9,.int .i64 x,.int .i64 y] w fun e w'=>e=.returned (.tuple #[.int .i64 (bin 2 9 x y).1,.int .i64 (bin 2 9 x y).2])∧∃ n,w'=w.drewN n:=by
 rw [jeB 2 x y hx hy];go_enter Tryz.func50,Tryz.ntmps50;go_wp2_with (first | (go_at_call 42;refine (check_any _ _ _).mono ?_;rintro e w' ⟨rfl,rfl⟩) | (go_at_call 79;refine (jqi _ _ _).mono ?_;rintro e w' ⟨rfl,rfl⟩));go_ret2;exact ⟨rfl,0,rfl⟩
theorem binary2 (t x y:Int) (w:World):Calls Tryz.prog 50 #[.string ⟨#[77,117,108]⟩,.int .i64 t,.int .i64 x,.int .i64 y] w fun e w'=>e=.returned (.tuple #[.int .i64 (bin 2 t x y).1,.int .i64 (bin 2 t x y).2])∧∃ n,w'=w.drewN n:=by
 cases hx:chk t x with
 | false=>rw [jcb 2 t x y hx];exact jf5 t x y w (.inl hx)
 | true =>
  cases hy:chk t y with
  | false=>rw [jcc 2 t x y hy];exact jf5 t x y w (.inr ⟨hx,hy⟩)
  | true =>
   rcases chk_types t x hx with rfl | rfl | rfl | rfl
   ·exact jlR x y w hx hy
   ·exact jlS x y w hx hy
   ·exact jlT x y w hx hy
   ·exact jlU x y w hx hy
theorem jf6 (t x y:Int) (w:World) (h:chk t x=false∨chk t x=true∧chk t y=false):Calls Tryz.prog 50 #[.string ⟨#[68,105,118]⟩,.int .i64 t,.int .i64 x,.int .i64 y] w fun e w'=>e=.returned (.tuple #[.int .i64 0,.int .i64 1])∧∃ n,w'=w.drewN n:=by
 rcases h with hx | ⟨hx,hy⟩
 all_goals
  go_enter Tryz.func50,Tryz.ntmps50;go_wp2_with (first | (go_at_call 42;refine (check_any _ _ _).mono ?_;rintro e w' ⟨rfl,rfl⟩));go_ret2;exact ⟨rfl,0,rfl⟩
theorem jlV (x y:Int) (w:World) (hx:chk 1 x=true) (hy:chk 1 y=true):Calls Tryz.prog 50 #[.string ⟨#[68,105,118]⟩,.int .i64 1,.int .i64 x,.int .i64 y] w fun e w'=>e=.returned (.tuple #[.int .i64 (bin 3 1 x y).1,.int .i64 (bin 3 1 x y).2])∧∃ n,w'=w.drewN n:=by
 rw [jey 3 x y hx hy];go_enter Tryz.func50,Tryz.ntmps50;go_wp2_with (first | (go_at_call 42;refine (check_any _ _ _).mono ?_;rintro e w' ⟨rfl,rfl⟩) | (go_at_call 53;refine (ja2 _ _).mono ?_;rintro e w' ⟨rfl,rfl⟩) | (go_at_call 77;refine (div_f _ _ _).mono ?_;rintro e w' ⟨rfl,n,rfl⟩));go_ret2;exact ⟨rfl,_,rfl⟩
theorem jlW (x y:Int) (w:World) (hx:chk 6 x=true) (hy:chk 6 y=true):Calls Tryz.prog 50 #[.string ⟨#[68,105,118]⟩,.int .i64 6,.int .i64 x,.int .i64 y] w fun e w'=>e=.returned (.tuple #[.int .i64 (bin 3 6 x y).1,.int .i64 (bin 3 6 x y).2])∧∃ n,w'=w.drewN n:=by
 rw [jez 3 x y hx hy]
 cases h0:(y==0) with
 | true =>
  have e0:je3 3 6 x y=(0,7):=by simp at h0;simp [je3,h0]
  rw [e0];clear e0;go_enter Tryz.func50,Tryz.ntmps50;go_wp2_with (first | (go_at_call 42;refine (check_any _ _ _).mono ?_;rintro e w' ⟨rfl,rfl⟩) | (go_at_call 78;refine (jlG _ _ _ _ h0).mono ?_;rintro e w' ⟨rfl,rfl⟩));go_ret2;exact ⟨rfl,0,rfl⟩
 | false =>
  have e0:je3 3 6 x y=(wrapT 6 (wrap64 (x.tdiv y)),0):=by simp at h0;simp [je3,h0]
  rw [e0];clear e0;go_enter Tryz.func50,Tryz.ntmps50;go_wp2_with (first | (go_at_call 42;refine (check_any _ _ _).mono ?_;rintro e w' ⟨rfl,rfl⟩) | (go_at_call 78;refine (jjp _ _ _ _ h0).mono ?_;rintro e w' ⟨rfl,rfl⟩));go_ret2;exact ⟨rfl,0,rfl⟩
theorem jlX (x y:Int) (w:World) (hx:chk 7 x=true) (hy:chk 7 y=true):Calls Tryz.prog 50 #[.string ⟨#[68,105,118]⟩,.int .i64 7,.int .i64 x,.int .i64 y] w fun e w'=>e=.returned (.tuple #[.int .i64 (bin 3 7 x y).1,.int .i64 (bin 3 7 x y).2])∧∃ n,w'=w.drewN n:=by
 rw [jeA 3 x y hx hy]
 cases h0:(y==0) with
 | true =>
  have e0:je3 3 7 x y=(0,7):=by simp at h0;simp [je3,h0]
  rw [e0];clear e0;go_enter Tryz.func50,Tryz.ntmps50;go_wp2_with (first | (go_at_call 42;refine (check_any _ _ _).mono ?_;rintro e w' ⟨rfl,rfl⟩) | (go_at_call 78;refine (jlG _ _ _ _ h0).mono ?_;rintro e w' ⟨rfl,rfl⟩));go_ret2;exact ⟨rfl,0,rfl⟩
 | false =>
  have e0:je3 3 7 x y=(wrapT 7 (wrap64 (x.tdiv y)),0):=by simp at h0;simp [je3,h0]
  rw [e0];clear e0;go_enter Tryz.func50,Tryz.ntmps50;go_wp2_with (first | (go_at_call 42;refine (check_any _ _ _).mono ?_;rintro e w' ⟨rfl,rfl⟩) | (go_at_call 78;refine (jjp _ _ _ _ h0).mono ?_;rintro e w' ⟨rfl,rfl⟩));go_ret2;exact ⟨rfl,0,rfl⟩
theorem jlY (x y:Int) (w:World) (hx:chk 9 x=true) (hy:chk 9 y=true):Calls Tryz.prog 50 #[.string ⟨#[68,105,118]⟩,.int .i64 9,.int .i64 x,.int .i64 y] w fun e w'=>e=.returned (.tuple #[.int .i64 (bin 3 9 x y).1,.int .i64 (bin 3 9 x y).2])∧∃ n,w'=w.drewN n:=by
 rw [jeB 3 x y hx hy];go_enter Tryz.func50,Tryz.ntmps50;go_wp2_with (first | (go_at_call 42;refine (check_any _ _ _).mono ?_;rintro e w' ⟨rfl,rfl⟩) | (go_at_call 79;refine (jqj _ _ _).mono ?_;rintro e w' ⟨rfl,rfl⟩));go_ret2;exact ⟨rfl,0,rfl⟩
theorem binary3 (t x y:Int) (w:World):Calls Tryz.prog 50 #[.string ⟨#[68,105,118]⟩,.int .i64 t,.int .i64 x,.int .i64 y] w fun e w'=>e=.returned (.tuple #[.int .i64 (bin 3 t x y).1,.int .i64 (bin 3 t x y).2])∧∃ n,w'=w.drewN n:=by
 cases hx:chk t x with
 | false=>rw [jcb 3 t x y hx];exact jf6 t x y w (.inl hx)
 | true =>
  cases hy:chk t y with
  | false=>rw [jcc 3 t x y hy];exact jf6 t x y w (.inr ⟨hx,hy⟩)
  | true =>
   rcases chk_types t x hx with rfl | rfl | rfl | rfl
   ·exact jlV x y w hx hy
   ·exact jlW x y w hx hy
   ·exact jlX x y w hx hy
   ·exact jlY x y w hx hy
theorem jf7 (t x y:Int) (w:World) (h:chk t x=false∨chk t x=true∧chk t y=false):Calls Tryz.prog 50 #[.string ⟨#[77,97,120]⟩,.int .i64 t,.int .i64 x,.int .i64 y] w fun e w'=>e=.returned (.tuple #[.int .i64 0,.int .i64 1])∧∃ n,w'=w.drewN n:=by
 rcases h with hx | ⟨hx,hy⟩
 all_goals
  go_enter Tryz.func50,Tryz.ntmps50;go_wp2_with (first | (go_at_call 42;refine (check_any _ _ _).mono ?_;rintro e w' ⟨rfl,rfl⟩));go_ret2;exact ⟨rfl,0,rfl⟩
theorem jlZ (x y:Int) (w:World) (hx:chk 1 x=true) (hy:chk 1 y=true):Calls Tryz.prog 50 #[.string ⟨#[77,97,120]⟩,.int .i64 1,.int .i64 x,.int .i64 y] w fun e w'=>e=.returned (.tuple #[.int .i64 (bin 4 1 x y).1,.int .i64 (bin 4 1 x y).2])∧∃ n,w'=w.drewN n:=by
 rw [jey 4 x y hx hy];go_enter Tryz.func50,Tryz.ntmps50;go_wp2_with (first | (go_at_call 42;refine (check_any _ _ _).mono ?_;rintro e w' ⟨rfl,rfl⟩) | (go_at_call 53;refine (ja2 _ _).mono ?_;rintro e w' ⟨rfl,rfl⟩) | (go_at_call 77;refine (max_f _ _ _ (fb_lt _) (fb_lt _)).mono ?_;rintro e w' ⟨rfl,n,rfl⟩));go_ret2;exact ⟨rfl,_,rfl⟩
theorem jl0 (x y:Int) (w:World) (hx:chk 6 x=true) (hy:chk 6 y=true):Calls Tryz.prog 50 #[.string ⟨#[77,97,120]⟩,.int .i64 6,.int .i64 x,.int .i64 y] w fun e w'=>e=.returned (.tuple #[.int .i64 (bin 4 6 x y).1,.int .i64 (bin 4 6 x y).2])∧∃ n,w'=w.drewN n:=by
 rw [jez 4 x y hx hy];go_enter Tryz.func50,Tryz.ntmps50;go_wp2_with (first | (go_at_call 42;refine (check_any _ _ _).mono ?_;rintro e w' ⟨rfl,rfl⟩) | (go_at_call 78;refine (jpD _ _ _ _).mono ?_;rintro e w' ⟨rfl,rfl⟩));go_ret2;exact ⟨rfl,0,rfl⟩
theorem jl1 (x y:Int) (w:World) (hx:chk 7 x=true) (hy:chk 7 y=true):Calls Tryz.prog 50 #[.string ⟨#[77,97,120]⟩,.int .i64 7,.int .i64 x,.int .i64 y] w fun e w'=>e=.returned (.tuple #[.int .i64 (bin 4 7 x y).1,.int .i64 (bin 4 7 x y).2])∧∃ n,w'=w.drewN n:=by
 rw [jeA 4 x y hx hy];go_enter Tryz.func50,Tryz.ntmps50;go_wp2_with (first | (go_at_call 42;refine (check_any _ _ _).mono ?_;rintro e w' ⟨rfl,rfl⟩) | (go_at_call 78;refine (jpD _ _ _ _).mono ?_;rintro e w' ⟨rfl,rfl⟩));go_ret2;exact ⟨rfl,0,rfl⟩
theorem jl2 (x y:Int) (w:World) (hx:chk 9 x=true) (hy:chk 9 y=true):Calls Tryz.prog 50 #[.string ⟨#[77,97,120]⟩,.int .i64 9,.int .i64 x,.int .i64 y] w fun e w'=>e=.returned (.tuple #[.int .i64 (bin 4 9 x y).1,.int .i64 (bin 4 9 x y).2])∧∃ n,w'=w.drewN n:=by
 rw [jeB 4 x y hx hy];go_enter Tryz.func50,Tryz.ntmps50;go_wp2_with (first | (go_at_call 42;refine (check_any _ _ _).mono ?_;rintro e w' ⟨rfl,rfl⟩) | (go_at_call 79;refine (jqk _ _ _).mono ?_;rintro e w' ⟨rfl,rfl⟩));go_ret2;exact ⟨rfl,0,rfl⟩
theorem binary4 (t x y:Int) (w:World):Calls Tryz.prog 50 #[.string ⟨#[77,97,120]⟩,.int .i64 t,.int .i64 x,.int .i64 y] w fun e w'=>e=.returned (.tuple #[.int .i64 (bin 4 t x y).1,.int .i64 (bin 4 t x y).2])∧∃ n,w'=w.drewN n:=by
 cases hx:chk t x with
 | false=>rw [jcb 4 t x y hx];exact jf7 t x y w (.inl hx)
 | true =>
  cases hy:chk t y with
  | false=>rw [jcc 4 t x y hy];exact jf7 t x y w (.inr ⟨hx,hy⟩)
  | true =>
   rcases chk_types t x hx with rfl | rfl | rfl | rfl
   ·exact jlZ x y w hx hy
   ·exact jl0 x y w hx hy
   ·exact jl1 x y w hx hy
   ·exact jl2 x y w hx hy
theorem jf8 (t x y:Int) (w:World) (h:chk t x=false∨chk t x=true∧chk t y=false):Calls Tryz.prog 50 #[.string ⟨#[77,105,110]⟩,.int .i64 t,.int .i64 x,.int .i64 y] w fun e w'=>e=.returned (.tuple #[.int .i64 0,.int .i64 1])∧∃ n,w'=w.drewN n:=by
 rcases h with hx | ⟨hx,hy⟩
 all_goals
  go_enter Tryz.func50,Tryz.ntmps50;go_wp2_with (first | (go_at_call 42;refine (check_any _ _ _).mono ?_;rintro e w' ⟨rfl,rfl⟩));go_ret2;exact ⟨rfl,0,rfl⟩
theorem jl3 (x y:Int) (w:World) (hx:chk 1 x=true) (hy:chk 1 y=true):Calls Tryz.prog 50 #[.string ⟨#[77,105,110]⟩,.int .i64 1,.int .i64 x,.int .i64 y] w fun e w'=>e=.returned (.tuple #[.int .i64 (bin 5 1 x y).1,.int .i64 (bin 5 1 x y).2])∧∃ n,w'=w.drewN n:=by
 rw [jey 5 x y hx hy];go_enter Tryz.func50,Tryz.ntmps50;go_wp2_with (first | (go_at_call 42;refine (check_any _ _ _).mono ?_;rintro e w' ⟨rfl,rfl⟩) | (go_at_call 53;refine (ja2 _ _).mono ?_;rintro e w' ⟨rfl,rfl⟩) | (go_at_call 77;refine (min_f _ _ _ (fb_lt _) (fb_lt _)).mono ?_;rintro e w' ⟨rfl,n,rfl⟩));go_ret2;exact ⟨rfl,_,rfl⟩
theorem jl4 (x y:Int) (w:World) (hx:chk 6 x=true) (hy:chk 6 y=true):Calls Tryz.prog 50 #[.string ⟨#[77,105,110]⟩,.int .i64 6,.int .i64 x,.int .i64 y] w fun e w'=>e=.returned (.tuple #[.int .i64 (bin 5 6 x y).1,.int .i64 (bin 5 6 x y).2])∧∃ n,w'=w.drewN n:=by
 rw [jez 5 x y hx hy];go_enter Tryz.func50,Tryz.ntmps50;go_wp2_with (first | (go_at_call 42;refine (check_any _ _ _).mono ?_;rintro e w' ⟨rfl,rfl⟩) | (go_at_call 78;refine (jpE _ _ _ _).mono ?_;rintro e w' ⟨rfl,rfl⟩));go_ret2;exact ⟨rfl,0,rfl⟩
theorem jl5 (x y:Int) (w:World) (hx:chk 7 x=true) (hy:chk 7 y=true):Calls Tryz.prog 50 #[.string ⟨#[77,105,110]⟩,.int .i64 7,.int .i64 x,.int .i64 y] w fun e w'=>e=.returned (.tuple #[.int .i64 (bin 5 7 x y).1,.int .i64 (bin 5 7 x y).2])∧∃ n,w'=w.drewN n:=by
 rw [jeA 5 x y hx hy];go_enter Tryz.func50,Tryz.ntmps50;go_wp2_with (first | (go_at_call 42;refine (check_any _ _ _).mono ?_;rintro e w' ⟨rfl,rfl⟩) | (go_at_call 78;refine (jpE _ _ _ _).mono ?_;rintro e w' ⟨rfl,rfl⟩));go_ret2;exact ⟨rfl,0,rfl⟩
theorem jl6 (x y:Int) (w:World) (hx:chk 9 x=true) (hy:chk 9 y=true):Calls Tryz.prog 50 #[.string ⟨#[77,105,110]⟩,.int .i64 9,.int .i64 x,.int .i64 y] w fun e w'=>e=.returned (.tuple #[.int .i64 (bin 5 9 x y).1,.int .i64 (bin 5 9 x y).2])∧∃ n,w'=w.drewN n:=by
 rw [jeB 5 x y hx hy];go_enter Tryz.func50,Tryz.ntmps50;go_wp2_with (first | (go_at_call 42;refine (check_any _ _ _).mono ?_;rintro e w' ⟨rfl,rfl⟩) | (go_at_call 79;refine (jql _ _ _).mono ?_;rintro e w' ⟨rfl,rfl⟩));go_ret2;exact ⟨rfl,0,rfl⟩
theorem binary5 (t x y:Int) (w:World):Calls Tryz.prog 50 #[.string ⟨#[77,105,110]⟩,.int .i64 t,.int .i64 x,.int .i64 y] w fun e w'=>e=.returned (.tuple #[.int .i64 (bin 5 t x y).1,.int .i64 (bin 5 t x y).2])∧∃ n,w'=w.drewN n:=by
 cases hx:chk t x with
 | false=>rw [jcb 5 t x y hx];exact jf8 t x y w (.inl hx)
 | true =>
  cases hy:chk t y with
  | false=>rw [jcc 5 t x y hy];exact jf8 t x y w (.inr ⟨hx,hy⟩)
  | true =>
   rcases chk_types t x hx with rfl | rfl | rfl | rfl
   ·exact jl3 x y w hx hy
   ·exact jl4 x y w hx hy
   ·exact jl5 x y w hx hy
   ·exact jl6 x y w hx hy
theorem jf9 (t x y:Int) (w:World) (h:chk t x=false∨chk t x=true∧chk t y=false):Calls Tryz.prog 50 #[.string ⟨#[65,110,100]⟩,.int .i64 t,.int .i64 x,.int .i64 y] w fun e w'=>e=.returned (.tuple #[.int .i64 0,.int .i64 1])∧∃ n,w'=w.drewN n:=by
 rcases h with hx | ⟨hx,hy⟩
 all_goals
  go_enter Tryz.func50,Tryz.ntmps50;go_wp2_with (first | (go_at_call 42;refine (check_any _ _ _).mono ?_;rintro e w' ⟨rfl,rfl⟩));go_ret2;exact ⟨rfl,0,rfl⟩
theorem jl7 (x y:Int) (w:World) (hx:chk 1 x=true) (hy:chk 1 y=true):Calls Tryz.prog 50 #[.string ⟨#[65,110,100]⟩,.int .i64 1,.int .i64 x,.int .i64 y] w fun e w'=>e=.returned (.tuple #[.int .i64 (bin 6 1 x y).1,.int .i64 (bin 6 1 x y).2])∧∃ n,w'=w.drewN n:=by
 rw [jey 6 x y hx hy];go_enter Tryz.func50,Tryz.ntmps50;go_wp2_with (first | (go_at_call 42;refine (check_any _ _ _).mono ?_;rintro e w' ⟨rfl,rfl⟩) | (go_at_call 53;refine (ja2 _ _).mono ?_;rintro e w' ⟨rfl,rfl⟩) | (go_at_call 77;refine (no6_f _ _ _).mono ?_;rintro e w' ⟨rfl,n,rfl⟩));go_ret2;exact ⟨rfl,_,rfl⟩
theorem jl8 (x y:Int) (w:World) (hx:chk 6 x=true) (hy:chk 6 y=true):Calls Tryz.prog 50 #[.string ⟨#[65,110,100]⟩,.int .i64 6,.int .i64 x,.int .i64 y] w fun e w'=>e=.returned (.tuple #[.int .i64 (bin 6 6 x y).1,.int .i64 (bin 6 6 x y).2])∧∃ n,w'=w.drewN n:=by
 rw [jez 6 x y hx hy];go_enter Tryz.func50,Tryz.ntmps50;go_wp2_with (first | (go_at_call 42;refine (check_any _ _ _).mono ?_;rintro e w' ⟨rfl,rfl⟩) | (go_at_call 78;refine (jpG _ _ _ _).mono ?_;rintro e w' ⟨rfl,rfl⟩));go_ret2;exact ⟨rfl,0,rfl⟩
theorem jl9 (x y:Int) (w:World) (hx:chk 7 x=true) (hy:chk 7 y=true):Calls Tryz.prog 50 #[.string ⟨#[65,110,100]⟩,.int .i64 7,.int .i64 x,.int .i64 y] w fun e w'=>e=.returned (.tuple #[.int .i64 (bin 6 7 x y).1,.int .i64 (bin 6 7 x y).2])∧∃ n,w'=w.drewN n:=by
 rw [jeA 6 x y hx hy];go_enter Tryz.func50,Tryz.ntmps50;go_wp2_with (first | (go_at_call 42;refine (check_any _ _ _).mono ?_;rintro e w' ⟨rfl,rfl⟩) | (go_at_call 78;refine (jpG _ _ _ _).mono ?_;rintro e w' ⟨rfl,rfl⟩));go_ret2;exact ⟨rfl,0,rfl⟩
theorem jma (x y:Int) (w:World) (hx:chk 9 x=true) (hy:chk 9 y=true):Calls Tryz.prog 50 #[.string ⟨#[65,110,100]⟩,.int .i64 9,.int .i64 x,.int .i64 y] w fun e w'=>e=.returned (.tuple #[.int .i64 (bin 6 9 x y).1,.int .i64 (bin 6 9 x y).2])∧∃ n,w'=w.drewN n:=by
 rw [jeB 6 x y hx hy];go_enter Tryz.func50,Tryz.ntmps50;go_wp2_with (first | (go_at_call 42;refine (check_any _ _ _).mono ?_;rintro e w' ⟨rfl,rfl⟩) | (go_at_call 79;refine (jqc _ _ _ (jqm _ hx) (jqm _ hy)).mono ?_;rintro e w' ⟨rfl,rfl⟩));go_ret2;exact ⟨rfl,0,rfl⟩
theorem binary6 (t x y:Int) (w:World):Calls Tryz.prog 50 #[.string ⟨#[65,110,100]⟩,.int .i64 t,.int .i64 x,.int .i64 y] w fun e w'=>e=.returned (.tuple #[.int .i64 (bin 6 t x y).1,.int .i64 (bin 6 t x y).2])∧∃ n,w'=w.drewN n:=by
 cases hx:chk t x with
 | false=>rw [jcb 6 t x y hx];exact jf9 t x y w (.inl hx)
 | true =>
  cases hy:chk t y with
  | false=>rw [jcc 6 t x y hy];exact jf9 t x y w (.inr ⟨hx,hy⟩)
  | true =>
   rcases chk_types t x hx with rfl | rfl | rfl | rfl
   ·exact jl7 x y w hx hy
   ·exact jl8 x y w hx hy
   ·exact jl9 x y w hx hy
   ·exact jma x y w hx hy
theorem jga (t x y:Int) (w:World) (h:chk t x=false∨chk t x=true∧chk t y=false):Calls Tryz.prog 50 #[.string ⟨#[79,114]⟩,.int .i64 t,.int .i64 x,.int .i64 y] w fun e w'=>e=.returned (.tuple #[.int .i64 0,.int .i64 1])∧∃ n,w'=w.drewN n:=by
 rcases h with hx | ⟨hx,hy⟩
 all_goals
  go_enter Tryz.func50,Tryz.ntmps50;go_wp2_with (first | (go_at_call 42;refine (check_any _ _ _).mono ?_;rintro e w' ⟨rfl,rfl⟩));go_ret2;exact ⟨rfl,0,rfl⟩
theorem jmb (x y:Int) (w:World) (hx:chk 1 x=true) (hy:chk 1 y=true):Calls Tryz.prog 50 #[.string ⟨#[79,114]⟩,.int .i64 1,.int .i64 x,.int .i64 y] w fun e w'=>e=.returned (.tuple #[.int .i64 (bin 7 1 x y).1,.int .i64 (bin 7 1 x y).2])∧∃ n,w'=w.drewN n:=by
 rw [jey 7 x y hx hy];go_enter Tryz.func50,Tryz.ntmps50;go_wp2_with (first | (go_at_call 42;refine (check_any _ _ _).mono ?_;rintro e w' ⟨rfl,rfl⟩) | (go_at_call 53;refine (ja2 _ _).mono ?_;rintro e w' ⟨rfl,rfl⟩) | (go_at_call 77;refine (no7_f _ _ _).mono ?_;rintro e w' ⟨rfl,n,rfl⟩));go_ret2;exact ⟨rfl,_,rfl⟩
theorem jmc (x y:Int) (w:World) (hx:chk 6 x=true) (hy:chk 6 y=true):Calls Tryz.prog 50 #[.string ⟨#[79,114]⟩,.int .i64 6,.int .i64 x,.int .i64 y] w fun e w'=>e=.returned (.tuple #[.int .i64 (bin 7 6 x y).1,.int .i64 (bin 7 6 x y).2])∧∃ n,w'=w.drewN n:=by
 rw [jez 7 x y hx hy];go_enter Tryz.func50,Tryz.ntmps50;go_wp2_with (first | (go_at_call 42;refine (check_any _ _ _).mono ?_;rintro e w' ⟨rfl,rfl⟩) | (go_at_call 78;refine (jpH _ _ _ _).mono ?_;rintro e w' ⟨rfl,rfl⟩));go_ret2;exact ⟨rfl,0,rfl⟩
theorem jmd (x y:Int) (w:World) (hx:chk 7 x=true) (hy:chk 7 y=true):Calls Tryz.prog 50 #[.string ⟨#[79,114]⟩,.int .i64 7,.int .i64 x,.int .i64 y] w fun e w'=>e=.returned (.tuple #[.int .i64 (bin 7 7 x y).1,.int .i64 (bin 7 7 x y).2])∧∃ n,w'=w.drewN n:=by
 rw [jeA 7 x y hx hy];go_enter Tryz.func50,Tryz.ntmps50;go_wp2_with (first | (go_at_call 42;refine (check_any _ _ _).mono ?_;rintro e w' ⟨rfl,rfl⟩) | (go_at_call 78;refine (jpH _ _ _ _).mono ?_;rintro e w' ⟨rfl,rfl⟩));go_ret2;exact ⟨rfl,0,rfl⟩
theorem jme (x y:Int) (w:World) (hx:chk 9 x=true) (hy:chk 9 y=true):Calls Tryz.prog 50 #[.string ⟨#[79,114]⟩,.int .i64 9,.int .i64 x,.int .i64 y] w fun e w'=>e=.returned (.tuple #[.int .i64 (bin 7 9 x y).1,.int .i64 (bin 7 9 x y).2])∧∃ n,w'=w.drewN n:=by
 rw [jeB 7 x y hx hy];go_enter Tryz.func50,Tryz.ntmps50;go_wp2_with (first | (go_at_call 42;refine (check_any _ _ _).mono ?_;rintro e w' ⟨rfl,rfl⟩) | (go_at_call 79;refine (jqd _ _ _ (jqm _ hx) (jqm _ hy)).mono ?_;rintro e w' ⟨rfl,rfl⟩));go_ret2;exact ⟨rfl,0,rfl⟩
theorem binary7 (t x y:Int) (w:World):Calls Tryz.prog 50 #[.string ⟨#[79,114]⟩,.int .i64 t,.int .i64 x,.int .i64 y] w fun e w'=>e=.returned (.tuple #[.int .i64 (bin 7 t x y).1,.int .i64 (bin 7 t x y).2])∧∃ n,w'=w.drewN n:=by
 cases hx:chk t x with
 | false=>rw [jcb 7 t x y hx];exact jga t x y w (.inl hx)
 | true =>
  cases hy:chk t y with
  | false=>rw [jcc 7 t x y hy];exact jga t x y w (.inr ⟨hx,hy⟩)
  | true =>
   rcases chk_types t x hx with rfl | rfl | rfl | rfl
   ·exact jmb x y w hx hy
   ·exact jmc x y w hx hy
   ·exact jmd x y w hx hy
   ·exact jme x y w hx hy
theorem jgb (t x y:Int) (w:World) (h:chk t x=false∨chk t x=true∧chk t y=false):Calls Tryz.prog 50 #[.string ⟨#[88,111,114]⟩,.int .i64 t,.int .i64 x,.int .i64 y] w fun e w'=>e=.returned (.tuple #[.int .i64 0,.int .i64 1])∧∃ n,w'=w.drewN n:=by
 rcases h with hx | ⟨hx,hy⟩
 all_goals
  go_enter Tryz.func50,Tryz.ntmps50;go_wp2_with (first | (go_at_call 42;refine (check_any _ _ _).mono ?_;rintro e w' ⟨rfl,rfl⟩));go_ret2;exact ⟨rfl,0,rfl⟩
theorem jmf (x y:Int) (w:World) (hx:chk 1 x=true) (hy:chk 1 y=true):Calls Tryz.prog 50 #[.string ⟨#[88,111,114]⟩,.int .i64 1,.int .i64 x,.int .i64 y] w fun e w'=>e=.returned (.tuple #[.int .i64 (bin 8 1 x y).1,.int .i64 (bin 8 1 x y).2])∧∃ n,w'=w.drewN n:=by
 rw [jey 8 x y hx hy];go_enter Tryz.func50,Tryz.ntmps50;go_wp2_with (first | (go_at_call 42;refine (check_any _ _ _).mono ?_;rintro e w' ⟨rfl,rfl⟩) | (go_at_call 53;refine (ja2 _ _).mono ?_;rintro e w' ⟨rfl,rfl⟩) | (go_at_call 77;refine (no8_f _ _ _).mono ?_;rintro e w' ⟨rfl,n,rfl⟩));go_ret2;exact ⟨rfl,_,rfl⟩
theorem jmg (x y:Int) (w:World) (hx:chk 6 x=true) (hy:chk 6 y=true):Calls Tryz.prog 50 #[.string ⟨#[88,111,114]⟩,.int .i64 6,.int .i64 x,.int .i64 y] w fun e w'=>e=.returned (.tuple #[.int .i64 (bin 8 6 x y).1,.int .i64 (bin 8 6 x y).2])∧∃ n,w'=w.drewN n:=by
 rw [jez 8 x y hx hy];go_enter Tryz.func50,Tryz.ntmps50;go_wp2_with (first | (go_at_call 42;refine (check_any _ _ _).mono ?_;rintro e w' ⟨rfl,rfl⟩) | (go_at_call 78;refine (jpI _ _ _ _).mono ?_;rintro e w' ⟨rfl,rfl⟩));go_ret2;exact ⟨rfl,0,rfl⟩
theorem jmh (x y:Int) (w:World) (hx:chk 7 x=true) (hy:chk 7 y=true):Calls Tryz.prog 50 #[.string ⟨#[88,111,114]⟩,.int .i64 7,.int .i64 x,.int .i64 y] w fun e w'=>e=.returned (.tuple #[.int .i64 (bin 8 7 x y).1,.int .i64 (bin 8 7 x y).2])∧∃ n,w'=w.drewN n:=by
 rw [jeA 8 x y hx hy];go_enter Tryz.func50,Tryz.ntmps50;go_wp2_with (first | (go_at_call 42;refine (check_any _ _ _).mono ?_;rintro e w' ⟨rfl,rfl⟩) | (go_at_call 78;refine (jpI _ _ _ _).mono ?_;rintro e w' ⟨rfl,rfl⟩));go_ret2;exact ⟨rfl,0,rfl⟩
theorem jmi (x y:Int) (w:World) (hx:chk 9 x=true) (hy:chk 9 y=true):Calls Tryz.prog 50 #[.string ⟨#[88,111,114]⟩,.int .i64 9,.int .i64 x,.int .i64 y] w fun e w'=>e=.returned (.tuple #[.int .i64 (bin 8 9 x y).1,.int .i64 (bin 8 9 x y).2])∧∃ n,w'=w.drewN n:=by
 rw [jeB 8 x y hx hy];go_enter Tryz.func50,Tryz.ntmps50;go_wp2_with (first | (go_at_call 42;refine (check_any _ _ _).mono ?_;rintro e w' ⟨rfl,rfl⟩) | (go_at_call 79;refine (jqe _ _ _ (jqm _ hx) (jqm _ hy)).mono ?_;rintro e w' ⟨rfl,rfl⟩));go_ret2;exact ⟨rfl,0,rfl⟩
theorem binary8 (t x y:Int) (w:World):Calls Tryz.prog 50 #[.string ⟨#[88,111,114]⟩,.int .i64 t,.int .i64 x,.int .i64 y] w fun e w'=>e=.returned (.tuple #[.int .i64 (bin 8 t x y).1,.int .i64 (bin 8 t x y).2])∧∃ n,w'=w.drewN n:=by
 cases hx:chk t x with
 | false=>rw [jcb 8 t x y hx];exact jgb t x y w (.inl hx)
 | true =>
  cases hy:chk t y with
  | false=>rw [jcc 8 t x y hy];exact jgb t x y w (.inr ⟨hx,hy⟩)
  | true =>
   rcases chk_types t x hx with rfl | rfl | rfl | rfl
   ·exact jmf x y w hx hy
   ·exact jmg x y w hx hy
   ·exact jmh x y w hx hy
   ·exact jmi x y w hx hy
theorem jgc (t x y:Int) (w:World) (h:chk t x=false∨chk t x=true∧chk t y=false):Calls Tryz.prog 50 #[.string ⟨#[69,113,117,97,108]⟩,.int .i64 t,.int .i64 x,.int .i64 y] w fun e w'=>e=.returned (.tuple #[.int .i64 0,.int .i64 1])∧∃ n,w'=w.drewN n:=by
 rcases h with hx | ⟨hx,hy⟩
 all_goals
  go_enter Tryz.func50,Tryz.ntmps50;go_wp2_with (first | (go_at_call 42;refine (check_any _ _ _).mono ?_;rintro e w' ⟨rfl,rfl⟩));go_ret2;exact ⟨rfl,0,rfl⟩
theorem jmj (x y:Int) (w:World) (hx:chk 1 x=true) (hy:chk 1 y=true):Calls Tryz.prog 50 #[.string ⟨#[69,113,117,97,108]⟩,.int .i64 1,.int .i64 x,.int .i64 y] w fun e w'=>e=.returned (.tuple #[.int .i64 (bin 9 1 x y).1,.int .i64 (bin 9 1 x y).2])∧∃ n,w'=w.drewN n:=by
 rw [jey 9 x y hx hy];go_enter Tryz.func50,Tryz.ntmps50;go_wp2_with (first | (go_at_call 42;refine (check_any _ _ _).mono ?_;rintro e w' ⟨rfl,rfl⟩) | (go_at_call 53;refine (ja2 _ _).mono ?_;rintro e w' ⟨rfl,rfl⟩) | (go_at_call 77;refine (jro _ _ _).mono ?_;rintro e w' ⟨rfl,n,rfl⟩));go_ret2;exact ⟨rfl,_,rfl⟩
theorem jmk (x y:Int) (w:World) (hx:chk 6 x=true) (hy:chk 6 y=true):Calls Tryz.prog 50 #[.string ⟨#[69,113,117,97,108]⟩,.int .i64 6,.int .i64 x,.int .i64 y] w fun e w'=>e=.returned (.tuple #[.int .i64 (bin 9 6 x y).1,.int .i64 (bin 9 6 x y).2])∧∃ n,w'=w.drewN n:=by
 rw [jez 9 x y hx hy];go_enter Tryz.func50,Tryz.ntmps50;go_wp2_with (first | (go_at_call 42;refine (check_any _ _ _).mono ?_;rintro e w' ⟨rfl,rfl⟩) | (go_at_call 78;refine (jpF _ _ _ _).mono ?_;rintro e w' ⟨rfl,rfl⟩));go_ret2;exact ⟨rfl,0,rfl⟩
theorem jml (x y:Int) (w:World) (hx:chk 7 x=true) (hy:chk 7 y=true):Calls Tryz.prog 50 #[.string ⟨#[69,113,117,97,108]⟩,.int .i64 7,.int .i64 x,.int .i64 y] w fun e w'=>e=.returned (.tuple #[.int .i64 (bin 9 7 x y).1,.int .i64 (bin 9 7 x y).2])∧∃ n,w'=w.drewN n:=by
 rw [jeA 9 x y hx hy];go_enter Tryz.func50,Tryz.ntmps50;go_wp2_with (first | (go_at_call 42;refine (check_any _ _ _).mono ?_;rintro e w' ⟨rfl,rfl⟩) | (go_at_call 78;refine (jpF _ _ _ _).mono ?_;rintro e w' ⟨rfl,rfl⟩));go_ret2;exact ⟨rfl,0,rfl⟩
theorem jmm (x y:Int) (w:World) (hx:chk 9 x=true) (hy:chk 9 y=true):Calls Tryz.prog 50 #[.string ⟨#[69,113,117,97,108]⟩,.int .i64 9,.int .i64 x,.int .i64 y] w fun e w'=>e=.returned (.tuple #[.int .i64 (bin 9 9 x y).1,.int .i64 (bin 9 9 x y).2])∧∃ n,w'=w.drewN n:=by
 rw [jeB 9 x y hx hy];go_enter Tryz.func50,Tryz.ntmps50;go_wp2_with (first | (go_at_call 42;refine (check_any _ _ _).mono ?_;rintro e w' ⟨rfl,rfl⟩) | (go_at_call 79;refine (jqf _ _ _).mono ?_;rintro e w' ⟨rfl,rfl⟩));go_ret2;exact ⟨rfl,0,rfl⟩
theorem binary9 (t x y:Int) (w:World):Calls Tryz.prog 50 #[.string ⟨#[69,113,117,97,108]⟩,.int .i64 t,.int .i64 x,.int .i64 y] w fun e w'=>e=.returned (.tuple #[.int .i64 (bin 9 t x y).1,.int .i64 (bin 9 t x y).2])∧∃ n,w'=w.drewN n:=by
 cases hx:chk t x with
 | false=>rw [jcb 9 t x y hx];exact jgc t x y w (.inl hx)
 | true =>
  cases hy:chk t y with
  | false=>rw [jcc 9 t x y hy];exact jgc t x y w (.inr ⟨hx,hy⟩)
  | true =>
   rcases chk_types t x hx with rfl | rfl | rfl | rfl
   ·exact jmj x y w hx hy
   ·exact jmk x y w hx hy
   ·exact jml x y w hx hy
   ·exact jmm x y w hx hy
theorem je8 (t x y:Int) (w:World) (h:chk t x=false∨chk t x=true∧chk t y=false):Calls Tryz.prog 50 #[.string ⟨#[76,101,115,115]⟩,.int .i64 t,.int .i64 x,.int .i64 y] w fun e w'=>e=.returned (.tuple #[.int .i64 0,.int .i64 1])∧∃ n,w'=w.drewN n:=by
 rcases h with hx | ⟨hx,hy⟩
 all_goals
  go_enter Tryz.func50,Tryz.ntmps50;go_wp2_with (first | (go_at_call 42;refine (check_any _ _ _).mono ?_;rintro e w' ⟨rfl,rfl⟩));go_ret2;exact ⟨rfl,0,rfl⟩
theorem jj9 (x y:Int) (w:World) (hx:chk 1 x=true) (hy:chk 1 y=true):Calls Tryz.prog 50 #[.string ⟨#[76,101,115,115]⟩,.int .i64 1,.int .i64 x,.int .i64 y] w fun e w'=>e=.returned (.tuple #[.int .i64 (bin 10 1 x y).1,.int .i64 (bin 10 1 x y).2])∧∃ n,w'=w.drewN n:=by
 rw [jey 10 x y hx hy];go_enter Tryz.func50,Tryz.ntmps50;go_wp2_with (first | (go_at_call 42;refine (check_any _ _ _).mono ?_;rintro e w' ⟨rfl,rfl⟩) | (go_at_call 53;refine (ja2 _ _).mono ?_;rintro e w' ⟨rfl,rfl⟩) | (go_at_call 77;refine (jqa _ _ _).mono ?_;rintro e w' ⟨rfl,n,rfl⟩));go_ret2;exact ⟨rfl,_,rfl⟩
theorem jka (x y:Int) (w:World) (hx:chk 6 x=true) (hy:chk 6 y=true):Calls Tryz.prog 50 #[.string ⟨#[76,101,115,115]⟩,.int .i64 6,.int .i64 x,.int .i64 y] w fun e w'=>e=.returned (.tuple #[.int .i64 (bin 10 6 x y).1,.int .i64 (bin 10 6 x y).2])∧∃ n,w'=w.drewN n:=by
 rw [jez 10 x y hx hy];go_enter Tryz.func50,Tryz.ntmps50;go_wp2_with (first | (go_at_call 42;refine (check_any _ _ _).mono ?_;rintro e w' ⟨rfl,rfl⟩) | (go_at_call 78;refine (jlH _ _ _ _).mono ?_;rintro e w' ⟨rfl,rfl⟩));go_ret2;exact ⟨rfl,0,rfl⟩
theorem jkb (x y:Int) (w:World) (hx:chk 7 x=true) (hy:chk 7 y=true):Calls Tryz.prog 50 #[.string ⟨#[76,101,115,115]⟩,.int .i64 7,.int .i64 x,.int .i64 y] w fun e w'=>e=.returned (.tuple #[.int .i64 (bin 10 7 x y).1,.int .i64 (bin 10 7 x y).2])∧∃ n,w'=w.drewN n:=by
 rw [jeA 10 x y hx hy];go_enter Tryz.func50,Tryz.ntmps50;go_wp2_with (first | (go_at_call 42;refine (check_any _ _ _).mono ?_;rintro e w' ⟨rfl,rfl⟩) | (go_at_call 78;refine (jlH _ _ _ _).mono ?_;rintro e w' ⟨rfl,rfl⟩));go_ret2;exact ⟨rfl,0,rfl⟩
theorem jkc (x y:Int) (w:World) (hx:chk 9 x=true) (hy:chk 9 y=true):Calls Tryz.prog 50 #[.string ⟨#[76,101,115,115]⟩,.int .i64 9,.int .i64 x,.int .i64 y] w fun e w'=>e=.returned (.tuple #[.int .i64 (bin 10 9 x y).1,.int .i64 (bin 10 9 x y).2])∧∃ n,w'=w.drewN n:=by
 rw [jeB 10 x y hx hy];go_enter Tryz.func50,Tryz.ntmps50;go_wp2_with (first | (go_at_call 42;refine (check_any _ _ _).mono ?_;rintro e w' ⟨rfl,rfl⟩) | (go_at_call 79;refine (jod _ _ _).mono ?_;rintro e w' ⟨rfl,rfl⟩));go_ret2;exact ⟨rfl,0,rfl⟩
theorem binary10 (t x y:Int) (w:World):Calls Tryz.prog 50 #[.string ⟨#[76,101,115,115]⟩,.int .i64 t,.int .i64 x,.int .i64 y] w fun e w'=>e=.returned (.tuple #[.int .i64 (bin 10 t x y).1,.int .i64 (bin 10 t x y).2])∧∃ n,w'=w.drewN n:=by
 cases hx:chk t x with
 | false=>rw [jcb 10 t x y hx];exact je8 t x y w (.inl hx)
 | true =>
  cases hy:chk t y with
  | false=>rw [jcc 10 t x y hy];exact je8 t x y w (.inr ⟨hx,hy⟩)
  | true =>
   rcases chk_types t x hx with rfl | rfl | rfl | rfl
   ·exact jj9 x y w hx hy
   ·exact jka x y w hx hy
   ·exact jkb x y w hx hy
   ·exact jkc x y w hx hy
theorem je9 (t x y:Int) (w:World) (h:chk t x=false∨chk t x=true∧chk t y=false):Calls Tryz.prog 50 #[.string ⟨#[71,114,101,97,116,101,114]⟩,.int .i64 t,.int .i64 x,.int .i64 y] w fun e w'=>e=.returned (.tuple #[.int .i64 0,.int .i64 1])∧∃ n,w'=w.drewN n:=by
 rcases h with hx | ⟨hx,hy⟩
 all_goals
  go_enter Tryz.func50,Tryz.ntmps50;go_wp2_with (first | (go_at_call 42;refine (check_any _ _ _).mono ?_;rintro e w' ⟨rfl,rfl⟩));go_ret2;exact ⟨rfl,0,rfl⟩
theorem jkd (x y:Int) (w:World) (hx:chk 1 x=true) (hy:chk 1 y=true):Calls Tryz.prog 50 #[.string ⟨#[71,114,101,97,116,101,114]⟩,.int .i64 1,.int .i64 x,.int .i64 y] w fun e w'=>e=.returned (.tuple #[.int .i64 (bin 11 1 x y).1,.int .i64 (bin 11 1 x y).2])∧∃ n,w'=w.drewN n:=by
 rw [jey 11 x y hx hy];go_enter Tryz.func50,Tryz.ntmps50;go_wp2_with (first | (go_at_call 42;refine (check_any _ _ _).mono ?_;rintro e w' ⟨rfl,rfl⟩) | (go_at_call 53;refine (ja2 _ _).mono ?_;rintro e w' ⟨rfl,rfl⟩) | (go_at_call 77;refine (jqb _ _ _).mono ?_;rintro e w' ⟨rfl,n,rfl⟩));go_ret2;exact ⟨rfl,_,rfl⟩
theorem jke (x y:Int) (w:World) (hx:chk 6 x=true) (hy:chk 6 y=true):Calls Tryz.prog 50 #[.string ⟨#[71,114,101,97,116,101,114]⟩,.int .i64 6,.int .i64 x,.int .i64 y] w fun e w'=>e=.returned (.tuple #[.int .i64 (bin 11 6 x y).1,.int .i64 (bin 11 6 x y).2])∧∃ n,w'=w.drewN n:=by
 rw [jez 11 x y hx hy];go_enter Tryz.func50,Tryz.ntmps50;go_wp2_with (first | (go_at_call 42;refine (check_any _ _ _).mono ?_;rintro e w' ⟨rfl,rfl⟩) | (go_at_call 78;refine (jlI _ _ _ _).mono ?_;rintro e w' ⟨rfl,rfl⟩));go_ret2;exact ⟨rfl,0,rfl⟩
theorem jkf (x y:Int) (w:World) (hx:chk 7 x=true) (hy:chk 7 y=true):Calls Tryz.prog 50 #[.string ⟨#[71,114,101,97,116,101,114]⟩,.int .i64 7,.int .i64 x,.int .i64 y] w fun e w'=>e=.returned (.tuple #[.int .i64 (bin 11 7 x y).1,.int .i64 (bin 11 7 x y).2])∧∃ n,w'=w.drewN n:=by
 rw [jeA 11 x y hx hy];go_enter Tryz.func50,Tryz.ntmps50;go_wp2_with (first | (go_at_call 42;refine (check_any _ _ _).mono ?_;rintro e w' ⟨rfl,rfl⟩) | (go_at_call 78;refine (jlI _ _ _ _).mono ?_;rintro e w' ⟨rfl,rfl⟩));go_ret2;exact ⟨rfl,0,rfl⟩
theorem jkg (x y:Int) (w:World) (hx:chk 9 x=true) (hy:chk 9 y=true):Calls Tryz.prog 50 #[.string ⟨#[71,114,101,97,116,101,114]⟩,.int .i64 9,.int .i64 x,.int .i64 y] w fun e w'=>e=.returned (.tuple #[.int .i64 (bin 11 9 x y).1,.int .i64 (bin 11 9 x y).2])∧∃ n,w'=w.drewN n:=by
 rw [jeB 11 x y hx hy];go_enter Tryz.func50,Tryz.ntmps50;go_wp2_with (first | (go_at_call 42;refine (check_any _ _ _).mono ?_;rintro e w' ⟨rfl,rfl⟩) | (go_at_call 79;refine (joe _ _ _).mono ?_;rintro e w' ⟨rfl,rfl⟩));go_ret2;exact ⟨rfl,0,rfl⟩
theorem binary11 (t x y:Int) (w:World):Calls Tryz.prog 50 #[.string ⟨#[71,114,101,97,116,101,114]⟩,.int .i64 t,.int .i64 x,.int .i64 y] w fun e w'=>e=.returned (.tuple #[.int .i64 (bin 11 t x y).1,.int .i64 (bin 11 t x y).2])∧∃ n,w'=w.drewN n:=by
 cases hx:chk t x with
 | false=>rw [jcb 11 t x y hx];exact je9 t x y w (.inl hx)
 | true =>
  cases hy:chk t y with
  | false=>rw [jcc 11 t x y hy];exact je9 t x y w (.inr ⟨hx,hy⟩)
  | true =>
   rcases chk_types t x hx with rfl | rfl | rfl | rfl
   ·exact jkd x y w hx hy
   ·exact jke x y w hx hy
   ·exact jkf x y w hx hy
   ·exact jkg x y w hx hy
end Go.Proofs.YtekocmdfaaoggaaGreatDoor.Nu
namespace Go.Proofs.YtekocmdfaaoggaaGreatDoor.Nu
open Go.RowKit
attribute [local go_sem] jcO jdO jgK
theorem neg_f (b:Nat) (w:World) (hb:b<4294967296):Calls Tryz.prog 81 #[.string ⟨#[78,101,103]⟩,.float .f32 b] w fun e w'=>e=.returned (.tuple #[.int .i64 (tob (jq8 b)),.int .i64 0])∧w'=w:=by
 have hn:=jlE b hb;go_enter Tryz.func81,Tryz.ntmps81;go_wp2_with (first | (go_at_call 55;refine (to_any _ _ hn).mono ?_;rintro e w' ⟨rfl,rfl⟩) | go_in);go_ret2;exact ⟨rfl,rfl⟩
theorem jc3 (b:Nat) (w:World) (hb:b<4294967296):Calls Tryz.prog 123 #[.float .f32 b] w fun e w'=>e=.returned (.float .f32 (jp6 b))∧w'=w:=by
 have ha:=jj8 b hb;go_enter Tryz.func123,Tryz.ntmps123;go_wp2;go_ret;exact ⟨by simp [jp6],rfl⟩
theorem abs_f (b:Nat) (w:World) (hb:b<4294967296):Calls Tryz.prog 81 #[.string ⟨#[65,98,115]⟩,.float .f32 b] w fun e w'=>e=.returned (.tuple #[.int .i64 (tob (jp6 b)),.int .i64 0])∧w'=w:=by
 go_enter Tryz.func81,Tryz.ntmps81;go_wp2_with (first | (go_at_call 55;refine (to_any _ _ (jp8 _)).mono ?_;rintro e w' ⟨rfl,rfl⟩) | (go_at_call 123;refine (jc3 _ _ hb).mono ?_;rintro e w' ⟨rfl,rfl⟩) | go_in);go_ret2;exact ⟨rfl,rfl⟩
theorem jof (b:Nat) (w:World):Calls Tryz.prog 124 #[.float .f32 b] w fun e w'=>e=.returned (.float .f32 (je6 b))∧w'=w:=by
 cases h:(FloatKind.f32.format.order b 0==some .gt) with
 | true =>
  have c:je6 b=b:=by unfold je6;rw [if_pos h]
  rw [c];clear c;go_enter Tryz.func124,Tryz.ntmps124;go_wp2;go_ret;exact ⟨rfl,rfl⟩
 | false =>
  cases h':(FloatKind.f32.format.order b b != some .eq) with
  | true =>
   have c:je6 b=b:=by unfold je6;rw [h,h'];rfl
   rw [c];clear c;go_enter Tryz.func124,Tryz.ntmps124;go_wp2;go_ret;exact ⟨rfl,rfl⟩
  | false =>
   have c:je6 b=0:=by unfold je6;rw [h,h'];rfl
   rw [c];clear c;go_enter Tryz.func124,Tryz.ntmps124;go_wp2;go_ret;exact ⟨rfl,rfl⟩
theorem jrp (b:Nat) (w:World) (hb:b<4294967296):Calls Tryz.prog 81 #[.string ⟨#[82,101,108,117]⟩,.float .f32 b] w fun e w'=>e=.returned (.tuple #[.int .i64 (tob (je6 b)),.int .i64 0])∧w'=w:=by
 go_enter Tryz.func81,Tryz.ntmps81;go_wp2_with (first | (go_at_call 55;refine (to_any _ _ (jn8 _ hb)).mono ?_;rintro e w' ⟨rfl,rfl⟩) | (go_at_call 124;refine (jof _ _).mono ?_;rintro e w' ⟨rfl,rfl⟩) | go_in);go_ret2;exact ⟨rfl,rfl⟩
theorem not_f (b:Nat) (w:World):Calls Tryz.prog 81 #[.string ⟨#[78,111,116]⟩,.float .f32 b] w fun e w'=>e=.returned (.tuple #[.int .i64 0,.int .i64 1])∧w'=w:=by
 go_enter Tryz.func81,Tryz.ntmps81;go_wp2;go_ret2;exact ⟨rfl,rfl⟩
theorem jmn (t x:Int) (w:World):Calls Tryz.prog 82 #[.string ⟨#[78,101,103]⟩,.int .i64 t,.int .i64 x] w fun e w'=>e=.returned (.tuple #[.int .i64 (wrapT t (wrap64 (-x))),.int .i64 0])∧w'=w:=by
 cases h:(t==6) with
 | true =>
  rw [jds t _ h];go_enter Tryz.func82,Tryz.ntmps82;go_wp2;go_ret2;exact ⟨rfl,rfl⟩
 | false =>
  rw [jdt t _ h];go_enter Tryz.func82,Tryz.ntmps82;go_wp2;go_ret2;exact ⟨rfl,rfl⟩
theorem jmo (t x:Int) (w:World):Calls Tryz.prog 82 #[.string ⟨#[65,98,115]⟩,.int .i64 t,.int .i64 x] w fun e w'=>e=.returned (.tuple #[.int .i64 (absI t x),.int .i64 0])∧w'=w:=by
 by_cases hx:x<0
 ·rw [show absI t x=wrapT t (wrap64 (-x)) from if_pos hx]
  cases h:(t==6) with
  | true =>
   rw [jds t _ h];go_enter Tryz.func82,Tryz.ntmps82;go_wp2;go_ret2;exact ⟨rfl,rfl⟩
  | false =>
   rw [jdt t _ h];go_enter Tryz.func82,Tryz.ntmps82;go_wp2;go_ret2;exact ⟨rfl,rfl⟩
 ·rw [show absI t x=x from if_neg hx];go_enter Tryz.func82,Tryz.ntmps82;go_wp2;go_ret2;exact ⟨rfl,rfl⟩
theorem jmp (t x:Int) (w:World):Calls Tryz.prog 82 #[.string ⟨#[78,111,116]⟩,.int .i64 t,.int .i64 x] w fun e w'=>e=.returned (.tuple #[.int .i64 0,.int .i64 1])∧w'=w:=by
 go_enter Tryz.func82,Tryz.ntmps82;go_wp2;go_ret2;exact ⟨rfl,rfl⟩
theorem jmq (t x:Int) (w:World):Calls Tryz.prog 82 #[.string ⟨#[82,101,108,117]⟩,.int .i64 t,.int .i64 x] w fun e w'=>e=.returned (.tuple #[.int .i64 0,.int .i64 1])∧w'=w:=by
 go_enter Tryz.func82,Tryz.ntmps82;go_wp2;go_ret2;exact ⟨rfl,rfl⟩
theorem jmr (t x:Int) (w:World):Calls Tryz.prog 82 #[.string ⟨#[83,113,114,116]⟩,.int .i64 t,.int .i64 x] w fun e w'=>e=.returned (.tuple #[.int .i64 0,.int .i64 1])∧w'=w:=by
 go_enter Tryz.func82,Tryz.ntmps82;go_wp2;go_ret2;exact ⟨rfl,rfl⟩
theorem jms (t x:Int) (w:World):Calls Tryz.prog 82 #[.string ⟨#[70,108,111,111,114]⟩,.int .i64 t,.int .i64 x] w fun e w'=>e=.returned (.tuple #[.int .i64 0,.int .i64 1])∧w'=w:=by
 go_enter Tryz.func82,Tryz.ntmps82;go_wp2;go_ret2;exact ⟨rfl,rfl⟩
theorem jmt (t x:Int) (w:World):Calls Tryz.prog 82 #[.string ⟨#[69,120,112]⟩,.int .i64 t,.int .i64 x] w fun e w'=>e=.returned (.tuple #[.int .i64 0,.int .i64 1])∧w'=w:=by
 go_enter Tryz.func82,Tryz.ntmps82;go_wp2;go_ret2;exact ⟨rfl,rfl⟩
theorem jmu (t x:Int) (w:World):Calls Tryz.prog 82 #[.string ⟨#[83,105,103,109,111,105,100]⟩,.int .i64 t,.int .i64 x] w fun e w'=>e=.returned (.tuple #[.int .i64 0,.int .i64 1])∧w'=w:=by
 go_enter Tryz.func82,Tryz.ntmps82;go_wp2;go_ret2;exact ⟨rfl,rfl⟩
theorem jmv (t x:Int) (w:World):Calls Tryz.prog 82 #[.string ⟨#[84,97,110,104]⟩,.int .i64 t,.int .i64 x] w fun e w'=>e=.returned (.tuple #[.int .i64 0,.int .i64 1])∧w'=w:=by
 go_enter Tryz.func82,Tryz.ntmps82;go_wp2;go_ret2;exact ⟨rfl,rfl⟩
theorem jog (x:Int) (w:World) (hx:x=0∨x=1):Calls Tryz.prog 83 #[.string ⟨#[78,111,116]⟩,.int .i64 x] w fun e w'=>e=.returned (.tuple #[.int .i64 (1 - x),.int .i64 0])∧w'=w:=by
 rcases hx with rfl | rfl
 all_goals
  go_enter Tryz.func83,Tryz.ntmps83;go_wp2;go_ret2;exact ⟨rfl,rfl⟩
theorem joh (x:Int) (w:World):Calls Tryz.prog 83 #[.string ⟨#[78,101,103]⟩,.int .i64 x] w fun e w'=>e=.returned (.tuple #[.int .i64 0,.int .i64 1])∧w'=w:=by
 go_enter Tryz.func83,Tryz.ntmps83;go_wp2;go_ret2;exact ⟨rfl,rfl⟩
theorem joi (x:Int) (w:World):Calls Tryz.prog 83 #[.string ⟨#[65,98,115]⟩,.int .i64 x] w fun e w'=>e=.returned (.tuple #[.int .i64 0,.int .i64 1])∧w'=w:=by
 go_enter Tryz.func83,Tryz.ntmps83;go_wp2;go_ret2;exact ⟨rfl,rfl⟩
theorem joj (x:Int) (w:World):Calls Tryz.prog 83 #[.string ⟨#[82,101,108,117]⟩,.int .i64 x] w fun e w'=>e=.returned (.tuple #[.int .i64 0,.int .i64 1])∧w'=w:=by
 go_enter Tryz.func83,Tryz.ntmps83;go_wp2;go_ret2;exact ⟨rfl,rfl⟩
theorem jok (x:Int) (w:World):Calls Tryz.prog 83 #[.string ⟨#[83,113,114,116]⟩,.int .i64 x] w fun e w'=>e=.returned (.tuple #[.int .i64 0,.int .i64 1])∧w'=w:=by
 go_enter Tryz.func83,Tryz.ntmps83;go_wp2;go_ret2;exact ⟨rfl,rfl⟩
theorem jol (x:Int) (w:World):Calls Tryz.prog 83 #[.string ⟨#[70,108,111,111,114]⟩,.int .i64 x] w fun e w'=>e=.returned (.tuple #[.int .i64 0,.int .i64 1])∧w'=w:=by
 go_enter Tryz.func83,Tryz.ntmps83;go_wp2;go_ret2;exact ⟨rfl,rfl⟩
theorem jom (x:Int) (w:World):Calls Tryz.prog 83 #[.string ⟨#[69,120,112]⟩,.int .i64 x] w fun e w'=>e=.returned (.tuple #[.int .i64 0,.int .i64 1])∧w'=w:=by
 go_enter Tryz.func83,Tryz.ntmps83;go_wp2;go_ret2;exact ⟨rfl,rfl⟩
theorem jon (x:Int) (w:World):Calls Tryz.prog 83 #[.string ⟨#[83,105,103,109,111,105,100]⟩,.int .i64 x] w fun e w'=>e=.returned (.tuple #[.int .i64 0,.int .i64 1])∧w'=w:=by
 go_enter Tryz.func83,Tryz.ntmps83;go_wp2;go_ret2;exact ⟨rfl,rfl⟩
theorem joo (x:Int) (w:World):Calls Tryz.prog 83 #[.string ⟨#[84,97,110,104]⟩,.int .i64 x] w fun e w'=>e=.returned (.tuple #[.int .i64 0,.int .i64 1])∧w'=w:=by
 go_enter Tryz.func83,Tryz.ntmps83;go_wp2;go_ret2;exact ⟨rfl,rfl⟩
theorem un_no (k:Nat) (t x:Int) (h:chk t x=false):un k t x=(0,1):=by simp [un,h]
theorem un_0 (t x:Int) (h:chk t x=true):un 0 t x=(x,0):=by simp [un,h]
theorem un_1 (k:Nat) (x:Int) (h:chk 1 x=true) (hk:k≠0):un k 1 x=unFl k (fb x):=by simp [un,h,hk]
theorem un_6 (k:Nat) (x:Int) (h:chk 6 x=true) (hk:k≠0):un k 6 x=unIn k 6 x:=by simp [un,h,hk]
theorem un_7 (k:Nat) (x:Int) (h:chk 7 x=true) (hk:k≠0):un k 7 x=unIn k 7 x:=by simp [un,h,hk]
theorem un_9 (k:Nat) (x:Int) (h:chk 9 x=true) (hk:k≠0):un k 9 x=unBo k x:=by simp [un,h,hk]
theorem jmw (t x:Int) (w:World) (hx:chk t x=false):Calls Tryz.prog 58 #[.string ⟨#[73,100,101,110,116,105,116,121]⟩,.int .i64 t,.int .i64 x] w fun e w'=>e=.returned (.tuple #[.int .i64 (un 0 t x).1,.int .i64 (un 0 t x).2])∧w'=w:=by
 rw [un_no 0 t x hx];go_enter Tryz.func58,Tryz.ntmps58;go_wp2_with (first | (go_at_call 42;refine (check_any _ _ _).mono ?_;rintro e w' ⟨rfl,rfl⟩));go_ret2;exact ⟨rfl,rfl⟩
theorem jkh (t x:Int) (w:World) (hx:chk t x=true):Calls Tryz.prog 58 #[.string ⟨#[73,100,101,110,116,105,116,121]⟩,.int .i64 t,.int .i64 x] w fun e w'=>e=.returned (.tuple #[.int .i64 (un 0 t x).1,.int .i64 (un 0 t x).2])∧w'=w:=by
 rw [un_0 t x hx];go_enter Tryz.func58,Tryz.ntmps58;go_wp2_with (first | (go_at_call 42;refine (check_any _ _ _).mono ?_;rintro e w' ⟨rfl,rfl⟩));go_ret2;exact ⟨rfl,rfl⟩
theorem unary0 (t x:Int) (w:World):Calls Tryz.prog 58 #[.string ⟨#[73,100,101,110,116,105,116,121]⟩,.int .i64 t,.int .i64 x] w fun e w'=>e=.returned (.tuple #[.int .i64 (un 0 t x).1,.int .i64 (un 0 t x).2])∧w'=w:=by
 cases hx:chk t x with
 | false=>exact jmw t x w hx
 | true=>exact jkh t x w hx
theorem unary1_1 (x:Int) (w:World) (hx:chk 1 x=true):Calls Tryz.prog 58 #[.string ⟨#[78,101,103]⟩,.int .i64 1,.int .i64 x] w fun e w'=>e=.returned (.tuple #[.int .i64 (un 1 1 x).1,.int .i64 (un 1 1 x).2])∧w'=w:=by
 rw [un_1 1 x hx (by decide)];go_enter Tryz.func58,Tryz.ntmps58;go_wp2_with (first | (go_at_call 42;refine (check_any _ _ _).mono ?_;rintro e w' ⟨rfl,rfl⟩) | (go_at_call 53;refine (ja2 _ _).mono ?_;rintro e w' ⟨rfl,rfl⟩) | (go_at_call 81;refine (neg_f _ _ (fb_lt _)).mono ?_;rintro e w' ⟨rfl,rfl⟩));go_ret2;exact ⟨rfl,rfl⟩
theorem unary1_6 (x:Int) (w:World) (hx:chk 6 x=true):Calls Tryz.prog 58 #[.string ⟨#[78,101,103]⟩,.int .i64 6,.int .i64 x] w fun e w'=>e=.returned (.tuple #[.int .i64 (un 1 6 x).1,.int .i64 (un 1 6 x).2])∧w'=w:=by
 rw [un_6 1 x hx (by decide)];go_enter Tryz.func58,Tryz.ntmps58;go_wp2_with (first | (go_at_call 42;refine (check_any _ _ _).mono ?_;rintro e w' ⟨rfl,rfl⟩) | (go_at_call 82;refine (jmn _ _ _).mono ?_;rintro e w' ⟨rfl,rfl⟩));go_ret2;exact ⟨rfl,rfl⟩
theorem unary1_7 (x:Int) (w:World) (hx:chk 7 x=true):Calls Tryz.prog 58 #[.string ⟨#[78,101,103]⟩,.int .i64 7,.int .i64 x] w fun e w'=>e=.returned (.tuple #[.int .i64 (un 1 7 x).1,.int .i64 (un 1 7 x).2])∧w'=w:=by
 rw [un_7 1 x hx (by decide)];go_enter Tryz.func58,Tryz.ntmps58;go_wp2_with (first | (go_at_call 42;refine (check_any _ _ _).mono ?_;rintro e w' ⟨rfl,rfl⟩) | (go_at_call 82;refine (jmn _ _ _).mono ?_;rintro e w' ⟨rfl,rfl⟩));go_ret2;exact ⟨rfl,rfl⟩
theorem unary1_9 (x:Int) (w:World) (hx:chk 9 x=true):Calls Tryz.prog 58 #[.string ⟨#[78,101,103]⟩,.int .i64 9,.int .i64 x] w fun e w'=>e=.returned (.tuple #[.int .i64 (un 1 9 x).1,.int .i64 (un 1 9 x).2])∧w'=w:=by
 rw [un_9 1 x hx (by decide)];go_enter Tryz.func58,Tryz.ntmps58;go_wp2_with (first | (go_at_call 42;refine (check_any _ _ _).mono ?_;rintro e w' ⟨rfl,rfl⟩) | (go_at_call 83;refine (joh _ _).mono ?_;rintro e w' ⟨rfl,rfl⟩));go_ret2;exact ⟨rfl,rfl⟩
theorem unary2_1 (x:Int) (w:World) (hx:chk 1 x=true):Calls Tryz.prog 58 #[.string ⟨#[65,98,115]⟩,.int .i64 1,.int .i64 x] w fun e w'=>e=.returned (.tuple #[.int .i64 (un 2 1 x).1,.int .i64 (un 2 1 x).2])∧w'=w:=by
 rw [un_1 2 x hx (by decide)];go_enter Tryz.func58,Tryz.ntmps58;go_wp2_with (first | (go_at_call 42;refine (check_any _ _ _).mono ?_;rintro e w' ⟨rfl,rfl⟩) | (go_at_call 53;refine (ja2 _ _).mono ?_;rintro e w' ⟨rfl,rfl⟩) | (go_at_call 81;refine (abs_f _ _ (fb_lt _)).mono ?_;rintro e w' ⟨rfl,rfl⟩));go_ret2;exact ⟨rfl,rfl⟩
theorem unary2_6 (x:Int) (w:World) (hx:chk 6 x=true):Calls Tryz.prog 58 #[.string ⟨#[65,98,115]⟩,.int .i64 6,.int .i64 x] w fun e w'=>e=.returned (.tuple #[.int .i64 (un 2 6 x).1,.int .i64 (un 2 6 x).2])∧w'=w:=by
 rw [un_6 2 x hx (by decide)];go_enter Tryz.func58,Tryz.ntmps58;go_wp2_with (first | (go_at_call 42;refine (check_any _ _ _).mono ?_;rintro e w' ⟨rfl,rfl⟩) | (go_at_call 82;refine (jmo _ _ _).mono ?_;rintro e w' ⟨rfl,rfl⟩));go_ret2;exact ⟨rfl,rfl⟩
theorem unary2_7 (x:Int) (w:World) (hx:chk 7 x=true):Calls Tryz.prog 58 #[.string ⟨#[65,98,115]⟩,.int .i64 7,.int .i64 x] w fun e w'=>e=.returned (.tuple #[.int .i64 (un 2 7 x).1,.int .i64 (un 2 7 x).2])∧w'=w:=by
 rw [un_7 2 x hx (by decide)];go_enter Tryz.func58,Tryz.ntmps58;go_wp2_with (first | (go_at_call 42;refine (check_any _ _ _).mono ?_;rintro e w' ⟨rfl,rfl⟩) | (go_at_call 82;refine (jmo _ _ _).mono ?_;rintro e w' ⟨rfl,rfl⟩));go_ret2;exact ⟨rfl,rfl⟩
theorem unary2_9 (x:Int) (w:World) (hx:chk 9 x=true):Calls Tryz.prog 58 #[.string ⟨#[65,98,115]⟩,.int .i64 9,.int .i64 x] w fun e w'=>e=.returned (.tuple #[.int .i64 (un 2 9 x).1,.int .i64 (un 2 9 x).2])∧w'=w:=by
 rw [un_9 2 x hx (by decide)];go_enter Tryz.func58,Tryz.ntmps58;go_wp2_with (first | (go_at_call 42;refine (check_any _ _ _).mono ?_;rintro e w' ⟨rfl,rfl⟩) | (go_at_call 83;refine (joi _ _).mono ?_;rintro e w' ⟨rfl,rfl⟩));go_ret2;exact ⟨rfl,rfl⟩
theorem unary3_1 (x:Int) (w:World) (hx:chk 1 x=true):Calls Tryz.prog 58 #[.string ⟨#[78,111,116]⟩,.int .i64 1,.int .i64 x] w fun e w'=>e=.returned (.tuple #[.int .i64 (un 3 1 x).1,.int .i64 (un 3 1 x).2])∧w'=w:=by
 rw [un_1 3 x hx (by decide)];go_enter Tryz.func58,Tryz.ntmps58;go_wp2_with (first | (go_at_call 42;refine (check_any _ _ _).mono ?_;rintro e w' ⟨rfl,rfl⟩) | (go_at_call 53;refine (ja2 _ _).mono ?_;rintro e w' ⟨rfl,rfl⟩) | (go_at_call 81;refine (not_f _ _).mono ?_;rintro e w' ⟨rfl,rfl⟩));go_ret2;exact ⟨rfl,rfl⟩
theorem unary3_6 (x:Int) (w:World) (hx:chk 6 x=true):Calls Tryz.prog 58 #[.string ⟨#[78,111,116]⟩,.int .i64 6,.int .i64 x] w fun e w'=>e=.returned (.tuple #[.int .i64 (un 3 6 x).1,.int .i64 (un 3 6 x).2])∧w'=w:=by
 rw [un_6 3 x hx (by decide)];go_enter Tryz.func58,Tryz.ntmps58;go_wp2_with (first | (go_at_call 42;refine (check_any _ _ _).mono ?_;rintro e w' ⟨rfl,rfl⟩) | (go_at_call 82;refine (jmp _ _ _).mono ?_;rintro e w' ⟨rfl,rfl⟩));go_ret2;exact ⟨rfl,rfl⟩
theorem unary3_7 (x:Int) (w:World) (hx:chk 7 x=true):Calls Tryz.prog 58 #[.string ⟨#[78,111,116]⟩,.int .i64 7,.int .i64 x] w fun e w'=>e=.returned (.tuple #[.int .i64 (un 3 7 x).1,.int .i64 (un 3 7 x).2])∧w'=w:=by
 rw [un_7 3 x hx (by decide)];go_enter Tryz.func58,Tryz.ntmps58;go_wp2_with (first | (go_at_call 42;refine (check_any _ _ _).mono ?_;rintro e w' ⟨rfl,rfl⟩) | (go_at_call 82;refine (jmp _ _ _).mono ?_;rintro e w' ⟨rfl,rfl⟩));go_ret2;exact ⟨rfl,rfl⟩
theorem unary3_9 (x:Int) (w:World) (hx:chk 9 x=true):Calls Tryz.prog 58 #[.string ⟨#[78,111,116]⟩,.int .i64 9,.int .i64 x] w fun e w'=>e=.returned (.tuple #[.int .i64 (un 3 9 x).1,.int .i64 (un 3 9 x).2])∧w'=w:=by
 rw [un_9 3 x hx (by decide)];go_enter Tryz.func58,Tryz.ntmps58;go_wp2_with (first | (go_at_call 42;refine (check_any _ _ _).mono ?_;rintro e w' ⟨rfl,rfl⟩) | (go_at_call 83;refine (jog _ _ (jqm _ hx)).mono ?_;rintro e w' ⟨rfl,rfl⟩));go_ret2;exact ⟨rfl,rfl⟩
theorem unary4_1 (x:Int) (w:World) (hx:chk 1 x=true):Calls Tryz.prog 58 #[.string ⟨#[82,101,108,117]⟩,.int .i64 1,.int .i64 x] w fun e w'=>e=.returned (.tuple #[.int .i64 (un 4 1 x).1,.int .i64 (un 4 1 x).2])∧w'=w:=by
 rw [un_1 4 x hx (by decide)];go_enter Tryz.func58,Tryz.ntmps58;go_wp2_with (first | (go_at_call 42;refine (check_any _ _ _).mono ?_;rintro e w' ⟨rfl,rfl⟩) | (go_at_call 53;refine (ja2 _ _).mono ?_;rintro e w' ⟨rfl,rfl⟩) | (go_at_call 81;refine (jrp _ _ (fb_lt _)).mono ?_;rintro e w' ⟨rfl,rfl⟩));go_ret2;exact ⟨rfl,rfl⟩
theorem unary4_6 (x:Int) (w:World) (hx:chk 6 x=true):Calls Tryz.prog 58 #[.string ⟨#[82,101,108,117]⟩,.int .i64 6,.int .i64 x] w fun e w'=>e=.returned (.tuple #[.int .i64 (un 4 6 x).1,.int .i64 (un 4 6 x).2])∧w'=w:=by
 rw [un_6 4 x hx (by decide)];go_enter Tryz.func58,Tryz.ntmps58;go_wp2_with (first | (go_at_call 42;refine (check_any _ _ _).mono ?_;rintro e w' ⟨rfl,rfl⟩) | (go_at_call 82;refine (jmq _ _ _).mono ?_;rintro e w' ⟨rfl,rfl⟩));go_ret2;exact ⟨rfl,rfl⟩
theorem unary4_7 (x:Int) (w:World) (hx:chk 7 x=true):Calls Tryz.prog 58 #[.string ⟨#[82,101,108,117]⟩,.int .i64 7,.int .i64 x] w fun e w'=>e=.returned (.tuple #[.int .i64 (un 4 7 x).1,.int .i64 (un 4 7 x).2])∧w'=w:=by
 rw [un_7 4 x hx (by decide)];go_enter Tryz.func58,Tryz.ntmps58;go_wp2_with (first | (go_at_call 42;refine (check_any _ _ _).mono ?_;rintro e w' ⟨rfl,rfl⟩) | (go_at_call 82;refine (jmq _ _ _).mono ?_;rintro e w' ⟨rfl,rfl⟩));go_ret2;exact ⟨rfl,rfl⟩
theorem unary4_9 (x:Int) (w:World) (hx:chk 9 x=true):Calls Tryz.prog 58 #[.string ⟨#[82,101,108,117]⟩,.int .i64 9,.int .i64 x] w fun e w'=>e=.returned (.tuple #[.int .i64 (un 4 9 x).1,.int .i64 (un 4 9 x).2])∧w'=w:=by
 rw [un_9 4 x hx (by decide)];go_enter Tryz.func58,Tryz.ntmps58;go_wp2_with (first | (go_at_call 42;refine (check_any _ _ _).mono ?_;rintro e w' ⟨rfl,rfl⟩) | (go_at_call 83;refine (joj _ _).mono ?_;rintro e w' ⟨rfl,rfl⟩));go_ret2;exact ⟨rfl,rfl⟩
theorem unary5_6 (x:Int) (w:World) (hx:chk 6 x=true):Calls Tryz.prog 58 #[.string ⟨#[83,113,114,116]⟩,.int .i64 6,.int .i64 x] w fun e w'=>e=.returned (.tuple #[.int .i64 (un 5 6 x).1,.int .i64 (un 5 6 x).2])∧w'=w:=by
 rw [un_6 5 x hx (by decide)];go_enter Tryz.func58,Tryz.ntmps58;go_wp2_with (first | (go_at_call 42;refine (check_any _ _ _).mono ?_;rintro e w' ⟨rfl,rfl⟩) | (go_at_call 82;refine (jmr _ _ _).mono ?_;rintro e w' ⟨rfl,rfl⟩));go_ret2;exact ⟨rfl,rfl⟩
theorem unary5_7 (x:Int) (w:World) (hx:chk 7 x=true):Calls Tryz.prog 58 #[.string ⟨#[83,113,114,116]⟩,.int .i64 7,.int .i64 x] w fun e w'=>e=.returned (.tuple #[.int .i64 (un 5 7 x).1,.int .i64 (un 5 7 x).2])∧w'=w:=by
 rw [un_7 5 x hx (by decide)];go_enter Tryz.func58,Tryz.ntmps58;go_wp2_with (first | (go_at_call 42;refine (check_any _ _ _).mono ?_;rintro e w' ⟨rfl,rfl⟩) | (go_at_call 82;refine (jmr _ _ _).mono ?_;rintro e w' ⟨rfl,rfl⟩));go_ret2;exact ⟨rfl,rfl⟩
theorem unary5_9 (x:Int) (w:World) (hx:chk 9 x=true):Calls Tryz.prog 58 #[.string ⟨#[83,113,114,116]⟩,.int .i64 9,.int .i64 x] w fun e w'=>e=.returned (.tuple #[.int .i64 (un 5 9 x).1,.int .i64 (un 5 9 x).2])∧w'=w:=by
 rw [un_9 5 x hx (by decide)];go_enter Tryz.func58,Tryz.ntmps58;go_wp2_with (first | (go_at_call 42;refine (check_any _ _ _).mono ?_;rintro e w' ⟨rfl,rfl⟩) | (go_at_call 83;refine (jok _ _).mono ?_;rintro e w' ⟨rfl,rfl⟩));go_ret2;exact ⟨rfl,rfl⟩
theorem unary6_6 (x:Int) (w:World) (hx:chk 6 x=true):Calls Tryz.prog 58 #[.string ⟨#[70,108,111,111,114]⟩,.int .i64 6,.int .i64 x] w fun e w'=>e=.returned (.tuple #[.int .i64 (un 6 6 x).1,.int .i64 (un 6 6 x).2])∧w'=w:=by
 rw [un_6 6 x hx (by decide)];go_enter Tryz.func58,Tryz.ntmps58;go_wp2_with (first | (go_at_call 42;refine (check_any _ _ _).mono ?_;rintro e w' ⟨rfl,rfl⟩) | (go_at_call 82;refine (jms _ _ _).mono ?_;rintro e w' ⟨rfl,rfl⟩));go_ret2;exact ⟨rfl,rfl⟩
theorem unary6_7 (x:Int) (w:World) (hx:chk 7 x=true):Calls Tryz.prog 58 #[.string ⟨#[70,108,111,111,114]⟩,.int .i64 7,.int .i64 x] w fun e w'=>e=.returned (.tuple #[.int .i64 (un 6 7 x).1,.int .i64 (un 6 7 x).2])∧w'=w:=by
 rw [un_7 6 x hx (by decide)];go_enter Tryz.func58,Tryz.ntmps58;go_wp2_with (first | (go_at_call 42;refine (check_any _ _ _).mono ?_;rintro e w' ⟨rfl,rfl⟩) | (go_at_call 82;refine (jms _ _ _).mono ?_;rintro e w' ⟨rfl,rfl⟩));go_ret2;exact ⟨rfl,rfl⟩
theorem unary6_9 (x:Int) (w:World) (hx:chk 9 x=true):Calls Tryz.prog 58 #[.string ⟨#[70,108,111,111,114]⟩,.int .i64 9,.int .i64 x] w fun e w'=>e=.returned (.tuple #[.int .i64 (un 6 9 x).1,.int .i64 (un 6 9 x).2])∧w'=w:=by
 rw [un_9 6 x hx (by decide)];go_enter Tryz.func58,Tryz.ntmps58;go_wp2_with (first | (go_at_call 42;refine (check_any _ _ _).mono ?_;rintro e w' ⟨rfl,rfl⟩) | (go_at_call 83;refine (jol _ _).mono ?_;rintro e w' ⟨rfl,rfl⟩));go_ret2;exact ⟨rfl,rfl⟩
theorem unary7_6 (x:Int) (w:World) (hx:chk 6 x=true):Calls Tryz.prog 58 #[.string ⟨#[69,120,112]⟩,.int .i64 6,.int .i64 x] w fun e w'=>e=.returned (.tuple #[.int .i64 (un 7 6 x).1,.int .i64 (un 7 6 x).2])∧w'=w:=by
 rw [un_6 7 x hx (by decide)];go_enter Tryz.func58,Tryz.ntmps58;go_wp2_with (first | (go_at_call 42;refine (check_any _ _ _).mono ?_;rintro e w' ⟨rfl,rfl⟩) | (go_at_call 82;refine (jmt _ _ _).mono ?_;rintro e w' ⟨rfl,rfl⟩));go_ret2;exact ⟨rfl,rfl⟩
theorem unary7_7 (x:Int) (w:World) (hx:chk 7 x=true):Calls Tryz.prog 58 #[.string ⟨#[69,120,112]⟩,.int .i64 7,.int .i64 x] w fun e w'=>e=.returned (.tuple #[.int .i64 (un 7 7 x).1,.int .i64 (un 7 7 x).2])∧w'=w:=by
 rw [un_7 7 x hx (by decide)];go_enter Tryz.func58,Tryz.ntmps58;go_wp2_with (first | (go_at_call 42;refine (check_any _ _ _).mono ?_;rintro e w' ⟨rfl,rfl⟩) | (go_at_call 82;refine (jmt _ _ _).mono ?_;rintro e w' ⟨rfl,rfl⟩));go_ret2;exact ⟨rfl,rfl⟩
theorem unary7_9 (x:Int) (w:World) (hx:chk 9 x=true):Calls Tryz.prog 58 #[.string ⟨#[69,120,112]⟩,.int .i64 9,.int .i64 x] w fun e w'=>e=.returned (.tuple #[.int .i64 (un 7 9 x).1,.int .i64 (un 7 9 x).2])∧w'=w:=by
 rw [un_9 7 x hx (by decide)];go_enter Tryz.func58,Tryz.ntmps58;go_wp2_with (first | (go_at_call 42;refine (check_any _ _ _).mono ?_;rintro e w' ⟨rfl,rfl⟩) | (go_at_call 83;refine (jom _ _).mono ?_;rintro e w' ⟨rfl,rfl⟩));go_ret2;exact ⟨rfl,rfl⟩
theorem unary8_6 (x:Int) (w:World) (hx:chk 6 x=true):Calls Tryz.prog 58 #[.string ⟨#[83,105,103,109,111,105,100]⟩,.int .i64 6,.int .i64 x] w fun e w'=>e=.returned (.tuple #[.int .i64 (un 8 6 x).1,.int .i64 (un 8 6 x).2])∧w'=w:=by
 rw [un_6 8 x hx (by decide)];go_enter Tryz.func58,Tryz.ntmps58;go_wp2_with (first | (go_at_call 42;refine (check_any _ _ _).mono ?_;rintro e w' ⟨rfl,rfl⟩) | (go_at_call 82;refine (jmu _ _ _).mono ?_;rintro e w' ⟨rfl,rfl⟩));go_ret2;exact ⟨rfl,rfl⟩
theorem unary8_7 (x:Int) (w:World) (hx:chk 7 x=true):Calls Tryz.prog 58 #[.string ⟨#[83,105,103,109,111,105,100]⟩,.int .i64 7,.int .i64 x] w fun e w'=>e=.returned (.tuple #[.int .i64 (un 8 7 x).1,.int .i64 (un 8 7 x).2])∧w'=w:=by
 rw [un_7 8 x hx (by decide)];go_enter Tryz.func58,Tryz.ntmps58;go_wp2_with (first | (go_at_call 42;refine (check_any _ _ _).mono ?_;rintro e w' ⟨rfl,rfl⟩) | (go_at_call 82;refine (jmu _ _ _).mono ?_;rintro e w' ⟨rfl,rfl⟩));go_ret2;exact ⟨rfl,rfl⟩
theorem unary8_9 (x:Int) (w:World) (hx:chk 9 x=true):Calls Tryz.prog 58 #[.string ⟨#[83,105,103,109,111,105,100]⟩,.int .i64 9,.int .i64 x] w fun e w'=>e=.returned (.tuple #[.int .i64 (un 8 9 x).1,.int .i64 (un 8 9 x).2])∧w'=w:=by
 rw [un_9 8 x hx (by decide)];go_enter Tryz.func58,Tryz.ntmps58;go_wp2_with (first | (go_at_call 42;refine (check_any _ _ _).mono ?_;rintro e w' ⟨rfl,rfl⟩) | (go_at_call 83;refine (jon _ _).mono ?_;rintro e w' ⟨rfl,rfl⟩));go_ret2;exact ⟨rfl,rfl⟩
theorem unary9_6 (x:Int) (w:World) (hx:chk 6 x=true):Calls Tryz.prog 58 #[.string ⟨#[84,97,110,104]⟩,.int .i64 6,.int .i64 x] w fun e w'=>e=.returned (.tuple #[.int .i64 (un 9 6 x).1,.int .i64 (un 9 6 x).2])∧w'=w:=by
 rw [un_6 9 x hx (by decide)];go_enter Tryz.func58,Tryz.ntmps58;go_wp2_with (first | (go_at_call 42;refine (check_any _ _ _).mono ?_;rintro e w' ⟨rfl,rfl⟩) | (go_at_call 82;refine (jmv _ _ _).mono ?_;rintro e w' ⟨rfl,rfl⟩));go_ret2;exact ⟨rfl,rfl⟩
theorem unary9_7 (x:Int) (w:World) (hx:chk 7 x=true):Calls Tryz.prog 58 #[.string ⟨#[84,97,110,104]⟩,.int .i64 7,.int .i64 x] w fun e w'=>e=.returned (.tuple #[.int .i64 (un 9 7 x).1,.int .i64 (un 9 7 x).2])∧w'=w:=by
 rw [un_7 9 x hx (by decide)];go_enter Tryz.func58,Tryz.ntmps58;go_wp2_with (first | (go_at_call 42;refine (check_any _ _ _).mono ?_;rintro e w' ⟨rfl,rfl⟩) | (go_at_call 82;refine (jmv _ _ _).mono ?_;rintro e w' ⟨rfl,rfl⟩));go_ret2;exact ⟨rfl,rfl⟩
theorem unary9_9 (x:Int) (w:World) (hx:chk 9 x=true):Calls Tryz.prog 58 #[.string ⟨#[84,97,110,104]⟩,.int .i64 9,.int .i64 x] w fun e w'=>e=.returned (.tuple #[.int .i64 (un 9 9 x).1,.int .i64 (un 9 9 x).2])∧w'=w:=by
 rw [un_9 9 x hx (by decide)];go_enter Tryz.func58,Tryz.ntmps58;go_wp2_with (first | (go_at_call 42;refine (check_any _ _ _).mono ?_;rintro e w' ⟨rfl,rfl⟩) | (go_at_call 83;refine (joo _ _).mono ?_;rintro e w' ⟨rfl,rfl⟩));go_ret2;exact ⟨rfl,rfl⟩
end Go.Proofs.YtekocmdfaaoggaaGreatDoor.Nu
