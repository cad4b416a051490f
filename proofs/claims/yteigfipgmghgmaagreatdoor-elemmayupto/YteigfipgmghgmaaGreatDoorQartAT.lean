/- A part. -/
import Derived.Test.YteigfipgmghgmaaGreatDoorQartAS
set_option maxHeartbeats 400000
namespace Go.Proofs.YteigfipgmghgmaaGreatDoor.Nu
open Go.RowKit
theorem chk_types (t x:Int) (h:chk t x=true):t=1∨t=6∨t=7∨t=9:=by
 unfold chk at h
 split at h
 ·omega
 ·split at h
  ·omega
  ·split at h
   ·omega
   ·split at h
    ·omega
    ·cases h
theorem jo0 (x:Int) (h:chk 9 x=true):x=0∨x=1:=by simpa [chk] using h
theorem jch (k:Nat) (t x y:Int) (h:chk t x=false):bin k t x y=(0,1):=by simp [bin,h]
theorem jci (k:Nat) (t x y:Int) (h:chk t y=false):bin k t x y=(0,1):=by simp [bin,h]
theorem jeF (k:Nat) (x y:Int) (hx:chk 1 x=true) (hy:chk 1 y=true):bin k 1 x y=binFl k (fb x) (fb y):=by simp [bin,hx,hy]
theorem jeG (k:Nat) (x y:Int) (hx:chk 6 x=true) (hy:chk 6 y=true):bin k 6 x y=binIn k 6 x y:=by simp [bin,hx,hy]
theorem jeH (k:Nat) (x y:Int) (hx:chk 7 x=true) (hy:chk 7 y=true):bin k 7 x y=binIn k 7 x y:=by simp [bin,hx,hy]
theorem jeI (k:Nat) (x y:Int) (hx:chk 9 x=true) (hy:chk 9 y=true):bin k 9 x y=binBo k x y:=by simp [bin,hx,hy]
theorem jf7 (t x y:Int) (w:World) (h:chk t x=false∨chk t x=true∧chk t y=false):Calls Tryz.prog 31 #[.string ⟨#[65,100,100]⟩,.int .i64 t,.int .i64 x,.int .i64 y] w fun e w'=>e=.returned (.tuple #[.int .i64 0,.int .i64 1])∧∃ n,w'=w.drewN n:=by
 rcases h with hx | ⟨hx,hy⟩
 all_goals
  go_enter Tryz.func31,Tryz.ntmps31;go_wp2_with (first | (go_at_call 45;refine (jah _ _ _).mono ?_;rintro e w' ⟨rfl,rfl⟩));go_ret2;exact ⟨rfl,0,rfl⟩
theorem jl3 (x y:Int) (w:World) (hx:chk 1 x=true) (hy:chk 1 y=true):Calls Tryz.prog 31 #[.string ⟨#[65,100,100]⟩,.int .i64 1,.int .i64 x,.int .i64 y] w fun e w'=>e=.returned (.tuple #[.int .i64 (bin 0 1 x y).1,.int .i64 (bin 0 1 x y).2])∧∃ n,w'=w.drewN n:=by
 rw [jeF 0 x y hx hy];go_enter Tryz.func31,Tryz.ntmps31;go_wp2_with (first | (go_at_call 45;refine (jah _ _ _).mono ?_;rintro e w' ⟨rfl,rfl⟩) | (go_at_call 50;refine (jaO _ _).mono ?_;rintro e w' ⟨rfl,rfl⟩) | (go_at_call 53;refine (add_f _ _ _).mono ?_;rintro e w' ⟨rfl,n,rfl⟩));go_ret2;exact ⟨rfl,_,rfl⟩
theorem jl4 (x y:Int) (w:World) (hx:chk 6 x=true) (hy:chk 6 y=true):Calls Tryz.prog 31 #[.string ⟨#[65,100,100]⟩,.int .i64 6,.int .i64 x,.int .i64 y] w fun e w'=>e=.returned (.tuple #[.int .i64 (bin 0 6 x y).1,.int .i64 (bin 0 6 x y).2])∧∃ n,w'=w.drewN n:=by
 rw [jeG 0 x y hx hy];go_enter Tryz.func31,Tryz.ntmps31;go_wp2_with (first | (go_at_call 45;refine (jah _ _ _).mono ?_;rintro e w' ⟨rfl,rfl⟩) | (go_at_call 54;refine (jqe _ _ _ _).mono ?_;rintro e w' ⟨rfl,rfl⟩));go_ret2;exact ⟨rfl,0,rfl⟩
theorem jl5 (x y:Int) (w:World) (hx:chk 7 x=true) (hy:chk 7 y=true):Calls Tryz.prog 31 #[.string ⟨#[65,100,100]⟩,.int .i64 7,.int .i64 x,.int .i64 y] w fun e w'=>e=.returned (.tuple #[.int .i64 (bin 0 7 x y).1,.int .i64 (bin 0 7 x y).2])∧∃ n,w'=w.drewN n:=by
 rw [jeH 0 x y hx hy];go_enter Tryz.func31,Tryz.ntmps31;go_wp2_with (first | (go_at_call 45;refine (jah _ _ _).mono ?_;rintro e w' ⟨rfl,rfl⟩) | (go_at_call 54;refine (jqe _ _ _ _).mono ?_;rintro e w' ⟨rfl,rfl⟩));go_ret2;exact ⟨rfl,0,rfl⟩
theorem jl6 (x y:Int) (w:World) (hx:chk 9 x=true) (hy:chk 9 y=true):Calls Tryz.prog 31 #[.string ⟨#[65,100,100]⟩,.int .i64 9,.int .i64 x,.int .i64 y] w fun e w'=>e=.returned (.tuple #[.int .i64 (bin 0 9 x y).1,.int .i64 (bin 0 9 x y).2])∧∃ n,w'=w.drewN n:=by
 rw [jeI 0 x y hx hy];go_enter Tryz.func31,Tryz.ntmps31;go_wp2_with (first | (go_at_call 45;refine (jah _ _ _).mono ?_;rintro e w' ⟨rfl,rfl⟩) | (go_at_call 55;refine (jq9 _ _ _).mono ?_;rintro e w' ⟨rfl,rfl⟩));go_ret2;exact ⟨rfl,0,rfl⟩
theorem binary0 (t x y:Int) (w:World):Calls Tryz.prog 31 #[.string ⟨#[65,100,100]⟩,.int .i64 t,.int .i64 x,.int .i64 y] w fun e w'=>e=.returned (.tuple #[.int .i64 (bin 0 t x y).1,.int .i64 (bin 0 t x y).2])∧∃ n,w'=w.drewN n:=by
 cases hx:chk t x with
 | false=>rw [jch 0 t x y hx];exact jf7 t x y w (.inl hx)
 | true =>
  cases hy:chk t y with
  | false=>rw [jci 0 t x y hy];exact jf7 t x y w (.inr ⟨hx,hy⟩)
  | true =>
   rcases chk_types t x hx with rfl | rfl | rfl | rfl
   ·exact jl3 x y w hx hy
   ·exact jl4 x y w hx hy
   ·exact jl5 x y w hx hy
   ·exact jl6 x y w hx hy
theorem jf8 (t x y:Int) (w:World) (h:chk t x=false∨chk t x=true∧chk t y=false):Calls Tryz.prog 31 #[.string ⟨#[83,117,98]⟩,.int .i64 t,.int .i64 x,.int .i64 y] w fun e w'=>e=.returned (.tuple #[.int .i64 0,.int .i64 1])∧∃ n,w'=w.drewN n:=by
 rcases h with hx | ⟨hx,hy⟩
 all_goals
  go_enter Tryz.func31,Tryz.ntmps31;go_wp2_with (first | (go_at_call 45;refine (jah _ _ _).mono ?_;rintro e w' ⟨rfl,rfl⟩));go_ret2;exact ⟨rfl,0,rfl⟩
theorem jl7 (x y:Int) (w:World) (hx:chk 1 x=true) (hy:chk 1 y=true):Calls Tryz.prog 31 #[.string ⟨#[83,117,98]⟩,.int .i64 1,.int .i64 x,.int .i64 y] w fun e w'=>e=.returned (.tuple #[.int .i64 (bin 1 1 x y).1,.int .i64 (bin 1 1 x y).2])∧∃ n,w'=w.drewN n:=by
 rw [jeF 1 x y hx hy];go_enter Tryz.func31,Tryz.ntmps31;go_wp2_with (first | (go_at_call 45;refine (jah _ _ _).mono ?_;rintro e w' ⟨rfl,rfl⟩) | (go_at_call 50;refine (jaO _ _).mono ?_;rintro e w' ⟨rfl,rfl⟩) | (go_at_call 53;refine (sub_f _ _ _).mono ?_;rintro e w' ⟨rfl,n,rfl⟩));go_ret2;exact ⟨rfl,_,rfl⟩
theorem jl8 (x y:Int) (w:World) (hx:chk 6 x=true) (hy:chk 6 y=true):Calls Tryz.prog 31 #[.string ⟨#[83,117,98]⟩,.int .i64 6,.int .i64 x,.int .i64 y] w fun e w'=>e=.returned (.tuple #[.int .i64 (bin 1 6 x y).1,.int .i64 (bin 1 6 x y).2])∧∃ n,w'=w.drewN n:=by
 rw [jeG 1 x y hx hy];go_enter Tryz.func31,Tryz.ntmps31;go_wp2_with (first | (go_at_call 45;refine (jah _ _ _).mono ?_;rintro e w' ⟨rfl,rfl⟩) | (go_at_call 54;refine (jqf _ _ _ _).mono ?_;rintro e w' ⟨rfl,rfl⟩));go_ret2;exact ⟨rfl,0,rfl⟩
theorem jl9 (x y:Int) (w:World) (hx:chk 7 x=true) (hy:chk 7 y=true):Calls Tryz.prog 31 #[.string ⟨#[83,117,98]⟩,.int .i64 7,.int .i64 x,.int .i64 y] w fun e w'=>e=.returned (.tuple #[.int .i64 (bin 1 7 x y).1,.int .i64 (bin 1 7 x y).2])∧∃ n,w'=w.drewN n:=by
 rw [jeH 1 x y hx hy];go_enter Tryz.func31,Tryz.ntmps31;go_wp2_with (first | (go_at_call 45;refine (jah _ _ _).mono ?_;rintro e w' ⟨rfl,rfl⟩) | (go_at_call 54;refine (jqf _ _ _ _).mono ?_;rintro e w' ⟨rfl,rfl⟩));go_ret2;exact ⟨rfl,0,rfl⟩
theorem jma (x y:Int) (w:World) (hx:chk 9 x=true) (hy:chk 9 y=true):Calls Tryz.prog 31 #[.string ⟨#[83,117,98]⟩,.int .i64 9,.int .i64 x,.int .i64 y] w fun e w'=>e=.returned (.tuple #[.int .i64 (bin 1 9 x y).1,.int .i64 (bin 1 9 x y).2])∧∃ n,w'=w.drewN n:=by
 rw [jeI 1 x y hx hy];go_enter Tryz.func31,Tryz.ntmps31;go_wp2_with (first | (go_at_call 45;refine (jah _ _ _).mono ?_;rintro e w' ⟨rfl,rfl⟩) | (go_at_call 55;refine (jra _ _ _).mono ?_;rintro e w' ⟨rfl,rfl⟩));go_ret2;exact ⟨rfl,0,rfl⟩
theorem binary1 (t x y:Int) (w:World):Calls Tryz.prog 31 #[.string ⟨#[83,117,98]⟩,.int .i64 t,.int .i64 x,.int .i64 y] w fun e w'=>e=.returned (.tuple #[.int .i64 (bin 1 t x y).1,.int .i64 (bin 1 t x y).2])∧∃ n,w'=w.drewN n:=by
 cases hx:chk t x with
 | false=>rw [jch 1 t x y hx];exact jf8 t x y w (.inl hx)
 | true =>
  cases hy:chk t y with
  | false=>rw [jci 1 t x y hy];exact jf8 t x y w (.inr ⟨hx,hy⟩)
  | true =>
   rcases chk_types t x hx with rfl | rfl | rfl | rfl
   ·exact jl7 x y w hx hy
   ·exact jl8 x y w hx hy
   ·exact jl9 x y w hx hy
   ·exact jma x y w hx hy
theorem jf9 (t x y:Int) (w:World) (h:chk t x=false∨chk t x=true∧chk t y=false):Calls Tryz.prog 31 #[.string ⟨#[77,117,108]⟩,.int .i64 t,.int .i64 x,.int .i64 y] w fun e w'=>e=.returned (.tuple #[.int .i64 0,.int .i64 1])∧∃ n,w'=w.drewN n:=by
 rcases h with hx | ⟨hx,hy⟩
 all_goals
  go_enter Tryz.func31,Tryz.ntmps31;go_wp2_with (first | (go_at_call 45;refine (jah _ _ _).mono ?_;rintro e w' ⟨rfl,rfl⟩));go_ret2;exact ⟨rfl,0,rfl⟩
theorem jmb (x y:Int) (w:World) (hx:chk 1 x=true) (hy:chk 1 y=true):Calls Tryz.prog 31 #[.string ⟨#[77,117,108]⟩,.int .i64 1,.int .i64 x,.int .i64 y] w fun e w'=>e=.returned (.tuple #[.int .i64 (bin 2 1 x y).1,.int .i64 (bin 2 1 x y).2])∧∃ n,w'=w.drewN n:=by
 rw [jeF 2 x y hx hy];go_enter Tryz.func31,Tryz.ntmps31;go_wp2_with (first | (go_at_call 45;refine (jah _ _ _).mono ?_;rintro e w' ⟨rfl,rfl⟩) | (go_at_call 50;refine (jaO _ _).mono ?_;rintro e w' ⟨rfl,rfl⟩) | (go_at_call 53;refine (mul_f _ _ _).mono ?_;rintro e w' ⟨rfl,n,rfl⟩));go_ret2;exact ⟨rfl,_,rfl⟩
theorem jmc (x y:Int) (w:World) (hx:chk 6 x=true) (hy:chk 6 y=true):Calls Tryz.prog 31 #[.string ⟨#[77,117,108]⟩,.int .i64 6,.int .i64 x,.int .i64 y] w fun e w'=>e=.returned (.tuple #[.int .i64 (bin 2 6 x y).1,.int .i64 (bin 2 6 x y).2])∧∃ n,w'=w.drewN n:=by
 rw [jeG 2 x y hx hy];go_enter Tryz.func31,Tryz.ntmps31;go_wp2_with (first | (go_at_call 45;refine (jah _ _ _).mono ?_;rintro e w' ⟨rfl,rfl⟩) | (go_at_call 54;refine (jqg _ _ _ _).mono ?_;rintro e w' ⟨rfl,rfl⟩));go_ret2;exact ⟨rfl,0,rfl⟩
theorem jmd (x y:Int) (w:World) (hx:chk 7 x=true) (hy:chk 7 y=true):Calls Tryz.prog 31 #[.string ⟨#[77,117,108]⟩,.int .i64 7,.int .i64 x,.int .i64 y] w fun e w'=>e=.returned (.tuple #[.int .i64 (bin 2 7 x y).1,.int .i64 (bin 2 7 x y).2])∧∃ n,w'=w.drewN n:=by
 rw [jeH 2 x y hx hy];go_enter Tryz.func31,Tryz.ntmps31;go_wp2_with (first | (go_at_call 45;refine (jah _ _ _).mono ?_;rintro e w' ⟨rfl,rfl⟩) | (go_at_call 54;refine (jqg _ _ _ _).mono ?_;rintro e w' ⟨rfl,rfl⟩));go_ret2;exact ⟨rfl,0,rfl⟩
theorem jme (x y:Int) (w:World) (hx:chk 9 x=true) (hy:chk 9 y=true):Calls Tryz.prog 31 #[.string ⟨#[77,117,108]⟩,.int .i64 9,.int .i64 x,.int .i64 y] w fun e w'=>e=.returned (.tuple #[.int .i64 (bin 2 9 x y).1,.int .i64 (bin 2 9 x y).2])∧∃ n,w'=w.drewN n:=by
 rw [jeI 2 x y hx hy];go_enter Tryz.func31,Tryz.ntmps31;go_wp2_with (first | (go_at_call 45;refine (jah _ _ _).mono ?_;rintro e w' ⟨rfl,rfl⟩) | (go_at_call 55;refine (jrb _ _ _).mono ?_;rintro e w' ⟨rfl,rfl⟩));go_ret2;exact ⟨rfl,0,rfl⟩
theorem binary2 (t x y:Int) (w:World):Calls Tryz.prog 31 #[.string ⟨#[77,117,108]⟩,.int .i64 t,.int .i64 x,.int .i64 y] w fun e w'=>e=.returned (.tuple #[.int .i64 (bin 2 t x y).1,.int .i64 (bin 2 t x y).2])∧∃ n,w'=w.drewN n:=by
 cases hx:chk t x with
 | false=>rw [jch 2 t x y hx];exact jf9 t x y w (.inl hx)
 | true =>
  cases hy:chk t y with
  | false=>rw [jci 2 t x y hy];exact jf9 t x y w (.inr ⟨hx,hy⟩)
  | true =>
   rcases chk_types t x hx with rfl | rfl | rfl | rfl
   ·exact jmb x y w hx hy
   ·exact jmc x y w hx hy
   ·exact jmd x y w hx hy
   ·exact jme x y w hx hy
theorem jga (t x y:Int) (w:World) (h:chk t x=false∨chk t x=true∧chk t y=false):Calls Tryz.prog 31 #[.string ⟨#[68,105,118]⟩,.int .i64 t,.int .i64 x,.int .i64 y] w fun e w'=>e=.returned (.tuple #[.int .i64 0,.int .i64 1])∧∃ n,w'=w.drewN n:=by
 rcases h with hx | ⟨hx,hy⟩
 all_goals
  go_enter Tryz.func31,Tryz.ntmps31;go_wp2_with (first | (go_at_call 45;refine (jah _ _ _).mono ?_;rintro e w' ⟨rfl,rfl⟩));go_ret2;exact ⟨rfl,0,rfl⟩
theorem jmf (x y:Int) (w:World) (hx:chk 1 x=true) (hy:chk 1 y=true):Calls Tryz.prog 31 #[.string ⟨#[68,105,118]⟩,.int .i64 1,.int .i64 x,.int .i64 y] w fun e w'=>e=.returned (.tuple #[.int .i64 (bin 3 1 x y).1,.int .i64 (bin 3 1 x y).2])∧∃ n,w'=w.drewN n:=by
 rw [jeF 3 x y hx hy];go_enter Tryz.func31,Tryz.ntmps31;go_wp2_with (first | (go_at_call 45;refine (jah _ _ _).mono ?_;rintro e w' ⟨rfl,rfl⟩) | (go_at_call 50;refine (jaO _ _).mono ?_;rintro e w' ⟨rfl,rfl⟩) | (go_at_call 53;refine (div_f _ _ _).mono ?_;rintro e w' ⟨rfl,n,rfl⟩));go_ret2;exact ⟨rfl,_,rfl⟩
theorem jmg (x y:Int) (w:World) (hx:chk 6 x=true) (hy:chk 6 y=true):Calls Tryz.prog 31 #[.string ⟨#[68,105,118]⟩,.int .i64 6,.int .i64 x,.int .i64 y] w fun e w'=>e=.returned (.tuple #[.int .i64 (bin 3 6 x y).1,.int .i64 (bin 3 6 x y).2])∧∃ n,w'=w.drewN n:=by
 rw [jeG 3 x y hx hy]
 cases h0:(y==0) with
 | true =>
  have e0:binIn 3 6 x y=(0,7):=by simp at h0;simp [binIn,h0]
  rw [e0];clear e0;go_enter Tryz.func31,Tryz.ntmps31;go_wp2_with (first | (go_at_call 45;refine (jah _ _ _).mono ?_;rintro e w' ⟨rfl,rfl⟩) | (go_at_call 54;refine (jl0 _ _ _ _ h0).mono ?_;rintro e w' ⟨rfl,rfl⟩));go_ret2;exact ⟨rfl,0,rfl⟩
 | false =>
  have e0:binIn 3 6 x y=(wrapT 6 (wrap64 (x.tdiv y)),0):=by simp at h0;simp [binIn,h0]
  rw [e0];clear e0;go_enter Tryz.func31,Tryz.ntmps31;go_wp2_with (first | (go_at_call 45;refine (jah _ _ _).mono ?_;rintro e w' ⟨rfl,rfl⟩) | (go_at_call 54;refine (jjL _ _ _ _ h0).mono ?_;rintro e w' ⟨rfl,rfl⟩));go_ret2;exact ⟨rfl,0,rfl⟩
theorem jmh (x y:Int) (w:World) (hx:chk 7 x=true) (hy:chk 7 y=true):Calls Tryz.prog 31 #[.string ⟨#[68,105,118]⟩,.int .i64 7,.int .i64 x,.int .i64 y] w fun e w'=>e=.returned (.tuple #[.int .i64 (bin 3 7 x y).1,.int .i64 (bin 3 7 x y).2])∧∃ n,w'=w.drewN n:=by
 rw [jeH 3 x y hx hy]
 cases h0:(y==0) with
 | true =>
  have e0:binIn 3 7 x y=(0,7):=by simp at h0;simp [binIn,h0]
  rw [e0];clear e0;go_enter Tryz.func31,Tryz.ntmps31;go_wp2_with (first | (go_at_call 45;refine (jah _ _ _).mono ?_;rintro e w' ⟨rfl,rfl⟩) | (go_at_call 54;refine (jl0 _ _ _ _ h0).mono ?_;rintro e w' ⟨rfl,rfl⟩));go_ret2;exact ⟨rfl,0,rfl⟩
 | false =>
  have e0:binIn 3 7 x y=(wrapT 7 (wrap64 (x.tdiv y)),0):=by simp at h0;simp [binIn,h0]
  rw [e0];clear e0;go_enter Tryz.func31,Tryz.ntmps31;go_wp2_with (first | (go_at_call 45;refine (jah _ _ _).mono ?_;rintro e w' ⟨rfl,rfl⟩) | (go_at_call 54;refine (jjL _ _ _ _ h0).mono ?_;rintro e w' ⟨rfl,rfl⟩));go_ret2;exact ⟨rfl,0,rfl⟩
theorem jmi (x y:Int) (w:World) (hx:chk 9 x=true) (hy:chk 9 y=true):Calls Tryz.prog 31 #[.string ⟨#[68,105,118]⟩,.int .i64 9,.int .i64 x,.int .i64 y] w fun e w'=>e=.returned (.tuple #[.int .i64 (bin 3 9 x y).1,.int .i64 (bin 3 9 x y).2])∧∃ n,w'=w.drewN n:=by
 rw [jeI 3 x y hx hy];go_enter Tryz.func31,Tryz.ntmps31;go_wp2_with (first | (go_at_call 45;refine (jah _ _ _).mono ?_;rintro e w' ⟨rfl,rfl⟩) | (go_at_call 55;refine (jrc _ _ _).mono ?_;rintro e w' ⟨rfl,rfl⟩));go_ret2;exact ⟨rfl,0,rfl⟩
theorem binary3 (t x y:Int) (w:World):Calls Tryz.prog 31 #[.string ⟨#[68,105,118]⟩,.int .i64 t,.int .i64 x,.int .i64 y] w fun e w'=>e=.returned (.tuple #[.int .i64 (bin 3 t x y).1,.int .i64 (bin 3 t x y).2])∧∃ n,w'=w.drewN n:=by
 cases hx:chk t x with
 | false=>rw [jch 3 t x y hx];exact jga t x y w (.inl hx)
 | true =>
  cases hy:chk t y with
  | false=>rw [jci 3 t x y hy];exact jga t x y w (.inr ⟨hx,hy⟩)
  | true =>
   rcases chk_types t x hx with rfl | rfl | rfl | rfl
   ·exact jmf x y w hx hy
   ·exact jmg x y w hx hy
   ·exact jmh x y w hx hy
   ·exact jmi x y w hx hy
theorem jgb (t x y:Int) (w:World) (h:chk t x=false∨chk t x=true∧chk t y=false):Calls Tryz.prog 31 #[.string ⟨#[77,97,120]⟩,.int .i64 t,.int .i64 x,.int .i64 y] w fun e w'=>e=.returned (.tuple #[.int .i64 0,.int .i64 1])∧∃ n,w'=w.drewN n:=by
 rcases h with hx | ⟨hx,hy⟩
 all_goals
  go_enter Tryz.func31,Tryz.ntmps31;go_wp2_with (first | (go_at_call 45;refine (jah _ _ _).mono ?_;rintro e w' ⟨rfl,rfl⟩));go_ret2;exact ⟨rfl,0,rfl⟩
theorem jmj (x y:Int) (w:World) (hx:chk 1 x=true) (hy:chk 1 y=true):Calls Tryz.prog 31 #[.string ⟨#[77,97,120]⟩,.int .i64 1,.int .i64 x,.int .i64 y] w fun e w'=>e=.returned (.tuple #[.int .i64 (bin 4 1 x y).1,.int .i64 (bin 4 1 x y).2])∧∃ n,w'=w.drewN n:=by
 rw [jeF 4 x y hx hy];go_enter Tryz.func31,Tryz.ntmps31;go_wp2_with (first | (go_at_call 45;refine (jah _ _ _).mono ?_;rintro e w' ⟨rfl,rfl⟩) | (go_at_call 50;refine (jaO _ _).mono ?_;rintro e w' ⟨rfl,rfl⟩) | (go_at_call 53;refine (max_f _ _ _ (jcC _) (jcC _)).mono ?_;rintro e w' ⟨rfl,n,rfl⟩));go_ret2;exact ⟨rfl,_,rfl⟩
theorem jmk (x y:Int) (w:World) (hx:chk 6 x=true) (hy:chk 6 y=true):Calls Tryz.prog 31 #[.string ⟨#[77,97,120]⟩,.int .i64 6,.int .i64 x,.int .i64 y] w fun e w'=>e=.returned (.tuple #[.int .i64 (bin 4 6 x y).1,.int .i64 (bin 4 6 x y).2])∧∃ n,w'=w.drewN n:=by
 rw [jeG 4 x y hx hy];go_enter Tryz.func31,Tryz.ntmps31;go_wp2_with (first | (go_at_call 45;refine (jah _ _ _).mono ?_;rintro e w' ⟨rfl,rfl⟩) | (go_at_call 54;refine (jqh _ _ _ _).mono ?_;rintro e w' ⟨rfl,rfl⟩));go_ret2;exact ⟨rfl,0,rfl⟩
theorem jml (x y:Int) (w:World) (hx:chk 7 x=true) (hy:chk 7 y=true):Calls Tryz.prog 31 #[.string ⟨#[77,97,120]⟩,.int .i64 7,.int .i64 x,.int .i64 y] w fun e w'=>e=.returned (.tuple #[.int .i64 (bin 4 7 x y).1,.int .i64 (bin 4 7 x y).2])∧∃ n,w'=w.drewN n:=by
 rw [jeH 4 x y hx hy];go_enter Tryz.func31,Tryz.ntmps31;go_wp2_with (first | (go_at_call 45;refine (jah _ _ _).mono ?_;rintro e w' ⟨rfl,rfl⟩) | (go_at_call 54;refine (jqh _ _ _ _).mono ?_;rintro e w' ⟨rfl,rfl⟩));go_ret2;exact ⟨rfl,0,rfl⟩
theorem jmm (x y:Int) (w:World) (hx:chk 9 x=true) (hy:chk 9 y=true):Calls Tryz.prog 31 #[.string ⟨#[77,97,120]⟩,.int .i64 9,.int .i64 x,.int .i64 y] w fun e w'=>e=.returned (.tuple #[.int .i64 (bin 4 9 x y).1,.int .i64 (bin 4 9 x y).2])∧∃ n,w'=w.drewN n:=by
 rw [jeI 4 x y hx hy];go_enter Tryz.func31,Tryz.ntmps31;go_wp2_with (first | (go_at_call 45;refine (jah _ _ _).mono ?_;rintro e w' ⟨rfl,rfl⟩) | (go_at_call 55;refine (jrd _ _ _).mono ?_;rintro e w' ⟨rfl,rfl⟩));go_ret2;exact ⟨rfl,0,rfl⟩
theorem binary4 (t x y:Int) (w:World):Calls Tryz.prog 31 #[.string ⟨#[77,97,120]⟩,.int .i64 t,.int .i64 x,.int .i64 y] w fun e w'=>e=.returned (.tuple #[.int .i64 (bin 4 t x y).1,.int .i64 (bin 4 t x y).2])∧∃ n,w'=w.drewN n:=by
 cases hx:chk t x with
 | false=>rw [jch 4 t x y hx];exact jgb t x y w (.inl hx)
 | true =>
  cases hy:chk t y with
  | false=>rw [jci 4 t x y hy];exact jgb t x y w (.inr ⟨hx,hy⟩)
  | true =>
   rcases chk_types t x hx with rfl | rfl | rfl | rfl
   ·exact jmj x y w hx hy
   ·exact jmk x y w hx hy
   ·exact jml x y w hx hy
   ·exact jmm x y w hx hy
theorem jgc (t x y:Int) (w:World) (h:chk t x=false∨chk t x=true∧chk t y=false):Calls Tryz.prog 31 #[.string ⟨#[77,105,110]⟩,.int .i64 t,.int .i64 x,.int .i64 y] w fun e w'=>e=.returned (.tuple #[.int .i64 0,.int .i64 1])∧∃ n,w'=w.drewN n:=by
 rcases h with hx | ⟨hx,hy⟩
 all_goals
  go_enter Tryz.func31,Tryz.ntmps31;go_wp2_with (first | (go_at_call 45;refine (jah _ _ _).mono ?_;rintro e w' ⟨rfl,rfl⟩));go_ret2;exact ⟨rfl,0,rfl⟩
theorem jmn (x y:Int) (w:World) (hx:chk 1 x=true) (hy:chk 1 y=true):Calls Tryz.prog 31 #[.string ⟨#[77,105,110]⟩,.int .i64 1,.int .i64 x,.int .i64 y] w fun e w'=>e=.returned (.tuple #[.int .i64 (bin 5 1 x y).1,.int .i64 (bin 5 1 x y).2])∧∃ n,w'=w.drewN n:=by
 rw [jeF 5 x y hx hy];go_enter Tryz.func31,Tryz.ntmps31;go_wp2_with (first | (go_at_call 45;refine (jah _ _ _).mono ?_;rintro e w' ⟨rfl,rfl⟩) | (go_at_call 50;refine (jaO _ _).mono ?_;rintro e w' ⟨rfl,rfl⟩) | (go_at_call 53;refine (min_f _ _ _ (jcC _) (jcC _)).mono ?_;rintro e w' ⟨rfl,n,rfl⟩));go_ret2;exact ⟨rfl,_,rfl⟩
theorem jmo (x y:Int) (w:World) (hx:chk 6 x=true) (hy:chk 6 y=true):Calls Tryz.prog 31 #[.string ⟨#[77,105,110]⟩,.int .i64 6,.int .i64 x,.int .i64 y] w fun e w'=>e=.returned (.tuple #[.int .i64 (bin 5 6 x y).1,.int .i64 (bin 5 6 x y).2])∧∃ n,w'=w.drewN n:=by
 rw [jeG 5 x y hx hy];go_enter Tryz.func31,Tryz.ntmps31;go_wp2_with (first | (go_at_call 45;refine (jah _ _ _).mono ?_;rintro e w' ⟨rfl,rfl⟩) | (go_at_call 54;refine (jqi _ _ _ _).mono ?_;rintro e w' ⟨rfl,rfl⟩));go_ret2;exact ⟨rfl,0,rfl⟩
theorem jmp (x y:Int) (w:World) (hx:chk 7 x=true) (hy:chk 7 y=true):Calls Tryz.prog 31 #[.string ⟨#[77,105,110]⟩,.int .i64 7,.int .i64 x,.int .i64 y] w fun e w'=>e=.returned (.tuple #[.int .i64 (bin 5 7 x y).1,.int .i64 (bin 5 7 x y).2])∧∃ n,w'=w.drewN n:=by
 rw [jeH 5 x y hx hy];go_enter Tryz.func31,Tryz.ntmps31;go_wp2_with (first | (go_at_call 45;refine (jah _ _ _).mono ?_;rintro e w' ⟨rfl,rfl⟩) | (go_at_call 54;refine (jqi _ _ _ _).mono ?_;rintro e w' ⟨rfl,rfl⟩));go_ret2;exact ⟨rfl,0,rfl⟩
theorem jmq (x y:Int) (w:World) (hx:chk 9 x=true) (hy:chk 9 y=true):Calls Tryz.prog 31 #[.string ⟨#[77,105,110]⟩,.int .i64 9,.int .i64 x,.int .i64 y] w fun e w'=>e=.returned (.tuple #[.int .i64 (bin 5 9 x y).1,.int .i64 (bin 5 9 x y).2])∧∃ n,w'=w.drewN n:=by
 rw [jeI 5 x y hx hy];go_enter Tryz.func31,Tryz.ntmps31;go_wp2_with (first | (go_at_call 45;refine (jah _ _ _).mono ?_;rintro e w' ⟨rfl,rfl⟩) | (go_at_call 55;refine (jre _ _ _).mono ?_;rintro e w' ⟨rfl,rfl⟩));go_ret2;exact ⟨rfl,0,rfl⟩
theorem binary5 (t x y:Int) (w:World):Calls Tryz.prog 31 #[.string ⟨#[77,105,110]⟩,.int .i64 t,.int .i64 x,.int .i64 y] w fun e w'=>e=.returned (.tuple #[.int .i64 (bin 5 t x y).1,.int .i64 (bin 5 t x y).2])∧∃ n,w'=w.drewN n:=by
 cases hx:chk t x with
 | false=>rw [jch 5 t x y hx];exact jgc t x y w (.inl hx)
 | true =>
  cases hy:chk t y with
  | false=>rw [jci 5 t x y hy];exact jgc t x y w (.inr ⟨hx,hy⟩)
  | true =>
   rcases chk_types t x hx with rfl | rfl | rfl | rfl
   ·exact jmn x y w hx hy
   ·exact jmo x y w hx hy
   ·exact jmp x y w hx hy
   ·exact jmq x y w hx hy
theorem jgd (t x y:Int) (w:World) (h:chk t x=false∨chk t x=true∧chk t y=false):Calls Tryz.prog 31 #[.string ⟨#[65,110,100]⟩,.int .i64 t,.int .i64 x,.int .i64 y] w fun e w'=>e=.returned (.tuple #[.int .i64 0,.int .i64 1])∧∃ n,w'=w.drewN n:=by
 rcases h with hx | ⟨hx,hy⟩
 all_goals
  go_enter Tryz.func31,Tryz.ntmps31;go_wp2_with (first | (go_at_call 45;refine (jah _ _ _).mono ?_;rintro e w' ⟨rfl,rfl⟩));go_ret2;exact ⟨rfl,0,rfl⟩
theorem jmr (x y:Int) (w:World) (hx:chk 1 x=true) (hy:chk 1 y=true):Calls Tryz.prog 31 #[.string ⟨#[65,110,100]⟩,.int .i64 1,.int .i64 x,.int .i64 y] w fun e w'=>e=.returned (.tuple #[.int .i64 (bin 6 1 x y).1,.int .i64 (bin 6 1 x y).2])∧∃ n,w'=w.drewN n:=by
 rw [jeF 6 x y hx hy];go_enter Tryz.func31,Tryz.ntmps31;go_wp2_with (first | (go_at_call 45;refine (jah _ _ _).mono ?_;rintro e w' ⟨rfl,rfl⟩) | (go_at_call 50;refine (jaO _ _).mono ?_;rintro e w' ⟨rfl,rfl⟩) | (go_at_call 53;refine (no6_f _ _ _).mono ?_;rintro e w' ⟨rfl,n,rfl⟩));go_ret2;exact ⟨rfl,_,rfl⟩
theorem jms (x y:Int) (w:World) (hx:chk 6 x=true) (hy:chk 6 y=true):Calls Tryz.prog 31 #[.string ⟨#[65,110,100]⟩,.int .i64 6,.int .i64 x,.int .i64 y] w fun e w'=>e=.returned (.tuple #[.int .i64 (bin 6 6 x y).1,.int .i64 (bin 6 6 x y).2])∧∃ n,w'=w.drewN n:=by
 rw [jeG 6 x y hx hy];go_enter Tryz.func31,Tryz.ntmps31;go_wp2_with (first | (go_at_call 45;refine (jah _ _ _).mono ?_;rintro e w' ⟨rfl,rfl⟩) | (go_at_call 54;refine (jqk _ _ _ _).mono ?_;rintro e w' ⟨rfl,rfl⟩));go_ret2;exact ⟨rfl,0,rfl⟩
theorem jmt (x y:Int) (w:World) (hx:chk 7 x=true) (hy:chk 7 y=true):Calls Tryz.prog 31 #[.string ⟨#[65,110,100]⟩,.int .i64 7,.int .i64 x,.int .i64 y] w fun e w'=>e=.returned (.tuple #[.int .i64 (bin 6 7 x y).1,.int .i64 (bin 6 7 x y).2])∧∃ n,w'=w.drewN n:=by
 rw [jeH 6 x y hx hy];go_enter Tryz.func31,Tryz.ntmps31;go_wp2_with (first | (go_at_call 45;refine (jah _ _ _).mono ?_;rintro e w' ⟨rfl,rfl⟩) | (go_at_call 54;refine (jqk _ _ _ _).mono ?_;rintro e w' ⟨rfl,rfl⟩));go_ret2;exact ⟨rfl,0,rfl⟩
theorem jmu (x y:Int) (w:World) (hx:chk 9 x=true) (hy:chk 9 y=true):Calls Tryz.prog 31 #[.string ⟨#[65,110,100]⟩,.int .i64 9,.int .i64 x,.int .i64 y] w fun e w'=>e=.returned (.tuple #[.int .i64 (bin 6 9 x y).1,.int .i64 (bin 6 9 x y).2])∧∃ n,w'=w.drewN n:=by
 rw [jeI 6 x y hx hy];go_enter Tryz.func31,Tryz.ntmps31;go_wp2_with (first | (go_at_call 45;refine (jah _ _ _).mono ?_;rintro e w' ⟨rfl,rfl⟩) | (go_at_call 55;refine (jq5 _ _ _ (jo0 _ hx) (jo0 _ hy)).mono ?_;rintro e w' ⟨rfl,rfl⟩));go_ret2;exact ⟨rfl,0,rfl⟩
theorem binary6 (t x y:Int) (w:World):Calls Tryz.prog 31 #[.string ⟨#[65,110,100]⟩,.int .i64 t,.int .i64 x,.int .i64 y] w fun e w'=>e=.returned (.tuple #[.int .i64 (bin 6 t x y).1,.int .i64 (bin 6 t x y).2])∧∃ n,w'=w.drewN n:=by
 cases hx:chk t x with
 | false=>rw [jch 6 t x y hx];exact jgd t x y w (.inl hx)
 | true =>
  cases hy:chk t y with
  | false=>rw [jci 6 t x y hy];exact jgd t x y w (.inr ⟨hx,hy⟩)
  | true =>
   rcases chk_types t x hx with rfl | rfl | rfl | rfl
   ·exact jmr x y w hx hy
   ·exact jms x y w hx hy
   ·exact jmt x y w hx hy
   ·exact jmu x y w hx hy
theorem jge (t x y:Int) (w:World) (h:chk t x=false∨chk t x=true∧chk t y=false):Calls Tryz.prog 31 #[.string ⟨#[79,114]⟩,.int .i64 t,.int .i64 x,.int .i64 y] w fun e w'=>e=.returned (.tuple #[.int .i64 0,.int .i64 1])∧∃ n,w'=w.drewN n:=by
 rcases h with hx | ⟨hx,hy⟩
 all_goals
  go_enter Tryz.func31,Tryz.ntmps31;go_wp2_with (first | (go_at_call 45;refine (jah _ _ _).mono ?_;rintro e w' ⟨rfl,rfl⟩));go_ret2;exact ⟨rfl,0,rfl⟩
theorem jmv (x y:Int) (w:World) (hx:chk 1 x=true) (hy:chk 1 y=true):Calls Tryz.prog 31 #[.string ⟨#[79,114]⟩,.int .i64 1,.int .i64 x,.int .i64 y] w fun e w'=>e=.returned (.tuple #[.int .i64 (bin 7 1 x y).1,.int .i64 (bin 7 1 x y).2])∧∃ n,w'=w.drewN n:=by
 rw [jeF 7 x y hx hy];go_enter Tryz.func31,Tryz.ntmps31;go_wp2_with (first | (go_at_call 45;refine (jah _ _ _).mono ?_;rintro e w' ⟨rfl,rfl⟩) | (go_at_call 50;refine (jaO _ _).mono ?_;rintro e w' ⟨rfl,rfl⟩) | (go_at_call 53;refine (no7_f _ _ _).mono ?_;rintro e w' ⟨rfl,n,rfl⟩));go_ret2;exact ⟨rfl,_,rfl⟩
theorem jmw (x y:Int) (w:World) (hx:chk 6 x=true) (hy:chk 6 y=true):Calls Tryz.prog 31 #[.string ⟨#[79,114]⟩,.int .i64 6,.int .i64 x,.int .i64 y] w fun e w'=>e=.returned (.tuple #[.int .i64 (bin 7 6 x y).1,.int .i64 (bin 7 6 x y).2])∧∃ n,w'=w.drewN n:=by
 rw [jeG 7 x y hx hy];go_enter Tryz.func31,Tryz.ntmps31;go_wp2_with (first | (go_at_call 45;refine (jah _ _ _).mono ?_;rintro e w' ⟨rfl,rfl⟩) | (go_at_call 54;refine (jql _ _ _ _).mono ?_;rintro e w' ⟨rfl,rfl⟩));go_ret2;exact ⟨rfl,0,rfl⟩
theorem jmx (x y:Int) (w:World) (hx:chk 7 x=true) (hy:chk 7 y=true):Calls Tryz.prog 31 #[.string ⟨#[79,114]⟩,.int .i64 7,.int .i64 x,.int .i64 y] w fun e w'=>e=.returned (.tuple #[.int .i64 (bin 7 7 x y).1,.int .i64 (bin 7 7 x y).2])∧∃ n,w'=w.drewN n:=by
 rw [jeH 7 x y hx hy];go_enter Tryz.func31,Tryz.ntmps31;go_wp2_with (first | (go_at_call 45;refine (jah _ _ _).mono ?_;rintro e w' ⟨rfl,rfl⟩) | (go_at_call 54;refine (jql _ _ _ _).mono ?_;rintro e w' ⟨rfl,rfl⟩));go_ret2;exact ⟨rfl,0,rfl⟩
theorem jmy (x y:Int) (w:World) (hx:chk 9 x=true) (hy:chk 9 y=true):Calls Tryz.prog 31 #[.string ⟨#[79,114]⟩,.int .i64 9,.int .i64 x,.int .i64 y] w fun e w'=>e=.returned (.tuple #[.int .i64 (bin 7 9 x y).1,.int .i64 (bin 7 9 x y).2])∧∃ n,w'=w.drewN n:=by
 rw [jeI 7 x y hx hy];go_enter Tryz.func31,Tryz.ntmps31;go_wp2_with (first | (go_at_call 45;refine (jah _ _ _).mono ?_;rintro e w' ⟨rfl,rfl⟩) | (go_at_call 55;refine (jq6 _ _ _ (jo0 _ hx) (jo0 _ hy)).mono ?_;rintro e w' ⟨rfl,rfl⟩));go_ret2;exact ⟨rfl,0,rfl⟩
theorem binary7 (t x y:Int) (w:World):Calls Tryz.prog 31 #[.string ⟨#[79,114]⟩,.int .i64 t,.int .i64 x,.int .i64 y] w fun e w'=>e=.returned (.tuple #[.int .i64 (bin 7 t x y).1,.int .i64 (bin 7 t x y).2])∧∃ n,w'=w.drewN n:=by
 cases hx:chk t x with
 | false=>rw [jch 7 t x y hx];exact jge t x y w (.inl hx)
 | true =>
  cases hy:chk t y with
  | false=>rw [jci 7 t x y hy];exact jge t x y w (.inr ⟨hx,hy⟩)
  | true =>
   rcases chk_types t x hx with rfl | rfl | rfl | rfl
   ·exact jmv x y w hx hy
   ·exact jmw x y w hx hy
   ·exact jmx x y w hx hy
   ·exact jmy x y w hx hy
theorem jgf (t x y:Int) (w:World) (h:chk t x=false∨chk t x=true∧chk t y=false):Calls Tryz.prog 31 #[.string ⟨#[88,111,114]⟩,.int .i64 t,.int .i64 x,.int .i64 y] w fun e w'=>e=.returned (.tuple #[.int .i64 0,.int .i64 1])∧∃ n,w'=w.drewN n:=by
 rcases h with hx | ⟨hx,hy⟩
 all_goals
  go_enter Tryz.func31,Tryz.ntmps31;go_wp2_with (first | (go_at_call 45;refine (jah _ _ _).mono ?_;rintro e w' ⟨rfl,rfl⟩));go_ret2;exact ⟨rfl,0,rfl⟩
theorem jmz (x y:Int) (w:World) (hx:chk 1 x=true) (hy:chk 1 y=true):Calls Tryz.prog 31 #[.string ⟨#[88,111,114]⟩,.int .i64 1,.int .i64 x,.int .i64 y] w fun e w'=>e=.returned (.tuple #[.int .i64 (bin 8 1 x y).1,.int .i64 (bin 8 1 x y).2])∧∃ n,w'=w.drewN n:=by
 rw [jeF 8 x y hx hy];go_enter Tryz.func31,Tryz.ntmps31;go_wp2_with (first | (go_at_call 45;refine (jah _ _ _).mono ?_;rintro e w' ⟨rfl,rfl⟩) | (go_at_call 50;refine (jaO _ _).mono ?_;rintro e w' ⟨rfl,rfl⟩) | (go_at_call 53;refine (no8_f _ _ _).mono ?_;rintro e w' ⟨rfl,n,rfl⟩));go_ret2;exact ⟨rfl,_,rfl⟩
theorem jmA (x y:Int) (w:World) (hx:chk 6 x=true) (hy:chk 6 y=true):Calls Tryz.prog 31 #[.string ⟨#[88,111,114]⟩,.int .i64 6,.int .i64 x,.int .i64 y] w fun e w'=>e=.returned (.tuple #[.int .i64 (bin 8 6 x y).1,.int .i64 (bin 8 6 x y).2])∧∃ n,w'=w.drewN n:=by
 rw [jeG 8 x y hx hy];go_enter Tryz.func31,Tryz.ntmps31;go_wp2_with (first | (go_at_call 45;refine (jah _ _ _).mono ?_;rintro e w' ⟨rfl,rfl⟩) | (go_at_call 54;refine (jqm _ _ _ _).mono ?_;rintro e w' ⟨rfl,rfl⟩));go_ret2;exact ⟨rfl,0,rfl⟩
theorem jmB (x y:Int) (w:World) (hx:chk 7 x=true) (hy:chk 7 y=true):Calls Tryz.prog 31 #[.string ⟨#[88,111,114]⟩,.int .i64 7,.int .i64 x,.int .i64 y] w fun e w'=>e=.returned (.tuple #[.int .i64 (bin 8 7 x y).1,.int .i64 (bin 8 7 x y).2])∧∃ n,w'=w.drewN n:=by
 rw [jeH 8 x y hx hy];go_enter Tryz.func31,Tryz.ntmps31;go_wp2_with (first | (go_at_call 45;refine (jah _ _ _).mono ?_;rintro e w' ⟨rfl,rfl⟩) | (go_at_call 54;refine (jqm _ _ _ _).mono ?_;rintro e w' ⟨rfl,rfl⟩));go_ret2;exact ⟨rfl,0,rfl⟩
theorem jmC (x y:Int) (w:World) (hx:chk 9 x=true) (hy:chk 9 y=true):Calls Tryz.prog 31 #[.string ⟨#[88,111,114]⟩,.int .i64 9,.int .i64 x,.int .i64 y] w fun e w'=>e=.returned (.tuple #[.int .i64 (bin 8 9 x y).1,.int .i64 (bin 8 9 x y).2])∧∃ n,w'=w.drewN n:=by
 rw [jeI 8 x y hx hy];go_enter Tryz.func31,Tryz.ntmps31;go_wp2_with (first | (go_at_call 45;refine (jah _ _ _).mono ?_;rintro e w' ⟨rfl,rfl⟩) | (go_at_call 55;refine (jq7 _ _ _ (jo0 _ hx) (jo0 _ hy)).mono ?_;rintro e w' ⟨rfl,rfl⟩));go_ret2;exact ⟨rfl,0,rfl⟩
theorem binary8 (t x y:Int) (w:World):Calls Tryz.prog 31 #[.string ⟨#[88,111,114]⟩,.int .i64 t,.int .i64 x,.int .i64 y] w fun e w'=>e=.returned (.tuple #[.int .i64 (bin 8 t x y).1,.int .i64 (bin 8 t x y).2])∧∃ n,w'=w.drewN n:=by
 cases hx:chk t x with
 | false=>rw [jch 8 t x y hx];exact jgf t x y w (.inl hx)
 | true =>
  cases hy:chk t y with
  | false=>rw [jci 8 t x y hy];exact jgf t x y w (.inr ⟨hx,hy⟩)
  | true =>
   rcases chk_types t x hx with rfl | rfl | rfl | rfl
   ·exact jmz x y w hx hy
   ·exact jmA x y w hx hy
   ·exact jmB x y w hx hy
   ·exact jmC x y w hx hy
theorem jgg (t x y:Int) (w:World) (h:chk t x=false∨chk t x=true∧chk t y=false):Calls Tryz.prog 31 #[.string ⟨#[69,113,117,97,108]⟩,.int .i64 t,.int .i64 x,.int .i64 y] w fun e w'=>e=.returned (.tuple #[.int .i64 0,.int .i64 1])∧∃ n,w'=w.drewN n:=by
 rcases h with hx | ⟨hx,hy⟩
 all_goals
  go_enter Tryz.func31,Tryz.ntmps31;go_wp2_with (first | (go_at_call 45;refine (jah _ _ _).mono ?_;rintro e w' ⟨rfl,rfl⟩));go_ret2;exact ⟨rfl,0,rfl⟩
theorem jmD (x y:Int) (w:World) (hx:chk 1 x=true) (hy:chk 1 y=true):Calls Tryz.prog 31 #[.string ⟨#[69,113,117,97,108]⟩,.int .i64 1,.int .i64 x,.int .i64 y] w fun e w'=>e=.returned (.tuple #[.int .i64 (bin 9 1 x y).1,.int .i64 (bin 9 1 x y).2])∧∃ n,w'=w.drewN n:=by
 rw [jeF 9 x y hx hy];go_enter Tryz.func31,Tryz.ntmps31;go_wp2_with (first | (go_at_call 45;refine (jah _ _ _).mono ?_;rintro e w' ⟨rfl,rfl⟩) | (go_at_call 50;refine (jaO _ _).mono ?_;rintro e w' ⟨rfl,rfl⟩) | (go_at_call 53;refine (jsp _ _ _).mono ?_;rintro e w' ⟨rfl,n,rfl⟩));go_ret2;exact ⟨rfl,_,rfl⟩
theorem jmE (x y:Int) (w:World) (hx:chk 6 x=true) (hy:chk 6 y=true):Calls Tryz.prog 31 #[.string ⟨#[69,113,117,97,108]⟩,.int .i64 6,.int .i64 x,.int .i64 y] w fun e w'=>e=.returned (.tuple #[.int .i64 (bin 9 6 x y).1,.int .i64 (bin 9 6 x y).2])∧∃ n,w'=w.drewN n:=by
 rw [jeG 9 x y hx hy];go_enter Tryz.func31,Tryz.ntmps31;go_wp2_with (first | (go_at_call 45;refine (jah _ _ _).mono ?_;rintro e w' ⟨rfl,rfl⟩) | (go_at_call 54;refine (jqj _ _ _ _).mono ?_;rintro e w' ⟨rfl,rfl⟩));go_ret2;exact ⟨rfl,0,rfl⟩
theorem jmF (x y:Int) (w:World) (hx:chk 7 x=true) (hy:chk 7 y=true):Calls Tryz.prog 31 #[.string ⟨#[69,113,117,97,108]⟩,.int .i64 7,.int .i64 x,.int .i64 y] w fun e w'=>e=.returned (.tuple #[.int .i64 (bin 9 7 x y).1,.int .i64 (bin 9 7 x y).2])∧∃ n,w'=w.drewN n:=by
 rw [jeH 9 x y hx hy];go_enter Tryz.func31,Tryz.ntmps31;go_wp2_with (first | (go_at_call 45;refine (jah _ _ _).mono ?_;rintro e w' ⟨rfl,rfl⟩) | (go_at_call 54;refine (jqj _ _ _ _).mono ?_;rintro e w' ⟨rfl,rfl⟩));go_ret2;exact ⟨rfl,0,rfl⟩
theorem jmG (x y:Int) (w:World) (hx:chk 9 x=true) (hy:chk 9 y=true):Calls Tryz.prog 31 #[.string ⟨#[69,113,117,97,108]⟩,.int .i64 9,.int .i64 x,.int .i64 y] w fun e w'=>e=.returned (.tuple #[.int .i64 (bin 9 9 x y).1,.int .i64 (bin 9 9 x y).2])∧∃ n,w'=w.drewN n:=by
 rw [jeI 9 x y hx hy];go_enter Tryz.func31,Tryz.ntmps31;go_wp2_with (first | (go_at_call 45;refine (jah _ _ _).mono ?_;rintro e w' ⟨rfl,rfl⟩) | (go_at_call 55;refine (jq8 _ _ _).mono ?_;rintro e w' ⟨rfl,rfl⟩));go_ret2;exact ⟨rfl,0,rfl⟩
theorem binary9 (t x y:Int) (w:World):Calls Tryz.prog 31 #[.string ⟨#[69,113,117,97,108]⟩,.int .i64 t,.int .i64 x,.int .i64 y] w fun e w'=>e=.returned (.tuple #[.int .i64 (bin 9 t x y).1,.int .i64 (bin 9 t x y).2])∧∃ n,w'=w.drewN n:=by
 cases hx:chk t x with
 | false=>rw [jch 9 t x y hx];exact jgg t x y w (.inl hx)
 | true =>
  cases hy:chk t y with
  | false=>rw [jci 9 t x y hy];exact jgg t x y w (.inr ⟨hx,hy⟩)
  | true =>
   rcases chk_types t x hx with rfl | rfl | rfl | rfl
   ·exact jmD x y w hx hy
   ·exact jmE x y w hx hy
   ·exact jmF x y w hx hy
   ·exact jmG x y w hx hy
theorem jfc (t x y:Int) (w:World) (h:chk t x=false∨chk t x=true∧chk t y=false):Calls Tryz.prog 31 #[.string ⟨#[76,101,115,115]⟩,.int .i64 t,.int .i64 x,.int .i64 y] w fun e w'=>e=.returned (.tuple #[.int .i64 0,.int .i64 1])∧∃ n,w'=w.drewN n:=by
 rcases h with hx | ⟨hx,hy⟩
 all_goals
  go_enter Tryz.func31,Tryz.ntmps31;go_wp2_with (first | (go_at_call 45;refine (jah _ _ _).mono ?_;rintro e w' ⟨rfl,rfl⟩));go_ret2;exact ⟨rfl,0,rfl⟩
theorem jkr (x y:Int) (w:World) (hx:chk 1 x=true) (hy:chk 1 y=true):Calls Tryz.prog 31 #[.string ⟨#[76,101,115,115]⟩,.int .i64 1,.int .i64 x,.int .i64 y] w fun e w'=>e=.returned (.tuple #[.int .i64 (bin 10 1 x y).1,.int .i64 (bin 10 1 x y).2])∧∃ n,w'=w.drewN n:=by
 rw [jeF 10 x y hx hy];go_enter Tryz.func31,Tryz.ntmps31;go_wp2_with (first | (go_at_call 45;refine (jah _ _ _).mono ?_;rintro e w' ⟨rfl,rfl⟩) | (go_at_call 50;refine (jaO _ _).mono ?_;rintro e w' ⟨rfl,rfl⟩) | (go_at_call 53;refine (jq3 _ _ _).mono ?_;rintro e w' ⟨rfl,n,rfl⟩));go_ret2;exact ⟨rfl,_,rfl⟩
theorem jks (x y:Int) (w:World) (hx:chk 6 x=true) (hy:chk 6 y=true):Calls Tryz.prog 31 #[.string ⟨#[76,101,115,115]⟩,.int .i64 6,.int .i64 x,.int .i64 y] w fun e w'=>e=.returned (.tuple #[.int .i64 (bin 10 6 x y).1,.int .i64 (bin 10 6 x y).2])∧∃ n,w'=w.drewN n:=by
 rw [jeG 10 x y hx hy];go_enter Tryz.func31,Tryz.ntmps31;go_wp2_with (first | (go_at_call 45;refine (jah _ _ _).mono ?_;rintro e w' ⟨rfl,rfl⟩) | (go_at_call 54;refine (jl1 _ _ _ _).mono ?_;rintro e w' ⟨rfl,rfl⟩));go_ret2;exact ⟨rfl,0,rfl⟩
theorem jkt (x y:Int) (w:World) (hx:chk 7 x=true) (hy:chk 7 y=true):Calls Tryz.prog 31 #[.string ⟨#[76,101,115,115]⟩,.int .i64 7,.int .i64 x,.int .i64 y] w fun e w'=>e=.returned (.tuple #[.int .i64 (bin 10 7 x y).1,.int .i64 (bin 10 7 x y).2])∧∃ n,w'=w.drewN n:=by
 rw [jeH 10 x y hx hy];go_enter Tryz.func31,Tryz.ntmps31;go_wp2_with (first | (go_at_call 45;refine (jah _ _ _).mono ?_;rintro e w' ⟨rfl,rfl⟩) | (go_at_call 54;refine (jl1 _ _ _ _).mono ?_;rintro e w' ⟨rfl,rfl⟩));go_ret2;exact ⟨rfl,0,rfl⟩
theorem jku (x y:Int) (w:World) (hx:chk 9 x=true) (hy:chk 9 y=true):Calls Tryz.prog 31 #[.string ⟨#[76,101,115,115]⟩,.int .i64 9,.int .i64 x,.int .i64 y] w fun e w'=>e=.returned (.tuple #[.int .i64 (bin 10 9 x y).1,.int .i64 (bin 10 9 x y).2])∧∃ n,w'=w.drewN n:=by
 rw [jeI 10 x y hx hy];go_enter Tryz.func31,Tryz.ntmps31;go_wp2_with (first | (go_at_call 45;refine (jah _ _ _).mono ?_;rintro e w' ⟨rfl,rfl⟩) | (go_at_call 55;refine (joY _ _ _).mono ?_;rintro e w' ⟨rfl,rfl⟩));go_ret2;exact ⟨rfl,0,rfl⟩
theorem binary10 (t x y:Int) (w:World):Calls Tryz.prog 31 #[.string ⟨#[76,101,115,115]⟩,.int .i64 t,.int .i64 x,.int .i64 y] w fun e w'=>e=.returned (.tuple #[.int .i64 (bin 10 t x y).1,.int .i64 (bin 10 t x y).2])∧∃ n,w'=w.drewN n:=by
 cases hx:chk t x with
 | false=>rw [jch 10 t x y hx];exact jfc t x y w (.inl hx)
 | true =>
  cases hy:chk t y with
  | false=>rw [jci 10 t x y hy];exact jfc t x y w (.inr ⟨hx,hy⟩)
  | true =>
   rcases chk_types t x hx with rfl | rfl | rfl | rfl
   ·exact jkr x y w hx hy
   ·exact jks x y w hx hy
   ·exact jkt x y w hx hy
   ·exact jku x y w hx hy
theorem jfd (t x y:Int) (w:World) (h:chk t x=false∨chk t x=true∧chk t y=false):Calls Tryz.prog 31 #[.string ⟨#[71,114,101,97,116,101,114]⟩,.int .i64 t,.int .i64 x,.int .i64 y] w fun e w'=>e=.returned (.tuple #[.int .i64 0,.int .i64 1])∧∃ n,w'=w.drewN n:=by
 rcases h with hx | ⟨hx,hy⟩
 all_goals
  go_enter Tryz.func31,Tryz.ntmps31;go_wp2_with (first | (go_at_call 45;refine (jah _ _ _).mono ?_;rintro e w' ⟨rfl,rfl⟩));go_ret2;exact ⟨rfl,0,rfl⟩
theorem jkv (x y:Int) (w:World) (hx:chk 1 x=true) (hy:chk 1 y=true):Calls Tryz.prog 31 #[.string ⟨#[71,114,101,97,116,101,114]⟩,.int .i64 1,.int .i64 x,.int .i64 y] w fun e w'=>e=.returned (.tuple #[.int .i64 (bin 11 1 x y).1,.int .i64 (bin 11 1 x y).2])∧∃ n,w'=w.drewN n:=by
 rw [jeF 11 x y hx hy];go_enter Tryz.func31,Tryz.ntmps31;go_wp2_with (first | (go_at_call 45;refine (jah _ _ _).mono ?_;rintro e w' ⟨rfl,rfl⟩) | (go_at_call 50;refine (jaO _ _).mono ?_;rintro e w' ⟨rfl,rfl⟩) | (go_at_call 53;refine (jq4 _ _ _).mono ?_;rintro e w' ⟨rfl,n,rfl⟩));go_ret2;exact ⟨rfl,_,rfl⟩
theorem jkw (x y:Int) (w:World) (hx:chk 6 x=true) (hy:chk 6 y=true):Calls Tryz.prog 31 #[.string ⟨#[71,114,101,97,116,101,114]⟩,.int .i64 6,.int .i64 x,.int .i64 y] w fun e w'=>e=.returned (.tuple #[.int .i64 (bin 11 6 x y).1,.int .i64 (bin 11 6 x y).2])∧∃ n,w'=w.drewN n:=by
 rw [jeG 11 x y hx hy];go_enter Tryz.func31,Tryz.ntmps31;go_wp2_with (first | (go_at_call 45;refine (jah _ _ _).mono ?_;rintro e w' ⟨rfl,rfl⟩) | (go_at_call 54;refine (jl2 _ _ _ _).mono ?_;rintro e w' ⟨rfl,rfl⟩));go_ret2;exact ⟨rfl,0,rfl⟩
theorem jkx (x y:Int) (w:World) (hx:chk 7 x=true) (hy:chk 7 y=true):Calls Tryz.prog 31 #[.string ⟨#[71,114,101,97,116,101,114]⟩,.int .i64 7,.int .i64 x,.int .i64 y] w fun e w'=>e=.returned (.tuple #[.int .i64 (bin 11 7 x y).1,.int .i64 (bin 11 7 x y).2])∧∃ n,w'=w.drewN n:=by
 rw [jeH 11 x y hx hy];go_enter Tryz.func31,Tryz.ntmps31;go_wp2_with (first | (go_at_call 45;refine (jah _ _ _).mono ?_;rintro e w' ⟨rfl,rfl⟩) | (go_at_call 54;refine (jl2 _ _ _ _).mono ?_;rintro e w' ⟨rfl,rfl⟩));go_ret2;exact ⟨rfl,0,rfl⟩
theorem jky (x y:Int) (w:World) (hx:chk 9 x=true) (hy:chk 9 y=true):Calls Tryz.prog 31 #[.string ⟨#[71,114,101,97,116,101,114]⟩,.int .i64 9,.int .i64 x,.int .i64 y] w fun e w'=>e=.returned (.tuple #[.int .i64 (bin 11 9 x y).1,.int .i64 (bin 11 9 x y).2])∧∃ n,w'=w.drewN n:=by
 rw [jeI 11 x y hx hy];go_enter Tryz.func31,Tryz.ntmps31;go_wp2_with (first | (go_at_call 45;refine (jah _ _ _).mono ?_;rintro e w' ⟨rfl,rfl⟩) | (go_at_call 55;refine (joZ _ _ _).mono ?_;rintro e w' ⟨rfl,rfl⟩));go_ret2;exact ⟨rfl,0,rfl⟩
theorem binary11 (t x y:Int) (w:World):Calls Tryz.prog 31 #[.string ⟨#[71,114,101,97,116,101,114]⟩,.int .i64 t,.int .i64 x,.int .i64 y] w fun e w'=>e=.returned (.tuple #[.int .i64 (bin 11 t x y).1,.int .i64 (bin 11 t x y).2])∧∃ n,w'=w.drewN n:=by
 cases hx:chk t x with
 | false=>rw [jch 11 t x y hx];exact jfd t x y w (.inl hx)
 | true =>
  cases hy:chk t y with
  | false=>rw [jci 11 t x y hy];exact jfd t x y w (.inr ⟨hx,hy⟩)
  | true =>
   rcases chk_types t x hx with rfl | rfl | rfl | rfl
   ·exact jkv x y w hx hy
   ·exact jkw x y w hx hy
   ·exact jkx x y w hx hy
   ·exact jky x y w hx hy
end Go.Proofs.YteigfipgmghgmaaGreatDoor.Nu
