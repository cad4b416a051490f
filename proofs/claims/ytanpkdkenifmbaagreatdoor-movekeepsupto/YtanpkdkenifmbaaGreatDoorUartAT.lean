/- A part. -/
import Derived.Test.YtanpkdkenifmbaaGreatDoorUartAS
import Derived.Test.YtanpkdkenifmbaaGreatDoorUartAR
set_option maxHeartbeats 400000
namespace Go.Proofs.YtanpkdkenifmbaaGreatDoor.Nu
open Go.RowKit
theorem jbx (t x:Int) (h:chk t x=true):t=1∨t=6∨t=7∨t=9:=by
 unfold chk at h
 split at h
 ·omega
 ·split at h
  ·omega
  ·split at h
   ·omega
   ·split at h
    ·omega
    ·cases h
theorem jq8 (x:Int) (h:chk 9 x=true):x=0∨x=1:=by simpa [chk] using h
theorem jcf (k:Nat) (t x y:Int) (h:chk t x=false):bin k t x y=(0,1):=by simp [bin,h]
theorem jcg (k:Nat) (t x y:Int) (h:chk t y=false):bin k t x y=(0,1):=by simp [bin,h]
theorem jeJ (k:Nat) (x y:Int) (hx:chk 1 x=true) (hy:chk 1 y=true):bin k 1 x y=jr1 k (fb x) (fb y):=by simp [bin,hx,hy]
theorem jeK (k:Nat) (x y:Int) (hx:chk 6 x=true) (hy:chk 6 y=true):bin k 6 x y=jfg k 6 x y:=by simp [bin,hx,hy]
theorem jeL (k:Nat) (x y:Int) (hx:chk 7 x=true) (hy:chk 7 y=true):bin k 7 x y=jfg k 7 x y:=by simp [bin,hx,hy]
theorem jeM (k:Nat) (x y:Int) (hx:chk 9 x=true) (hy:chk 9 y=true):bin k 9 x y=jdl k x y:=by simp [bin,hx,hy]
theorem jgk (t x y:Int) (w:World) (h:chk t x=false∨chk t x=true∧chk t y=false):Calls Tryz.prog 118 #[.string ⟨#[65,100,100]⟩,.int .i64 t,.int .i64 x,.int .i64 y] w fun e w'=>e=.returned (.tuple #[.int .i64 0,.int .i64 1])∧∃ n,w'=w.drewN n:=by
 rcases h with hx | ⟨hx,hy⟩
 all_goals
  go_enter Tryz.func118,Tryz.ntmps118;go_wp2_with (first | (go_at_call 50;refine (jak _ _ _).mono ?_;rintro e w' ⟨rfl,rfl⟩));go_ret2;exact ⟨rfl,0,rfl⟩
theorem jmh (x y:Int) (w:World) (hx:chk 1 x=true) (hy:chk 1 y=true):Calls Tryz.prog 118 #[.string ⟨#[65,100,100]⟩,.int .i64 1,.int .i64 x,.int .i64 y] w fun e w'=>e=.returned (.tuple #[.int .i64 (bin 0 1 x y).1,.int .i64 (bin 0 1 x y).2])∧∃ n,w'=w.drewN n:=by
 rw [jeJ 0 x y hx hy];go_enter Tryz.func118,Tryz.ntmps118;go_wp2_with (first | (go_at_call 50;refine (jak _ _ _).mono ?_;rintro e w' ⟨rfl,rfl⟩) | (go_at_call 129;refine (ja0 _ _).mono ?_;rintro e w' ⟨rfl,rfl⟩) | (go_at_call 132;refine (add_f _ _ _).mono ?_;rintro e w' ⟨rfl,n,rfl⟩));go_ret2;exact ⟨rfl,_,rfl⟩
theorem jmi (x y:Int) (w:World) (hx:chk 6 x=true) (hy:chk 6 y=true):Calls Tryz.prog 118 #[.string ⟨#[65,100,100]⟩,.int .i64 6,.int .i64 x,.int .i64 y] w fun e w'=>e=.returned (.tuple #[.int .i64 (bin 0 6 x y).1,.int .i64 (bin 0 6 x y).2])∧∃ n,w'=w.drewN n:=by
 rw [jeK 0 x y hx hy];go_enter Tryz.func118,Tryz.ntmps118;go_wp2_with (first | (go_at_call 50;refine (jak _ _ _).mono ?_;rintro e w' ⟨rfl,rfl⟩) | (go_at_call 133;refine (jqi _ _ _ _).mono ?_;rintro e w' ⟨rfl,rfl⟩));go_ret2;exact ⟨rfl,0,rfl⟩
theorem jmj (x y:Int) (w:World) (hx:chk 7 x=true) (hy:chk 7 y=true):Calls Tryz.prog 118 #[.string ⟨#[65,100,100]⟩,.int .i64 7,.int .i64 x,.int .i64 y] w fun e w'=>e=.returned (.tuple #[.int .i64 (bin 0 7 x y).1,.int .i64 (bin 0 7 x y).2])∧∃ n,w'=w.drewN n:=by
 rw [jeL 0 x y hx hy];go_enter Tryz.func118,Tryz.ntmps118;go_wp2_with (first | (go_at_call 50;refine (jak _ _ _).mono ?_;rintro e w' ⟨rfl,rfl⟩) | (go_at_call 133;refine (jqi _ _ _ _).mono ?_;rintro e w' ⟨rfl,rfl⟩));go_ret2;exact ⟨rfl,0,rfl⟩
theorem jmk (x y:Int) (w:World) (hx:chk 9 x=true) (hy:chk 9 y=true):Calls Tryz.prog 118 #[.string ⟨#[65,100,100]⟩,.int .i64 9,.int .i64 x,.int .i64 y] w fun e w'=>e=.returned (.tuple #[.int .i64 (bin 0 9 x y).1,.int .i64 (bin 0 9 x y).2])∧∃ n,w'=w.drewN n:=by
 rw [jeM 0 x y hx hy];go_enter Tryz.func118,Tryz.ntmps118;go_wp2_with (first | (go_at_call 50;refine (jak _ _ _).mono ?_;rintro e w' ⟨rfl,rfl⟩) | (go_at_call 134;refine (jq2 _ _ _).mono ?_;rintro e w' ⟨rfl,rfl⟩));go_ret2;exact ⟨rfl,0,rfl⟩
theorem binary0 (t x y:Int) (w:World):Calls Tryz.prog 118 #[.string ⟨#[65,100,100]⟩,.int .i64 t,.int .i64 x,.int .i64 y] w fun e w'=>e=.returned (.tuple #[.int .i64 (bin 0 t x y).1,.int .i64 (bin 0 t x y).2])∧∃ n,w'=w.drewN n:=by
 cases hx:chk t x with
 | false=>rw [jcf 0 t x y hx];exact jgk t x y w (.inl hx)
 | true =>
  cases hy:chk t y with
  | false=>rw [jcg 0 t x y hy];exact jgk t x y w (.inr ⟨hx,hy⟩)
  | true =>
   rcases jbx t x hx with rfl | rfl | rfl | rfl
   ·exact jmh x y w hx hy
   ·exact jmi x y w hx hy
   ·exact jmj x y w hx hy
   ·exact jmk x y w hx hy
theorem jgl (t x y:Int) (w:World) (h:chk t x=false∨chk t x=true∧chk t y=false):Calls Tryz.prog 118 #[.string ⟨#[83,117,98]⟩,.int .i64 t,.int .i64 x,.int .i64 y] w fun e w'=>e=.returned (.tuple #[.int .i64 0,.int .i64 1])∧∃ n,w'=w.drewN n:=by
 rcases h with hx | ⟨hx,hy⟩
 all_goals
  go_enter Tryz.func118,Tryz.ntmps118;go_wp2_with (first | (go_at_call 50;refine (jak _ _ _).mono ?_;rintro e w' ⟨rfl,rfl⟩));go_ret2;exact ⟨rfl,0,rfl⟩
theorem jml (x y:Int) (w:World) (hx:chk 1 x=true) (hy:chk 1 y=true):Calls Tryz.prog 118 #[.string ⟨#[83,117,98]⟩,.int .i64 1,.int .i64 x,.int .i64 y] w fun e w'=>e=.returned (.tuple #[.int .i64 (bin 1 1 x y).1,.int .i64 (bin 1 1 x y).2])∧∃ n,w'=w.drewN n:=by
 rw [jeJ 1 x y hx hy];go_enter Tryz.func118,Tryz.ntmps118;go_wp2_with (first | (go_at_call 50;refine (jak _ _ _).mono ?_;rintro e w' ⟨rfl,rfl⟩) | (go_at_call 129;refine (ja0 _ _).mono ?_;rintro e w' ⟨rfl,rfl⟩) | (go_at_call 132;refine (sub_f _ _ _).mono ?_;rintro e w' ⟨rfl,n,rfl⟩));go_ret2;exact ⟨rfl,_,rfl⟩
theorem jmm (x y:Int) (w:World) (hx:chk 6 x=true) (hy:chk 6 y=true):Calls Tryz.prog 118 #[.string ⟨#[83,117,98]⟩,.int .i64 6,.int .i64 x,.int .i64 y] w fun e w'=>e=.returned (.tuple #[.int .i64 (bin 1 6 x y).1,.int .i64 (bin 1 6 x y).2])∧∃ n,w'=w.drewN n:=by
 rw [jeK 1 x y hx hy];go_enter Tryz.func118,Tryz.ntmps118;go_wp2_with (first | (go_at_call 50;refine (jak _ _ _).mono ?_;rintro e w' ⟨rfl,rfl⟩) | (go_at_call 133;refine (jqj _ _ _ _).mono ?_;rintro e w' ⟨rfl,rfl⟩));go_ret2;exact ⟨rfl,0,rfl⟩
theorem jmn (x y:Int) (w:World) (hx:chk 7 x=true) (hy:chk 7 y=true):Calls Tryz.prog 118 #[.string ⟨#[83,117,98]⟩,.int .i64 7,.int .i64 x,.int .i64 y] w fun e w'=>e=.returned (.tuple #[.int .i64 (bin 1 7 x y).1,.int .i64 (bin 1 7 x y).2])∧∃ n,w'=w.drewN n:=by
 rw [jeL 1 x y hx hy];go_enter Tryz.func118,Tryz.ntmps118;go_wp2_with (first | (go_at_call 50;refine (jak _ _ _).mono ?_;rintro e w' ⟨rfl,rfl⟩) | (go_at_call 133;refine (jqj _ _ _ _).mono ?_;rintro e w' ⟨rfl,rfl⟩));go_ret2;exact ⟨rfl,0,rfl⟩
theorem jmo (x y:Int) (w:World) (hx:chk 9 x=true) (hy:chk 9 y=true):Calls Tryz.prog 118 #[.string ⟨#[83,117,98]⟩,.int .i64 9,.int .i64 x,.int .i64 y] w fun e w'=>e=.returned (.tuple #[.int .i64 (bin 1 9 x y).1,.int .i64 (bin 1 9 x y).2])∧∃ n,w'=w.drewN n:=by
 rw [jeM 1 x y hx hy];go_enter Tryz.func118,Tryz.ntmps118;go_wp2_with (first | (go_at_call 50;refine (jak _ _ _).mono ?_;rintro e w' ⟨rfl,rfl⟩) | (go_at_call 134;refine (jq3 _ _ _).mono ?_;rintro e w' ⟨rfl,rfl⟩));go_ret2;exact ⟨rfl,0,rfl⟩
theorem binary1 (t x y:Int) (w:World):Calls Tryz.prog 118 #[.string ⟨#[83,117,98]⟩,.int .i64 t,.int .i64 x,.int .i64 y] w fun e w'=>e=.returned (.tuple #[.int .i64 (bin 1 t x y).1,.int .i64 (bin 1 t x y).2])∧∃ n,w'=w.drewN n:=by
 cases hx:chk t x with
 | false=>rw [jcf 1 t x y hx];exact jgl t x y w (.inl hx)
 | true =>
  cases hy:chk t y with
  | false=>rw [jcg 1 t x y hy];exact jgl t x y w (.inr ⟨hx,hy⟩)
  | true =>
   rcases jbx t x hx with rfl | rfl | rfl | rfl
   ·exact jml x y w hx hy
   ·exact jmm x y w hx hy
   ·exact jmn x y w hx hy
   ·exact jmo x y w hx hy
theorem jgm (t x y:Int) (w:World) (h:chk t x=false∨chk t x=true∧chk t y=false):Calls Tryz.prog 118 #[.string ⟨#[77,117,108]⟩,.int .i64 t,.int .i64 x,.int .i64 y] w fun e w'=>e=.returned (.tuple #[.int .i64 0,.int .i64 1])∧∃ n,w'=w.drewN n:=by
 rcases h with hx | ⟨hx,hy⟩
 all_goals
  go_enter Tryz.func118,Tryz.ntmps118;go_wp2_with (first | (go_at_call 50;refine (jak _ _ _).mono ?_;rintro e w' ⟨rfl,rfl⟩));go_ret2;exact ⟨rfl,0,rfl⟩
theorem jmp (x y:Int) (w:World) (hx:chk 1 x=true) (hy:chk 1 y=true):Calls Tryz.prog 118 #[.string ⟨#[77,117,108]⟩,.int .i64 1,.int .i64 x,.int .i64 y] w fun e w'=>e=.returned (.tuple #[.int .i64 (bin 2 1 x y).1,.int .i64 (bin 2 1 x y).2])∧∃ n,w'=w.drewN n:=by
 rw [jeJ 2 x y hx hy];go_enter Tryz.func118,Tryz.ntmps118;go_wp2_with (first | (go_at_call 50;refine (jak _ _ _).mono ?_;rintro e w' ⟨rfl,rfl⟩) | (go_at_call 129;refine (ja0 _ _).mono ?_;rintro e w' ⟨rfl,rfl⟩) | (go_at_call 132;refine (mul_f _ _ _).mono ?_;rintro e w' ⟨rfl,n,rfl⟩));go_ret2;exact ⟨rfl,_,rfl⟩
theorem jmq (x y:Int) (w:World) (hx:chk 6 x=true) (hy:chk 6 y=true):Calls Tryz.prog 118 #[.string ⟨#[77,117,108]⟩,.int .i64 6,.int .i64 x,.int .i64 y] w fun e w'=>e=.returned (.tuple #[.int .i64 (bin 2 6 x y).1,.int .i64 (bin 2 6 x y).2])∧∃ n,w'=w.drewN n:=by
 rw [jeK 2 x y hx hy];go_enter Tryz.func118,Tryz.ntmps118;go_wp2_with (first | (go_at_call 50;refine (jak _ _ _).mono ?_;rintro e w' ⟨rfl,rfl⟩) | (go_at_call 133;refine (jqk _ _ _ _).mono ?_;rintro e w' ⟨rfl,rfl⟩));go_ret2;exact ⟨rfl,0,rfl⟩
theorem jmr (x y:Int) (w:World) (hx:chk 7 x=true) (hy:chk 7 y=true):Calls Tryz.prog 118 #[.string ⟨#[77,117,108]⟩,.int .i64 7,.int .i64 x,.int .i64 y] w fun e w'=>e=.returned (.tuple #[.int .i64 (bin 2 7 x y).1,.int .i64 (bin 2 7 x y).2])∧∃ n,w'=w.drewN n:=by
 rw [jeL 2 x y hx hy];go_enter Tryz.func118,Tryz.ntmps118;go_wp2_with (first | (go_at_call 50;refine (jak _ _ _).mono ?_;rintro e w' ⟨rfl,rfl⟩) | (go_at_call 133;refine (jqk _ _ _ _).mono ?_;rintro e w' ⟨rfl,rfl⟩));go_ret2;exact ⟨rfl,0,rfl⟩
theorem jms (x y:Int) (w:World) (hx:chk 9 x=true) (hy:chk 9 y=true):Calls Tryz.prog 118 #[.string ⟨#[77,117,108]⟩,.int .i64 9,.int .i64 x,.int .i64 y] w fun e w'=>e=.returned (.tuple #[.int .i64 (bin 2 9 x y).1,.int .i64 (bin 2 9 x y).2])∧∃ n,w'=w.drewN n:=by
 rw [jeM 2 x y hx hy];go_enter Tryz.func118,Tryz.ntmps118;go_wp2_with (first | (go_at_call 50;refine (jak _ _ _).mono ?_;rintro e w' ⟨rfl,rfl⟩) | (go_at_call 134;refine (jq4 _ _ _).mono ?_;rintro e w' ⟨rfl,rfl⟩));go_ret2;exact ⟨rfl,0,rfl⟩
theorem binary2 (t x y:Int) (w:World):Calls Tryz.prog 118 #[.string ⟨#[77,117,108]⟩,.int .i64 t,.int .i64 x,.int .i64 y] w fun e w'=>e=.returned (.tuple #[.int .i64 (bin 2 t x y).1,.int .i64 (bin 2 t x y).2])∧∃ n,w'=w.drewN n:=by
 cases hx:chk t x with
 | false=>rw [jcf 2 t x y hx];exact jgm t x y w (.inl hx)
 | true =>
  cases hy:chk t y with
  | false=>rw [jcg 2 t x y hy];exact jgm t x y w (.inr ⟨hx,hy⟩)
  | true =>
   rcases jbx t x hx with rfl | rfl | rfl | rfl
   ·exact jmp x y w hx hy
   ·exact jmq x y w hx hy
   ·exact jmr x y w hx hy
   ·exact jms x y w hx hy
theorem jgn (t x y:Int) (w:World) (h:chk t x=false∨chk t x=true∧chk t y=false):Calls Tryz.prog 118 #[.string ⟨#[68,105,118]⟩,.int .i64 t,.int .i64 x,.int .i64 y] w fun e w'=>e=.returned (.tuple #[.int .i64 0,.int .i64 1])∧∃ n,w'=w.drewN n:=by
 rcases h with hx | ⟨hx,hy⟩
 all_goals
  go_enter Tryz.func118,Tryz.ntmps118;go_wp2_with (first | (go_at_call 50;refine (jak _ _ _).mono ?_;rintro e w' ⟨rfl,rfl⟩));go_ret2;exact ⟨rfl,0,rfl⟩
theorem jmt (x y:Int) (w:World) (hx:chk 1 x=true) (hy:chk 1 y=true):Calls Tryz.prog 118 #[.string ⟨#[68,105,118]⟩,.int .i64 1,.int .i64 x,.int .i64 y] w fun e w'=>e=.returned (.tuple #[.int .i64 (bin 3 1 x y).1,.int .i64 (bin 3 1 x y).2])∧∃ n,w'=w.drewN n:=by
 rw [jeJ 3 x y hx hy];go_enter Tryz.func118,Tryz.ntmps118;go_wp2_with (first | (go_at_call 50;refine (jak _ _ _).mono ?_;rintro e w' ⟨rfl,rfl⟩) | (go_at_call 129;refine (ja0 _ _).mono ?_;rintro e w' ⟨rfl,rfl⟩) | (go_at_call 132;refine (div_f _ _ _).mono ?_;rintro e w' ⟨rfl,n,rfl⟩));go_ret2;exact ⟨rfl,_,rfl⟩
theorem jmu (x y:Int) (w:World) (hx:chk 6 x=true) (hy:chk 6 y=true):Calls Tryz.prog 118 #[.string ⟨#[68,105,118]⟩,.int .i64 6,.int .i64 x,.int .i64 y] w fun e w'=>e=.returned (.tuple #[.int .i64 (bin 3 6 x y).1,.int .i64 (bin 3 6 x y).2])∧∃ n,w'=w.drewN n:=by
 rw [jeK 3 x y hx hy]
 cases h0:(y==0) with
 | true =>
  have e0:jfg 3 6 x y=(0,7):=by simp at h0;simp [jfg,h0]
  rw [e0];clear e0;go_enter Tryz.func118,Tryz.ntmps118;go_wp2_with (first | (go_at_call 50;refine (jak _ _ _).mono ?_;rintro e w' ⟨rfl,rfl⟩) | (go_at_call 133;refine (jme _ _ _ _ h0).mono ?_;rintro e w' ⟨rfl,rfl⟩));go_ret2;exact ⟨rfl,0,rfl⟩
 | false =>
  have e0:jfg 3 6 x y=(jcy 6 (wrap64 (x.tdiv y)),0):=by simp at h0;simp [jfg,h0]
  rw [e0];clear e0;go_enter Tryz.func118,Tryz.ntmps118;go_wp2_with (first | (go_at_call 50;refine (jak _ _ _).mono ?_;rintro e w' ⟨rfl,rfl⟩) | (go_at_call 133;refine (jjM _ _ _ _ h0).mono ?_;rintro e w' ⟨rfl,rfl⟩));go_ret2;exact ⟨rfl,0,rfl⟩
theorem jmv (x y:Int) (w:World) (hx:chk 7 x=true) (hy:chk 7 y=true):Calls Tryz.prog 118 #[.string ⟨#[68,105,118]⟩,.int .i64 7,.int .i64 x,.int .i64 y] w fun e w'=>e=.returned (.tuple #[.int .i64 (bin 3 7 x y).1,.int .i64 (bin 3 7 x y).2])∧∃ n,w'=w.drewN n:=by
 rw [jeL 3 x y hx hy]
 cases h0:(y==0) with
 | true =>
  have e0:jfg 3 7 x y=(0,7):=by simp at h0;simp [jfg,h0]
  rw [e0];clear e0;go_enter Tryz.func118,Tryz.ntmps118;go_wp2_with (first | (go_at_call 50;refine (jak _ _ _).mono ?_;rintro e w' ⟨rfl,rfl⟩) | (go_at_call 133;refine (jme _ _ _ _ h0).mono ?_;rintro e w' ⟨rfl,rfl⟩));go_ret2;exact ⟨rfl,0,rfl⟩
 | false =>
  have e0:jfg 3 7 x y=(jcy 7 (wrap64 (x.tdiv y)),0):=by simp at h0;simp [jfg,h0]
  rw [e0];clear e0;go_enter Tryz.func118,Tryz.ntmps118;go_wp2_with (first | (go_at_call 50;refine (jak _ _ _).mono ?_;rintro e w' ⟨rfl,rfl⟩) | (go_at_call 133;refine (jjM _ _ _ _ h0).mono ?_;rintro e w' ⟨rfl,rfl⟩));go_ret2;exact ⟨rfl,0,rfl⟩
theorem jmw (x y:Int) (w:World) (hx:chk 9 x=true) (hy:chk 9 y=true):Calls Tryz.prog 118 #[.string ⟨#[68,105,118]⟩,.int .i64 9,.int .i64 x,.int .i64 y] w fun e w'=>e=.returned (.tuple #[.int .i64 (bin 3 9 x y).1,.int .i64 (bin 3 9 x y).2])∧∃ n,w'=w.drewN n:=by
 rw [jeM 3 x y hx hy];go_enter Tryz.func118,Tryz.ntmps118;go_wp2_with (first | (go_at_call 50;refine (jak _ _ _).mono ?_;rintro e w' ⟨rfl,rfl⟩) | (go_at_call 134;refine (jq5 _ _ _).mono ?_;rintro e w' ⟨rfl,rfl⟩));go_ret2;exact ⟨rfl,0,rfl⟩
theorem binary3 (t x y:Int) (w:World):Calls Tryz.prog 118 #[.string ⟨#[68,105,118]⟩,.int .i64 t,.int .i64 x,.int .i64 y] w fun e w'=>e=.returned (.tuple #[.int .i64 (bin 3 t x y).1,.int .i64 (bin 3 t x y).2])∧∃ n,w'=w.drewN n:=by
 cases hx:chk t x with
 | false=>rw [jcf 3 t x y hx];exact jgn t x y w (.inl hx)
 | true =>
  cases hy:chk t y with
  | false=>rw [jcg 3 t x y hy];exact jgn t x y w (.inr ⟨hx,hy⟩)
  | true =>
   rcases jbx t x hx with rfl | rfl | rfl | rfl
   ·exact jmt x y w hx hy
   ·exact jmu x y w hx hy
   ·exact jmv x y w hx hy
   ·exact jmw x y w hx hy
theorem jgo (t x y:Int) (w:World) (h:chk t x=false∨chk t x=true∧chk t y=false):Calls Tryz.prog 118 #[.string ⟨#[77,97,120]⟩,.int .i64 t,.int .i64 x,.int .i64 y] w fun e w'=>e=.returned (.tuple #[.int .i64 0,.int .i64 1])∧∃ n,w'=w.drewN n:=by
 rcases h with hx | ⟨hx,hy⟩
 all_goals
  go_enter Tryz.func118,Tryz.ntmps118;go_wp2_with (first | (go_at_call 50;refine (jak _ _ _).mono ?_;rintro e w' ⟨rfl,rfl⟩));go_ret2;exact ⟨rfl,0,rfl⟩
theorem jmx (x y:Int) (w:World) (hx:chk 1 x=true) (hy:chk 1 y=true):Calls Tryz.prog 118 #[.string ⟨#[77,97,120]⟩,.int .i64 1,.int .i64 x,.int .i64 y] w fun e w'=>e=.returned (.tuple #[.int .i64 (bin 4 1 x y).1,.int .i64 (bin 4 1 x y).2])∧∃ n,w'=w.drewN n:=by
 rw [jeJ 4 x y hx hy];go_enter Tryz.func118,Tryz.ntmps118;go_wp2_with (first | (go_at_call 50;refine (jak _ _ _).mono ?_;rintro e w' ⟨rfl,rfl⟩) | (go_at_call 129;refine (ja0 _ _).mono ?_;rintro e w' ⟨rfl,rfl⟩) | (go_at_call 132;refine (max_f _ _ _ (jdW _) (jdW _)).mono ?_;rintro e w' ⟨rfl,n,rfl⟩));go_ret2;exact ⟨rfl,_,rfl⟩
theorem jmy (x y:Int) (w:World) (hx:chk 6 x=true) (hy:chk 6 y=true):Calls Tryz.prog 118 #[.string ⟨#[77,97,120]⟩,.int .i64 6,.int .i64 x,.int .i64 y] w fun e w'=>e=.returned (.tuple #[.int .i64 (bin 4 6 x y).1,.int .i64 (bin 4 6 x y).2])∧∃ n,w'=w.drewN n:=by
 rw [jeK 4 x y hx hy];go_enter Tryz.func118,Tryz.ntmps118;go_wp2_with (first | (go_at_call 50;refine (jak _ _ _).mono ?_;rintro e w' ⟨rfl,rfl⟩) | (go_at_call 133;refine (jql _ _ _ _).mono ?_;rintro e w' ⟨rfl,rfl⟩));go_ret2;exact ⟨rfl,0,rfl⟩
theorem jmz (x y:Int) (w:World) (hx:chk 7 x=true) (hy:chk 7 y=true):Calls Tryz.prog 118 #[.string ⟨#[77,97,120]⟩,.int .i64 7,.int .i64 x,.int .i64 y] w fun e w'=>e=.returned (.tuple #[.int .i64 (bin 4 7 x y).1,.int .i64 (bin 4 7 x y).2])∧∃ n,w'=w.drewN n:=by
 rw [jeL 4 x y hx hy];go_enter Tryz.func118,Tryz.ntmps118;go_wp2_with (first | (go_at_call 50;refine (jak _ _ _).mono ?_;rintro e w' ⟨rfl,rfl⟩) | (go_at_call 133;refine (jql _ _ _ _).mono ?_;rintro e w' ⟨rfl,rfl⟩));go_ret2;exact ⟨rfl,0,rfl⟩
theorem jmA (x y:Int) (w:World) (hx:chk 9 x=true) (hy:chk 9 y=true):Calls Tryz.prog 118 #[.string ⟨#[77,97,120]⟩,.int .i64 9,.int .i64 x,.int .i64 y] w fun e w'=>e=.returned (.tuple #[.int .i64 (bin 4 9 x y).1,.int .i64 (bin 4 9 x y).2])∧∃ n,w'=w.drewN n:=by
 rw [jeM 4 x y hx hy];go_enter Tryz.func118,Tryz.ntmps118;go_wp2_with (first | (go_at_call 50;refine (jak _ _ _).mono ?_;rintro e w' ⟨rfl,rfl⟩) | (go_at_call 134;refine (jq6 _ _ _).mono ?_;rintro e w' ⟨rfl,rfl⟩));go_ret2;exact ⟨rfl,0,rfl⟩
theorem binary4 (t x y:Int) (w:World):Calls Tryz.prog 118 #[.string ⟨#[77,97,120]⟩,.int .i64 t,.int .i64 x,.int .i64 y] w fun e w'=>e=.returned (.tuple #[.int .i64 (bin 4 t x y).1,.int .i64 (bin 4 t x y).2])∧∃ n,w'=w.drewN n:=by
 cases hx:chk t x with
 | false=>rw [jcf 4 t x y hx];exact jgo t x y w (.inl hx)
 | true =>
  cases hy:chk t y with
  | false=>rw [jcg 4 t x y hy];exact jgo t x y w (.inr ⟨hx,hy⟩)
  | true =>
   rcases jbx t x hx with rfl | rfl | rfl | rfl
   ·exact jmx x y w hx hy
   ·exact jmy x y w hx hy
   ·exact jmz x y w hx hy
   ·exact jmA x y w hx hy
theorem jgp (t x y:Int) (w:World) (h:chk t x=false∨chk t x=true∧chk t y=false):Calls Tryz.prog 118 #[.string ⟨#[77,105,110]⟩,.int .i64 t,.int .i64 x,.int .i64 y] w fun e w'=>e=.returned (.tuple #[.int .i64 0,.int .i64 1])∧∃ n,w'=w.drewN n:=by
 rcases h with hx | ⟨hx,hy⟩
 all_goals
  go_enter Tryz.func118,Tryz.ntmps118;go_wp2_with (first | (go_at_call 50;refine (jak _ _ _).mono ?_;rintro e w' ⟨rfl,rfl⟩));go_ret2;exact ⟨rfl,0,rfl⟩
theorem jmB (x y:Int) (w:World) (hx:chk 1 x=true) (hy:chk 1 y=true):Calls Tryz.prog 118 #[.string ⟨#[77,105,110]⟩,.int .i64 1,.int .i64 x,.int .i64 y] w fun e w'=>e=.returned (.tuple #[.int .i64 (bin 5 1 x y).1,.int .i64 (bin 5 1 x y).2])∧∃ n,w'=w.drewN n:=by
 rw [jeJ 5 x y hx hy];go_enter Tryz.func118,Tryz.ntmps118;go_wp2_with (first | (go_at_call 50;refine (jak _ _ _).mono ?_;rintro e w' ⟨rfl,rfl⟩) | (go_at_call 129;refine (ja0 _ _).mono ?_;rintro e w' ⟨rfl,rfl⟩) | (go_at_call 132;refine (min_f _ _ _ (jdW _) (jdW _)).mono ?_;rintro e w' ⟨rfl,n,rfl⟩));go_ret2;exact ⟨rfl,_,rfl⟩
theorem jmC (x y:Int) (w:World) (hx:chk 6 x=true) (hy:chk 6 y=true):Calls Tryz.prog 118 #[.string ⟨#[77,105,110]⟩,.int .i64 6,.int .i64 x,.int .i64 y] w fun e w'=>e=.returned (.tuple #[.int .i64 (bin 5 6 x y).1,.int .i64 (bin 5 6 x y).2])∧∃ n,w'=w.drewN n:=by
 rw [jeK 5 x y hx hy];go_enter Tryz.func118,Tryz.ntmps118;go_wp2_with (first | (go_at_call 50;refine (jak _ _ _).mono ?_;rintro e w' ⟨rfl,rfl⟩) | (go_at_call 133;refine (jqm _ _ _ _).mono ?_;rintro e w' ⟨rfl,rfl⟩));go_ret2;exact ⟨rfl,0,rfl⟩
theorem jmD (x y:Int) (w:World) (hx:chk 7 x=true) (hy:chk 7 y=true):Calls Tryz.prog 118 #[.string ⟨#[77,105,110]⟩,.int .i64 7,.int .i64 x,.int .i64 y] w fun e w'=>e=.returned (.tuple #[.int .i64 (bin 5 7 x y).1,.int .i64 (bin 5 7 x y).2])∧∃ n,w'=w.drewN n:=by
 rw [jeL 5 x y hx hy];go_enter Tryz.func118,Tryz.ntmps118;go_wp2_with (first | (go_at_call 50;refine (jak _ _ _).mono ?_;rintro e w' ⟨rfl,rfl⟩) | (go_at_call 133;refine (jqm _ _ _ _).mono ?_;rintro e w' ⟨rfl,rfl⟩));go_ret2;exact ⟨rfl,0,rfl⟩
theorem jmE (x y:Int) (w:World) (hx:chk 9 x=true) (hy:chk 9 y=true):Calls Tryz.prog 118 #[.string ⟨#[77,105,110]⟩,.int .i64 9,.int .i64 x,.int .i64 y] w fun e w'=>e=.returned (.tuple #[.int .i64 (bin 5 9 x y).1,.int .i64 (bin 5 9 x y).2])∧∃ n,w'=w.drewN n:=by
 rw [jeM 5 x y hx hy];go_enter Tryz.func118,Tryz.ntmps118;go_wp2_with (first | (go_at_call 50;refine (jak _ _ _).mono ?_;rintro e w' ⟨rfl,rfl⟩) | (go_at_call 134;refine (jq7 _ _ _).mono ?_;rintro e w' ⟨rfl,rfl⟩));go_ret2;exact ⟨rfl,0,rfl⟩
theorem binary5 (t x y:Int) (w:World):Calls Tryz.prog 118 #[.string ⟨#[77,105,110]⟩,.int .i64 t,.int .i64 x,.int .i64 y] w fun e w'=>e=.returned (.tuple #[.int .i64 (bin 5 t x y).1,.int .i64 (bin 5 t x y).2])∧∃ n,w'=w.drewN n:=by
 cases hx:chk t x with
 | false=>rw [jcf 5 t x y hx];exact jgp t x y w (.inl hx)
 | true =>
  cases hy:chk t y with
  | false=>rw [jcg 5 t x y hy];exact jgp t x y w (.inr ⟨hx,hy⟩)
  | true =>
   rcases jbx t x hx with rfl | rfl | rfl | rfl
   ·exact jmB x y w hx hy
   ·exact jmC x y w hx hy
   ·exact jmD x y w hx hy
   ·exact jmE x y w hx hy
theorem jgq (t x y:Int) (w:World) (h:chk t x=false∨chk t x=true∧chk t y=false):Calls Tryz.prog 118 #[.string ⟨#[65,110,100]⟩,.int .i64 t,.int .i64 x,.int .i64 y] w fun e w'=>e=.returned (.tuple #[.int .i64 0,.int .i64 1])∧∃ n,w'=w.drewN n:=by
 rcases h with hx | ⟨hx,hy⟩
 all_goals
  go_enter Tryz.func118,Tryz.ntmps118;go_wp2_with (first | (go_at_call 50;refine (jak _ _ _).mono ?_;rintro e w' ⟨rfl,rfl⟩));go_ret2;exact ⟨rfl,0,rfl⟩
theorem jmF (x y:Int) (w:World) (hx:chk 1 x=true) (hy:chk 1 y=true):Calls Tryz.prog 118 #[.string ⟨#[65,110,100]⟩,.int .i64 1,.int .i64 x,.int .i64 y] w fun e w'=>e=.returned (.tuple #[.int .i64 (bin 6 1 x y).1,.int .i64 (bin 6 1 x y).2])∧∃ n,w'=w.drewN n:=by
 rw [jeJ 6 x y hx hy];go_enter Tryz.func118,Tryz.ntmps118;go_wp2_with (first | (go_at_call 50;refine (jak _ _ _).mono ?_;rintro e w' ⟨rfl,rfl⟩) | (go_at_call 129;refine (ja0 _ _).mono ?_;rintro e w' ⟨rfl,rfl⟩) | (go_at_call 132;refine (no6_f _ _ _).mono ?_;rintro e w' ⟨rfl,n,rfl⟩));go_ret2;exact ⟨rfl,_,rfl⟩
theorem jmG (x y:Int) (w:World) (hx:chk 6 x=true) (hy:chk 6 y=true):Calls Tryz.prog 118 #[.string ⟨#[65,110,100]⟩,.int .i64 6,.int .i64 x,.int .i64 y] w fun e w'=>e=.returned (.tuple #[.int .i64 (bin 6 6 x y).1,.int .i64 (bin 6 6 x y).2])∧∃ n,w'=w.drewN n:=by
 rw [jeK 6 x y hx hy];go_enter Tryz.func118,Tryz.ntmps118;go_wp2_with (first | (go_at_call 50;refine (jak _ _ _).mono ?_;rintro e w' ⟨rfl,rfl⟩) | (go_at_call 133;refine (jqo _ _ _ _).mono ?_;rintro e w' ⟨rfl,rfl⟩));go_ret2;exact ⟨rfl,0,rfl⟩
theorem jmH (x y:Int) (w:World) (hx:chk 7 x=true) (hy:chk 7 y=true):Calls Tryz.prog 118 #[.string ⟨#[65,110,100]⟩,.int .i64 7,.int .i64 x,.int .i64 y] w fun e w'=>e=.returned (.tuple #[.int .i64 (bin 6 7 x y).1,.int .i64 (bin 6 7 x y).2])∧∃ n,w'=w.drewN n:=by
 rw [jeL 6 x y hx hy];go_enter Tryz.func118,Tryz.ntmps118;go_wp2_with (first | (go_at_call 50;refine (jak _ _ _).mono ?_;rintro e w' ⟨rfl,rfl⟩) | (go_at_call 133;refine (jqo _ _ _ _).mono ?_;rintro e w' ⟨rfl,rfl⟩));go_ret2;exact ⟨rfl,0,rfl⟩
theorem jmI (x y:Int) (w:World) (hx:chk 9 x=true) (hy:chk 9 y=true):Calls Tryz.prog 118 #[.string ⟨#[65,110,100]⟩,.int .i64 9,.int .i64 x,.int .i64 y] w fun e w'=>e=.returned (.tuple #[.int .i64 (bin 6 9 x y).1,.int .i64 (bin 6 9 x y).2])∧∃ n,w'=w.drewN n:=by
 rw [jeM 6 x y hx hy];go_enter Tryz.func118,Tryz.ntmps118;go_wp2_with (first | (go_at_call 50;refine (jak _ _ _).mono ?_;rintro e w' ⟨rfl,rfl⟩) | (go_at_call 134;refine (jqY _ _ _ (jq8 _ hx) (jq8 _ hy)).mono ?_;rintro e w' ⟨rfl,rfl⟩));go_ret2;exact ⟨rfl,0,rfl⟩
theorem binary6 (t x y:Int) (w:World):Calls Tryz.prog 118 #[.string ⟨#[65,110,100]⟩,.int .i64 t,.int .i64 x,.int .i64 y] w fun e w'=>e=.returned (.tuple #[.int .i64 (bin 6 t x y).1,.int .i64 (bin 6 t x y).2])∧∃ n,w'=w.drewN n:=by
 cases hx:chk t x with
 | false=>rw [jcf 6 t x y hx];exact jgq t x y w (.inl hx)
 | true =>
  cases hy:chk t y with
  | false=>rw [jcg 6 t x y hy];exact jgq t x y w (.inr ⟨hx,hy⟩)
  | true =>
   rcases jbx t x hx with rfl | rfl | rfl | rfl
   ·exact jmF x y w hx hy
   ·exact jmG x y w hx hy
   ·exact jmH x y w hx hy
   ·exact jmI x y w hx hy
theorem jgr (t x y:Int) (w:World) (h:chk t x=false∨chk t x=true∧chk t y=false):Calls Tryz.prog 118 #[.string ⟨#[79,114]⟩,.int .i64 t,.int .i64 x,.int .i64 y] w fun e w'=>e=.returned (.tuple #[.int .i64 0,.int .i64 1])∧∃ n,w'=w.drewN n:=by
 rcases h with hx | ⟨hx,hy⟩
 all_goals
  go_enter Tryz.func118,Tryz.ntmps118;go_wp2_with (first | (go_at_call 50;refine (jak _ _ _).mono ?_;rintro e w' ⟨rfl,rfl⟩));go_ret2;exact ⟨rfl,0,rfl⟩
theorem jmJ (x y:Int) (w:World) (hx:chk 1 x=true) (hy:chk 1 y=true):Calls Tryz.prog 118 #[.string ⟨#[79,114]⟩,.int .i64 1,.int .i64 x,.int .i64 y] w fun e w'=>e=.returned (.tuple #[.int .i64 (bin 7 1 x y).1,.int .i64 (bin 7 1 x y).2])∧∃ n,w'=w.drewN n:=by
 rw [jeJ 7 x y hx hy];go_enter Tryz.func118,Tryz.ntmps118;go_wp2_with (first | (go_at_call 50;refine (jak _ _ _).mono ?_;rintro e w' ⟨rfl,rfl⟩) | (go_at_call 129;refine (ja0 _ _).mono ?_;rintro e w' ⟨rfl,rfl⟩) | (go_at_call 132;refine (no7_f _ _ _).mono ?_;rintro e w' ⟨rfl,n,rfl⟩));go_ret2;exact ⟨rfl,_,rfl⟩
theorem jmK (x y:Int) (w:World) (hx:chk 6 x=true) (hy:chk 6 y=true):Calls Tryz.prog 118 #[.string ⟨#[79,114]⟩,.int .i64 6,.int .i64 x,.int .i64 y] w fun e w'=>e=.returned (.tuple #[.int .i64 (bin 7 6 x y).1,.int .i64 (bin 7 6 x y).2])∧∃ n,w'=w.drewN n:=by
 rw [jeK 7 x y hx hy];go_enter Tryz.func118,Tryz.ntmps118;go_wp2_with (first | (go_at_call 50;refine (jak _ _ _).mono ?_;rintro e w' ⟨rfl,rfl⟩) | (go_at_call 133;refine (jqp _ _ _ _).mono ?_;rintro e w' ⟨rfl,rfl⟩));go_ret2;exact ⟨rfl,0,rfl⟩
theorem jmL (x y:Int) (w:World) (hx:chk 7 x=true) (hy:chk 7 y=true):Calls Tryz.prog 118 #[.string ⟨#[79,114]⟩,.int .i64 7,.int .i64 x,.int .i64 y] w fun e w'=>e=.returned (.tuple #[.int .i64 (bin 7 7 x y).1,.int .i64 (bin 7 7 x y).2])∧∃ n,w'=w.drewN n:=by
 rw [jeL 7 x y hx hy];go_enter Tryz.func118,Tryz.ntmps118;go_wp2_with (first | (go_at_call 50;refine (jak _ _ _).mono ?_;rintro e w' ⟨rfl,rfl⟩) | (go_at_call 133;refine (jqp _ _ _ _).mono ?_;rintro e w' ⟨rfl,rfl⟩));go_ret2;exact ⟨rfl,0,rfl⟩
theorem jmM (x y:Int) (w:World) (hx:chk 9 x=true) (hy:chk 9 y=true):Calls Tryz.prog 118 #[.string ⟨#[79,114]⟩,.int .i64 9,.int .i64 x,.int .i64 y] w fun e w'=>e=.returned (.tuple #[.int .i64 (bin 7 9 x y).1,.int .i64 (bin 7 9 x y).2])∧∃ n,w'=w.drewN n:=by
 rw [jeM 7 x y hx hy];go_enter Tryz.func118,Tryz.ntmps118;go_wp2_with (first | (go_at_call 50;refine (jak _ _ _).mono ?_;rintro e w' ⟨rfl,rfl⟩) | (go_at_call 134;refine (jqZ _ _ _ (jq8 _ hx) (jq8 _ hy)).mono ?_;rintro e w' ⟨rfl,rfl⟩));go_ret2;exact ⟨rfl,0,rfl⟩
theorem binary7 (t x y:Int) (w:World):Calls Tryz.prog 118 #[.string ⟨#[79,114]⟩,.int .i64 t,.int .i64 x,.int .i64 y] w fun e w'=>e=.returned (.tuple #[.int .i64 (bin 7 t x y).1,.int .i64 (bin 7 t x y).2])∧∃ n,w'=w.drewN n:=by
 cases hx:chk t x with
 | false=>rw [jcf 7 t x y hx];exact jgr t x y w (.inl hx)
 | true =>
  cases hy:chk t y with
  | false=>rw [jcg 7 t x y hy];exact jgr t x y w (.inr ⟨hx,hy⟩)
  | true =>
   rcases jbx t x hx with rfl | rfl | rfl | rfl
   ·exact jmJ x y w hx hy
   ·exact jmK x y w hx hy
   ·exact jmL x y w hx hy
   ·exact jmM x y w hx hy
theorem jgs (t x y:Int) (w:World) (h:chk t x=false∨chk t x=true∧chk t y=false):Calls Tryz.prog 118 #[.string ⟨#[88,111,114]⟩,.int .i64 t,.int .i64 x,.int .i64 y] w fun e w'=>e=.returned (.tuple #[.int .i64 0,.int .i64 1])∧∃ n,w'=w.drewN n:=by
 rcases h with hx | ⟨hx,hy⟩
 all_goals
  go_enter Tryz.func118,Tryz.ntmps118;go_wp2_with (first | (go_at_call 50;refine (jak _ _ _).mono ?_;rintro e w' ⟨rfl,rfl⟩));go_ret2;exact ⟨rfl,0,rfl⟩
theorem jmN (x y:Int) (w:World) (hx:chk 1 x=true) (hy:chk 1 y=true):Calls Tryz.prog 118 #[.string ⟨#[88,111,114]⟩,.int .i64 1,.int .i64 x,.int .i64 y] w fun e w'=>e=.returned (.tuple #[.int .i64 (bin 8 1 x y).1,.int .i64 (bin 8 1 x y).2])∧∃ n,w'=w.drewN n:=by
 rw [jeJ 8 x y hx hy];go_enter Tryz.func118,Tryz.ntmps118;go_wp2_with (first | (go_at_call 50;refine (jak _ _ _).mono ?_;rintro e w' ⟨rfl,rfl⟩) | (go_at_call 129;refine (ja0 _ _).mono ?_;rintro e w' ⟨rfl,rfl⟩) | (go_at_call 132;refine (no8_f _ _ _).mono ?_;rintro e w' ⟨rfl,n,rfl⟩));go_ret2;exact ⟨rfl,_,rfl⟩
theorem jmO (x y:Int) (w:World) (hx:chk 6 x=true) (hy:chk 6 y=true):Calls Tryz.prog 118 #[.string ⟨#[88,111,114]⟩,.int .i64 6,.int .i64 x,.int .i64 y] w fun e w'=>e=.returned (.tuple #[.int .i64 (bin 8 6 x y).1,.int .i64 (bin 8 6 x y).2])∧∃ n,w'=w.drewN n:=by
 rw [jeK 8 x y hx hy];go_enter Tryz.func118,Tryz.ntmps118;go_wp2_with (first | (go_at_call 50;refine (jak _ _ _).mono ?_;rintro e w' ⟨rfl,rfl⟩) | (go_at_call 133;refine (jqq _ _ _ _).mono ?_;rintro e w' ⟨rfl,rfl⟩));go_ret2;exact ⟨rfl,0,rfl⟩
theorem jmP (x y:Int) (w:World) (hx:chk 7 x=true) (hy:chk 7 y=true):Calls Tryz.prog 118 #[.string ⟨#[88,111,114]⟩,.int .i64 7,.int .i64 x,.int .i64 y] w fun e w'=>e=.returned (.tuple #[.int .i64 (bin 8 7 x y).1,.int .i64 (bin 8 7 x y).2])∧∃ n,w'=w.drewN n:=by
 rw [jeL 8 x y hx hy];go_enter Tryz.func118,Tryz.ntmps118;go_wp2_with (first | (go_at_call 50;refine (jak _ _ _).mono ?_;rintro e w' ⟨rfl,rfl⟩) | (go_at_call 133;refine (jqq _ _ _ _).mono ?_;rintro e w' ⟨rfl,rfl⟩));go_ret2;exact ⟨rfl,0,rfl⟩
theorem jmQ (x y:Int) (w:World) (hx:chk 9 x=true) (hy:chk 9 y=true):Calls Tryz.prog 118 #[.string ⟨#[88,111,114]⟩,.int .i64 9,.int .i64 x,.int .i64 y] w fun e w'=>e=.returned (.tuple #[.int .i64 (bin 8 9 x y).1,.int .i64 (bin 8 9 x y).2])∧∃ n,w'=w.drewN n:=by
 rw [jeM 8 x y hx hy];go_enter Tryz.func118,Tryz.ntmps118;go_wp2_with (first | (go_at_call 50;refine (jak _ _ _).mono ?_;rintro e w' ⟨rfl,rfl⟩) | (go_at_call 134;refine (jq0 _ _ _ (jq8 _ hx) (jq8 _ hy)).mono ?_;rintro e w' ⟨rfl,rfl⟩));go_ret2;exact ⟨rfl,0,rfl⟩
theorem binary8 (t x y:Int) (w:World):Calls Tryz.prog 118 #[.string ⟨#[88,111,114]⟩,.int .i64 t,.int .i64 x,.int .i64 y] w fun e w'=>e=.returned (.tuple #[.int .i64 (bin 8 t x y).1,.int .i64 (bin 8 t x y).2])∧∃ n,w'=w.drewN n:=by
 cases hx:chk t x with
 | false=>rw [jcf 8 t x y hx];exact jgs t x y w (.inl hx)
 | true =>
  cases hy:chk t y with
  | false=>rw [jcg 8 t x y hy];exact jgs t x y w (.inr ⟨hx,hy⟩)
  | true =>
   rcases jbx t x hx with rfl | rfl | rfl | rfl
   ·exact jmN x y w hx hy
   ·exact jmO x y w hx hy
   ·exact jmP x y w hx hy
   ·exact jmQ x y w hx hy
theorem jgt (t x y:Int) (w:World) (h:chk t x=false∨chk t x=true∧chk t y=false):Calls Tryz.prog 118 #[.string ⟨#[69,113,117,97,108]⟩,.int .i64 t,.int .i64 x,.int .i64 y] w fun e w'=>e=.returned (.tuple #[.int .i64 0,.int .i64 1])∧∃ n,w'=w.drewN n:=by
 rcases h with hx | ⟨hx,hy⟩
 all_goals
  go_enter Tryz.func118,Tryz.ntmps118;go_wp2_with (first | (go_at_call 50;refine (jak _ _ _).mono ?_;rintro e w' ⟨rfl,rfl⟩));go_ret2;exact ⟨rfl,0,rfl⟩
theorem jmR (x y:Int) (w:World) (hx:chk 1 x=true) (hy:chk 1 y=true):Calls Tryz.prog 118 #[.string ⟨#[69,113,117,97,108]⟩,.int .i64 1,.int .i64 x,.int .i64 y] w fun e w'=>e=.returned (.tuple #[.int .i64 (bin 9 1 x y).1,.int .i64 (bin 9 1 x y).2])∧∃ n,w'=w.drewN n:=by
 rw [jeJ 9 x y hx hy];go_enter Tryz.func118,Tryz.ntmps118;go_wp2_with (first | (go_at_call 50;refine (jak _ _ _).mono ?_;rintro e w' ⟨rfl,rfl⟩) | (go_at_call 129;refine (ja0 _ _).mono ?_;rintro e w' ⟨rfl,rfl⟩) | (go_at_call 132;refine (jr2 _ _ _).mono ?_;rintro e w' ⟨rfl,n,rfl⟩));go_ret2;exact ⟨rfl,_,rfl⟩
theorem jmS (x y:Int) (w:World) (hx:chk 6 x=true) (hy:chk 6 y=true):Calls Tryz.prog 118 #[.string ⟨#[69,113,117,97,108]⟩,.int .i64 6,.int .i64 x,.int .i64 y] w fun e w'=>e=.returned (.tuple #[.int .i64 (bin 9 6 x y).1,.int .i64 (bin 9 6 x y).2])∧∃ n,w'=w.drewN n:=by
 rw [jeK 9 x y hx hy];go_enter Tryz.func118,Tryz.ntmps118;go_wp2_with (first | (go_at_call 50;refine (jak _ _ _).mono ?_;rintro e w' ⟨rfl,rfl⟩) | (go_at_call 133;refine (jqn _ _ _ _).mono ?_;rintro e w' ⟨rfl,rfl⟩));go_ret2;exact ⟨rfl,0,rfl⟩
theorem jmT (x y:Int) (w:World) (hx:chk 7 x=true) (hy:chk 7 y=true):Calls Tryz.prog 118 #[.string ⟨#[69,113,117,97,108]⟩,.int .i64 7,.int .i64 x,.int .i64 y] w fun e w'=>e=.returned (.tuple #[.int .i64 (bin 9 7 x y).1,.int .i64 (bin 9 7 x y).2])∧∃ n,w'=w.drewN n:=by
 rw [jeL 9 x y hx hy];go_enter Tryz.func118,Tryz.ntmps118;go_wp2_with (first | (go_at_call 50;refine (jak _ _ _).mono ?_;rintro e w' ⟨rfl,rfl⟩) | (go_at_call 133;refine (jqn _ _ _ _).mono ?_;rintro e w' ⟨rfl,rfl⟩));go_ret2;exact ⟨rfl,0,rfl⟩
theorem jmU (x y:Int) (w:World) (hx:chk 9 x=true) (hy:chk 9 y=true):Calls Tryz.prog 118 #[.string ⟨#[69,113,117,97,108]⟩,.int .i64 9,.int .i64 x,.int .i64 y] w fun e w'=>e=.returned (.tuple #[.int .i64 (bin 9 9 x y).1,.int .i64 (bin 9 9 x y).2])∧∃ n,w'=w.drewN n:=by
 rw [jeM 9 x y hx hy];go_enter Tryz.func118,Tryz.ntmps118;go_wp2_with (first | (go_at_call 50;refine (jak _ _ _).mono ?_;rintro e w' ⟨rfl,rfl⟩) | (go_at_call 134;refine (jq1 _ _ _).mono ?_;rintro e w' ⟨rfl,rfl⟩));go_ret2;exact ⟨rfl,0,rfl⟩
theorem binary9 (t x y:Int) (w:World):Calls Tryz.prog 118 #[.string ⟨#[69,113,117,97,108]⟩,.int .i64 t,.int .i64 x,.int .i64 y] w fun e w'=>e=.returned (.tuple #[.int .i64 (bin 9 t x y).1,.int .i64 (bin 9 t x y).2])∧∃ n,w'=w.drewN n:=by
 cases hx:chk t x with
 | false=>rw [jcf 9 t x y hx];exact jgt t x y w (.inl hx)
 | true =>
  cases hy:chk t y with
  | false=>rw [jcg 9 t x y hy];exact jgt t x y w (.inr ⟨hx,hy⟩)
  | true =>
   rcases jbx t x hx with rfl | rfl | rfl | rfl
   ·exact jmR x y w hx hy
   ·exact jmS x y w hx hy
   ·exact jmT x y w hx hy
   ·exact jmU x y w hx hy
theorem jfl (t x y:Int) (w:World) (h:chk t x=false∨chk t x=true∧chk t y=false):Calls Tryz.prog 118 #[.string ⟨#[76,101,115,115]⟩,.int .i64 t,.int .i64 x,.int .i64 y] w fun e w'=>e=.returned (.tuple #[.int .i64 0,.int .i64 1])∧∃ n,w'=w.drewN n:=by
 rcases h with hx | ⟨hx,hy⟩
 all_goals
  go_enter Tryz.func118,Tryz.ntmps118;go_wp2_with (first | (go_at_call 50;refine (jak _ _ _).mono ?_;rintro e w' ⟨rfl,rfl⟩));go_ret2;exact ⟨rfl,0,rfl⟩
theorem jkF (x y:Int) (w:World) (hx:chk 1 x=true) (hy:chk 1 y=true):Calls Tryz.prog 118 #[.string ⟨#[76,101,115,115]⟩,.int .i64 1,.int .i64 x,.int .i64 y] w fun e w'=>e=.returned (.tuple #[.int .i64 (bin 10 1 x y).1,.int .i64 (bin 10 1 x y).2])∧∃ n,w'=w.drewN n:=by
 rw [jeJ 10 x y hx hy];go_enter Tryz.func118,Tryz.ntmps118;go_wp2_with (first | (go_at_call 50;refine (jak _ _ _).mono ?_;rintro e w' ⟨rfl,rfl⟩) | (go_at_call 129;refine (ja0 _ _).mono ?_;rintro e w' ⟨rfl,rfl⟩) | (go_at_call 132;refine (jqW _ _ _).mono ?_;rintro e w' ⟨rfl,n,rfl⟩));go_ret2;exact ⟨rfl,_,rfl⟩
theorem jkG (x y:Int) (w:World) (hx:chk 6 x=true) (hy:chk 6 y=true):Calls Tryz.prog 118 #[.string ⟨#[76,101,115,115]⟩,.int .i64 6,.int .i64 x,.int .i64 y] w fun e w'=>e=.returned (.tuple #[.int .i64 (bin 10 6 x y).1,.int .i64 (bin 10 6 x y).2])∧∃ n,w'=w.drewN n:=by
 rw [jeK 10 x y hx hy];go_enter Tryz.func118,Tryz.ntmps118;go_wp2_with (first | (go_at_call 50;refine (jak _ _ _).mono ?_;rintro e w' ⟨rfl,rfl⟩) | (go_at_call 133;refine (jmf _ _ _ _).mono ?_;rintro e w' ⟨rfl,rfl⟩));go_ret2;exact ⟨rfl,0,rfl⟩
theorem jkH (x y:Int) (w:World) (hx:chk 7 x=true) (hy:chk 7 y=true):Calls Tryz.prog 118 #[.string ⟨#[76,101,115,115]⟩,.int .i64 7,.int .i64 x,.int .i64 y] w fun e w'=>e=.returned (.tuple #[.int .i64 (bin 10 7 x y).1,.int .i64 (bin 10 7 x y).2])∧∃ n,w'=w.drewN n:=by
 rw [jeL 10 x y hx hy];go_enter Tryz.func118,Tryz.ntmps118;go_wp2_with (first | (go_at_call 50;refine (jak _ _ _).mono ?_;rintro e w' ⟨rfl,rfl⟩) | (go_at_call 133;refine (jmf _ _ _ _).mono ?_;rintro e w' ⟨rfl,rfl⟩));go_ret2;exact ⟨rfl,0,rfl⟩
theorem jkI (x y:Int) (w:World) (hx:chk 9 x=true) (hy:chk 9 y=true):Calls Tryz.prog 118 #[.string ⟨#[76,101,115,115]⟩,.int .i64 9,.int .i64 x,.int .i64 y] w fun e w'=>e=.returned (.tuple #[.int .i64 (bin 10 9 x y).1,.int .i64 (bin 10 9 x y).2])∧∃ n,w'=w.drewN n:=by
 rw [jeM 10 x y hx hy];go_enter Tryz.func118,Tryz.ntmps118;go_wp2_with (first | (go_at_call 50;refine (jak _ _ _).mono ?_;rintro e w' ⟨rfl,rfl⟩) | (go_at_call 134;refine (jo0 _ _ _).mono ?_;rintro e w' ⟨rfl,rfl⟩));go_ret2;exact ⟨rfl,0,rfl⟩
theorem binary10 (t x y:Int) (w:World):Calls Tryz.prog 118 #[.string ⟨#[76,101,115,115]⟩,.int .i64 t,.int .i64 x,.int .i64 y] w fun e w'=>e=.returned (.tuple #[.int .i64 (bin 10 t x y).1,.int .i64 (bin 10 t x y).2])∧∃ n,w'=w.drewN n:=by
 cases hx:chk t x with
 | false=>rw [jcf 10 t x y hx];exact jfl t x y w (.inl hx)
 | true =>
  cases hy:chk t y with
  | false=>rw [jcg 10 t x y hy];exact jfl t x y w (.inr ⟨hx,hy⟩)
  | true =>
   rcases jbx t x hx with rfl | rfl | rfl | rfl
   ·exact jkF x y w hx hy
   ·exact jkG x y w hx hy
   ·exact jkH x y w hx hy
   ·exact jkI x y w hx hy
theorem jfm (t x y:Int) (w:World) (h:chk t x=false∨chk t x=true∧chk t y=false):Calls Tryz.prog 118 #[.string ⟨#[71,114,101,97,116,101,114]⟩,.int .i64 t,.int .i64 x,.int .i64 y] w fun e w'=>e=.returned (.tuple #[.int .i64 0,.int .i64 1])∧∃ n,w'=w.drewN n:=by
 rcases h with hx | ⟨hx,hy⟩
 all_goals
  go_enter Tryz.func118,Tryz.ntmps118;go_wp2_with (first | (go_at_call 50;refine (jak _ _ _).mono ?_;rintro e w' ⟨rfl,rfl⟩));go_ret2;exact ⟨rfl,0,rfl⟩
theorem jkJ (x y:Int) (w:World) (hx:chk 1 x=true) (hy:chk 1 y=true):Calls Tryz.prog 118 #[.string ⟨#[71,114,101,97,116,101,114]⟩,.int .i64 1,.int .i64 x,.int .i64 y] w fun e w'=>e=.returned (.tuple #[.int .i64 (bin 11 1 x y).1,.int .i64 (bin 11 1 x y).2])∧∃ n,w'=w.drewN n:=by
 rw [jeJ 11 x y hx hy];go_enter Tryz.func118,Tryz.ntmps118;go_wp2_with (first | (go_at_call 50;refine (jak _ _ _).mono ?_;rintro e w' ⟨rfl,rfl⟩) | (go_at_call 129;refine (ja0 _ _).mono ?_;rintro e w' ⟨rfl,rfl⟩) | (go_at_call 132;refine (jqX _ _ _).mono ?_;rintro e w' ⟨rfl,n,rfl⟩));go_ret2;exact ⟨rfl,_,rfl⟩
theorem jkK (x y:Int) (w:World) (hx:chk 6 x=true) (hy:chk 6 y=true):Calls Tryz.prog 118 #[.string ⟨#[71,114,101,97,116,101,114]⟩,.int .i64 6,.int .i64 x,.int .i64 y] w fun e w'=>e=.returned (.tuple #[.int .i64 (bin 11 6 x y).1,.int .i64 (bin 11 6 x y).2])∧∃ n,w'=w.drewN n:=by
 rw [jeK 11 x y hx hy];go_enter Tryz.func118,Tryz.ntmps118;go_wp2_with (first | (go_at_call 50;refine (jak _ _ _).mono ?_;rintro e w' ⟨rfl,rfl⟩) | (go_at_call 133;refine (jmg _ _ _ _).mono ?_;rintro e w' ⟨rfl,rfl⟩));go_ret2;exact ⟨rfl,0,rfl⟩
theorem jkL (x y:Int) (w:World) (hx:chk 7 x=true) (hy:chk 7 y=true):Calls Tryz.prog 118 #[.string ⟨#[71,114,101,97,116,101,114]⟩,.int .i64 7,.int .i64 x,.int .i64 y] w fun e w'=>e=.returned (.tuple #[.int .i64 (bin 11 7 x y).1,.int .i64 (bin 11 7 x y).2])∧∃ n,w'=w.drewN n:=by
 rw [jeL 11 x y hx hy];go_enter Tryz.func118,Tryz.ntmps118;go_wp2_with (first | (go_at_call 50;refine (jak _ _ _).mono ?_;rintro e w' ⟨rfl,rfl⟩) | (go_at_call 133;refine (jmg _ _ _ _).mono ?_;rintro e w' ⟨rfl,rfl⟩));go_ret2;exact ⟨rfl,0,rfl⟩
theorem jkM (x y:Int) (w:World) (hx:chk 9 x=true) (hy:chk 9 y=true):Calls Tryz.prog 118 #[.string ⟨#[71,114,101,97,116,101,114]⟩,.int .i64 9,.int .i64 x,.int .i64 y] w fun e w'=>e=.returned (.tuple #[.int .i64 (bin 11 9 x y).1,.int .i64 (bin 11 9 x y).2])∧∃ n,w'=w.drewN n:=by
 rw [jeM 11 x y hx hy];go_enter Tryz.func118,Tryz.ntmps118;go_wp2_with (first | (go_at_call 50;refine (jak _ _ _).mono ?_;rintro e w' ⟨rfl,rfl⟩) | (go_at_call 134;refine (jo1 _ _ _).mono ?_;rintro e w' ⟨rfl,rfl⟩));go_ret2;exact ⟨rfl,0,rfl⟩
theorem binary11 (t x y:Int) (w:World):Calls Tryz.prog 118 #[.string ⟨#[71,114,101,97,116,101,114]⟩,.int .i64 t,.int .i64 x,.int .i64 y] w fun e w'=>e=.returned (.tuple #[.int .i64 (bin 11 t x y).1,.int .i64 (bin 11 t x y).2])∧∃ n,w'=w.drewN n:=by
 cases hx:chk t x with
 | false=>rw [jcf 11 t x y hx];exact jfm t x y w (.inl hx)
 | true =>
  cases hy:chk t y with
  | false=>rw [jcg 11 t x y hy];exact jfm t x y w (.inr ⟨hx,hy⟩)
  | true =>
   rcases jbx t x hx with rfl | rfl | rfl | rfl
   ·exact jkJ x y w hx hy
   ·exact jkK x y w hx hy
   ·exact jkL x y w hx hy
   ·exact jkM x y w hx hy
end Go.Proofs.YtanpkdkenifmbaaGreatDoor.Nu
namespace Go.Proofs.YtanpkdkenifmbaaGreatDoor.Nu
open Go.RowKit
attribute [local go_sem] jc0 jeb jg2
theorem neg_f (b:Nat) (w:World) (hb:b<4294967296):Calls Tryz.prog 128 #[.string ⟨#[78,101,103]⟩,.float .f32 b] w fun e w'=>e=.returned (.tuple #[.int .i64 (tob (jrN b)),.int .i64 0])∧w'=w:=by
 have hn:=jmc b hb;go_enter Tryz.func128,Tryz.ntmps128;go_wp2_with (first | (go_at_call 139;refine (jbS _ _ hn).mono ?_;rintro e w' ⟨rfl,rfl⟩) | go_in);go_ret2;exact ⟨rfl,rfl⟩
theorem jdm (b:Nat) (w:World) (hb:b<4294967296):Calls Tryz.prog 140 #[.float .f32 b] w fun e w'=>e=.returned (.float .f32 (jqS b))∧w'=w:=by
 have ha:=jkE b hb;go_enter Tryz.func140,Tryz.ntmps140;go_wp2;go_ret;exact ⟨by simp [jqS],rfl⟩
theorem abs_f (b:Nat) (w:World) (hb:b<4294967296):Calls Tryz.prog 128 #[.string ⟨#[65,98,115]⟩,.float .f32 b] w fun e w'=>e=.returned (.tuple #[.int .i64 (tob (jqS b)),.int .i64 0])∧w'=w:=by
 go_enter Tryz.func128,Tryz.ntmps128;go_wp2_with (first | (go_at_call 139;refine (jbS _ _ (jqU _)).mono ?_;rintro e w' ⟨rfl,rfl⟩) | (go_at_call 140;refine (jdm _ _ hb).mono ?_;rintro e w' ⟨rfl,rfl⟩) | go_in);go_ret2;exact ⟨rfl,rfl⟩
theorem jo2 (b:Nat) (w:World):Calls Tryz.prog 141 #[.float .f32 b] w fun e w'=>e=.returned (.float .f32 (jfj b))∧w'=w:=by
 cases h:(FloatKind.f32.format.order b 0==some .gt) with
 | true =>
  have c:jfj b=b:=by unfold jfj;rw [if_pos h]
  rw [c];clear c;go_enter Tryz.func141,Tryz.ntmps141;go_wp2;go_ret;exact ⟨rfl,rfl⟩
 | false =>
  cases h':(FloatKind.f32.format.order b b != some .eq) with
  | true =>
   have c:jfj b=b:=by unfold jfj;rw [h,h'];rfl
   rw [c];clear c;go_enter Tryz.func141,Tryz.ntmps141;go_wp2;go_ret;exact ⟨rfl,rfl⟩
  | false =>
   have c:jfj b=0:=by unfold jfj;rw [h,h'];rfl
   rw [c];clear c;go_enter Tryz.func141,Tryz.ntmps141;go_wp2;go_ret;exact ⟨rfl,rfl⟩
theorem jr3 (b:Nat) (w:World) (hb:b<4294967296):Calls Tryz.prog 128 #[.string ⟨#[82,101,108,117]⟩,.float .f32 b] w fun e w'=>e=.returned (.tuple #[.int .i64 (tob (jfj b)),.int .i64 0])∧w'=w:=by
 go_enter Tryz.func128,Tryz.ntmps128;go_wp2_with (first | (go_at_call 139;refine (jbS _ _ (joV _ hb)).mono ?_;rintro e w' ⟨rfl,rfl⟩) | (go_at_call 141;refine (jo2 _ _).mono ?_;rintro e w' ⟨rfl,rfl⟩) | go_in);go_ret2;exact ⟨rfl,rfl⟩
theorem not_f (b:Nat) (w:World):Calls Tryz.prog 128 #[.string ⟨#[78,111,116]⟩,.float .f32 b] w fun e w'=>e=.returned (.tuple #[.int .i64 0,.int .i64 1])∧w'=w:=by
 go_enter Tryz.func128,Tryz.ntmps128;go_wp2;go_ret2;exact ⟨rfl,rfl⟩
theorem jmV (t x:Int) (w:World):Calls Tryz.prog 130 #[.string ⟨#[78,101,103]⟩,.int .i64 t,.int .i64 x] w fun e w'=>e=.returned (.tuple #[.int .i64 (jcy t (wrap64 (-x))),.int .i64 0])∧w'=w:=by
 cases h:(t==6) with
 | true =>
  rw [jdN t _ h];go_enter Tryz.func130,Tryz.ntmps130;go_wp2;go_ret2;exact ⟨rfl,rfl⟩
 | false =>
  rw [jdO t _ h];go_enter Tryz.func130,Tryz.ntmps130;go_wp2;go_ret2;exact ⟨rfl,rfl⟩
theorem jmW (t x:Int) (w:World):Calls Tryz.prog 130 #[.string ⟨#[65,98,115]⟩,.int .i64 t,.int .i64 x] w fun e w'=>e=.returned (.tuple #[.int .i64 (absI t x),.int .i64 0])∧w'=w:=by
 by_cases hx:x<0
 ·rw [show absI t x=jcy t (wrap64 (-x)) from if_pos hx]
  cases h:(t==6) with
  | true =>
   rw [jdN t _ h];go_enter Tryz.func130,Tryz.ntmps130;go_wp2;go_ret2;exact ⟨rfl,rfl⟩
  | false =>
   rw [jdO t _ h];go_enter Tryz.func130,Tryz.ntmps130;go_wp2;go_ret2;exact ⟨rfl,rfl⟩
 ·rw [show absI t x=x from if_neg hx];go_enter Tryz.func130,Tryz.ntmps130;go_wp2;go_ret2;exact ⟨rfl,rfl⟩
theorem jmX (t x:Int) (w:World):Calls Tryz.prog 130 #[.string ⟨#[78,111,116]⟩,.int .i64 t,.int .i64 x] w fun e w'=>e=.returned (.tuple #[.int .i64 0,.int .i64 1])∧w'=w:=by
 go_enter Tryz.func130,Tryz.ntmps130;go_wp2;go_ret2;exact ⟨rfl,rfl⟩
theorem jmY (t x:Int) (w:World):Calls Tryz.prog 130 #[.string ⟨#[82,101,108,117]⟩,.int .i64 t,.int .i64 x] w fun e w'=>e=.returned (.tuple #[.int .i64 0,.int .i64 1])∧w'=w:=by
 go_enter Tryz.func130,Tryz.ntmps130;go_wp2;go_ret2;exact ⟨rfl,rfl⟩
theorem jmZ (t x:Int) (w:World):Calls Tryz.prog 130 #[.string ⟨#[83,113,114,116]⟩,.int .i64 t,.int .i64 x] w fun e w'=>e=.returned (.tuple #[.int .i64 0,.int .i64 1])∧w'=w:=by
 go_enter Tryz.func130,Tryz.ntmps130;go_wp2;go_ret2;exact ⟨rfl,rfl⟩
theorem jm0 (t x:Int) (w:World):Calls Tryz.prog 130 #[.string ⟨#[70,108,111,111,114]⟩,.int .i64 t,.int .i64 x] w fun e w'=>e=.returned (.tuple #[.int .i64 0,.int .i64 1])∧w'=w:=by
 go_enter Tryz.func130,Tryz.ntmps130;go_wp2;go_ret2;exact ⟨rfl,rfl⟩
theorem jm1 (t x:Int) (w:World):Calls Tryz.prog 130 #[.string ⟨#[69,120,112]⟩,.int .i64 t,.int .i64 x] w fun e w'=>e=.returned (.tuple #[.int .i64 0,.int .i64 1])∧w'=w:=by
 go_enter Tryz.func130,Tryz.ntmps130;go_wp2;go_ret2;exact ⟨rfl,rfl⟩
theorem jm2 (t x:Int) (w:World):Calls Tryz.prog 130 #[.string ⟨#[83,105,103,109,111,105,100]⟩,.int .i64 t,.int .i64 x] w fun e w'=>e=.returned (.tuple #[.int .i64 0,.int .i64 1])∧w'=w:=by
 go_enter Tryz.func130,Tryz.ntmps130;go_wp2;go_ret2;exact ⟨rfl,rfl⟩
theorem jm3 (t x:Int) (w:World):Calls Tryz.prog 130 #[.string ⟨#[84,97,110,104]⟩,.int .i64 t,.int .i64 x] w fun e w'=>e=.returned (.tuple #[.int .i64 0,.int .i64 1])∧w'=w:=by
 go_enter Tryz.func130,Tryz.ntmps130;go_wp2;go_ret2;exact ⟨rfl,rfl⟩
theorem jo3 (x:Int) (w:World) (hx:x=0∨x=1):Calls Tryz.prog 131 #[.string ⟨#[78,111,116]⟩,.int .i64 x] w fun e w'=>e=.returned (.tuple #[.int .i64 (1 - x),.int .i64 0])∧w'=w:=by
 rcases hx with rfl | rfl
 all_goals
  go_enter Tryz.func131,Tryz.ntmps131;go_wp2;go_ret2;exact ⟨rfl,rfl⟩
theorem jo4 (x:Int) (w:World):Calls Tryz.prog 131 #[.string ⟨#[78,101,103]⟩,.int .i64 x] w fun e w'=>e=.returned (.tuple #[.int .i64 0,.int .i64 1])∧w'=w:=by
 go_enter Tryz.func131,Tryz.ntmps131;go_wp2;go_ret2;exact ⟨rfl,rfl⟩
theorem jo5 (x:Int) (w:World):Calls Tryz.prog 131 #[.string ⟨#[65,98,115]⟩,.int .i64 x] w fun e w'=>e=.returned (.tuple #[.int .i64 0,.int .i64 1])∧w'=w:=by
 go_enter Tryz.func131,Tryz.ntmps131;go_wp2;go_ret2;exact ⟨rfl,rfl⟩
theorem jo6 (x:Int) (w:World):Calls Tryz.prog 131 #[.string ⟨#[82,101,108,117]⟩,.int .i64 x] w fun e w'=>e=.returned (.tuple #[.int .i64 0,.int .i64 1])∧w'=w:=by
 go_enter Tryz.func131,Tryz.ntmps131;go_wp2;go_ret2;exact ⟨rfl,rfl⟩
theorem jo7 (x:Int) (w:World):Calls Tryz.prog 131 #[.string ⟨#[83,113,114,116]⟩,.int .i64 x] w fun e w'=>e=.returned (.tuple #[.int .i64 0,.int .i64 1])∧w'=w:=by
 go_enter Tryz.func131,Tryz.ntmps131;go_wp2;go_ret2;exact ⟨rfl,rfl⟩
theorem jo8 (x:Int) (w:World):Calls Tryz.prog 131 #[.string ⟨#[70,108,111,111,114]⟩,.int .i64 x] w fun e w'=>e=.returned (.tuple #[.int .i64 0,.int .i64 1])∧w'=w:=by
 go_enter Tryz.func131,Tryz.ntmps131;go_wp2;go_ret2;exact ⟨rfl,rfl⟩
theorem jo9 (x:Int) (w:World):Calls Tryz.prog 131 #[.string ⟨#[69,120,112]⟩,.int .i64 x] w fun e w'=>e=.returned (.tuple #[.int .i64 0,.int .i64 1])∧w'=w:=by
 go_enter Tryz.func131,Tryz.ntmps131;go_wp2;go_ret2;exact ⟨rfl,rfl⟩
theorem jpa (x:Int) (w:World):Calls Tryz.prog 131 #[.string ⟨#[83,105,103,109,111,105,100]⟩,.int .i64 x] w fun e w'=>e=.returned (.tuple #[.int .i64 0,.int .i64 1])∧w'=w:=by
 go_enter Tryz.func131,Tryz.ntmps131;go_wp2;go_ret2;exact ⟨rfl,rfl⟩
theorem jpb (x:Int) (w:World):Calls Tryz.prog 131 #[.string ⟨#[84,97,110,104]⟩,.int .i64 x] w fun e w'=>e=.returned (.tuple #[.int .i64 0,.int .i64 1])∧w'=w:=by
 go_enter Tryz.func131,Tryz.ntmps131;go_wp2;go_ret2;exact ⟨rfl,rfl⟩
theorem un_no (k:Nat) (t x:Int) (h:chk t x=false):un k t x=(0,1):=by simp [un,h]
theorem un_0 (t x:Int) (h:chk t x=true):un 0 t x=(x,0):=by simp [un,h]
theorem un_1 (k:Nat) (x:Int) (h:chk 1 x=true) (hk:k≠0):un k 1 x=unFl k (fb x):=by simp [un,h,hk]
theorem un_6 (k:Nat) (x:Int) (h:chk 6 x=true) (hk:k≠0):un k 6 x=unIn k 6 x:=by simp [un,h,hk]
theorem un_7 (k:Nat) (x:Int) (h:chk 7 x=true) (hk:k≠0):un k 7 x=unIn k 7 x:=by simp [un,h,hk]
theorem un_9 (k:Nat) (x:Int) (h:chk 9 x=true) (hk:k≠0):un k 9 x=unBo k x:=by simp [un,h,hk]
theorem jm4 (t x:Int) (w:World) (hx:chk t x=false):Calls Tryz.prog 109 #[.string ⟨#[73,100,101,110,116,105,116,121]⟩,.int .i64 t,.int .i64 x] w fun e w'=>e=.returned (.tuple #[.int .i64 (un 0 t x).1,.int .i64 (un 0 t x).2])∧w'=w:=by
 rw [un_no 0 t x hx];go_enter Tryz.func109,Tryz.ntmps109;go_wp2_with (first | (go_at_call 50;refine (jak _ _ _).mono ?_;rintro e w' ⟨rfl,rfl⟩));go_ret2;exact ⟨rfl,rfl⟩
theorem jkN (t x:Int) (w:World) (hx:chk t x=true):Calls Tryz.prog 109 #[.string ⟨#[73,100,101,110,116,105,116,121]⟩,.int .i64 t,.int .i64 x] w fun e w'=>e=.returned (.tuple #[.int .i64 (un 0 t x).1,.int .i64 (un 0 t x).2])∧w'=w:=by
 rw [un_0 t x hx];go_enter Tryz.func109,Tryz.ntmps109;go_wp2_with (first | (go_at_call 50;refine (jak _ _ _).mono ?_;rintro e w' ⟨rfl,rfl⟩));go_ret2;exact ⟨rfl,rfl⟩
theorem unary0 (t x:Int) (w:World):Calls Tryz.prog 109 #[.string ⟨#[73,100,101,110,116,105,116,121]⟩,.int .i64 t,.int .i64 x] w fun e w'=>e=.returned (.tuple #[.int .i64 (un 0 t x).1,.int .i64 (un 0 t x).2])∧w'=w:=by
 cases hx:chk t x with
 | false=>exact jm4 t x w hx
 | true=>exact jkN t x w hx
theorem unary1_1 (x:Int) (w:World) (hx:chk 1 x=true):Calls Tryz.prog 109 #[.string ⟨#[78,101,103]⟩,.int .i64 1,.int .i64 x] w fun e w'=>e=.returned (.tuple #[.int .i64 (un 1 1 x).1,.int .i64 (un 1 1 x).2])∧w'=w:=by
 rw [un_1 1 x hx (by decide)];go_enter Tryz.func109,Tryz.ntmps109;go_wp2_with (first | (go_at_call 50;refine (jak _ _ _).mono ?_;rintro e w' ⟨rfl,rfl⟩) | (go_at_call 129;refine (ja0 _ _).mono ?_;rintro e w' ⟨rfl,rfl⟩) | (go_at_call 128;refine (neg_f _ _ (jdW _)).mono ?_;rintro e w' ⟨rfl,rfl⟩));go_ret2;exact ⟨rfl,rfl⟩
theorem unary1_6 (x:Int) (w:World) (hx:chk 6 x=true):Calls Tryz.prog 109 #[.string ⟨#[78,101,103]⟩,.int .i64 6,.int .i64 x] w fun e w'=>e=.returned (.tuple #[.int .i64 (un 1 6 x).1,.int .i64 (un 1 6 x).2])∧w'=w:=by
 rw [un_6 1 x hx (by decide)];go_enter Tryz.func109,Tryz.ntmps109;go_wp2_with (first | (go_at_call 50;refine (jak _ _ _).mono ?_;rintro e w' ⟨rfl,rfl⟩) | (go_at_call 130;refine (jmV _ _ _).mono ?_;rintro e w' ⟨rfl,rfl⟩));go_ret2;exact ⟨rfl,rfl⟩
theorem unary1_7 (x:Int) (w:World) (hx:chk 7 x=true):Calls Tryz.prog 109 #[.string ⟨#[78,101,103]⟩,.int .i64 7,.int .i64 x] w fun e w'=>e=.returned (.tuple #[.int .i64 (un 1 7 x).1,.int .i64 (un 1 7 x).2])∧w'=w:=by
 rw [un_7 1 x hx (by decide)];go_enter Tryz.func109,Tryz.ntmps109;go_wp2_with (first | (go_at_call 50;refine (jak _ _ _).mono ?_;rintro e w' ⟨rfl,rfl⟩) | (go_at_call 130;refine (jmV _ _ _).mono ?_;rintro e w' ⟨rfl,rfl⟩));go_ret2;exact ⟨rfl,rfl⟩
theorem unary1_9 (x:Int) (w:World) (hx:chk 9 x=true):Calls Tryz.prog 109 #[.string ⟨#[78,101,103]⟩,.int .i64 9,.int .i64 x] w fun e w'=>e=.returned (.tuple #[.int .i64 (un 1 9 x).1,.int .i64 (un 1 9 x).2])∧w'=w:=by
 rw [un_9 1 x hx (by decide)];go_enter Tryz.func109,Tryz.ntmps109;go_wp2_with (first | (go_at_call 50;refine (jak _ _ _).mono ?_;rintro e w' ⟨rfl,rfl⟩) | (go_at_call 131;refine (jo4 _ _).mono ?_;rintro e w' ⟨rfl,rfl⟩));go_ret2;exact ⟨rfl,rfl⟩
theorem unary2_1 (x:Int) (w:World) (hx:chk 1 x=true):Calls Tryz.prog 109 #[.string ⟨#[65,98,115]⟩,.int .i64 1,.int .i64 x] w fun e w'=>e=.returned (.tuple #[.int .i64 (un 2 1 x).1,.int .i64 (un 2 1 x).2])∧w'=w:=by
 rw [un_1 2 x hx (by decide)];go_enter Tryz.func109,Tryz.ntmps109;go_wp2_with (first | (go_at_call 50;refine (jak _ _ _).mono ?_;rintro e w' ⟨rfl,rfl⟩) | (go_at_call 129;refine (ja0 _ _).mono ?_;rintro e w' ⟨rfl,rfl⟩) | (go_at_call 128;refine (abs_f _ _ (jdW _)).mono ?_;rintro e w' ⟨rfl,rfl⟩));go_ret2;exact ⟨rfl,rfl⟩
theorem unary2_6 (x:Int) (w:World) (hx:chk 6 x=true):Calls Tryz.prog 109 #[.string ⟨#[65,98,115]⟩,.int .i64 6,.int .i64 x] w fun e w'=>e=.returned (.tuple #[.int .i64 (un 2 6 x).1,.int .i64 (un 2 6 x).2])∧w'=w:=by
 rw [un_6 2 x hx (by decide)];go_enter Tryz.func109,Tryz.ntmps109;go_wp2_with (first | (go_at_call 50;refine (jak _ _ _).mono ?_;rintro e w' ⟨rfl,rfl⟩) | (go_at_call 130;refine (jmW _ _ _).mono ?_;rintro e w' ⟨rfl,rfl⟩));go_ret2;exact ⟨rfl,rfl⟩
theorem unary2_7 (x:Int) (w:World) (hx:chk 7 x=true):Calls Tryz.prog 109 #[.string ⟨#[65,98,115]⟩,.int .i64 7,.int .i64 x] w fun e w'=>e=.returned (.tuple #[.int .i64 (un 2 7 x).1,.int .i64 (un 2 7 x).2])∧w'=w:=by
 rw [un_7 2 x hx (by decide)];go_enter Tryz.func109,Tryz.ntmps109;go_wp2_with (first | (go_at_call 50;refine (jak _ _ _).mono ?_;rintro e w' ⟨rfl,rfl⟩) | (go_at_call 130;refine (jmW _ _ _).mono ?_;rintro e w' ⟨rfl,rfl⟩));go_ret2;exact ⟨rfl,rfl⟩
theorem unary2_9 (x:Int) (w:World) (hx:chk 9 x=true):Calls Tryz.prog 109 #[.string ⟨#[65,98,115]⟩,.int .i64 9,.int .i64 x] w fun e w'=>e=.returned (.tuple #[.int .i64 (un 2 9 x).1,.int .i64 (un 2 9 x).2])∧w'=w:=by
 rw [un_9 2 x hx (by decide)];go_enter Tryz.func109,Tryz.ntmps109;go_wp2_with (first | (go_at_call 50;refine (jak _ _ _).mono ?_;rintro e w' ⟨rfl,rfl⟩) | (go_at_call 131;refine (jo5 _ _).mono ?_;rintro e w' ⟨rfl,rfl⟩));go_ret2;exact ⟨rfl,rfl⟩
theorem unary3_1 (x:Int) (w:World) (hx:chk 1 x=true):Calls Tryz.prog 109 #[.string ⟨#[78,111,116]⟩,.int .i64 1,.int .i64 x] w fun e w'=>e=.returned (.tuple #[.int .i64 (un 3 1 x).1,.int .i64 (un 3 1 x).2])∧w'=w:=by
 rw [un_1 3 x hx (by decide)];go_enter Tryz.func109,Tryz.ntmps109;go_wp2_with (first | (go_at_call 50;refine (jak _ _ _).mono ?_;rintro e w' ⟨rfl,rfl⟩) | (go_at_call 129;refine (ja0 _ _).mono ?_;rintro e w' ⟨rfl,rfl⟩) | (go_at_call 128;refine (not_f _ _).mono ?_;rintro e w' ⟨rfl,rfl⟩));go_ret2;exact ⟨rfl,rfl⟩
theorem unary3_6 (x:Int) (w:World) (hx:chk 6 x=true):Calls Tryz.prog 109 #[.string ⟨#[78,111,116]⟩,.int .i64 6,.int .i64 x] w fun e w'=>e=.returned (.tuple #[.int .i64 (un 3 6 x).1,.int .i64 (un 3 6 x).2])∧w'=w:=by
 rw [un_6 3 x hx (by decide)];go_enter Tryz.func109,Tryz.ntmps109;go_wp2_with (first | (go_at_call 50;refine (jak _ _ _).mono ?_;rintro e w' ⟨rfl,rfl⟩) | (go_at_call 130;refine (jmX _ _ _).mono ?_;rintro e w' ⟨rfl,rfl⟩));go_ret2;exact ⟨rfl,rfl⟩
theorem unary3_7 (x:Int) (w:World) (hx:chk 7 x=true):Calls Tryz.prog 109 #[.string ⟨#[78,111,116]⟩,.int .i64 7,.int .i64 x] w fun e w'=>e=.returned (.tuple #[.int .i64 (un 3 7 x).1,.int .i64 (un 3 7 x).2])∧w'=w:=by
 rw [un_7 3 x hx (by decide)];go_enter Tryz.func109,Tryz.ntmps109;go_wp2_with (first | (go_at_call 50;refine (jak _ _ _).mono ?_;rintro e w' ⟨rfl,rfl⟩) | (go_at_call 130;refine (jmX _ _ _).mono ?_;rintro e w' ⟨rfl,rfl⟩));go_ret2;exact ⟨rfl,rfl⟩
theorem unary3_9 (x:Int) (w:World) (hx:chk 9 x=true):Calls Tryz.prog 109 #[.string ⟨#[78,111,116]⟩,.int .i64 9,.int .i64 x] w fun e w'=>e=.returned (.tuple #[.int .i64 (un 3 9 x).1,.int .i64 (un 3 9 x).2])∧w'=w:=by
 rw [un_9 3 x hx (by decide)];go_enter Tryz.func109,Tryz.ntmps109;go_wp2_with (first | (go_at_call 50;refine (jak _ _ _).mono ?_;rintro e w' ⟨rfl,rfl⟩) | (go_at_call 131;refine (jo3 _ _ (jq8 _ hx)).mono ?_;rintro e w' ⟨rfl,rfl⟩));go_ret2;exact ⟨rfl,rfl⟩
theorem unary4_1 (x:Int) (w:World) (hx:chk 1 x=true):Calls Tryz.prog 109 #[.string ⟨#[82,101,108,117]⟩,.int .i64 1,.int .i64 x] w fun e w'=>e=.returned (.tuple #[.int .i64 (un 4 1 x).1,.int .i64 (un 4 1 x).2])∧w'=w:=by
 rw [un_1 4 x hx (by decide)];go_enter Tryz.func109,Tryz.ntmps109;go_wp2_with (first | (go_at_call 50;refine (jak _ _ _).mono ?_;rintro e w' ⟨rfl,rfl⟩) | (go_at_call 129;refine (ja0 _ _).mono ?_;rintro e w' ⟨rfl,rfl⟩) | (go_at_call 128;refine (jr3 _ _ (jdW _)).mono ?_;rintro e w' ⟨rfl,rfl⟩));go_ret2;exact ⟨rfl,rfl⟩
theorem unary4_6 (x:Int) (w:World) (hx:chk 6 x=true):Calls Tryz.prog 109 #[.string ⟨#[82,101,108,117]⟩,.int .i64 6,.int .i64 x] w fun e w'=>e=.returned (.tuple #[.int .i64 (un 4 6 x).1,.int .i64 (un 4 6 x).2])∧w'=w:=by
 rw [un_6 4 x hx (by decide)];go_enter Tryz.func109,Tryz.ntmps109;go_wp2_with (first | (go_at_call 50;refine (jak _ _ _).mono ?_;rintro e w' ⟨rfl,rfl⟩) | (go_at_call 130;refine (jmY _ _ _).mono ?_;rintro e w' ⟨rfl,rfl⟩));go_ret2;exact ⟨rfl,rfl⟩
theorem unary4_7 (x:Int) (w:World) (hx:chk 7 x=true):Calls Tryz.prog 109 #[.string ⟨#[82,101,108,117]⟩,.int .i64 7,.int .i64 x] w fun e w'=>e=.returned (.tuple #[.int .i64 (un 4 7 x).1,.int .i64 (un 4 7 x).2])∧w'=w:=by
 rw [un_7 4 x hx (by decide)];go_enter Tryz.func109,Tryz.ntmps109;go_wp2_with (first | (go_at_call 50;refine (jak _ _ _).mono ?_;rintro e w' ⟨rfl,rfl⟩) | (go_at_call 130;refine (jmY _ _ _).mono ?_;rintro e w' ⟨rfl,rfl⟩));go_ret2;exact ⟨rfl,rfl⟩
theorem unary4_9 (x:Int) (w:World) (hx:chk 9 x=true):Calls Tryz.prog 109 #[.string ⟨#[82,101,108,117]⟩,.int .i64 9,.int .i64 x] w fun e w'=>e=.returned (.tuple #[.int .i64 (un 4 9 x).1,.int .i64 (un 4 9 x).2])∧w'=w:=by
 rw [un_9 4 x hx (by decide)];go_enter Tryz.func109,Tryz.ntmps109;go_wp2_with (first | (go_at_call 50;refine (jak _ _ _).mono ?_;rintro e w' ⟨rfl,rfl⟩) | (go_at_call 131;refine (jo6 _ _).mono ?_;rintro e w' ⟨rfl,rfl⟩));go_ret2;exact ⟨rfl,rfl⟩
theorem unary5_6 (x:Int) (w:World) (hx:chk 6 x=true):Calls Tryz.prog 109 #[.string ⟨#[83,113,114,116]⟩,.int .i64 6,.int .i64 x] w fun e w'=>e=.returned (.tuple #[.int .i64 (un 5 6 x).1,.int .i64 (un 5 6 x).2])∧w'=w:=by
 rw [un_6 5 x hx (by decide)];go_enter Tryz.func109,Tryz.ntmps109;go_wp2_with (first | (go_at_call 50;refine (jak _ _ _).mono ?_;rintro e w' ⟨rfl,rfl⟩) | (go_at_call 130;refine (jmZ _ _ _).mono ?_;rintro e w' ⟨rfl,rfl⟩));go_ret2;exact ⟨rfl,rfl⟩
theorem unary5_7 (x:Int) (w:World) (hx:chk 7 x=true):Calls Tryz.prog 109 #[.string ⟨#[83,113,114,116]⟩,.int .i64 7,.int .i64 x] w fun e w'=>e=.returned (.tuple #[.int .i64 (un 5 7 x).1,.int .i64 (un 5 7 x).2])∧w'=w:=by
 rw [un_7 5 x hx (by decide)];go_enter Tryz.func109,Tryz.ntmps109;go_wp2_with (first | (go_at_call 50;refine (jak _ _ _).mono ?_;rintro e w' ⟨rfl,rfl⟩) | (go_at_call 130;refine (jmZ _ _ _).mono ?_;rintro e w' ⟨rfl,rfl⟩));go_ret2;exact ⟨rfl,rfl⟩
theorem unary5_9 (x:Int) (w:World) (hx:chk 9 x=true):Calls Tryz.prog 109 #[.string ⟨#[83,113,114,116]⟩,.int .i64 9,.int .i64 x] w fun e w'=>e=.returned (.tuple #[.int .i64 (un 5 9 x).1,.int .i64 (un 5 9 x).2])∧w'=w:=by
 rw [un_9 5 x hx (by decide)];go_enter Tryz.func109,Tryz.ntmps109;go_wp2_with (first | (go_at_call 50;refine (jak _ _ _).mono ?_;rintro e w' ⟨rfl,rfl⟩) | (go_at_call 131;refine (jo7 _ _).mono ?_;rintro e w' ⟨rfl,rfl⟩));go_ret2;exact ⟨rfl,rfl⟩
theorem unary6_6 (x:Int) (w:World) (hx:chk 6 x=true):Calls Tryz.prog 109 #[.string ⟨#[70,108,111,111,114]⟩,.int .i64 6,.int .i64 x] w fun e w'=>e=.returned (.tuple #[.int .i64 (un 6 6 x).1,.int .i64 (un 6 6 x).2])∧w'=w:=by
 rw [un_6 6 x hx (by decide)];go_enter Tryz.func109,Tryz.ntmps109;go_wp2_with (first | (go_at_call 50;refine (jak _ _ _).mono ?_;rintro e w' ⟨rfl,rfl⟩) | (go_at_call 130;refine (jm0 _ _ _).mono ?_;rintro e w' ⟨rfl,rfl⟩));go_ret2;exact ⟨rfl,rfl⟩
theorem unary6_7 (x:Int) (w:World) (hx:chk 7 x=true):Calls Tryz.prog 109 #[.string ⟨#[70,108,111,111,114]⟩,.int .i64 7,.int .i64 x] w fun e w'=>e=.returned (.tuple #[.int .i64 (un 6 7 x).1,.int .i64 (un 6 7 x).2])∧w'=w:=by
 rw [un_7 6 x hx (by decide)];go_enter Tryz.func109,Tryz.ntmps109;go_wp2_with (first | (go_at_call 50;refine (jak _ _ _).mono ?_;rintro e w' ⟨rfl,rfl⟩) | (go_at_call 130;refine (jm0 _ _ _).mono ?_;rintro e w' ⟨rfl,rfl⟩));go_ret2;exact ⟨rfl,rfl⟩
theorem unary6_9 (x:Int) (w:World) (hx:chk 9 x=true):Calls Tryz.prog 109 #[.string ⟨#[70,108,111,111,114]⟩,.int .i64 9,.int .i64 x] w fun e w'=>e=.returned (.tuple #[.int .i64 (un 6 9 x).1,.int .i64 (un 6 9 x).2])∧w'=w:=by
 rw [un_9 6 x hx (by decide)];go_enter Tryz.func109,Tryz.ntmps109;go_wp2_with (first | (go_at_call 50;refine (jak _ _ _).mono ?_;rintro e w' ⟨rfl,rfl⟩) | (go_at_call 131;refine (jo8 _ _).mono ?_;rintro e w' ⟨rfl,rfl⟩));go_ret2;exact ⟨rfl,rfl⟩
theorem unary7_6 (x:Int) (w:World) (hx:chk 6 x=true):Calls Tryz.prog 109 #[.string ⟨#[69,120,112]⟩,.int .i64 6,.int .i64 x] w fun e w'=>e=.returned (.tuple #[.int .i64 (un 7 6 x).1,.int .i64 (un 7 6 x).2])∧w'=w:=by
 rw [un_6 7 x hx (by decide)];go_enter Tryz.func109,Tryz.ntmps109;go_wp2_with (first | (go_at_call 50;refine (jak _ _ _).mono ?_;rintro e w' ⟨rfl,rfl⟩) | (go_at_call 130;refine (jm1 _ _ _).mono ?_;rintro e w' ⟨rfl,rfl⟩));go_ret2;exact ⟨rfl,rfl⟩
theorem unary7_7 (x:Int) (w:World) (hx:chk 7 x=true):Calls Tryz.prog 109 #[.string ⟨#[69,120,112]⟩,.int .i64 7,.int .i64 x] w fun e w'=>e=.returned (.tuple #[.int .i64 (un 7 7 x).1,.int .i64 (un 7 7 x).2])∧w'=w:=by
 rw [un_7 7 x hx (by decide)];go_enter Tryz.func109,Tryz.ntmps109;go_wp2_with (first | (go_at_call 50;refine (jak _ _ _).mono ?_;rintro e w' ⟨rfl,rfl⟩) | (go_at_call 130;refine (jm1 _ _ _).mono ?_;rintro e w' ⟨rfl,rfl⟩));go_ret2;exact ⟨rfl,rfl⟩
theorem unary7_9 (x:Int) (w:World) (hx:chk 9 x=true):Calls Tryz.prog 109 #[.string ⟨#[69,120,112]⟩,.int .i64 9,.int .i64 x] w fun e w'=>e=.returned (.tuple #[.int .i64 (un 7 9 x).1,.int .i64 (un 7 9 x).2])∧w'=w:=by
 rw [un_9 7 x hx (by decide)];go_enter Tryz.func109,Tryz.ntmps109;go_wp2_with (first | (go_at_call 50;refine (jak _ _ _).mono ?_;rintro e w' ⟨rfl,rfl⟩) | (go_at_call 131;refine (jo9 _ _).mono ?_;rintro e w' ⟨rfl,rfl⟩));go_ret2;exact ⟨rfl,rfl⟩
theorem unary8_6 (x:Int) (w:World) (hx:chk 6 x=true):Calls Tryz.prog 109 #[.string ⟨#[83,105,103,109,111,105,100]⟩,.int .i64 6,.int .i64 x] w fun e w'=>e=.returned (.tuple #[.int .i64 (un 8 6 x).1,.int .i64 (un 8 6 x).2])∧w'=w:=by
 rw [un_6 8 x hx (by decide)];go_enter Tryz.func109,Tryz.ntmps109;go_wp2_with (first | (go_at_call 50;refine (jak _ _ _).mono ?_;rintro e w' ⟨rfl,rfl⟩) | (go_at_call 130;refine (jm2 _ _ _).mono ?_;rintro e w' ⟨rfl,rfl⟩));go_ret2;exact ⟨rfl,rfl⟩
theorem unary8_7 (x:Int) (w:World) (hx:chk 7 x=true):Calls Tryz.prog 109 #[.string ⟨#[83,105,103,109,111,105,100]⟩,.int .i64 7,.int .i64 x] w fun e w'=>e=.returned (.tuple #[.int .i64 (un 8 7 x).1,.int .i64 (un 8 7 x).2])∧w'=w:=by
 rw [un_7 8 x hx (by decide)];go_enter Tryz.func109,Tryz.ntmps109;go_wp2_with (first | (go_at_call 50;refine (jak _ _ _).mono ?_;rintro e w' ⟨rfl,rfl⟩) | (go_at_call 130;refine (jm2 _ _ _).mono ?_;rintro e w' ⟨rfl,rfl⟩));go_ret2;exact ⟨rfl,rfl⟩
theorem unary8_9 (x:Int) (w:World) (hx:chk 9 x=true):Calls Tryz.prog 109 #[.string ⟨#[83,105,103,109,111,105,100]⟩,.int .i64 9,.int .i64 x] w fun e w'=>e=.returned (.tuple #[.int .i64 (un 8 9 x).1,.int .i64 (un 8 9 x).2])∧w'=w:=by
 rw [un_9 8 x hx (by decide)];go_enter Tryz.func109,Tryz.ntmps109;go_wp2_with (first | (go_at_call 50;refine (jak _ _ _).mono ?_;rintro e w' ⟨rfl,rfl⟩) | (go_at_call 131;refine (jpa _ _).mono ?_;rintro e w' ⟨rfl,rfl⟩));go_ret2;exact ⟨rfl,rfl⟩
theorem unary9_6 (x:Int) (w:World) (hx:chk 6 x=true):Calls Tryz.prog 109 #[.string ⟨#[84,97,110,104]⟩,.int .i64 6,.int .i64 x] w fun e w'=>e=.returned (.tuple #[.int .i64 (un 9 6 x).1,.int .i64 (un 9 6 x).2])∧w'=w:=by
 rw [un_6 9 x hx (by decide)];go_enter Tryz.func109,Tryz.ntmps109;go_wp2_with (first | (go_at_call 50;refine (jak _ _ _).mono ?_;rintro e w' ⟨rfl,rfl⟩) | (go_at_call 130;refine (jm3 _ _ _).mono ?_;rintro e w' ⟨rfl,rfl⟩));go_ret2;exact ⟨rfl,rfl⟩
theorem unary9_7 (x:Int) (w:World) (hx:chk 7 x=true):Calls Tryz.prog 109 #[.string ⟨#[84,97,110,104]⟩,.int .i64 7,.int .i64 x] w fun e w'=>e=.returned (.tuple #[.int .i64 (un 9 7 x).1,.int .i64 (un 9 7 x).2])∧w'=w:=by
 rw [un_7 9 x hx (by decide)];go_enter Tryz.func109,Tryz.ntmps109;go_wp2_with (first | (go_at_call 50;refine (jak _ _ _).mono ?_;rintro e w' ⟨rfl,rfl⟩) | (go_at_call 130;refine (jm3 _ _ _).mono ?_;rintro e w' ⟨rfl,rfl⟩));go_ret2;exact ⟨rfl,rfl⟩
theorem unary9_9 (x:Int) (w:World) (hx:chk 9 x=true):Calls Tryz.prog 109 #[.string ⟨#[84,97,110,104]⟩,.int .i64 9,.int .i64 x] w fun e w'=>e=.returned (.tuple #[.int .i64 (un 9 9 x).1,.int .i64 (un 9 9 x).2])∧w'=w:=by
 rw [un_9 9 x hx (by decide)];go_enter Tryz.func109,Tryz.ntmps109;go_wp2_with (first | (go_at_call 50;refine (jak _ _ _).mono ?_;rintro e w' ⟨rfl,rfl⟩) | (go_at_call 131;refine (jpb _ _).mono ?_;rintro e w' ⟨rfl,rfl⟩));go_ret2;exact ⟨rfl,rfl⟩
end Go.Proofs.YtanpkdkenifmbaaGreatDoor.Nu
