/- A part. -/
import Derived.Test.YtanpkdkenifmbaaGreatDoorRows
import Derived.Test.YtanpkdkenifmbaaGreatDoorUartAR
set_option maxHeartbeats 400000
namespace Go.Proofs.YtanpkdkenifmbaaGreatDoor.Nu
open Go.RowKit
theorem jak (t x:Int) (w:World):Calls Tryz.prog 50 #[.int .i64 t,.int .i64 x] w fun e w'=>e=.returned (.bool (chk t x))∧w'=w:=by
 by_cases h1:t=1
 ·have c : chk t x = (decide (0 ≤ x) && (decide (x < 4294967296) && (x == 2143289344 || decide (x % 2147483648 ≤ 2139095040)))) := by
    rw [je6 t x h1,Bool.eq_iff_iff];simp
  have h1':(t==1)=true:=by simpa using h1
  clear h1
  by_cases hx0:0≤x
  ·by_cases hx1:x<4294967296
   ·have a:=jes x hx0 hx1
    by_cases hx2:x=2143289344
    ·have c':chk t x=true:=by rw [c];simp [hx2]
     rw [c'];clear c c';subst hx2;go_enter Tryz.func50,Tryz.ntmps50;go_wp2;go_ret;exact ⟨rfl,rfl⟩
    ·have c':chk t x=decide (x % 2147483648≤2139095040):=by rw [c];simp [hx0,hx1,hx2]
     rw [c'];clear c c';have hx2':(x==2143289344)=false:=by simpa using hx2
     clear hx2;go_enter Tryz.func50,Tryz.ntmps50;go_wp2;go_ret;exact ⟨rfl,rfl⟩
   ·have c':chk t x=false:=by rw [c];simp [hx1]
    rw [c'];clear c c';go_enter Tryz.func50,Tryz.ntmps50;go_wp2;go_ret;exact ⟨rfl,rfl⟩
  ·have c':chk t x=false:=by rw [c];simp [hx0]
   rw [c'];clear c c';go_enter Tryz.func50,Tryz.ntmps50;go_wp2;go_ret;exact ⟨rfl,rfl⟩
 ·have h1':(t==1)=false:=by simpa using h1
  by_cases h6:t=6
  ·have h6':(t==6)=true:=by simpa using h6
   have c:chk t x=(x==wrap64 (wrap32 x)):=by rw [chk6];simp [chk,h6]
   rw [c];clear c h1 h6;go_enter Tryz.func50,Tryz.ntmps50;go_wp2;go_ret;exact ⟨rfl,rfl⟩
  ·have h6':(t==6)=false:=by simpa using h6
   by_cases h7:t=7
   ·have h7':(t==7)=true:=by simpa using h7
    have c:chk t x=true:=by simp [chk,h7]
    rw [c];clear c h1 h6 h7;go_enter Tryz.func50,Tryz.ntmps50;go_wp2;go_ret;exact ⟨rfl,rfl⟩
   ·have h7':(t==7)=false:=by simpa using h7
    by_cases h9:t=9
    ·have h9':(t==9)=true:=by simpa using h9
     have c:chk t x=(x==0||x==1):=by rw [Bool.eq_iff_iff];simp [chk,h9]
     by_cases hx0:x=0
     ·have c':chk t x=true:=by rw [c];simp [hx0]
      rw [c'];clear c c' h1 h6 h7 h9;subst hx0;go_enter Tryz.func50,Tryz.ntmps50;go_wp2;go_ret;exact ⟨rfl,rfl⟩
     ·have hx0':(x==0)=false:=by simpa using hx0
      rw [c];clear c h1 h6 h7 h9 hx0;go_enter Tryz.func50,Tryz.ntmps50;go_wp2;go_ret;exact ⟨by simp [hx0'],rfl⟩
    ·have h9':(t==9)=false:=by simpa using h9
     have c:chk t x=false:=by simp [chk,h1,h6,h7,h9]
     rw [c];clear c h1 h6 h7 h9;go_enter Tryz.func50,Tryz.ntmps50;go_wp2;go_ret;exact ⟨rfl,rfl⟩
end Go.Proofs.YtanpkdkenifmbaaGreatDoor.Nu
namespace Go.Proofs.YtanpkdkenifmbaaGreatDoor.Nu
open Go.RowKit
theorem jc0 (n:Int) (w:World):(callFunc 147 #[.int .u32 n]).run Tryz.prog w=.ok (.value (.float .f32 n.toNat)) w:=by kernel_rfl
theorem jeb (b:Nat) (w:World):(callFunc 158 #[.float .f32 b]).run Tryz.prog w=.ok (.value (.int .u32 b)) w:=by kernel_rfl
attribute [local go_sem] jc0 jeb
theorem ja0 (x:Int) (w:World):Calls Tryz.prog 129 #[.int .i64 x] w fun e w'=>e=.returned (.float .f32 (fb x))∧w'=w:=by
 go_enter Tryz.func129,Tryz.ntmps129;go_wp2;go_ret;exact ⟨rfl,rfl⟩
theorem jbS (b:Nat) (w:World) (hb:b<4294967296):Calls Tryz.prog 139 #[.float .f32 b] w fun e w'=>e=.returned (.int .i64 (tob b))∧w'=w:=by
 by_cases h:(FloatKind.f32.format.order b b != some .eq)=true
 ·have c:tob b=2143289344:=by unfold tob;rw [if_pos h]
  rw [c];clear c;go_enter Tryz.func139,Tryz.ntmps139;go_wp2;go_ret;exact ⟨rfl,rfl⟩
 ·have c:tob b=b:=by unfold tob;rw [if_neg h]
  have h':(FloatKind.f32.format.order b b != some .eq)=false:=by simpa using h
  rw [c];clear c h;go_enter Tryz.func139,Tryz.ntmps139;go_wp2;go_ret;exact ⟨rfl,rfl⟩
theorem add_f (x y:Nat) (w:World):Calls Tryz.prog 132 #[.string ⟨#[65,100,100]⟩,.float .f32 x,.float .f32 y] w fun e w'=>e=.returned (.tuple #[.int .i64 (jqh (floatBits .add .f32 x y)),.int .i64 0])∧∃ n,w'=w.drewN n:=by
 cases h:floatBits .add .f32 x y with
 | some r =>
  have hr:r<4294967296:=Ieee.Format.add_lt _ h;have hrun:=fun w t=>run_float_arith (P:=Tryz.prog) w .add t .f32 x y r h;show Calls _ _ _ _ fun e w'=>e=.returned (.tuple #[.int .i64 (tob r),.int .i64 0])∧∃ n,w'=w.drewN n;clear h;go_enter Tryz.func132,Tryz.ntmps132;go_wp2_with (first | (go_at_call 139;refine (jbS _ _ hr).mono ?_;rintro e w' ⟨rfl,rfl⟩) | go_in);go_ret2;exact ⟨rfl,0,rfl⟩
 | none =>
  have hrun:=fun w t=>jb6 (P:=Tryz.prog) w .add t x y (by decide) h;show Calls _ _ _ _ fun e w'=>e=.returned (.tuple #[.int .i64 2143289344,.int .i64 0])∧∃ n,w'=w.drewN n;clear h;go_enter Tryz.func132,Tryz.ntmps132;go_wp2_with (first | (go_at_call 139;refine (jbS _ _ (jhN _ _ _)).mono ?_;rw [jgj];rintro e w' ⟨rfl,rfl⟩) | go_in);go_ret2;exact ⟨rfl,1,rfl⟩
theorem sub_f (x y:Nat) (w:World):Calls Tryz.prog 132 #[.string ⟨#[83,117,98]⟩,.float .f32 x,.float .f32 y] w fun e w'=>e=.returned (.tuple #[.int .i64 (jqh (floatBits .sub .f32 x y)),.int .i64 0])∧∃ n,w'=w.drewN n:=by
 cases h:floatBits .sub .f32 x y with
 | some r =>
  have hr:r<4294967296:=Ieee.Format.sub_lt _ h;have hrun:=fun w t=>run_float_arith (P:=Tryz.prog) w .sub t .f32 x y r h;show Calls _ _ _ _ fun e w'=>e=.returned (.tuple #[.int .i64 (tob r),.int .i64 0])∧∃ n,w'=w.drewN n;clear h;go_enter Tryz.func132,Tryz.ntmps132;go_wp2_with (first | (go_at_call 139;refine (jbS _ _ hr).mono ?_;rintro e w' ⟨rfl,rfl⟩) | go_in);go_ret2;exact ⟨rfl,0,rfl⟩
 | none =>
  have hrun:=fun w t=>jb6 (P:=Tryz.prog) w .sub t x y (by decide) h;show Calls _ _ _ _ fun e w'=>e=.returned (.tuple #[.int .i64 2143289344,.int .i64 0])∧∃ n,w'=w.drewN n;clear h;go_enter Tryz.func132,Tryz.ntmps132;go_wp2_with (first | (go_at_call 139;refine (jbS _ _ (jhN _ _ _)).mono ?_;rw [jgj];rintro e w' ⟨rfl,rfl⟩) | go_in);go_ret2;exact ⟨rfl,1,rfl⟩
theorem mul_f (x y:Nat) (w:World):Calls Tryz.prog 132 #[.string ⟨#[77,117,108]⟩,.float .f32 x,.float .f32 y] w fun e w'=>e=.returned (.tuple #[.int .i64 (jqh (floatBits .mul .f32 x y)),.int .i64 0])∧∃ n,w'=w.drewN n:=by
 cases h:floatBits .mul .f32 x y with
 | some r =>
  have hr:r<4294967296:=Ieee.Format.mul_lt _ h;have hrun:=fun w t=>run_float_arith (P:=Tryz.prog) w .mul t .f32 x y r h;show Calls _ _ _ _ fun e w'=>e=.returned (.tuple #[.int .i64 (tob r),.int .i64 0])∧∃ n,w'=w.drewN n;clear h;go_enter Tryz.func132,Tryz.ntmps132;go_wp2_with (first | (go_at_call 139;refine (jbS _ _ hr).mono ?_;rintro e w' ⟨rfl,rfl⟩) | go_in);go_ret2;exact ⟨rfl,0,rfl⟩
 | none =>
  have hrun:=fun w t=>jb6 (P:=Tryz.prog) w .mul t x y (by decide) h;show Calls _ _ _ _ fun e w'=>e=.returned (.tuple #[.int .i64 2143289344,.int .i64 0])∧∃ n,w'=w.drewN n;clear h;go_enter Tryz.func132,Tryz.ntmps132;go_wp2_with (first | (go_at_call 139;refine (jbS _ _ (jhN _ _ _)).mono ?_;rw [jgj];rintro e w' ⟨rfl,rfl⟩) | go_in);go_ret2;exact ⟨rfl,1,rfl⟩
theorem div_f (x y:Nat) (w:World):Calls Tryz.prog 132 #[.string ⟨#[68,105,118]⟩,.float .f32 x,.float .f32 y] w fun e w'=>e=.returned (.tuple #[.int .i64 (jqh (floatBits .quo .f32 x y)),.int .i64 0])∧∃ n,w'=w.drewN n:=by
 cases h:floatBits .quo .f32 x y with
 | some r =>
  have hr:r<4294967296:=Ieee.Format.div_lt _ h;have hrun:=fun w t=>run_float_arith (P:=Tryz.prog) w .quo t .f32 x y r h;show Calls _ _ _ _ fun e w'=>e=.returned (.tuple #[.int .i64 (tob r),.int .i64 0])∧∃ n,w'=w.drewN n;clear h;go_enter Tryz.func132,Tryz.ntmps132;go_wp2_with (first | (go_at_call 139;refine (jbS _ _ hr).mono ?_;rintro e w' ⟨rfl,rfl⟩) | go_in);go_ret2;exact ⟨rfl,0,rfl⟩
 | none =>
  have hrun:=fun w t=>jb6 (P:=Tryz.prog) w .quo t x y (by decide) h;show Calls _ _ _ _ fun e w'=>e=.returned (.tuple #[.int .i64 2143289344,.int .i64 0])∧∃ n,w'=w.drewN n;clear h;go_enter Tryz.func132,Tryz.ntmps132;go_wp2_with (first | (go_at_call 139;refine (jbS _ _ (jhN _ _ _)).mono ?_;rw [jgj];rintro e w' ⟨rfl,rfl⟩) | go_in);go_ret2;exact ⟨rfl,1,rfl⟩
end Go.Proofs.YtanpkdkenifmbaaGreatDoor.Nu
namespace Go.Proofs.YtanpkdkenifmbaaGreatDoor.Nu
open Go.RowKit
theorem jg7 (x y r:Nat) (w:World) (hr:r<4294967296) (hrun:∀ (w:World) (ts:Array TypeId) (t:TypeId),(Builtin.max_ ts t #[.float .f32 x,.float .f32 y]).run Tryz.prog w=.ok (.float .f32 r) w) :
    Calls Tryz.prog 132 #[.string ⟨#[77,97,120]⟩,.float .f32 x,.float .f32 y] w fun e w'=>e=.returned (.tuple #[.int .i64 (tob r),.int .i64 0])∧∃ n,w'=w.drewN n:=by
     go_enter Tryz.func132,Tryz.ntmps132;go_wp2_with (first | (go_at_call 139;refine (jbS _ _ hr).mono ?_;rintro e w' ⟨rfl,rfl⟩) | go_in);go_ret2;exact ⟨rfl,0,rfl⟩
theorem joY (x y:Nat) (w:World) (h:ord x y=none) :
    Calls Tryz.prog 132 #[.string ⟨#[77,97,120]⟩,.float .f32 x,.float .f32 y] w fun e w'=>e=.returned (.tuple #[.int .i64 2143289344,.int .i64 0])∧∃ n,w'=w.drewN n:=by
     have hrun:=fun w ts t=>jg0 (P:=Tryz.prog) w ts t x y h;clear h;go_enter Tryz.func132,Tryz.ntmps132;go_wp2_with (first | (go_at_call 139;refine (jbS _ _ (jhN _ _ _)).mono ?_;rw [jgj];rintro e w' ⟨rfl,rfl⟩) | go_in);go_ret2;exact ⟨rfl,1,rfl⟩
theorem max_f (x y:Nat) (w:World) (hx:x<4294967296) (hy:y<4294967296) :
    Calls Tryz.prog 132 #[.string ⟨#[77,97,120]⟩,.float .f32 x,.float .f32 y] w fun e w'=>e=.returned (.tuple #[.int .i64 (jlv x y),.int .i64 0])∧∃ n,w'=w.drewN n:=by
     cases h:ord x y with
     | none => have e : jlv x y = 2143289344 := by simp [jlv, h]
               rw [e];exact joY x y w h
     | some c =>
      cases c with
      | lt => have e : jlv x y = tob y := by simp [jlv, h]
              rw [e];exact jg7 x y y w hy (fun w ts t=>jiQ w ts t x y h)
      | gt => have e : jlv x y = tob x := by simp [jlv, h]
              rw [e];exact jg7 x y x w hx (fun w ts t=>jiS w ts t x y h)
      | eq =>
       cases hn:(FloatKind.f32.decode x).neg with
       | true => have e : jlv x y = tob y := by simp [jlv, h, hn]
                 rw [e];exact jg7 x y y w hy (fun w ts t=>by rw [jfh w ts t x y h,hn];rfl)
       | false => have e : jlv x y = tob x := by simp [jlv, h, hn]
                  rw [e];exact jg7 x y x w hx (fun w ts t=>by rw [jfh w ts t x y h,hn];rfl)
theorem jg8 (x y r:Nat) (w:World) (hr:r<4294967296) (hrun:∀ (w:World) (ts:Array TypeId) (t:TypeId),(Builtin.min_ ts t #[.float .f32 x,.float .f32 y]).run Tryz.prog w=.ok (.float .f32 r) w) :
    Calls Tryz.prog 132 #[.string ⟨#[77,105,110]⟩,.float .f32 x,.float .f32 y] w fun e w'=>e=.returned (.tuple #[.int .i64 (tob r),.int .i64 0])∧∃ n,w'=w.drewN n:=by
     go_enter Tryz.func132,Tryz.ntmps132;go_wp2_with (first | (go_at_call 139;refine (jbS _ _ hr).mono ?_;rintro e w' ⟨rfl,rfl⟩) | go_in);go_ret2;exact ⟨rfl,0,rfl⟩
theorem joZ (x y:Nat) (w:World) (h:ord x y=none) :
    Calls Tryz.prog 132 #[.string ⟨#[77,105,110]⟩,.float .f32 x,.float .f32 y] w fun e w'=>e=.returned (.tuple #[.int .i64 2143289344,.int .i64 0])∧∃ n,w'=w.drewN n:=by
     have hrun:=fun w ts t=>jg1 (P:=Tryz.prog) w ts t x y h;clear h;go_enter Tryz.func132,Tryz.ntmps132;go_wp2_with (first | (go_at_call 139;refine (jbS _ _ (jhN _ _ _)).mono ?_;rw [jgj];rintro e w' ⟨rfl,rfl⟩) | go_in);go_ret2;exact ⟨rfl,1,rfl⟩
theorem min_f (x y:Nat) (w:World) (hx:x<4294967296) (hy:y<4294967296) :
    Calls Tryz.prog 132 #[.string ⟨#[77,105,110]⟩,.float .f32 x,.float .f32 y] w fun e w'=>e=.returned (.tuple #[.int .i64 (jlw x y),.int .i64 0])∧∃ n,w'=w.drewN n:=by
     cases h:ord x y with
     | none => have e : jlw x y = 2143289344 := by simp [jlw, h]
               rw [e];exact joZ x y w h
     | some c =>
      cases c with
      | lt => have e : jlw x y = tob x := by simp [jlw, h]
              rw [e];exact jg8 x y x w hx (fun w ts t=>jiR w ts t x y h)
      | gt => have e : jlw x y = tob y := by simp [jlw, h]
              rw [e];exact jg8 x y y w hy (fun w ts t=>jiT w ts t x y h)
      | eq =>
       cases hn:(FloatKind.f32.decode x).neg with
       | true => have e : jlw x y = tob x := by simp [jlw, h, hn]
                 rw [e];exact jg8 x y x w hx (fun w ts t=>by rw [jfi w ts t x y h,hn];rfl)
       | false => have e : jlw x y = tob y := by simp [jlw, h, hn]
                  rw [e];exact jg8 x y y w hy (fun w ts t=>by rw [jfi w ts t x y h,hn];rfl)
theorem jr2 (x y:Nat) (w:World) :
    Calls Tryz.prog 132 #[.string ⟨#[69,113,117,97,108]⟩,.float .f32 x,.float .f32 y] w fun e w'=>e=.returned (.tuple #[.int .i64 (b2i (ord x y==some .eq)),.int .i64 0])∧∃ n,w'=w.drewN n:=by
     cases h:(ord x y==some .eq) with
     | true =>
      have h':(FloatKind.f32.format.order x y==some .eq)=true:=h;show Calls _ _ _ _ fun e w'=>e=.returned (.tuple #[.int .i64 1,.int .i64 0])∧∃ n,w'=w.drewN n;clear h;go_enter Tryz.func132,Tryz.ntmps132;go_wp2;go_ret2;exact ⟨rfl,0,rfl⟩
     | false =>
      have h':(FloatKind.f32.format.order x y==some .eq)=false:=h;show Calls _ _ _ _ fun e w'=>e=.returned (.tuple #[.int .i64 0,.int .i64 0])∧∃ n,w'=w.drewN n;clear h;go_enter Tryz.func132,Tryz.ntmps132;go_wp2;go_ret2;exact ⟨rfl,0,rfl⟩
theorem jqW (x y:Nat) (w:World) :
    Calls Tryz.prog 132 #[.string ⟨#[76,101,115,115]⟩,.float .f32 x,.float .f32 y] w fun e w'=>e=.returned (.tuple #[.int .i64 (b2i (ord x y==some .lt)),.int .i64 0])∧∃ n,w'=w.drewN n:=by
     cases h:(ord x y==some .lt) with
     | true =>
      have h':(FloatKind.f32.format.order x y==some .lt)=true:=h;show Calls _ _ _ _ fun e w'=>e=.returned (.tuple #[.int .i64 1,.int .i64 0])∧∃ n,w'=w.drewN n;clear h;go_enter Tryz.func132,Tryz.ntmps132;go_wp2;go_ret2;exact ⟨rfl,0,rfl⟩
     | false =>
      have h':(FloatKind.f32.format.order x y==some .lt)=false:=h;show Calls _ _ _ _ fun e w'=>e=.returned (.tuple #[.int .i64 0,.int .i64 0])∧∃ n,w'=w.drewN n;clear h;go_enter Tryz.func132,Tryz.ntmps132;go_wp2;go_ret2;exact ⟨rfl,0,rfl⟩
theorem jqX (x y:Nat) (w:World) :
    Calls Tryz.prog 132 #[.string ⟨#[71,114,101,97,116,101,114]⟩,.float .f32 x,.float .f32 y] w fun e w'=>e=.returned (.tuple #[.int .i64 (b2i (ord x y==some .gt)),.int .i64 0])∧∃ n,w'=w.drewN n:=by
     cases h:(ord x y==some .gt) with
     | true =>
      have h':(FloatKind.f32.format.order x y==some .gt)=true:=h;show Calls _ _ _ _ fun e w'=>e=.returned (.tuple #[.int .i64 1,.int .i64 0])∧∃ n,w'=w.drewN n;clear h;go_enter Tryz.func132,Tryz.ntmps132;go_wp2;go_ret2;exact ⟨rfl,0,rfl⟩
     | false =>
      have h':(FloatKind.f32.format.order x y==some .gt)=false:=h;show Calls _ _ _ _ fun e w'=>e=.returned (.tuple #[.int .i64 0,.int .i64 0])∧∃ n,w'=w.drewN n;clear h;go_enter Tryz.func132,Tryz.ntmps132;go_wp2;go_ret2;exact ⟨rfl,0,rfl⟩
theorem no6_f (x y:Nat) (w:World) :
    Calls Tryz.prog 132 #[.string ⟨#[65,110,100]⟩,.float .f32 x,.float .f32 y] w fun e w'=>e=.returned (.tuple #[.int .i64 0,.int .i64 1])∧∃ n,w'=w.drewN n:=by
     go_enter Tryz.func132,Tryz.ntmps132;go_wp2;go_ret2;exact ⟨rfl,0,rfl⟩
theorem no7_f (x y:Nat) (w:World) :
    Calls Tryz.prog 132 #[.string ⟨#[79,114]⟩,.float .f32 x,.float .f32 y] w fun e w'=>e=.returned (.tuple #[.int .i64 0,.int .i64 1])∧∃ n,w'=w.drewN n:=by
     go_enter Tryz.func132,Tryz.ntmps132;go_wp2;go_ret2;exact ⟨rfl,0,rfl⟩
theorem no8_f (x y:Nat) (w:World) :
    Calls Tryz.prog 132 #[.string ⟨#[88,111,114]⟩,.float .f32 x,.float .f32 y] w fun e w'=>e=.returned (.tuple #[.int .i64 0,.int .i64 1])∧∃ n,w'=w.drewN n:=by
     go_enter Tryz.func132,Tryz.ntmps132;go_wp2;go_ret2;exact ⟨rfl,0,rfl⟩
end Go.Proofs.YtanpkdkenifmbaaGreatDoor.Nu
namespace Go.Proofs.YtanpkdkenifmbaaGreatDoor.Nu
open Go.RowKit
theorem jdN (t n:Int) (h:(t==6)=true):jcy t n=wrap64 (wrap32 n):=by simp at h;simp [jcy,h]
theorem jdO (t n:Int) (h:(t==6)=false):jcy t n=n:=by simp at h;simp [jcy,h]
theorem jqi (t x y:Int) (w:World):Calls Tryz.prog 133 #[.string ⟨#[65,100,100]⟩,.int .i64 t,.int .i64 x,.int .i64 y] w fun e w'=>e=.returned (.tuple #[.int .i64 (jcy t (wrap64 (x+y))),.int .i64 0])∧w'=w:=by
 cases h:(t==6) with
 | true =>
  rw [jdN t _ h];go_enter Tryz.func133,Tryz.ntmps133;go_wp2;go_ret2;exact ⟨rfl,rfl⟩
 | false =>
  rw [jdO t _ h];go_enter Tryz.func133,Tryz.ntmps133;go_wp2;go_ret2;exact ⟨rfl,rfl⟩
theorem jqj (t x y:Int) (w:World):Calls Tryz.prog 133 #[.string ⟨#[83,117,98]⟩,.int .i64 t,.int .i64 x,.int .i64 y] w fun e w'=>e=.returned (.tuple #[.int .i64 (jcy t (wrap64 (x - y))),.int .i64 0])∧w'=w:=by
 cases h:(t==6) with
 | true =>
  rw [jdN t _ h];go_enter Tryz.func133,Tryz.ntmps133;go_wp2;go_ret2;exact ⟨rfl,rfl⟩
 | false =>
  rw [jdO t _ h];go_enter Tryz.func133,Tryz.ntmps133;go_wp2;go_ret2;exact ⟨rfl,rfl⟩
theorem jqk (t x y:Int) (w:World):Calls Tryz.prog 133 #[.string ⟨#[77,117,108]⟩,.int .i64 t,.int .i64 x,.int .i64 y] w fun e w'=>e=.returned (.tuple #[.int .i64 (jcy t (wrap64 (x*y))),.int .i64 0])∧w'=w:=by
 cases h:(t==6) with
 | true =>
  rw [jdN t _ h];go_enter Tryz.func133,Tryz.ntmps133;go_wp2;go_ret2;exact ⟨rfl,rfl⟩
 | false =>
  rw [jdO t _ h];go_enter Tryz.func133,Tryz.ntmps133;go_wp2;go_ret2;exact ⟨rfl,rfl⟩
theorem jme (t x y:Int) (w:World) (hy:(y==0)=true):Calls Tryz.prog 133 #[.string ⟨#[68,105,118]⟩,.int .i64 t,.int .i64 x,.int .i64 y] w fun e w'=>e=.returned (.tuple #[.int .i64 0,.int .i64 7])∧w'=w:=by
 go_enter Tryz.func133,Tryz.ntmps133;go_wp2;go_ret2;exact ⟨rfl,rfl⟩
theorem jjM (t x y:Int) (w:World) (hy:(y==0)=false):Calls Tryz.prog 133 #[.string ⟨#[68,105,118]⟩,.int .i64 t,.int .i64 x,.int .i64 y] w fun e w'=>e=.returned (.tuple #[.int .i64 (jcy t (wrap64 (x.tdiv y))),.int .i64 0])∧w'=w:=by
 have hy':¬ y=0:=by simpa using hy
 cases h:(t==6) with
 | true =>
  rw [jdN t _ h];go_enter Tryz.func133,Tryz.ntmps133;go_wp2;go_ret2;exact ⟨rfl,rfl⟩
 | false =>
  rw [jdO t _ h];go_enter Tryz.func133,Tryz.ntmps133;go_wp2;go_ret2;exact ⟨rfl,rfl⟩
theorem jql (t x y:Int) (w:World):Calls Tryz.prog 133 #[.string ⟨#[77,97,120]⟩,.int .i64 t,.int .i64 x,.int .i64 y] w fun e w'=>e=.returned (.tuple #[.int .i64 (jcy t (maxI x y)),.int .i64 0])∧w'=w:=by
 by_cases hm:x<y
 ·rw [show maxI x y=y from if_pos hm]
  cases h:(t==6) with
  | true =>
   rw [jdN t _ h];go_enter Tryz.func133,Tryz.ntmps133;go_wp2;go_ret2;exact ⟨rfl,rfl⟩
  | false =>
   rw [jdO t _ h];go_enter Tryz.func133,Tryz.ntmps133;go_wp2;go_ret2;exact ⟨rfl,rfl⟩
 ·rw [show maxI x y=x from if_neg hm]
  cases h:(t==6) with
  | true =>
   rw [jdN t _ h];go_enter Tryz.func133,Tryz.ntmps133;go_wp2;go_ret2;exact ⟨rfl,rfl⟩
  | false =>
   rw [jdO t _ h];go_enter Tryz.func133,Tryz.ntmps133;go_wp2;go_ret2;exact ⟨rfl,rfl⟩
theorem jqm (t x y:Int) (w:World):Calls Tryz.prog 133 #[.string ⟨#[77,105,110]⟩,.int .i64 t,.int .i64 x,.int .i64 y] w fun e w'=>e=.returned (.tuple #[.int .i64 (jcy t (minI x y)),.int .i64 0])∧w'=w:=by
 by_cases hm:y<x
 ·rw [show minI x y=y from if_pos hm]
  cases h:(t==6) with
  | true =>
   rw [jdN t _ h];go_enter Tryz.func133,Tryz.ntmps133;go_wp2;go_ret2;exact ⟨rfl,rfl⟩
  | false =>
   rw [jdO t _ h];go_enter Tryz.func133,Tryz.ntmps133;go_wp2;go_ret2;exact ⟨rfl,rfl⟩
 ·rw [show minI x y=x from if_neg hm]
  cases h:(t==6) with
  | true =>
   rw [jdN t _ h];go_enter Tryz.func133,Tryz.ntmps133;go_wp2;go_ret2;exact ⟨rfl,rfl⟩
  | false =>
   rw [jdO t _ h];go_enter Tryz.func133,Tryz.ntmps133;go_wp2;go_ret2;exact ⟨rfl,rfl⟩
theorem jqn (t x y:Int) (w:World):Calls Tryz.prog 133 #[.string ⟨#[69,113,117,97,108]⟩,.int .i64 t,.int .i64 x,.int .i64 y] w fun e w'=>e=.returned (.tuple #[.int .i64 (b2i (x==y)),.int .i64 0])∧w'=w:=by
 cases h:(x==y) with
 | true =>
  show Calls _ _ _ _ fun e w'=>e=.returned (.tuple #[.int .i64 1,.int .i64 0])∧w'=w;go_enter Tryz.func133,Tryz.ntmps133;go_wp2;go_ret2;exact ⟨rfl,rfl⟩
 | false =>
  show Calls _ _ _ _ fun e w'=>e=.returned (.tuple #[.int .i64 0,.int .i64 0])∧w'=w;go_enter Tryz.func133,Tryz.ntmps133;go_wp2;go_ret2;exact ⟨rfl,rfl⟩
theorem jmf (t x y:Int) (w:World):Calls Tryz.prog 133 #[.string ⟨#[76,101,115,115]⟩,.int .i64 t,.int .i64 x,.int .i64 y] w fun e w'=>e=.returned (.tuple #[.int .i64 (b2i (decide (x<y))),.int .i64 0])∧w'=w:=by
 cases h:(decide (x<y)) with
 | true =>
  show Calls _ _ _ _ fun e w'=>e=.returned (.tuple #[.int .i64 1,.int .i64 0])∧w'=w;go_enter Tryz.func133,Tryz.ntmps133;go_wp2;go_ret2;exact ⟨rfl,rfl⟩
 | false =>
  show Calls _ _ _ _ fun e w'=>e=.returned (.tuple #[.int .i64 0,.int .i64 0])∧w'=w;go_enter Tryz.func133,Tryz.ntmps133;go_wp2;go_ret2;exact ⟨rfl,rfl⟩
theorem jmg (t x y:Int) (w:World):Calls Tryz.prog 133 #[.string ⟨#[71,114,101,97,116,101,114]⟩,.int .i64 t,.int .i64 x,.int .i64 y] w fun e w'=>e=.returned (.tuple #[.int .i64 (b2i (decide (y<x))),.int .i64 0])∧w'=w:=by
 cases h:(decide (y<x)) with
 | true =>
  show Calls _ _ _ _ fun e w'=>e=.returned (.tuple #[.int .i64 1,.int .i64 0])∧w'=w;go_enter Tryz.func133,Tryz.ntmps133;go_wp2;go_ret2;exact ⟨rfl,rfl⟩
 | false =>
  show Calls _ _ _ _ fun e w'=>e=.returned (.tuple #[.int .i64 0,.int .i64 0])∧w'=w;go_enter Tryz.func133,Tryz.ntmps133;go_wp2;go_ret2;exact ⟨rfl,rfl⟩
theorem jqo (t x y:Int) (w:World):Calls Tryz.prog 133 #[.string ⟨#[65,110,100]⟩,.int .i64 t,.int .i64 x,.int .i64 y] w fun e w'=>e=.returned (.tuple #[.int .i64 0,.int .i64 1])∧w'=w:=by
 go_enter Tryz.func133,Tryz.ntmps133;go_wp2;go_ret2;exact ⟨rfl,rfl⟩
theorem jqp (t x y:Int) (w:World):Calls Tryz.prog 133 #[.string ⟨#[79,114]⟩,.int .i64 t,.int .i64 x,.int .i64 y] w fun e w'=>e=.returned (.tuple #[.int .i64 0,.int .i64 1])∧w'=w:=by
 go_enter Tryz.func133,Tryz.ntmps133;go_wp2;go_ret2;exact ⟨rfl,rfl⟩
theorem jqq (t x y:Int) (w:World):Calls Tryz.prog 133 #[.string ⟨#[88,111,114]⟩,.int .i64 t,.int .i64 x,.int .i64 y] w fun e w'=>e=.returned (.tuple #[.int .i64 0,.int .i64 1])∧w'=w:=by
 go_enter Tryz.func133,Tryz.ntmps133;go_wp2;go_ret2;exact ⟨rfl,rfl⟩
theorem jqY (x y:Int) (w:World) (hx:x=0∨x=1) (hy:y=0∨y=1):Calls Tryz.prog 134 #[.string ⟨#[65,110,100]⟩,.int .i64 x,.int .i64 y] w fun e w'=>e=.returned (.tuple #[.int .i64 (jdl 6 x y).1,.int .i64 0])∧w'=w:=by
 have f00:bits .and .i64 0 0=(jdl 6 0 0).1:=by decide
 have f01:bits .and .i64 0 1=(jdl 6 0 1).1:=by decide
 have f10:bits .and .i64 1 0=(jdl 6 1 0).1:=by decide
 have f11:bits .and .i64 1 1=(jdl 6 1 1).1:=by decide
 rcases hx with rfl | rfl <;> rcases hy with rfl | rfl
 all_goals
  go_enter Tryz.func134,Tryz.ntmps134;go_wp2;go_ret2;exact ⟨rfl,rfl⟩
theorem jqZ (x y:Int) (w:World) (hx:x=0∨x=1) (hy:y=0∨y=1):Calls Tryz.prog 134 #[.string ⟨#[79,114]⟩,.int .i64 x,.int .i64 y] w fun e w'=>e=.returned (.tuple #[.int .i64 (jdl 7 x y).1,.int .i64 0])∧w'=w:=by
 have f00:bits .or .i64 0 0=(jdl 7 0 0).1:=by decide
 have f01:bits .or .i64 0 1=(jdl 7 0 1).1:=by decide
 have f10:bits .or .i64 1 0=(jdl 7 1 0).1:=by decide
 have f11:bits .or .i64 1 1=(jdl 7 1 1).1:=by decide
 rcases hx with rfl | rfl <;> rcases hy with rfl | rfl
 all_goals
  go_enter Tryz.func134,Tryz.ntmps134;go_wp2;go_ret2;exact ⟨rfl,rfl⟩
theorem jq0 (x y:Int) (w:World) (hx:x=0∨x=1) (hy:y=0∨y=1):Calls Tryz.prog 134 #[.string ⟨#[88,111,114]⟩,.int .i64 x,.int .i64 y] w fun e w'=>e=.returned (.tuple #[.int .i64 (jdl 8 x y).1,.int .i64 0])∧w'=w:=by
 have f00:bits .xor .i64 0 0=(jdl 8 0 0).1:=by decide
 have f01:bits .xor .i64 0 1=(jdl 8 0 1).1:=by decide
 have f10:bits .xor .i64 1 0=(jdl 8 1 0).1:=by decide
 have f11:bits .xor .i64 1 1=(jdl 8 1 1).1:=by decide
 rcases hx with rfl | rfl <;> rcases hy with rfl | rfl
 all_goals
  go_enter Tryz.func134,Tryz.ntmps134;go_wp2;go_ret2;exact ⟨rfl,rfl⟩
theorem jq1 (x y:Int) (w:World):Calls Tryz.prog 134 #[.string ⟨#[69,113,117,97,108]⟩,.int .i64 x,.int .i64 y] w fun e w'=>e=.returned (.tuple #[.int .i64 (b2i (x==y)),.int .i64 0])∧w'=w:=by
 cases h:(x==y) with
 | true =>
  show Calls _ _ _ _ fun e w'=>e=.returned (.tuple #[.int .i64 1,.int .i64 0])∧w'=w;go_enter Tryz.func134,Tryz.ntmps134;go_wp2;go_ret2;exact ⟨rfl,rfl⟩
 | false =>
  show Calls _ _ _ _ fun e w'=>e=.returned (.tuple #[.int .i64 0,.int .i64 0])∧w'=w;go_enter Tryz.func134,Tryz.ntmps134;go_wp2;go_ret2;exact ⟨rfl,rfl⟩
theorem jq2 (x y:Int) (w:World):Calls Tryz.prog 134 #[.string ⟨#[65,100,100]⟩,.int .i64 x,.int .i64 y] w fun e w'=>e=.returned (.tuple #[.int .i64 0,.int .i64 1])∧w'=w:=by
 go_enter Tryz.func134,Tryz.ntmps134;go_wp2;go_ret2;exact ⟨rfl,rfl⟩
theorem jq3 (x y:Int) (w:World):Calls Tryz.prog 134 #[.string ⟨#[83,117,98]⟩,.int .i64 x,.int .i64 y] w fun e w'=>e=.returned (.tuple #[.int .i64 0,.int .i64 1])∧w'=w:=by
 go_enter Tryz.func134,Tryz.ntmps134;go_wp2;go_ret2;exact ⟨rfl,rfl⟩
theorem jq4 (x y:Int) (w:World):Calls Tryz.prog 134 #[.string ⟨#[77,117,108]⟩,.int .i64 x,.int .i64 y] w fun e w'=>e=.returned (.tuple #[.int .i64 0,.int .i64 1])∧w'=w:=by
 go_enter Tryz.func134,Tryz.ntmps134;go_wp2;go_ret2;exact ⟨rfl,rfl⟩
theorem jq5 (x y:Int) (w:World):Calls Tryz.prog 134 #[.string ⟨#[68,105,118]⟩,.int .i64 x,.int .i64 y] w fun e w'=>e=.returned (.tuple #[.int .i64 0,.int .i64 1])∧w'=w:=by
 go_enter Tryz.func134,Tryz.ntmps134;go_wp2;go_ret2;exact ⟨rfl,rfl⟩
theorem jq6 (x y:Int) (w:World):Calls Tryz.prog 134 #[.string ⟨#[77,97,120]⟩,.int .i64 x,.int .i64 y] w fun e w'=>e=.returned (.tuple #[.int .i64 0,.int .i64 1])∧w'=w:=by
 go_enter Tryz.func134,Tryz.ntmps134;go_wp2;go_ret2;exact ⟨rfl,rfl⟩
theorem jq7 (x y:Int) (w:World):Calls Tryz.prog 134 #[.string ⟨#[77,105,110]⟩,.int .i64 x,.int .i64 y] w fun e w'=>e=.returned (.tuple #[.int .i64 0,.int .i64 1])∧w'=w:=by
 go_enter Tryz.func134,Tryz.ntmps134;go_wp2;go_ret2;exact ⟨rfl,rfl⟩
theorem jo0 (x y:Int) (w:World):Calls Tryz.prog 134 #[.string ⟨#[76,101,115,115]⟩,.int .i64 x,.int .i64 y] w fun e w'=>e=.returned (.tuple #[.int .i64 0,.int .i64 1])∧w'=w:=by
 go_enter Tryz.func134,Tryz.ntmps134;go_wp2;go_ret2;exact ⟨rfl,rfl⟩
theorem jo1 (x y:Int) (w:World):Calls Tryz.prog 134 #[.string ⟨#[71,114,101,97,116,101,114]⟩,.int .i64 x,.int .i64 y] w fun e w'=>e=.returned (.tuple #[.int .i64 0,.int .i64 1])∧w'=w:=by
 go_enter Tryz.func134,Tryz.ntmps134;go_wp2;go_ret2;exact ⟨rfl,rfl⟩
end Go.Proofs.YtanpkdkenifmbaaGreatDoor.Nu
