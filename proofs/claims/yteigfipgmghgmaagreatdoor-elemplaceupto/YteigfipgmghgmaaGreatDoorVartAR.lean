/- A part. -/
import Derived.Test.YteigfipgmghgmaaGreatDoorRows
import Derived.Test.YteigfipgmghgmaaGreatDoorVartAQ
set_option maxHeartbeats 400000
namespace Go.Proofs.YteigfipgmghgmaaGreatDoor.Nu
open Go.RowKit
theorem jah (t x:Int) (w:World):Calls Tryz.prog 45 #[.int .i64 t,.int .i64 x] w fun e w'=>e=.returned (.bool (chk t x))∧w'=w:=by
 by_cases h1:t=1
 ·have c : chk t x = (decide (0 ≤ x) && (decide (x < 4294967296) && (x == 2143289344 || decide (x % 2147483648 ≤ 2139095040)))) := by
    rw [jfE t x h1,Bool.eq_iff_iff];simp
  have h1':(t==1)=true:=by simpa using h1
  clear h1
  by_cases hx0:0≤x
  ·by_cases hx1:x<4294967296
   ·have a:=jeX x hx0 hx1
    by_cases hx2:x=2143289344
    ·have c':chk t x=true:=by rw [c];simp [hx2]
     rw [c'];clear c c';subst hx2;go_enter Tryz.func45,Tryz.ntmps45;go_wp2;go_ret;exact ⟨rfl,rfl⟩
    ·have c':chk t x=decide (x % 2147483648≤2139095040):=by rw [c];simp [hx0,hx1,hx2]
     rw [c'];clear c c';have hx2':(x==2143289344)=false:=by simpa using hx2
     clear hx2;go_enter Tryz.func45,Tryz.ntmps45;go_wp2;go_ret;exact ⟨rfl,rfl⟩
   ·have c':chk t x=false:=by rw [c];simp [hx1]
    rw [c'];clear c c';go_enter Tryz.func45,Tryz.ntmps45;go_wp2;go_ret;exact ⟨rfl,rfl⟩
  ·have c':chk t x=false:=by rw [c];simp [hx0]
   rw [c'];clear c c';go_enter Tryz.func45,Tryz.ntmps45;go_wp2;go_ret;exact ⟨rfl,rfl⟩
 ·have h1':(t==1)=false:=by simpa using h1
  by_cases h6:t=6
  ·have h6':(t==6)=true:=by simpa using h6
   have c:chk t x=(x==wrap64 (wrap32 x)):=by rw [chk6];simp [chk,h6]
   rw [c];clear c h1 h6;go_enter Tryz.func45,Tryz.ntmps45;go_wp2;go_ret;exact ⟨rfl,rfl⟩
  ·have h6':(t==6)=false:=by simpa using h6
   by_cases h7:t=7
   ·have h7':(t==7)=true:=by simpa using h7
    have c:chk t x=true:=by simp [chk,h7]
    rw [c];clear c h1 h6 h7;go_enter Tryz.func45,Tryz.ntmps45;go_wp2;go_ret;exact ⟨rfl,rfl⟩
   ·have h7':(t==7)=false:=by simpa using h7
    by_cases h9:t=9
    ·have h9':(t==9)=true:=by simpa using h9
     have c:chk t x=(x==0||x==1):=by rw [Bool.eq_iff_iff];simp [chk,h9]
     by_cases hx0:x=0
     ·have c':chk t x=true:=by rw [c];simp [hx0]
      rw [c'];clear c c' h1 h6 h7 h9;subst hx0;go_enter Tryz.func45,Tryz.ntmps45;go_wp2;go_ret;exact ⟨rfl,rfl⟩
     ·have hx0':(x==0)=false:=by simpa using hx0
      rw [c];clear c h1 h6 h7 h9 hx0;go_enter Tryz.func45,Tryz.ntmps45;go_wp2;go_ret;exact ⟨by simp [hx0'],rfl⟩
    ·have h9':(t==9)=false:=by simpa using h9
     have c:chk t x=false:=by simp [chk,h1,h6,h7,h9]
     rw [c];clear c h1 h6 h7 h9;go_enter Tryz.func45,Tryz.ntmps45;go_wp2;go_ret;exact ⟨rfl,rfl⟩
end Go.Proofs.YteigfipgmghgmaaGreatDoor.Nu
namespace Go.Proofs.YteigfipgmghgmaaGreatDoor.Nu
open Go.RowKit
theorem jbq (n:Int) (w:World):(callFunc 42 #[.int .u32 n]).run Tryz.prog w=.ok (.value (.float .f32 n.toNat)) w:=by kernel_rfl
theorem jbB (b:Nat) (w:World):(callFunc 92 #[.float .f32 b]).run Tryz.prog w=.ok (.value (.int .u32 b)) w:=by kernel_rfl
attribute [local go_sem] jbq jbB
theorem jaH (x:Int) (w:World):Calls Tryz.prog 50 #[.int .i64 x] w fun e w'=>e=.returned (.float .f32 (fb x))∧w'=w:=by
 go_enter Tryz.func50,Tryz.ntmps50;go_wp2;go_ret;exact ⟨rfl,rfl⟩
theorem jbo (b:Nat) (w:World) (hb:b<4294967296):Calls Tryz.prog 62 #[.float .f32 b] w fun e w'=>e=.returned (.int .i64 (tob b))∧w'=w:=by
 by_cases h:(FloatKind.f32.format.order b b != some .eq)=true
 ·have c:tob b=2143289344:=by unfold tob;rw [if_pos h]
  rw [c];clear c;go_enter Tryz.func62,Tryz.ntmps62;go_wp2;go_ret;exact ⟨rfl,rfl⟩
 ·have c:tob b=b:=by unfold tob;rw [if_neg h]
  have h':(FloatKind.f32.format.order b b != some .eq)=false:=by simpa using h
  rw [c];clear c h;go_enter Tryz.func62,Tryz.ntmps62;go_wp2;go_ret;exact ⟨rfl,rfl⟩
theorem add_f (x y:Nat) (w:World):Calls Tryz.prog 53 #[.string ⟨#[65,100,100]⟩,.float .f32 x,.float .f32 y] w fun e w'=>e=.returned (.tuple #[.int .i64 (tobO (floatBits .add .f32 x y)),.int .i64 0])∧∃ n,w'=w.drewN n:=by
 cases h:floatBits .add .f32 x y with
 | some r =>
  have hr:r<4294967296:=Ieee.Format.add_lt _ h;have hrun:=fun w t=>run_float_arith (P:=Tryz.prog) w .add t .f32 x y r h;show Calls _ _ _ _ fun e w'=>e=.returned (.tuple #[.int .i64 (tob r),.int .i64 0])∧∃ n,w'=w.drewN n;clear h;go_enter Tryz.func53,Tryz.ntmps53;go_wp2_with (first | (go_at_call 62;refine (jbo _ _ hr).mono ?_;rintro e w' ⟨rfl,rfl⟩) | go_in);go_ret2;exact ⟨rfl,0,rfl⟩
 | none =>
  have hrun:=fun w t=>jcm (P:=Tryz.prog) w .add t x y (by decide) h;show Calls _ _ _ _ fun e w'=>e=.returned (.tuple #[.int .i64 2143289344,.int .i64 0])∧∃ n,w'=w.drewN n;clear h;go_enter Tryz.func53,Tryz.ntmps53;go_wp2_with (first | (go_at_call 62;refine (jbo _ _ (jiQ _ _ _)).mono ?_;rw [jfP];rintro e w' ⟨rfl,rfl⟩) | go_in);go_ret2;exact ⟨rfl,1,rfl⟩
theorem sub_f (x y:Nat) (w:World):Calls Tryz.prog 53 #[.string ⟨#[83,117,98]⟩,.float .f32 x,.float .f32 y] w fun e w'=>e=.returned (.tuple #[.int .i64 (tobO (floatBits .sub .f32 x y)),.int .i64 0])∧∃ n,w'=w.drewN n:=by
 cases h:floatBits .sub .f32 x y with
 | some r =>
  have hr:r<4294967296:=Ieee.Format.sub_lt _ h;have hrun:=fun w t=>run_float_arith (P:=Tryz.prog) w .sub t .f32 x y r h;show Calls _ _ _ _ fun e w'=>e=.returned (.tuple #[.int .i64 (tob r),.int .i64 0])∧∃ n,w'=w.drewN n;clear h;go_enter Tryz.func53,Tryz.ntmps53;go_wp2_with (first | (go_at_call 62;refine (jbo _ _ hr).mono ?_;rintro e w' ⟨rfl,rfl⟩) | go_in);go_ret2;exact ⟨rfl,0,rfl⟩
 | none =>
  have hrun:=fun w t=>jcm (P:=Tryz.prog) w .sub t x y (by decide) h;show Calls _ _ _ _ fun e w'=>e=.returned (.tuple #[.int .i64 2143289344,.int .i64 0])∧∃ n,w'=w.drewN n;clear h;go_enter Tryz.func53,Tryz.ntmps53;go_wp2_with (first | (go_at_call 62;refine (jbo _ _ (jiQ _ _ _)).mono ?_;rw [jfP];rintro e w' ⟨rfl,rfl⟩) | go_in);go_ret2;exact ⟨rfl,1,rfl⟩
theorem mul_f (x y:Nat) (w:World):Calls Tryz.prog 53 #[.string ⟨#[77,117,108]⟩,.float .f32 x,.float .f32 y] w fun e w'=>e=.returned (.tuple #[.int .i64 (tobO (floatBits .mul .f32 x y)),.int .i64 0])∧∃ n,w'=w.drewN n:=by
 cases h:floatBits .mul .f32 x y with
 | some r =>
  have hr:r<4294967296:=Ieee.Format.mul_lt _ h;have hrun:=fun w t=>run_float_arith (P:=Tryz.prog) w .mul t .f32 x y r h;show Calls _ _ _ _ fun e w'=>e=.returned (.tuple #[.int .i64 (tob r),.int .i64 0])∧∃ n,w'=w.drewN n;clear h;go_enter Tryz.func53,Tryz.ntmps53;go_wp2_with (first | (go_at_call 62;refine (jbo _ _ hr).mono ?_;rintro e w' ⟨rfl,rfl⟩) | go_in);go_ret2;exact ⟨rfl,0,rfl⟩
 | none =>
  have hrun:=fun w t=>jcm (P:=Tryz.prog) w .mul t x y (by decide) h;show Calls _ _ _ _ fun e w'=>e=.returned (.tuple #[.int .i64 2143289344,.int .i64 0])∧∃ n,w'=w.drewN n;clear h;go_enter Tryz.func53,Tryz.ntmps53;go_wp2_with (first | (go_at_call 62;refine (jbo _ _ (jiQ _ _ _)).mono ?_;rw [jfP];rintro e w' ⟨rfl,rfl⟩) | go_in);go_ret2;exact ⟨rfl,1,rfl⟩
theorem div_f (x y:Nat) (w:World):Calls Tryz.prog 53 #[.string ⟨#[68,105,118]⟩,.float .f32 x,.float .f32 y] w fun e w'=>e=.returned (.tuple #[.int .i64 (tobO (floatBits .quo .f32 x y)),.int .i64 0])∧∃ n,w'=w.drewN n:=by
 cases h:floatBits .quo .f32 x y with
 | some r =>
  have hr:r<4294967296:=Ieee.Format.div_lt _ h;have hrun:=fun w t=>run_float_arith (P:=Tryz.prog) w .quo t .f32 x y r h;show Calls _ _ _ _ fun e w'=>e=.returned (.tuple #[.int .i64 (tob r),.int .i64 0])∧∃ n,w'=w.drewN n;clear h;go_enter Tryz.func53,Tryz.ntmps53;go_wp2_with (first | (go_at_call 62;refine (jbo _ _ hr).mono ?_;rintro e w' ⟨rfl,rfl⟩) | go_in);go_ret2;exact ⟨rfl,0,rfl⟩
 | none =>
  have hrun:=fun w t=>jcm (P:=Tryz.prog) w .quo t x y (by decide) h;show Calls _ _ _ _ fun e w'=>e=.returned (.tuple #[.int .i64 2143289344,.int .i64 0])∧∃ n,w'=w.drewN n;clear h;go_enter Tryz.func53,Tryz.ntmps53;go_wp2_with (first | (go_at_call 62;refine (jbo _ _ (jiQ _ _ _)).mono ?_;rw [jfP];rintro e w' ⟨rfl,rfl⟩) | go_in);go_ret2;exact ⟨rfl,1,rfl⟩
end Go.Proofs.YteigfipgmghgmaaGreatDoor.Nu
namespace Go.Proofs.YteigfipgmghgmaaGreatDoor.Nu
open Go.RowKit
theorem jhP (x y r:Nat) (w:World) (hr:r<4294967296) (hrun:∀ (w:World) (ts:Array TypeId) (t:TypeId),(Builtin.max_ ts t #[.float .f32 x,.float .f32 y]).run Tryz.prog w=.ok (.float .f32 r) w) :
    Calls Tryz.prog 53 #[.string ⟨#[77,97,120]⟩,.float .f32 x,.float .f32 y] w fun e w'=>e=.returned (.tuple #[.int .i64 (tob r),.int .i64 0])∧∃ n,w'=w.drewN n:=by
     go_enter Tryz.func53,Tryz.ntmps53;go_wp2_with (first | (go_at_call 62;refine (jbo _ _ hr).mono ?_;rintro e w' ⟨rfl,rfl⟩) | go_in);go_ret2;exact ⟨rfl,0,rfl⟩
theorem jqL (x y:Nat) (w:World) (h:ord x y=none) :
    Calls Tryz.prog 53 #[.string ⟨#[77,97,120]⟩,.float .f32 x,.float .f32 y] w fun e w'=>e=.returned (.tuple #[.int .i64 2143289344,.int .i64 0])∧∃ n,w'=w.drewN n:=by
     have hrun:=fun w ts t=>jhJ (P:=Tryz.prog) w ts t x y h;clear h;go_enter Tryz.func53,Tryz.ntmps53;go_wp2_with (first | (go_at_call 62;refine (jbo _ _ (jiQ _ _ _)).mono ?_;rw [jfP];rintro e w' ⟨rfl,rfl⟩) | go_in);go_ret2;exact ⟨rfl,1,rfl⟩
theorem max_f (x y:Nat) (w:World) (hx:x<4294967296) (hy:y<4294967296) :
    Calls Tryz.prog 53 #[.string ⟨#[77,97,120]⟩,.float .f32 x,.float .f32 y] w fun e w'=>e=.returned (.tuple #[.int .i64 (maxF x y),.int .i64 0])∧∃ n,w'=w.drewN n:=by
     cases h:ord x y with
     | none => have e : maxF x y = 2143289344 := by simp [maxF, h]
               rw [e];exact jqL x y w h
     | some c =>
      cases c with
      | lt => have e : maxF x y = tob y := by simp [maxF, h]
              rw [e];exact jhP x y y w hy (fun w ts t=>jj0 w ts t x y h)
      | gt => have e : maxF x y = tob x := by simp [maxF, h]
              rw [e];exact jhP x y x w hx (fun w ts t=>jj2 w ts t x y h)
      | eq =>
       cases hn:(FloatKind.f32.decode x).neg with
       | true => have e : maxF x y = tob y := by simp [maxF, h, hn]
                 rw [e];exact jhP x y y w hy (fun w ts t=>by rw [jfQ w ts t x y h,hn];rfl)
       | false => have e : maxF x y = tob x := by simp [maxF, h, hn]
                  rw [e];exact jhP x y x w hx (fun w ts t=>by rw [jfQ w ts t x y h,hn];rfl)
theorem jhQ (x y r:Nat) (w:World) (hr:r<4294967296) (hrun:∀ (w:World) (ts:Array TypeId) (t:TypeId),(Builtin.min_ ts t #[.float .f32 x,.float .f32 y]).run Tryz.prog w=.ok (.float .f32 r) w) :
    Calls Tryz.prog 53 #[.string ⟨#[77,105,110]⟩,.float .f32 x,.float .f32 y] w fun e w'=>e=.returned (.tuple #[.int .i64 (tob r),.int .i64 0])∧∃ n,w'=w.drewN n:=by
     go_enter Tryz.func53,Tryz.ntmps53;go_wp2_with (first | (go_at_call 62;refine (jbo _ _ hr).mono ?_;rintro e w' ⟨rfl,rfl⟩) | go_in);go_ret2;exact ⟨rfl,0,rfl⟩
theorem jqM (x y:Nat) (w:World) (h:ord x y=none) :
    Calls Tryz.prog 53 #[.string ⟨#[77,105,110]⟩,.float .f32 x,.float .f32 y] w fun e w'=>e=.returned (.tuple #[.int .i64 2143289344,.int .i64 0])∧∃ n,w'=w.drewN n:=by
     have hrun:=fun w ts t=>jhK (P:=Tryz.prog) w ts t x y h;clear h;go_enter Tryz.func53,Tryz.ntmps53;go_wp2_with (first | (go_at_call 62;refine (jbo _ _ (jiQ _ _ _)).mono ?_;rw [jfP];rintro e w' ⟨rfl,rfl⟩) | go_in);go_ret2;exact ⟨rfl,1,rfl⟩
theorem min_f (x y:Nat) (w:World) (hx:x<4294967296) (hy:y<4294967296) :
    Calls Tryz.prog 53 #[.string ⟨#[77,105,110]⟩,.float .f32 x,.float .f32 y] w fun e w'=>e=.returned (.tuple #[.int .i64 (minF x y),.int .i64 0])∧∃ n,w'=w.drewN n:=by
     cases h:ord x y with
     | none => have e : minF x y = 2143289344 := by simp [minF, h]
               rw [e];exact jqM x y w h
     | some c =>
      cases c with
      | lt => have e : minF x y = tob x := by simp [minF, h]
              rw [e];exact jhQ x y x w hx (fun w ts t=>jj1 w ts t x y h)
      | gt => have e : minF x y = tob y := by simp [minF, h]
              rw [e];exact jhQ x y y w hy (fun w ts t=>jj3 w ts t x y h)
      | eq =>
       cases hn:(FloatKind.f32.decode x).neg with
       | true => have e : minF x y = tob x := by simp [minF, h, hn]
                 rw [e];exact jhQ x y x w hx (fun w ts t=>by rw [jfR w ts t x y h,hn];rfl)
       | false => have e : minF x y = tob y := by simp [minF, h, hn]
                  rw [e];exact jhQ x y y w hy (fun w ts t=>by rw [jfR w ts t x y h,hn];rfl)
theorem juF (x y:Nat) (w:World) :
    Calls Tryz.prog 53 #[.string ⟨#[69,113,117,97,108]⟩,.float .f32 x,.float .f32 y] w fun e w'=>e=.returned (.tuple #[.int .i64 (b2i (ord x y==some .eq)),.int .i64 0])∧∃ n,w'=w.drewN n:=by
     cases h:(ord x y==some .eq) with
     | true =>
      have h':(FloatKind.f32.format.order x y==some .eq)=true:=h;show Calls _ _ _ _ fun e w'=>e=.returned (.tuple #[.int .i64 1,.int .i64 0])∧∃ n,w'=w.drewN n;clear h;go_enter Tryz.func53,Tryz.ntmps53;go_wp2;go_ret2;exact ⟨rfl,0,rfl⟩
     | false =>
      have h':(FloatKind.f32.format.order x y==some .eq)=false:=h;show Calls _ _ _ _ fun e w'=>e=.returned (.tuple #[.int .i64 0,.int .i64 0])∧∃ n,w'=w.drewN n;clear h;go_enter Tryz.func53,Tryz.ntmps53;go_wp2;go_ret2;exact ⟨rfl,0,rfl⟩
theorem js3 (x y:Nat) (w:World) :
    Calls Tryz.prog 53 #[.string ⟨#[76,101,115,115]⟩,.float .f32 x,.float .f32 y] w fun e w'=>e=.returned (.tuple #[.int .i64 (b2i (ord x y==some .lt)),.int .i64 0])∧∃ n,w'=w.drewN n:=by
     cases h:(ord x y==some .lt) with
     | true =>
      have h':(FloatKind.f32.format.order x y==some .lt)=true:=h;show Calls _ _ _ _ fun e w'=>e=.returned (.tuple #[.int .i64 1,.int .i64 0])∧∃ n,w'=w.drewN n;clear h;go_enter Tryz.func53,Tryz.ntmps53;go_wp2;go_ret2;exact ⟨rfl,0,rfl⟩
     | false =>
      have h':(FloatKind.f32.format.order x y==some .lt)=false:=h;show Calls _ _ _ _ fun e w'=>e=.returned (.tuple #[.int .i64 0,.int .i64 0])∧∃ n,w'=w.drewN n;clear h;go_enter Tryz.func53,Tryz.ntmps53;go_wp2;go_ret2;exact ⟨rfl,0,rfl⟩
theorem js4 (x y:Nat) (w:World) :
    Calls Tryz.prog 53 #[.string ⟨#[71,114,101,97,116,101,114]⟩,.float .f32 x,.float .f32 y] w fun e w'=>e=.returned (.tuple #[.int .i64 (b2i (ord x y==some .gt)),.int .i64 0])∧∃ n,w'=w.drewN n:=by
     cases h:(ord x y==some .gt) with
     | true =>
      have h':(FloatKind.f32.format.order x y==some .gt)=true:=h;show Calls _ _ _ _ fun e w'=>e=.returned (.tuple #[.int .i64 1,.int .i64 0])∧∃ n,w'=w.drewN n;clear h;go_enter Tryz.func53,Tryz.ntmps53;go_wp2;go_ret2;exact ⟨rfl,0,rfl⟩
     | false =>
      have h':(FloatKind.f32.format.order x y==some .gt)=false:=h;show Calls _ _ _ _ fun e w'=>e=.returned (.tuple #[.int .i64 0,.int .i64 0])∧∃ n,w'=w.drewN n;clear h;go_enter Tryz.func53,Tryz.ntmps53;go_wp2;go_ret2;exact ⟨rfl,0,rfl⟩
theorem no6_f (x y:Nat) (w:World) :
    Calls Tryz.prog 53 #[.string ⟨#[65,110,100]⟩,.float .f32 x,.float .f32 y] w fun e w'=>e=.returned (.tuple #[.int .i64 0,.int .i64 1])∧∃ n,w'=w.drewN n:=by
     go_enter Tryz.func53,Tryz.ntmps53;go_wp2;go_ret2;exact ⟨rfl,0,rfl⟩
theorem no7_f (x y:Nat) (w:World) :
    Calls Tryz.prog 53 #[.string ⟨#[79,114]⟩,.float .f32 x,.float .f32 y] w fun e w'=>e=.returned (.tuple #[.int .i64 0,.int .i64 1])∧∃ n,w'=w.drewN n:=by
     go_enter Tryz.func53,Tryz.ntmps53;go_wp2;go_ret2;exact ⟨rfl,0,rfl⟩
theorem no8_f (x y:Nat) (w:World) :
    Calls Tryz.prog 53 #[.string ⟨#[88,111,114]⟩,.float .f32 x,.float .f32 y] w fun e w'=>e=.returned (.tuple #[.int .i64 0,.int .i64 1])∧∃ n,w'=w.drewN n:=by
     go_enter Tryz.func53,Tryz.ntmps53;go_wp2;go_ret2;exact ⟨rfl,0,rfl⟩
end Go.Proofs.YteigfipgmghgmaaGreatDoor.Nu
namespace Go.Proofs.YteigfipgmghgmaaGreatDoor.Nu
open Go.RowKit
theorem jef (t n:Int) (h:(t==6)=true):wrapT t n=wrap64 (wrap32 n):=by simp at h;simp [wrapT,h]
theorem jeg (t n:Int) (h:(t==6)=false):wrapT t n=n:=by simp at h;simp [wrapT,h]
theorem jr9 (t x y:Int) (w:World):Calls Tryz.prog 54 #[.string ⟨#[65,100,100]⟩,.int .i64 t,.int .i64 x,.int .i64 y] w fun e w'=>e=.returned (.tuple #[.int .i64 (wrapT t (wrap64 (x+y))),.int .i64 0])∧w'=w:=by
 cases h:(t==6) with
 | true =>
  rw [jef t _ h];go_enter Tryz.func54,Tryz.ntmps54;go_wp2;go_ret2;exact ⟨rfl,rfl⟩
 | false =>
  rw [jeg t _ h];go_enter Tryz.func54,Tryz.ntmps54;go_wp2;go_ret2;exact ⟨rfl,rfl⟩
theorem jsa (t x y:Int) (w:World):Calls Tryz.prog 54 #[.string ⟨#[83,117,98]⟩,.int .i64 t,.int .i64 x,.int .i64 y] w fun e w'=>e=.returned (.tuple #[.int .i64 (wrapT t (wrap64 (x - y))),.int .i64 0])∧w'=w:=by
 cases h:(t==6) with
 | true =>
  rw [jef t _ h];go_enter Tryz.func54,Tryz.ntmps54;go_wp2;go_ret2;exact ⟨rfl,rfl⟩
 | false =>
  rw [jeg t _ h];go_enter Tryz.func54,Tryz.ntmps54;go_wp2;go_ret2;exact ⟨rfl,rfl⟩
theorem jsb (t x y:Int) (w:World):Calls Tryz.prog 54 #[.string ⟨#[77,117,108]⟩,.int .i64 t,.int .i64 x,.int .i64 y] w fun e w'=>e=.returned (.tuple #[.int .i64 (wrapT t (wrap64 (x*y))),.int .i64 0])∧w'=w:=by
 cases h:(t==6) with
 | true =>
  rw [jef t _ h];go_enter Tryz.func54,Tryz.ntmps54;go_wp2;go_ret2;exact ⟨rfl,rfl⟩
 | false =>
  rw [jeg t _ h];go_enter Tryz.func54,Tryz.ntmps54;go_wp2;go_ret2;exact ⟨rfl,rfl⟩
theorem jnH (t x y:Int) (w:World) (hy:(y==0)=true):Calls Tryz.prog 54 #[.string ⟨#[68,105,118]⟩,.int .i64 t,.int .i64 x,.int .i64 y] w fun e w'=>e=.returned (.tuple #[.int .i64 0,.int .i64 7])∧w'=w:=by
 go_enter Tryz.func54,Tryz.ntmps54;go_wp2;go_ret2;exact ⟨rfl,rfl⟩
theorem jlj (t x y:Int) (w:World) (hy:(y==0)=false):Calls Tryz.prog 54 #[.string ⟨#[68,105,118]⟩,.int .i64 t,.int .i64 x,.int .i64 y] w fun e w'=>e=.returned (.tuple #[.int .i64 (wrapT t (wrap64 (x.tdiv y))),.int .i64 0])∧w'=w:=by
 have hy':¬ y=0:=by simpa using hy
 cases h:(t==6) with
 | true =>
  rw [jef t _ h];go_enter Tryz.func54,Tryz.ntmps54;go_wp2;go_ret2;exact ⟨rfl,rfl⟩
 | false =>
  rw [jeg t _ h];go_enter Tryz.func54,Tryz.ntmps54;go_wp2;go_ret2;exact ⟨rfl,rfl⟩
theorem jsc (t x y:Int) (w:World):Calls Tryz.prog 54 #[.string ⟨#[77,97,120]⟩,.int .i64 t,.int .i64 x,.int .i64 y] w fun e w'=>e=.returned (.tuple #[.int .i64 (wrapT t (maxI x y)),.int .i64 0])∧w'=w:=by
 by_cases hm:x<y
 ·rw [show maxI x y=y from if_pos hm]
  cases h:(t==6) with
  | true =>
   rw [jef t _ h];go_enter Tryz.func54,Tryz.ntmps54;go_wp2;go_ret2;exact ⟨rfl,rfl⟩
  | false =>
   rw [jeg t _ h];go_enter Tryz.func54,Tryz.ntmps54;go_wp2;go_ret2;exact ⟨rfl,rfl⟩
 ·rw [show maxI x y=x from if_neg hm]
  cases h:(t==6) with
  | true =>
   rw [jef t _ h];go_enter Tryz.func54,Tryz.ntmps54;go_wp2;go_ret2;exact ⟨rfl,rfl⟩
  | false =>
   rw [jeg t _ h];go_enter Tryz.func54,Tryz.ntmps54;go_wp2;go_ret2;exact ⟨rfl,rfl⟩
theorem jsd (t x y:Int) (w:World):Calls Tryz.prog 54 #[.string ⟨#[77,105,110]⟩,.int .i64 t,.int .i64 x,.int .i64 y] w fun e w'=>e=.returned (.tuple #[.int .i64 (wrapT t (minI x y)),.int .i64 0])∧w'=w:=by
 by_cases hm:y<x
 ·rw [show minI x y=y from if_pos hm]
  cases h:(t==6) with
  | true =>
   rw [jef t _ h];go_enter Tryz.func54,Tryz.ntmps54;go_wp2;go_ret2;exact ⟨rfl,rfl⟩
  | false =>
   rw [jeg t _ h];go_enter Tryz.func54,Tryz.ntmps54;go_wp2;go_ret2;exact ⟨rfl,rfl⟩
 ·rw [show minI x y=x from if_neg hm]
  cases h:(t==6) with
  | true =>
   rw [jef t _ h];go_enter Tryz.func54,Tryz.ntmps54;go_wp2;go_ret2;exact ⟨rfl,rfl⟩
  | false =>
   rw [jeg t _ h];go_enter Tryz.func54,Tryz.ntmps54;go_wp2;go_ret2;exact ⟨rfl,rfl⟩
theorem jse (t x y:Int) (w:World):Calls Tryz.prog 54 #[.string ⟨#[69,113,117,97,108]⟩,.int .i64 t,.int .i64 x,.int .i64 y] w fun e w'=>e=.returned (.tuple #[.int .i64 (b2i (x==y)),.int .i64 0])∧w'=w:=by
 cases h:(x==y) with
 | true =>
  show Calls _ _ _ _ fun e w'=>e=.returned (.tuple #[.int .i64 1,.int .i64 0])∧w'=w;go_enter Tryz.func54,Tryz.ntmps54;go_wp2;go_ret2;exact ⟨rfl,rfl⟩
 | false =>
  show Calls _ _ _ _ fun e w'=>e=.returned (.tuple #[.int .i64 0,.int .i64 0])∧w'=w;go_enter Tryz.func54,Tryz.ntmps54;go_wp2;go_ret2;exact ⟨rfl,rfl⟩
theorem jnI (t x y:Int) (w:World):Calls Tryz.prog 54 #[.string ⟨#[76,101,115,115]⟩,.int .i64 t,.int .i64 x,.int .i64 y] w fun e w'=>e=.returned (.tuple #[.int .i64 (b2i (decide (x<y))),.int .i64 0])∧w'=w:=by
 cases h:(decide (x<y)) with
 | true =>
  show Calls _ _ _ _ fun e w'=>e=.returned (.tuple #[.int .i64 1,.int .i64 0])∧w'=w;go_enter Tryz.func54,Tryz.ntmps54;go_wp2;go_ret2;exact ⟨rfl,rfl⟩
 | false =>
  show Calls _ _ _ _ fun e w'=>e=.returned (.tuple #[.int .i64 0,.int .i64 0])∧w'=w;go_enter Tryz.func54,Tryz.ntmps54;go_wp2;go_ret2;exact ⟨rfl,rfl⟩
theorem jnJ (t x y:Int) (w:World):Calls Tryz.prog 54 #[.string ⟨#[71,114,101,97,116,101,114]⟩,.int .i64 t,.int .i64 x,.int .i64 y] w fun e w'=>e=.returned (.tuple #[.int .i64 (b2i (decide (y<x))),.int .i64 0])∧w'=w:=by
 cases h:(decide (y<x)) with
 | true =>
  show Calls _ _ _ _ fun e w'=>e=.returned (.tuple #[.int .i64 1,.int .i64 0])∧w'=w;go_enter Tryz.func54,Tryz.ntmps54;go_wp2;go_ret2;exact ⟨rfl,rfl⟩
 | false =>
  show Calls _ _ _ _ fun e w'=>e=.returned (.tuple #[.int .i64 0,.int .i64 0])∧w'=w;go_enter Tryz.func54,Tryz.ntmps54;go_wp2;go_ret2;exact ⟨rfl,rfl⟩
theorem jsf (t x y:Int) (w:World):Calls Tryz.prog 54 #[.string ⟨#[65,110,100]⟩,.int .i64 t,.int .i64 x,.int .i64 y] w fun e w'=>e=.returned (.tuple #[.int .i64 0,.int .i64 1])∧w'=w:=by
 go_enter Tryz.func54,Tryz.ntmps54;go_wp2;go_ret2;exact ⟨rfl,rfl⟩
theorem jsg (t x y:Int) (w:World):Calls Tryz.prog 54 #[.string ⟨#[79,114]⟩,.int .i64 t,.int .i64 x,.int .i64 y] w fun e w'=>e=.returned (.tuple #[.int .i64 0,.int .i64 1])∧w'=w:=by
 go_enter Tryz.func54,Tryz.ntmps54;go_wp2;go_ret2;exact ⟨rfl,rfl⟩
theorem jsh (t x y:Int) (w:World):Calls Tryz.prog 54 #[.string ⟨#[88,111,114]⟩,.int .i64 t,.int .i64 x,.int .i64 y] w fun e w'=>e=.returned (.tuple #[.int .i64 0,.int .i64 1])∧w'=w:=by
 go_enter Tryz.func54,Tryz.ntmps54;go_wp2;go_ret2;exact ⟨rfl,rfl⟩
theorem js5 (x y:Int) (w:World) (hx:x=0∨x=1) (hy:y=0∨y=1):Calls Tryz.prog 55 #[.string ⟨#[65,110,100]⟩,.int .i64 x,.int .i64 y] w fun e w'=>e=.returned (.tuple #[.int .i64 (binBo 6 x y).1,.int .i64 0])∧w'=w:=by
 have f00:bits .and .i64 0 0=(binBo 6 0 0).1:=by decide
 have f01:bits .and .i64 0 1=(binBo 6 0 1).1:=by decide
 have f10:bits .and .i64 1 0=(binBo 6 1 0).1:=by decide
 have f11:bits .and .i64 1 1=(binBo 6 1 1).1:=by decide
 rcases hx with rfl | rfl <;> rcases hy with rfl | rfl
 all_goals
  go_enter Tryz.func55,Tryz.ntmps55;go_wp2;go_ret2;exact ⟨rfl,rfl⟩
theorem js6 (x y:Int) (w:World) (hx:x=0∨x=1) (hy:y=0∨y=1):Calls Tryz.prog 55 #[.string ⟨#[79,114]⟩,.int .i64 x,.int .i64 y] w fun e w'=>e=.returned (.tuple #[.int .i64 (binBo 7 x y).1,.int .i64 0])∧w'=w:=by
 have f00:bits .or .i64 0 0=(binBo 7 0 0).1:=by decide
 have f01:bits .or .i64 0 1=(binBo 7 0 1).1:=by decide
 have f10:bits .or .i64 1 0=(binBo 7 1 0).1:=by decide
 have f11:bits .or .i64 1 1=(binBo 7 1 1).1:=by decide
 rcases hx with rfl | rfl <;> rcases hy with rfl | rfl
 all_goals
  go_enter Tryz.func55,Tryz.ntmps55;go_wp2;go_ret2;exact ⟨rfl,rfl⟩
theorem js7 (x y:Int) (w:World) (hx:x=0∨x=1) (hy:y=0∨y=1):Calls Tryz.prog 55 #[.string ⟨#[88,111,114]⟩,.int .i64 x,.int .i64 y] w fun e w'=>e=.returned (.tuple #[.int .i64 (binBo 8 x y).1,.int .i64 0])∧w'=w:=by
 have f00:bits .xor .i64 0 0=(binBo 8 0 0).1:=by decide
 have f01:bits .xor .i64 0 1=(binBo 8 0 1).1:=by decide
 have f10:bits .xor .i64 1 0=(binBo 8 1 0).1:=by decide
 have f11:bits .xor .i64 1 1=(binBo 8 1 1).1:=by decide
 rcases hx with rfl | rfl <;> rcases hy with rfl | rfl
 all_goals
  go_enter Tryz.func55,Tryz.ntmps55;go_wp2;go_ret2;exact ⟨rfl,rfl⟩
theorem js8 (x y:Int) (w:World):Calls Tryz.prog 55 #[.string ⟨#[69,113,117,97,108]⟩,.int .i64 x,.int .i64 y] w fun e w'=>e=.returned (.tuple #[.int .i64 (b2i (x==y)),.int .i64 0])∧w'=w:=by
 cases h:(x==y) with
 | true =>
  show Calls _ _ _ _ fun e w'=>e=.returned (.tuple #[.int .i64 1,.int .i64 0])∧w'=w;go_enter Tryz.func55,Tryz.ntmps55;go_wp2;go_ret2;exact ⟨rfl,rfl⟩
 | false =>
  show Calls _ _ _ _ fun e w'=>e=.returned (.tuple #[.int .i64 0,.int .i64 0])∧w'=w;go_enter Tryz.func55,Tryz.ntmps55;go_wp2;go_ret2;exact ⟨rfl,rfl⟩
theorem js9 (x y:Int) (w:World):Calls Tryz.prog 55 #[.string ⟨#[65,100,100]⟩,.int .i64 x,.int .i64 y] w fun e w'=>e=.returned (.tuple #[.int .i64 0,.int .i64 1])∧w'=w:=by
 go_enter Tryz.func55,Tryz.ntmps55;go_wp2;go_ret2;exact ⟨rfl,rfl⟩
theorem jta (x y:Int) (w:World):Calls Tryz.prog 55 #[.string ⟨#[83,117,98]⟩,.int .i64 x,.int .i64 y] w fun e w'=>e=.returned (.tuple #[.int .i64 0,.int .i64 1])∧w'=w:=by
 go_enter Tryz.func55,Tryz.ntmps55;go_wp2;go_ret2;exact ⟨rfl,rfl⟩
theorem jtb (x y:Int) (w:World):Calls Tryz.prog 55 #[.string ⟨#[77,117,108]⟩,.int .i64 x,.int .i64 y] w fun e w'=>e=.returned (.tuple #[.int .i64 0,.int .i64 1])∧w'=w:=by
 go_enter Tryz.func55,Tryz.ntmps55;go_wp2;go_ret2;exact ⟨rfl,rfl⟩
theorem jtc (x y:Int) (w:World):Calls Tryz.prog 55 #[.string ⟨#[68,105,118]⟩,.int .i64 x,.int .i64 y] w fun e w'=>e=.returned (.tuple #[.int .i64 0,.int .i64 1])∧w'=w:=by
 go_enter Tryz.func55,Tryz.ntmps55;go_wp2;go_ret2;exact ⟨rfl,rfl⟩
theorem jtd (x y:Int) (w:World):Calls Tryz.prog 55 #[.string ⟨#[77,97,120]⟩,.int .i64 x,.int .i64 y] w fun e w'=>e=.returned (.tuple #[.int .i64 0,.int .i64 1])∧w'=w:=by
 go_enter Tryz.func55,Tryz.ntmps55;go_wp2;go_ret2;exact ⟨rfl,rfl⟩
theorem jte (x y:Int) (w:World):Calls Tryz.prog 55 #[.string ⟨#[77,105,110]⟩,.int .i64 x,.int .i64 y] w fun e w'=>e=.returned (.tuple #[.int .i64 0,.int .i64 1])∧w'=w:=by
 go_enter Tryz.func55,Tryz.ntmps55;go_wp2;go_ret2;exact ⟨rfl,rfl⟩
theorem jqN (x y:Int) (w:World):Calls Tryz.prog 55 #[.string ⟨#[76,101,115,115]⟩,.int .i64 x,.int .i64 y] w fun e w'=>e=.returned (.tuple #[.int .i64 0,.int .i64 1])∧w'=w:=by
 go_enter Tryz.func55,Tryz.ntmps55;go_wp2;go_ret2;exact ⟨rfl,rfl⟩
theorem jqO (x y:Int) (w:World):Calls Tryz.prog 55 #[.string ⟨#[71,114,101,97,116,101,114]⟩,.int .i64 x,.int .i64 y] w fun e w'=>e=.returned (.tuple #[.int .i64 0,.int .i64 1])∧w'=w:=by
 go_enter Tryz.func55,Tryz.ntmps55;go_wp2;go_ret2;exact ⟨rfl,rfl⟩
end Go.Proofs.YteigfipgmghgmaaGreatDoor.Nu
namespace Go.Proofs.YteigfipgmghgmaaGreatDoor.Nu
open Go.RowKit
theorem ja4 (t x:Int) (h:chk t x=true):t=1∨t=6∨t=7∨t=9:=by
 unfold chk at h
 split at h
 ·omega
 ·split at h
  ·omega
  ·split at h
   ·omega
   ·split at h
    ·omega
    ·cases h
theorem jsi (x:Int) (h:chk 9 x=true):x=0∨x=1:=by simpa [chk] using h
theorem jcv (k:Nat) (t x y:Int) (h:chk t x=false):bin k t x y=(0,1):=by simp [bin,h]
theorem jcw (k:Nat) (t x y:Int) (h:chk t y=false):bin k t x y=(0,1):=by simp [bin,h]
theorem jfj (k:Nat) (x y:Int) (hx:chk 1 x=true) (hy:chk 1 y=true):bin k 1 x y=binFl k (fb x) (fb y):=by simp [bin,hx,hy]
theorem jfk (k:Nat) (x y:Int) (hx:chk 6 x=true) (hy:chk 6 y=true):bin k 6 x y=binIn k 6 x y:=by simp [bin,hx,hy]
theorem jfl (k:Nat) (x y:Int) (hx:chk 7 x=true) (hy:chk 7 y=true):bin k 7 x y=binIn k 7 x y:=by simp [bin,hx,hy]
theorem jfm (k:Nat) (x y:Int) (hx:chk 9 x=true) (hy:chk 9 y=true):bin k 9 x y=binBo k x y:=by simp [bin,hx,hy]
theorem jgZ (t x y:Int) (w:World) (h:chk t x=false∨chk t x=true∧chk t y=false):Calls Tryz.prog 31 #[.string ⟨#[65,100,100]⟩,.int .i64 t,.int .i64 x,.int .i64 y] w fun e w'=>e=.returned (.tuple #[.int .i64 0,.int .i64 1])∧∃ n,w'=w.drewN n:=by
 rcases h with hx | ⟨hx,hy⟩
 all_goals
  go_enter Tryz.func31,Tryz.ntmps31;go_wp2_with (first | (go_at_call 45;refine (jah _ _ _).mono ?_;rintro e w' ⟨rfl,rfl⟩));go_ret2;exact ⟨rfl,0,rfl⟩
theorem jnK (x y:Int) (w:World) (hx:chk 1 x=true) (hy:chk 1 y=true):Calls Tryz.prog 31 #[.string ⟨#[65,100,100]⟩,.int .i64 1,.int .i64 x,.int .i64 y] w fun e w'=>e=.returned (.tuple #[.int .i64 (bin 0 1 x y).1,.int .i64 (bin 0 1 x y).2])∧∃ n,w'=w.drewN n:=by
 rw [jfj 0 x y hx hy];go_enter Tryz.func31,Tryz.ntmps31;go_wp2_with (first | (go_at_call 45;refine (jah _ _ _).mono ?_;rintro e w' ⟨rfl,rfl⟩) | (go_at_call 50;refine (jaH _ _).mono ?_;rintro e w' ⟨rfl,rfl⟩) | (go_at_call 53;refine (add_f _ _ _).mono ?_;rintro e w' ⟨rfl,n,rfl⟩));go_ret2;exact ⟨rfl,_,rfl⟩
theorem jnL (x y:Int) (w:World) (hx:chk 6 x=true) (hy:chk 6 y=true):Calls Tryz.prog 31 #[.string ⟨#[65,100,100]⟩,.int .i64 6,.int .i64 x,.int .i64 y] w fun e w'=>e=.returned (.tuple #[.int .i64 (bin 0 6 x y).1,.int .i64 (bin 0 6 x y).2])∧∃ n,w'=w.drewN n:=by
 rw [jfk 0 x y hx hy];go_enter Tryz.func31,Tryz.ntmps31;go_wp2_with (first | (go_at_call 45;refine (jah _ _ _).mono ?_;rintro e w' ⟨rfl,rfl⟩) | (go_at_call 54;refine (jr9 _ _ _ _).mono ?_;rintro e w' ⟨rfl,rfl⟩));go_ret2;exact ⟨rfl,0,rfl⟩
theorem jnM (x y:Int) (w:World) (hx:chk 7 x=true) (hy:chk 7 y=true):Calls Tryz.prog 31 #[.string ⟨#[65,100,100]⟩,.int .i64 7,.int .i64 x,.int .i64 y] w fun e w'=>e=.returned (.tuple #[.int .i64 (bin 0 7 x y).1,.int .i64 (bin 0 7 x y).2])∧∃ n,w'=w.drewN n:=by
 rw [jfl 0 x y hx hy];go_enter Tryz.func31,Tryz.ntmps31;go_wp2_with (first | (go_at_call 45;refine (jah _ _ _).mono ?_;rintro e w' ⟨rfl,rfl⟩) | (go_at_call 54;refine (jr9 _ _ _ _).mono ?_;rintro e w' ⟨rfl,rfl⟩));go_ret2;exact ⟨rfl,0,rfl⟩
theorem jnN (x y:Int) (w:World) (hx:chk 9 x=true) (hy:chk 9 y=true):Calls Tryz.prog 31 #[.string ⟨#[65,100,100]⟩,.int .i64 9,.int .i64 x,.int .i64 y] w fun e w'=>e=.returned (.tuple #[.int .i64 (bin 0 9 x y).1,.int .i64 (bin 0 9 x y).2])∧∃ n,w'=w.drewN n:=by
 rw [jfm 0 x y hx hy];go_enter Tryz.func31,Tryz.ntmps31;go_wp2_with (first | (go_at_call 45;refine (jah _ _ _).mono ?_;rintro e w' ⟨rfl,rfl⟩) | (go_at_call 55;refine (js9 _ _ _).mono ?_;rintro e w' ⟨rfl,rfl⟩));go_ret2;exact ⟨rfl,0,rfl⟩
theorem binary0 (t x y:Int) (w:World):Calls Tryz.prog 31 #[.string ⟨#[65,100,100]⟩,.int .i64 t,.int .i64 x,.int .i64 y] w fun e w'=>e=.returned (.tuple #[.int .i64 (bin 0 t x y).1,.int .i64 (bin 0 t x y).2])∧∃ n,w'=w.drewN n:=by
 cases hx:chk t x with
 | false=>rw [jcv 0 t x y hx];exact jgZ t x y w (.inl hx)
 | true =>
  cases hy:chk t y with
  | false=>rw [jcw 0 t x y hy];exact jgZ t x y w (.inr ⟨hx,hy⟩)
  | true =>
   rcases ja4 t x hx with rfl | rfl | rfl | rfl
   ·exact jnK x y w hx hy
   ·exact jnL x y w hx hy
   ·exact jnM x y w hx hy
   ·exact jnN x y w hx hy
theorem jg0 (t x y:Int) (w:World) (h:chk t x=false∨chk t x=true∧chk t y=false):Calls Tryz.prog 31 #[.string ⟨#[83,117,98]⟩,.int .i64 t,.int .i64 x,.int .i64 y] w fun e w'=>e=.returned (.tuple #[.int .i64 0,.int .i64 1])∧∃ n,w'=w.drewN n:=by
 rcases h with hx | ⟨hx,hy⟩
 all_goals
  go_enter Tryz.func31,Tryz.ntmps31;go_wp2_with (first | (go_at_call 45;refine (jah _ _ _).mono ?_;rintro e w' ⟨rfl,rfl⟩));go_ret2;exact ⟨rfl,0,rfl⟩
theorem jnO (x y:Int) (w:World) (hx:chk 1 x=true) (hy:chk 1 y=true):Calls Tryz.prog 31 #[.string ⟨#[83,117,98]⟩,.int .i64 1,.int .i64 x,.int .i64 y] w fun e w'=>e=.returned (.tuple #[.int .i64 (bin 1 1 x y).1,.int .i64 (bin 1 1 x y).2])∧∃ n,w'=w.drewN n:=by
 rw [jfj 1 x y hx hy];go_enter Tryz.func31,Tryz.ntmps31;go_wp2_with (first | (go_at_call 45;refine (jah _ _ _).mono ?_;rintro e w' ⟨rfl,rfl⟩) | (go_at_call 50;refine (jaH _ _).mono ?_;rintro e w' ⟨rfl,rfl⟩) | (go_at_call 53;refine (sub_f _ _ _).mono ?_;rintro e w' ⟨rfl,n,rfl⟩));go_ret2;exact ⟨rfl,_,rfl⟩
theorem jnP (x y:Int) (w:World) (hx:chk 6 x=true) (hy:chk 6 y=true):Calls Tryz.prog 31 #[.string ⟨#[83,117,98]⟩,.int .i64 6,.int .i64 x,.int .i64 y] w fun e w'=>e=.returned (.tuple #[.int .i64 (bin 1 6 x y).1,.int .i64 (bin 1 6 x y).2])∧∃ n,w'=w.drewN n:=by
 rw [jfk 1 x y hx hy];go_enter Tryz.func31,Tryz.ntmps31;go_wp2_with (first | (go_at_call 45;refine (jah _ _ _).mono ?_;rintro e w' ⟨rfl,rfl⟩) | (go_at_call 54;refine (jsa _ _ _ _).mono ?_;rintro e w' ⟨rfl,rfl⟩));go_ret2;exact ⟨rfl,0,rfl⟩
theorem jnQ (x y:Int) (w:World) (hx:chk 7 x=true) (hy:chk 7 y=true):Calls Tryz.prog 31 #[.string ⟨#[83,117,98]⟩,.int .i64 7,.int .i64 x,.int .i64 y] w fun e w'=>e=.returned (.tuple #[.int .i64 (bin 1 7 x y).1,.int .i64 (bin 1 7 x y).2])∧∃ n,w'=w.drewN n:=by
 rw [jfl 1 x y hx hy];go_enter Tryz.func31,Tryz.ntmps31;go_wp2_with (first | (go_at_call 45;refine (jah _ _ _).mono ?_;rintro e w' ⟨rfl,rfl⟩) | (go_at_call 54;refine (jsa _ _ _ _).mono ?_;rintro e w' ⟨rfl,rfl⟩));go_ret2;exact ⟨rfl,0,rfl⟩
theorem jnR (x y:Int) (w:World) (hx:chk 9 x=true) (hy:chk 9 y=true):Calls Tryz.prog 31 #[.string ⟨#[83,117,98]⟩,.int .i64 9,.int .i64 x,.int .i64 y] w fun e w'=>e=.returned (.tuple #[.int .i64 (bin 1 9 x y).1,.int .i64 (bin 1 9 x y).2])∧∃ n,w'=w.drewN n:=by
 rw [jfm 1 x y hx hy];go_enter Tryz.func31,Tryz.ntmps31;go_wp2_with (first | (go_at_call 45;refine (jah _ _ _).mono ?_;rintro e w' ⟨rfl,rfl⟩) | (go_at_call 55;refine (jta _ _ _).mono ?_;rintro e w' ⟨rfl,rfl⟩));go_ret2;exact ⟨rfl,0,rfl⟩
theorem binary1 (t x y:Int) (w:World):Calls Tryz.prog 31 #[.string ⟨#[83,117,98]⟩,.int .i64 t,.int .i64 x,.int .i64 y] w fun e w'=>e=.returned (.tuple #[.int .i64 (bin 1 t x y).1,.int .i64 (bin 1 t x y).2])∧∃ n,w'=w.drewN n:=by
 cases hx:chk t x with
 | false=>rw [jcv 1 t x y hx];exact jg0 t x y w (.inl hx)
 | true =>
  cases hy:chk t y with
  | false=>rw [jcw 1 t x y hy];exact jg0 t x y w (.inr ⟨hx,hy⟩)
  | true =>
   rcases ja4 t x hx with rfl | rfl | rfl | rfl
   ·exact jnO x y w hx hy
   ·exact jnP x y w hx hy
   ·exact jnQ x y w hx hy
   ·exact jnR x y w hx hy
theorem jg1 (t x y:Int) (w:World) (h:chk t x=false∨chk t x=true∧chk t y=false):Calls Tryz.prog 31 #[.string ⟨#[77,117,108]⟩,.int .i64 t,.int .i64 x,.int .i64 y] w fun e w'=>e=.returned (.tuple #[.int .i64 0,.int .i64 1])∧∃ n,w'=w.drewN n:=by
 rcases h with hx | ⟨hx,hy⟩
 all_goals
  go_enter Tryz.func31,Tryz.ntmps31;go_wp2_with (first | (go_at_call 45;refine (jah _ _ _).mono ?_;rintro e w' ⟨rfl,rfl⟩));go_ret2;exact ⟨rfl,0,rfl⟩
theorem jnS (x y:Int) (w:World) (hx:chk 1 x=true) (hy:chk 1 y=true):Calls Tryz.prog 31 #[.string ⟨#[77,117,108]⟩,.int .i64 1,.int .i64 x,.int .i64 y] w fun e w'=>e=.returned (.tuple #[.int .i64 (bin 2 1 x y).1,.int .i64 (bin 2 1 x y).2])∧∃ n,w'=w.drewN n:=by
 rw [jfj 2 x y hx hy];go_enter Tryz.func31,Tryz.ntmps31;go_wp2_with (first | (go_at_call 45;refine (jah _ _ _).mono ?_;rintro e w' ⟨rfl,rfl⟩) | (go_at_call 50;refine (jaH _ _).mono ?_;rintro e w' ⟨rfl,rfl⟩) | (go_at_call 53;refine (mul_f _ _ _).mono ?_;rintro e w' ⟨rfl,n,rfl⟩));go_ret2;exact ⟨rfl,_,rfl⟩
theorem jnT (x y:Int) (w:World) (hx:chk 6 x=true) (hy:chk 6 y=true):Calls Tryz.prog 31 #[.string ⟨#[77,117,108]⟩,.int .i64 6,.int .i64 x,.int .i64 y] w fun e w'=>e=.returned (.tuple #[.int .i64 (bin 2 6 x y).1,.int .i64 (bin 2 6 x y).2])∧∃ n,w'=w.drewN n:=by
 rw [jfk 2 x y hx hy];go_enter Tryz.func31,Tryz.ntmps31;go_wp2_with (first | (go_at_call 45;refine (jah _ _ _).mono ?_;rintro e w' ⟨rfl,rfl⟩) | (go_at_call 54;refine (jsb _ _ _ _).mono ?_;rintro e w' ⟨rfl,rfl⟩));go_ret2;exact ⟨rfl,0,rfl⟩
theorem jnU (x y:Int) (w:World) (hx:chk 7 x=true) (hy:chk 7 y=true):Calls Tryz.prog 31 #[.string ⟨#[77,117,108]⟩,.int .i64 7,.int .i64 x,.int .i64 y] w fun e w'=>e=.returned (.tuple #[.int .i64 (bin 2 7 x y).1,.int .i64 (bin 2 7 x y).2])∧∃ n,w'=w.drewN n:=by
 rw [jfl 2 x y hx hy];go_enter Tryz.func31,Tryz.ntmps31;go_wp2_with (first | (go_at_call 45;refine (jah _ _ _).mono ?_;rintro e w' ⟨rfl,rfl⟩) | (go_at_call 54;refine (jsb _ _ _ _).mono ?_;rintro e w' ⟨rfl,rfl⟩));go_ret2;exact ⟨rfl,0,rfl⟩
theorem jnV (x y:Int) (w:World) (hx:chk 9 x=true) (hy:chk 9 y=true):Calls Tryz.prog 31 #[.string ⟨#[77,117,108]⟩,.int .i64 9,.int .i64 x,.int .i64 y] w fun e w'=>e=.returned (.tuple #[.int .i64 (bin 2 9 x y).1,.int .i64 (bin 2 9 x y).2])∧∃ n,w'=w.drewN n:=by
 rw [jfm 2 x y hx hy];go_enter Tryz.func31,Tryz.ntmps31;go_wp2_with (first | (go_at_call 45;refine (jah _ _ _).mono ?_;rintro e w' ⟨rfl,rfl⟩) | (go_at_call 55;refine (jtb _ _ _).mono ?_;rintro e w' ⟨rfl,rfl⟩));go_ret2;exact ⟨rfl,0,rfl⟩
theorem binary2 (t x y:Int) (w:World):Calls Tryz.prog 31 #[.string ⟨#[77,117,108]⟩,.int .i64 t,.int .i64 x,.int .i64 y] w fun e w'=>e=.returned (.tuple #[.int .i64 (bin 2 t x y).1,.int .i64 (bin 2 t x y).2])∧∃ n,w'=w.drewN n:=by
 cases hx:chk t x with
 | false=>rw [jcv 2 t x y hx];exact jg1 t x y w (.inl hx)
 | true =>
  cases hy:chk t y with
  | false=>rw [jcw 2 t x y hy];exact jg1 t x y w (.inr ⟨hx,hy⟩)
  | true =>
   rcases ja4 t x hx with rfl | rfl | rfl | rfl
   ·exact jnS x y w hx hy
   ·exact jnT x y w hx hy
   ·exact jnU x y w hx hy
   ·exact jnV x y w hx hy
theorem jg2 (t x y:Int) (w:World) (h:chk t x=false∨chk t x=true∧chk t y=false):Calls Tryz.prog 31 #[.string ⟨#[68,105,118]⟩,.int .i64 t,.int .i64 x,.int .i64 y] w fun e w'=>e=.returned (.tuple #[.int .i64 0,.int .i64 1])∧∃ n,w'=w.drewN n:=by
 rcases h with hx | ⟨hx,hy⟩
 all_goals
  go_enter Tryz.func31,Tryz.ntmps31;go_wp2_with (first | (go_at_call 45;refine (jah _ _ _).mono ?_;rintro e w' ⟨rfl,rfl⟩));go_ret2;exact ⟨rfl,0,rfl⟩
theorem jnW (x y:Int) (w:World) (hx:chk 1 x=true) (hy:chk 1 y=true):Calls Tryz.prog 31 #[.string ⟨#[68,105,118]⟩,.int .i64 1,.int .i64 x,.int .i64 y] w fun e w'=>e=.returned (.tuple #[.int .i64 (bin 3 1 x y).1,.int .i64 (bin 3 1 x y).2])∧∃ n,w'=w.drewN n:=by
 rw [jfj 3 x y hx hy];go_enter Tryz.func31,Tryz.ntmps31;go_wp2_with (first | (go_at_call 45;refine (jah _ _ _).mono ?_;rintro e w' ⟨rfl,rfl⟩) | (go_at_call 50;refine (jaH _ _).mono ?_;rintro e w' ⟨rfl,rfl⟩) | (go_at_call 53;refine (div_f _ _ _).mono ?_;rintro e w' ⟨rfl,n,rfl⟩));go_ret2;exact ⟨rfl,_,rfl⟩
theorem jnX (x y:Int) (w:World) (hx:chk 6 x=true) (hy:chk 6 y=true):Calls Tryz.prog 31 #[.string ⟨#[68,105,118]⟩,.int .i64 6,.int .i64 x,.int .i64 y] w fun e w'=>e=.returned (.tuple #[.int .i64 (bin 3 6 x y).1,.int .i64 (bin 3 6 x y).2])∧∃ n,w'=w.drewN n:=by
 rw [jfk 3 x y hx hy]
 cases h0:(y==0) with
 | true =>
  have e0:binIn 3 6 x y=(0,7):=by simp at h0;simp [binIn,h0]
  rw [e0];clear e0;go_enter Tryz.func31,Tryz.ntmps31;go_wp2_with (first | (go_at_call 45;refine (jah _ _ _).mono ?_;rintro e w' ⟨rfl,rfl⟩) | (go_at_call 54;refine (jnH _ _ _ _ h0).mono ?_;rintro e w' ⟨rfl,rfl⟩));go_ret2;exact ⟨rfl,0,rfl⟩
 | false =>
  have e0:binIn 3 6 x y=(wrapT 6 (wrap64 (x.tdiv y)),0):=by simp at h0;simp [binIn,h0]
  rw [e0];clear e0;go_enter Tryz.func31,Tryz.ntmps31;go_wp2_with (first | (go_at_call 45;refine (jah _ _ _).mono ?_;rintro e w' ⟨rfl,rfl⟩) | (go_at_call 54;refine (jlj _ _ _ _ h0).mono ?_;rintro e w' ⟨rfl,rfl⟩));go_ret2;exact ⟨rfl,0,rfl⟩
theorem jnY (x y:Int) (w:World) (hx:chk 7 x=true) (hy:chk 7 y=true):Calls Tryz.prog 31 #[.string ⟨#[68,105,118]⟩,.int .i64 7,.int .i64 x,.int .i64 y] w fun e w'=>e=.returned (.tuple #[.int .i64 (bin 3 7 x y).1,.int .i64 (bin 3 7 x y).2])∧∃ n,w'=w.drewN n:=by
 rw [jfl 3 x y hx hy]
 cases h0:(y==0) with
 | true =>
  have e0:binIn 3 7 x y=(0,7):=by simp at h0;simp [binIn,h0]
  rw [e0];clear e0;go_enter Tryz.func31,Tryz.ntmps31;go_wp2_with (first | (go_at_call 45;refine (jah _ _ _).mono ?_;rintro e w' ⟨rfl,rfl⟩) | (go_at_call 54;refine (jnH _ _ _ _ h0).mono ?_;rintro e w' ⟨rfl,rfl⟩));go_ret2;exact ⟨rfl,0,rfl⟩
 | false =>
  have e0:binIn 3 7 x y=(wrapT 7 (wrap64 (x.tdiv y)),0):=by simp at h0;simp [binIn,h0]
  rw [e0];clear e0;go_enter Tryz.func31,Tryz.ntmps31;go_wp2_with (first | (go_at_call 45;refine (jah _ _ _).mono ?_;rintro e w' ⟨rfl,rfl⟩) | (go_at_call 54;refine (jlj _ _ _ _ h0).mono ?_;rintro e w' ⟨rfl,rfl⟩));go_ret2;exact ⟨rfl,0,rfl⟩
theorem jnZ (x y:Int) (w:World) (hx:chk 9 x=true) (hy:chk 9 y=true):Calls Tryz.prog 31 #[.string ⟨#[68,105,118]⟩,.int .i64 9,.int .i64 x,.int .i64 y] w fun e w'=>e=.returned (.tuple #[.int .i64 (bin 3 9 x y).1,.int .i64 (bin 3 9 x y).2])∧∃ n,w'=w.drewN n:=by
 rw [jfm 3 x y hx hy];go_enter Tryz.func31,Tryz.ntmps31;go_wp2_with (first | (go_at_call 45;refine (jah _ _ _).mono ?_;rintro e w' ⟨rfl,rfl⟩) | (go_at_call 55;refine (jtc _ _ _).mono ?_;rintro e w' ⟨rfl,rfl⟩));go_ret2;exact ⟨rfl,0,rfl⟩
theorem binary3 (t x y:Int) (w:World):Calls Tryz.prog 31 #[.string ⟨#[68,105,118]⟩,.int .i64 t,.int .i64 x,.int .i64 y] w fun e w'=>e=.returned (.tuple #[.int .i64 (bin 3 t x y).1,.int .i64 (bin 3 t x y).2])∧∃ n,w'=w.drewN n:=by
 cases hx:chk t x with
 | false=>rw [jcv 3 t x y hx];exact jg2 t x y w (.inl hx)
 | true =>
  cases hy:chk t y with
  | false=>rw [jcw 3 t x y hy];exact jg2 t x y w (.inr ⟨hx,hy⟩)
  | true =>
   rcases ja4 t x hx with rfl | rfl | rfl | rfl
   ·exact jnW x y w hx hy
   ·exact jnX x y w hx hy
   ·exact jnY x y w hx hy
   ·exact jnZ x y w hx hy
theorem jg3 (t x y:Int) (w:World) (h:chk t x=false∨chk t x=true∧chk t y=false):Calls Tryz.prog 31 #[.string ⟨#[77,97,120]⟩,.int .i64 t,.int .i64 x,.int .i64 y] w fun e w'=>e=.returned (.tuple #[.int .i64 0,.int .i64 1])∧∃ n,w'=w.drewN n:=by
 rcases h with hx | ⟨hx,hy⟩
 all_goals
  go_enter Tryz.func31,Tryz.ntmps31;go_wp2_with (first | (go_at_call 45;refine (jah _ _ _).mono ?_;rintro e w' ⟨rfl,rfl⟩));go_ret2;exact ⟨rfl,0,rfl⟩
theorem jn0 (x y:Int) (w:World) (hx:chk 1 x=true) (hy:chk 1 y=true):Calls Tryz.prog 31 #[.string ⟨#[77,97,120]⟩,.int .i64 1,.int .i64 x,.int .i64 y] w fun e w'=>e=.returned (.tuple #[.int .i64 (bin 4 1 x y).1,.int .i64 (bin 4 1 x y).2])∧∃ n,w'=w.drewN n:=by
 rw [jfj 4 x y hx hy];go_enter Tryz.func31,Tryz.ntmps31;go_wp2_with (first | (go_at_call 45;refine (jah _ _ _).mono ?_;rintro e w' ⟨rfl,rfl⟩) | (go_at_call 50;refine (jaH _ _).mono ?_;rintro e w' ⟨rfl,rfl⟩) | (go_at_call 53;refine (max_f _ _ _ (jcO _) (jcO _)).mono ?_;rintro e w' ⟨rfl,n,rfl⟩));go_ret2;exact ⟨rfl,_,rfl⟩
theorem jn1 (x y:Int) (w:World) (hx:chk 6 x=true) (hy:chk 6 y=true):Calls Tryz.prog 31 #[.string ⟨#[77,97,120]⟩,.int .i64 6,.int .i64 x,.int .i64 y] w fun e w'=>e=.returned (.tuple #[.int .i64 (bin 4 6 x y).1,.int .i64 (bin 4 6 x y).2])∧∃ n,w'=w.drewN n:=by
 rw [jfk 4 x y hx hy];go_enter Tryz.func31,Tryz.ntmps31;go_wp2_with (first | (go_at_call 45;refine (jah _ _ _).mono ?_;rintro e w' ⟨rfl,rfl⟩) | (go_at_call 54;refine (jsc _ _ _ _).mono ?_;rintro e w' ⟨rfl,rfl⟩));go_ret2;exact ⟨rfl,0,rfl⟩
theorem jn2 (x y:Int) (w:World) (hx:chk 7 x=true) (hy:chk 7 y=true):Calls Tryz.prog 31 #[.string ⟨#[77,97,120]⟩,.int .i64 7,.int .i64 x,.int .i64 y] w fun e w'=>e=.returned (.tuple #[.int .i64 (bin 4 7 x y).1,.int .i64 (bin 4 7 x y).2])∧∃ n,w'=w.drewN n:=by
 rw [jfl 4 x y hx hy];go_enter Tryz.func31,Tryz.ntmps31;go_wp2_with (first | (go_at_call 45;refine (jah _ _ _).mono ?_;rintro e w' ⟨rfl,rfl⟩) | (go_at_call 54;refine (jsc _ _ _ _).mono ?_;rintro e w' ⟨rfl,rfl⟩));go_ret2;exact ⟨rfl,0,rfl⟩
theorem jn3 (x y:Int) (w:World) (hx:chk 9 x=true) (hy:chk 9 y=true):Calls Tryz.prog 31 #[.string ⟨#[77,97,120]⟩,.int .i64 9,.int .i64 x,.int .i64 y] w fun e w'=>e=.returned (.tuple #[.int .i64 (bin 4 9 x y).1,.int .i64 (bin 4 9 x y).2])∧∃ n,w'=w.drewN n:=by
 rw [jfm 4 x y hx hy];go_enter Tryz.func31,Tryz.ntmps31;go_wp2_with (first | (go_at_call 45;refine (jah _ _ _).mono ?_;rintro e w' ⟨rfl,rfl⟩) | (go_at_call 55;refine (jtd _ _ _).mono ?_;rintro e w' ⟨rfl,rfl⟩));go_ret2;exact ⟨rfl,0,rfl⟩
theorem binary4 (t x y:Int) (w:World):Calls Tryz.prog 31 #[.string ⟨#[77,97,120]⟩,.int .i64 t,.int .i64 x,.int .i64 y] w fun e w'=>e=.returned (.tuple #[.int .i64 (bin 4 t x y).1,.int .i64 (bin 4 t x y).2])∧∃ n,w'=w.drewN n:=by
 cases hx:chk t x with
 | false=>rw [jcv 4 t x y hx];exact jg3 t x y w (.inl hx)
 | true =>
  cases hy:chk t y with
  | false=>rw [jcw 4 t x y hy];exact jg3 t x y w (.inr ⟨hx,hy⟩)
  | true =>
   rcases ja4 t x hx with rfl | rfl | rfl | rfl
   ·exact jn0 x y w hx hy
   ·exact jn1 x y w hx hy
   ·exact jn2 x y w hx hy
   ·exact jn3 x y w hx hy
theorem jg4 (t x y:Int) (w:World) (h:chk t x=false∨chk t x=true∧chk t y=false):Calls Tryz.prog 31 #[.string ⟨#[77,105,110]⟩,.int .i64 t,.int .i64 x,.int .i64 y] w fun e w'=>e=.returned (.tuple #[.int .i64 0,.int .i64 1])∧∃ n,w'=w.drewN n:=by
 rcases h with hx | ⟨hx,hy⟩
 all_goals
  go_enter Tryz.func31,Tryz.ntmps31;go_wp2_with (first | (go_at_call 45;refine (jah _ _ _).mono ?_;rintro e w' ⟨rfl,rfl⟩));go_ret2;exact ⟨rfl,0,rfl⟩
theorem jn4 (x y:Int) (w:World) (hx:chk 1 x=true) (hy:chk 1 y=true):Calls Tryz.prog 31 #[.string ⟨#[77,105,110]⟩,.int .i64 1,.int .i64 x,.int .i64 y] w fun e w'=>e=.returned (.tuple #[.int .i64 (bin 5 1 x y).1,.int .i64 (bin 5 1 x y).2])∧∃ n,w'=w.drewN n:=by
 rw [jfj 5 x y hx hy];go_enter Tryz.func31,Tryz.ntmps31;go_wp2_with (first | (go_at_call 45;refine (jah _ _ _).mono ?_;rintro e w' ⟨rfl,rfl⟩) | (go_at_call 50;refine (jaH _ _).mono ?_;rintro e w' ⟨rfl,rfl⟩) | (go_at_call 53;refine (min_f _ _ _ (jcO _) (jcO _)).mono ?_;rintro e w' ⟨rfl,n,rfl⟩));go_ret2;exact ⟨rfl,_,rfl⟩
theorem jn5 (x y:Int) (w:World) (hx:chk 6 x=true) (hy:chk 6 y=true):Calls Tryz.prog 31 #[.string ⟨#[77,105,110]⟩,.int .i64 6,.int .i64 x,.int .i64 y] w fun e w'=>e=.returned (.tuple #[.int .i64 (bin 5 6 x y).1,.int .i64 (bin 5 6 x y).2])∧∃ n,w'=w.drewN n:=by
 rw [jfk 5 x y hx hy];go_enter Tryz.func31,Tryz.ntmps31;go_wp2_with (first | (go_at_call 45;refine (jah _ _ _).mono ?_;rintro e w' ⟨rfl,rfl⟩) | (go_at_call 54;refine (jsd _ _ _ _).mono ?_;rintro e w' ⟨rfl,rfl⟩));go_ret2;exact ⟨rfl,0,rfl⟩
theorem jn6 (x y:Int) (w:World) (hx:chk 7 x=true) (hy:chk 7 y=true):Calls Tryz.prog 31 #[.string ⟨#[77,105,110]⟩,.int .i64 7,.int .i64 x,.int .i64 y] w fun e w'=>e=.returned (.tuple #[.int .i64 (bin 5 7 x y).1,.int .i64 (bin 5 7 x y).2])∧∃ n,w'=w.drewN n:=by
 rw [jfl 5 x y hx hy];go_enter Tryz.func31,Tryz.ntmps31;go_wp2_with (first | (go_at_call 45;refine (jah _ _ _).mono ?_;rintro e w' ⟨rfl,rfl⟩) | (go_at_call 54;refine (jsd _ _ _ _).mono ?_;rintro e w' ⟨rfl,rfl⟩));go_ret2;exact ⟨rfl,0,rfl⟩
theorem jn7 (x y:Int) (w:World) (hx:chk 9 x=true) (hy:chk 9 y=true):Calls Tryz.prog 31 #[.string ⟨#[77,105,110]⟩,.int .i64 9,.int .i64 x,.int .i64 y] w fun e w'=>e=.returned (.tuple #[.int .i64 (bin 5 9 x y).1,.int .i64 (bin 5 9 x y).2])∧∃ n,w'=w.drewN n:=by
 rw [jfm 5 x y hx hy];go_enter Tryz.func31,Tryz.ntmps31;go_wp2_with (first | (go_at_call 45;refine (jah _ _ _).mono ?_;rintro e w' ⟨rfl,rfl⟩) | (go_at_call 55;refine (jte _ _ _).mono ?_;rintro e w' ⟨rfl,rfl⟩));go_ret2;exact ⟨rfl,0,rfl⟩
theorem binary5 (t x y:Int) (w:World):Calls Tryz.prog 31 #[.string ⟨#[77,105,110]⟩,.int .i64 t,.int .i64 x,.int .i64 y] w fun e w'=>e=.returned (.tuple #[.int .i64 (bin 5 t x y).1,.int .i64 (bin 5 t x y).2])∧∃ n,w'=w.drewN n:=by
 cases hx:chk t x with
 | false=>rw [jcv 5 t x y hx];exact jg4 t x y w (.inl hx)
 | true =>
  cases hy:chk t y with
  | false=>rw [jcw 5 t x y hy];exact jg4 t x y w (.inr ⟨hx,hy⟩)
  | true =>
   rcases ja4 t x hx with rfl | rfl | rfl | rfl
   ·exact jn4 x y w hx hy
   ·exact jn5 x y w hx hy
   ·exact jn6 x y w hx hy
   ·exact jn7 x y w hx hy
theorem jg5 (t x y:Int) (w:World) (h:chk t x=false∨chk t x=true∧chk t y=false):Calls Tryz.prog 31 #[.string ⟨#[65,110,100]⟩,.int .i64 t,.int .i64 x,.int .i64 y] w fun e w'=>e=.returned (.tuple #[.int .i64 0,.int .i64 1])∧∃ n,w'=w.drewN n:=by
 rcases h with hx | ⟨hx,hy⟩
 all_goals
  go_enter Tryz.func31,Tryz.ntmps31;go_wp2_with (first | (go_at_call 45;refine (jah _ _ _).mono ?_;rintro e w' ⟨rfl,rfl⟩));go_ret2;exact ⟨rfl,0,rfl⟩
theorem jn8 (x y:Int) (w:World) (hx:chk 1 x=true) (hy:chk 1 y=true):Calls Tryz.prog 31 #[.string ⟨#[65,110,100]⟩,.int .i64 1,.int .i64 x,.int .i64 y] w fun e w'=>e=.returned (.tuple #[.int .i64 (bin 6 1 x y).1,.int .i64 (bin 6 1 x y).2])∧∃ n,w'=w.drewN n:=by
 rw [jfj 6 x y hx hy];go_enter Tryz.func31,Tryz.ntmps31;go_wp2_with (first | (go_at_call 45;refine (jah _ _ _).mono ?_;rintro e w' ⟨rfl,rfl⟩) | (go_at_call 50;refine (jaH _ _).mono ?_;rintro e w' ⟨rfl,rfl⟩) | (go_at_call 53;refine (no6_f _ _ _).mono ?_;rintro e w' ⟨rfl,n,rfl⟩));go_ret2;exact ⟨rfl,_,rfl⟩
theorem jn9 (x y:Int) (w:World) (hx:chk 6 x=true) (hy:chk 6 y=true):Calls Tryz.prog 31 #[.string ⟨#[65,110,100]⟩,.int .i64 6,.int .i64 x,.int .i64 y] w fun e w'=>e=.returned (.tuple #[.int .i64 (bin 6 6 x y).1,.int .i64 (bin 6 6 x y).2])∧∃ n,w'=w.drewN n:=by
 rw [jfk 6 x y hx hy];go_enter Tryz.func31,Tryz.ntmps31;go_wp2_with (first | (go_at_call 45;refine (jah _ _ _).mono ?_;rintro e w' ⟨rfl,rfl⟩) | (go_at_call 54;refine (jsf _ _ _ _).mono ?_;rintro e w' ⟨rfl,rfl⟩));go_ret2;exact ⟨rfl,0,rfl⟩
theorem joa (x y:Int) (w:World) (hx:chk 7 x=true) (hy:chk 7 y=true):Calls Tryz.prog 31 #[.string ⟨#[65,110,100]⟩,.int .i64 7,.int .i64 x,.int .i64 y] w fun e w'=>e=.returned (.tuple #[.int .i64 (bin 6 7 x y).1,.int .i64 (bin 6 7 x y).2])∧∃ n,w'=w.drewN n:=by
 rw [jfl 6 x y hx hy];go_enter Tryz.func31,Tryz.ntmps31;go_wp2_with (first | (go_at_call 45;refine (jah _ _ _).mono ?_;rintro e w' ⟨rfl,rfl⟩) | (go_at_call 54;refine (jsf _ _ _ _).mono ?_;rintro e w' ⟨rfl,rfl⟩));go_ret2;exact ⟨rfl,0,rfl⟩
theorem job (x y:Int) (w:World) (hx:chk 9 x=true) (hy:chk 9 y=true):Calls Tryz.prog 31 #[.string ⟨#[65,110,100]⟩,.int .i64 9,.int .i64 x,.int .i64 y] w fun e w'=>e=.returned (.tuple #[.int .i64 (bin 6 9 x y).1,.int .i64 (bin 6 9 x y).2])∧∃ n,w'=w.drewN n:=by
 rw [jfm 6 x y hx hy];go_enter Tryz.func31,Tryz.ntmps31;go_wp2_with (first | (go_at_call 45;refine (jah _ _ _).mono ?_;rintro e w' ⟨rfl,rfl⟩) | (go_at_call 55;refine (js5 _ _ _ (jsi _ hx) (jsi _ hy)).mono ?_;rintro e w' ⟨rfl,rfl⟩));go_ret2;exact ⟨rfl,0,rfl⟩
theorem binary6 (t x y:Int) (w:World):Calls Tryz.prog 31 #[.string ⟨#[65,110,100]⟩,.int .i64 t,.int .i64 x,.int .i64 y] w fun e w'=>e=.returned (.tuple #[.int .i64 (bin 6 t x y).1,.int .i64 (bin 6 t x y).2])∧∃ n,w'=w.drewN n:=by
 cases hx:chk t x with
 | false=>rw [jcv 6 t x y hx];exact jg5 t x y w (.inl hx)
 | true =>
  cases hy:chk t y with
  | false=>rw [jcw 6 t x y hy];exact jg5 t x y w (.inr ⟨hx,hy⟩)
  | true =>
   rcases ja4 t x hx with rfl | rfl | rfl | rfl
   ·exact jn8 x y w hx hy
   ·exact jn9 x y w hx hy
   ·exact joa x y w hx hy
   ·exact job x y w hx hy
theorem jg6 (t x y:Int) (w:World) (h:chk t x=false∨chk t x=true∧chk t y=false):Calls Tryz.prog 31 #[.string ⟨#[79,114]⟩,.int .i64 t,.int .i64 x,.int .i64 y] w fun e w'=>e=.returned (.tuple #[.int .i64 0,.int .i64 1])∧∃ n,w'=w.drewN n:=by
 rcases h with hx | ⟨hx,hy⟩
 all_goals
  go_enter Tryz.func31,Tryz.ntmps31;go_wp2_with (first | (go_at_call 45;refine (jah _ _ _).mono ?_;rintro e w' ⟨rfl,rfl⟩));go_ret2;exact ⟨rfl,0,rfl⟩
theorem joc (x y:Int) (w:World) (hx:chk 1 x=true) (hy:chk 1 y=true):Calls Tryz.prog 31 #[.string ⟨#[79,114]⟩,.int .i64 1,.int .i64 x,.int .i64 y] w fun e w'=>e=.returned (.tuple #[.int .i64 (bin 7 1 x y).1,.int .i64 (bin 7 1 x y).2])∧∃ n,w'=w.drewN n:=by
 rw [jfj 7 x y hx hy];go_enter Tryz.func31,Tryz.ntmps31;go_wp2_with (first | (go_at_call 45;refine (jah _ _ _).mono ?_;rintro e w' ⟨rfl,rfl⟩) | (go_at_call 50;refine (jaH _ _).mono ?_;rintro e w' ⟨rfl,rfl⟩) | (go_at_call 53;refine (no7_f _ _ _).mono ?_;rintro e w' ⟨rfl,n,rfl⟩));go_ret2;exact ⟨rfl,_,rfl⟩
theorem jod (x y:Int) (w:World) (hx:chk 6 x=true) (hy:chk 6 y=true):Calls Tryz.prog 31 #[.string ⟨#[79,114]⟩,.int .i64 6,.int .i64 x,.int .i64 y] w fun e w'=>e=.returned (.tuple #[.int .i64 (bin 7 6 x y).1,.int .i64 (bin 7 6 x y).2])∧∃ n,w'=w.drewN n:=by
 rw [jfk 7 x y hx hy];go_enter Tryz.func31,Tryz.ntmps31;go_wp2_with (first | (go_at_call 45;refine (jah _ _ _).mono ?_;rintro e w' ⟨rfl,rfl⟩) | (go_at_call 54;refine (jsg _ _ _ _).mono ?_;rintro e w' ⟨rfl,rfl⟩));go_ret2;exact ⟨rfl,0,rfl⟩
theorem joe (x y:Int) (w:World) (hx:chk 7 x=true) (hy:chk 7 y=true):Calls Tryz.prog 31 #[.string ⟨#[79,114]⟩,.int .i64 7,.int .i64 x,.int .i64 y] w fun e w'=>e=.returned (.tuple #[.int .i64 (bin 7 7 x y).1,.int .i64 (bin 7 7 x y).2])∧∃ n,w'=w.drewN n:=by
 rw [jfl 7 x y hx hy];go_enter Tryz.func31,Tryz.ntmps31;go_wp2_with (first | (go_at_call 45;refine (jah _ _ _).mono ?_;rintro e w' ⟨rfl,rfl⟩) | (go_at_call 54;refine (jsg _ _ _ _).mono ?_;rintro e w' ⟨rfl,rfl⟩));go_ret2;exact ⟨rfl,0,rfl⟩
theorem jof (x y:Int) (w:World) (hx:chk 9 x=true) (hy:chk 9 y=true):Calls Tryz.prog 31 #[.string ⟨#[79,114]⟩,.int .i64 9,.int .i64 x,.int .i64 y] w fun e w'=>e=.returned (.tuple #[.int .i64 (bin 7 9 x y).1,.int .i64 (bin 7 9 x y).2])∧∃ n,w'=w.drewN n:=by
 rw [jfm 7 x y hx hy];go_enter Tryz.func31,Tryz.ntmps31;go_wp2_with (first | (go_at_call 45;refine (jah _ _ _).mono ?_;rintro e w' ⟨rfl,rfl⟩) | (go_at_call 55;refine (js6 _ _ _ (jsi _ hx) (jsi _ hy)).mono ?_;rintro e w' ⟨rfl,rfl⟩));go_ret2;exact ⟨rfl,0,rfl⟩
theorem binary7 (t x y:Int) (w:World):Calls Tryz.prog 31 #[.string ⟨#[79,114]⟩,.int .i64 t,.int .i64 x,.int .i64 y] w fun e w'=>e=.returned (.tuple #[.int .i64 (bin 7 t x y).1,.int .i64 (bin 7 t x y).2])∧∃ n,w'=w.drewN n:=by
 cases hx:chk t x with
 | false=>rw [jcv 7 t x y hx];exact jg6 t x y w (.inl hx)
 | true =>
  cases hy:chk t y with
  | false=>rw [jcw 7 t x y hy];exact jg6 t x y w (.inr ⟨hx,hy⟩)
  | true =>
   rcases ja4 t x hx with rfl | rfl | rfl | rfl
   ·exact joc x y w hx hy
   ·exact jod x y w hx hy
   ·exact joe x y w hx hy
   ·exact jof x y w hx hy
theorem jg7 (t x y:Int) (w:World) (h:chk t x=false∨chk t x=true∧chk t y=false):Calls Tryz.prog 31 #[.string ⟨#[88,111,114]⟩,.int .i64 t,.int .i64 x,.int .i64 y] w fun e w'=>e=.returned (.tuple #[.int .i64 0,.int .i64 1])∧∃ n,w'=w.drewN n:=by
 rcases h with hx | ⟨hx,hy⟩
 all_goals
  go_enter Tryz.func31,Tryz.ntmps31;go_wp2_with (first | (go_at_call 45;refine (jah _ _ _).mono ?_;rintro e w' ⟨rfl,rfl⟩));go_ret2;exact ⟨rfl,0,rfl⟩
theorem jog (x y:Int) (w:World) (hx:chk 1 x=true) (hy:chk 1 y=true):Calls Tryz.prog 31 #[.string ⟨#[88,111,114]⟩,.int .i64 1,.int .i64 x,.int .i64 y] w fun e w'=>e=.returned (.tuple #[.int .i64 (bin 8 1 x y).1,.int .i64 (bin 8 1 x y).2])∧∃ n,w'=w.drewN n:=by
 rw [jfj 8 x y hx hy];go_enter Tryz.func31,Tryz.ntmps31;go_wp2_with (first | (go_at_call 45;refine (jah _ _ _).mono ?_;rintro e w' ⟨rfl,rfl⟩) | (go_at_call 50;refine (jaH _ _).mono ?_;rintro e w' ⟨rfl,rfl⟩) | (go_at_call 53;refine (no8_f _ _ _).mono ?_;rintro e w' ⟨rfl,n,rfl⟩));go_ret2;exact ⟨rfl,_,rfl⟩
theorem joh (x y:Int) (w:World) (hx:chk 6 x=true) (hy:chk 6 y=true):Calls Tryz.prog 31 #[.string ⟨#[88,111,114]⟩,.int .i64 6,.int .i64 x,.int .i64 y] w fun e w'=>e=.returned (.tuple #[.int .i64 (bin 8 6 x y).1,.int .i64 (bin 8 6 x y).2])∧∃ n,w'=w.drewN n:=by
 rw [jfk 8 x y hx hy];go_enter Tryz.func31,Tryz.ntmps31;go_wp2_with (first | (go_at_call 45;refine (jah _ _ _).mono ?_;rintro e w' ⟨rfl,rfl⟩) | (go_at_call 54;refine (jsh _ _ _ _).mono ?_;rintro e w' ⟨rfl,rfl⟩));go_ret2;exact ⟨rfl,0,rfl⟩
theorem joi (x y:Int) (w:World) (hx:chk 7 x=true) (hy:chk 7 y=true):Calls Tryz.prog 31 #[.string ⟨#[88,111,114]⟩,.int .i64 7,.int .i64 x,.int .i64 y] w fun e w'=>e=.returned (.tuple #[.int .i64 (bin 8 7 x y).1,.int .i64 (bin 8 7 x y).2])∧∃ n,w'=w.drewN n:=by
 rw [jfl 8 x y hx hy];go_enter Tryz.func31,Tryz.ntmps31;go_wp2_with (first | (go_at_call 45;refine (jah _ _ _).mono ?_;rintro e w' ⟨rfl,rfl⟩) | (go_at_call 54;refine (jsh _ _ _ _).mono ?_;rintro e w' ⟨rfl,rfl⟩));go_ret2;exact ⟨rfl,0,rfl⟩
theorem joj (x y:Int) (w:World) (hx:chk 9 x=true) (hy:chk 9 y=true):Calls Tryz.prog 31 #[.string ⟨#[88,111,114]⟩,.int .i64 9,.int .i64 x,.int .i64 y] w fun e w'=>e=.returned (.tuple #[.int .i64 (bin 8 9 x y).1,.int .i64 (bin 8 9 x y).2])∧∃ n,w'=w.drewN n:=by
 rw [jfm 8 x y hx hy];go_enter Tryz.func31,Tryz.ntmps31;go_wp2_with (first | (go_at_call 45;refine (jah _ _ _).mono ?_;rintro e w' ⟨rfl,rfl⟩) | (go_at_call 55;refine (js7 _ _ _ (jsi _ hx) (jsi _ hy)).mono ?_;rintro e w' ⟨rfl,rfl⟩));go_ret2;exact ⟨rfl,0,rfl⟩
theorem binary8 (t x y:Int) (w:World):Calls Tryz.prog 31 #[.string ⟨#[88,111,114]⟩,.int .i64 t,.int .i64 x,.int .i64 y] w fun e w'=>e=.returned (.tuple #[.int .i64 (bin 8 t x y).1,.int .i64 (bin 8 t x y).2])∧∃ n,w'=w.drewN n:=by
 cases hx:chk t x with
 | false=>rw [jcv 8 t x y hx];exact jg7 t x y w (.inl hx)
 | true =>
  cases hy:chk t y with
  | false=>rw [jcw 8 t x y hy];exact jg7 t x y w (.inr ⟨hx,hy⟩)
  | true =>
   rcases ja4 t x hx with rfl | rfl | rfl | rfl
   ·exact jog x y w hx hy
   ·exact joh x y w hx hy
   ·exact joi x y w hx hy
   ·exact joj x y w hx hy
theorem jg8 (t x y:Int) (w:World) (h:chk t x=false∨chk t x=true∧chk t y=false):Calls Tryz.prog 31 #[.string ⟨#[69,113,117,97,108]⟩,.int .i64 t,.int .i64 x,.int .i64 y] w fun e w'=>e=.returned (.tuple #[.int .i64 0,.int .i64 1])∧∃ n,w'=w.drewN n:=by
 rcases h with hx | ⟨hx,hy⟩
 all_goals
  go_enter Tryz.func31,Tryz.ntmps31;go_wp2_with (first | (go_at_call 45;refine (jah _ _ _).mono ?_;rintro e w' ⟨rfl,rfl⟩));go_ret2;exact ⟨rfl,0,rfl⟩
theorem jok (x y:Int) (w:World) (hx:chk 1 x=true) (hy:chk 1 y=true):Calls Tryz.prog 31 #[.string ⟨#[69,113,117,97,108]⟩,.int .i64 1,.int .i64 x,.int .i64 y] w fun e w'=>e=.returned (.tuple #[.int .i64 (bin 9 1 x y).1,.int .i64 (bin 9 1 x y).2])∧∃ n,w'=w.drewN n:=by
 rw [jfj 9 x y hx hy];go_enter Tryz.func31,Tryz.ntmps31;go_wp2_with (first | (go_at_call 45;refine (jah _ _ _).mono ?_;rintro e w' ⟨rfl,rfl⟩) | (go_at_call 50;refine (jaH _ _).mono ?_;rintro e w' ⟨rfl,rfl⟩) | (go_at_call 53;refine (juF _ _ _).mono ?_;rintro e w' ⟨rfl,n,rfl⟩));go_ret2;exact ⟨rfl,_,rfl⟩
theorem jol (x y:Int) (w:World) (hx:chk 6 x=true) (hy:chk 6 y=true):Calls Tryz.prog 31 #[.string ⟨#[69,113,117,97,108]⟩,.int .i64 6,.int .i64 x,.int .i64 y] w fun e w'=>e=.returned (.tuple #[.int .i64 (bin 9 6 x y).1,.int .i64 (bin 9 6 x y).2])∧∃ n,w'=w.drewN n:=by
 rw [jfk 9 x y hx hy];go_enter Tryz.func31,Tryz.ntmps31;go_wp2_with (first | (go_at_call 45;refine (jah _ _ _).mono ?_;rintro e w' ⟨rfl,rfl⟩) | (go_at_call 54;refine (jse _ _ _ _).mono ?_;rintro e w' ⟨rfl,rfl⟩));go_ret2;exact ⟨rfl,0,rfl⟩
theorem jom (x y:Int) (w:World) (hx:chk 7 x=true) (hy:chk 7 y=true):Calls Tryz.prog 31 #[.string ⟨#[69,113,117,97,108]⟩,.int .i64 7,.int .i64 x,.int .i64 y] w fun e w'=>e=.returned (.tuple #[.int .i64 (bin 9 7 x y).1,.int .i64 (bin 9 7 x y).2])∧∃ n,w'=w.drewN n:=by
 rw [jfl 9 x y hx hy];go_enter Tryz.func31,Tryz.ntmps31;go_wp2_with (first | (go_at_call 45;refine (jah _ _ _).mono ?_;rintro e w' ⟨rfl,rfl⟩) | (go_at_call 54;refine (jse _ _ _ _).mono ?_;rintro e w' ⟨rfl,rfl⟩));go_ret2;exact ⟨rfl,0,rfl⟩
theorem jon (x y:Int) (w:World) (hx:chk 9 x=true) (hy:chk 9 y=true):Calls Tryz.prog 31 #[.string ⟨#[69,113,117,97,108]⟩,.int .i64 9,.int .i64 x,.int .i64 y] w fun e w'=>e=.returned (.tuple #[.int .i64 (bin 9 9 x y).1,.int .i64 (bin 9 9 x y).2])∧∃ n,w'=w.drewN n:=by
 rw [jfm 9 x y hx hy];go_enter Tryz.func31,Tryz.ntmps31;go_wp2_with (first | (go_at_call 45;refine (jah _ _ _).mono ?_;rintro e w' ⟨rfl,rfl⟩) | (go_at_call 55;refine (js8 _ _ _).mono ?_;rintro e w' ⟨rfl,rfl⟩));go_ret2;exact ⟨rfl,0,rfl⟩
theorem binary9 (t x y:Int) (w:World):Calls Tryz.prog 31 #[.string ⟨#[69,113,117,97,108]⟩,.int .i64 t,.int .i64 x,.int .i64 y] w fun e w'=>e=.returned (.tuple #[.int .i64 (bin 9 t x y).1,.int .i64 (bin 9 t x y).2])∧∃ n,w'=w.drewN n:=by
 cases hx:chk t x with
 | false=>rw [jcv 9 t x y hx];exact jg8 t x y w (.inl hx)
 | true =>
  cases hy:chk t y with
  | false=>rw [jcw 9 t x y hy];exact jg8 t x y w (.inr ⟨hx,hy⟩)
  | true =>
   rcases ja4 t x hx with rfl | rfl | rfl | rfl
   ·exact jok x y w hx hy
   ·exact jol x y w hx hy
   ·exact jom x y w hx hy
   ·exact jon x y w hx hy
theorem jfV (t x y:Int) (w:World) (h:chk t x=false∨chk t x=true∧chk t y=false):Calls Tryz.prog 31 #[.string ⟨#[76,101,115,115]⟩,.int .i64 t,.int .i64 x,.int .i64 y] w fun e w'=>e=.returned (.tuple #[.int .i64 0,.int .i64 1])∧∃ n,w'=w.drewN n:=by
 rcases h with hx | ⟨hx,hy⟩
 all_goals
  go_enter Tryz.func31,Tryz.ntmps31;go_wp2_with (first | (go_at_call 45;refine (jah _ _ _).mono ?_;rintro e w' ⟨rfl,rfl⟩));go_ret2;exact ⟨rfl,0,rfl⟩
theorem jl4 (x y:Int) (w:World) (hx:chk 1 x=true) (hy:chk 1 y=true):Calls Tryz.prog 31 #[.string ⟨#[76,101,115,115]⟩,.int .i64 1,.int .i64 x,.int .i64 y] w fun e w'=>e=.returned (.tuple #[.int .i64 (bin 10 1 x y).1,.int .i64 (bin 10 1 x y).2])∧∃ n,w'=w.drewN n:=by
 rw [jfj 10 x y hx hy];go_enter Tryz.func31,Tryz.ntmps31;go_wp2_with (first | (go_at_call 45;refine (jah _ _ _).mono ?_;rintro e w' ⟨rfl,rfl⟩) | (go_at_call 50;refine (jaH _ _).mono ?_;rintro e w' ⟨rfl,rfl⟩) | (go_at_call 53;refine (js3 _ _ _).mono ?_;rintro e w' ⟨rfl,n,rfl⟩));go_ret2;exact ⟨rfl,_,rfl⟩
theorem jl5 (x y:Int) (w:World) (hx:chk 6 x=true) (hy:chk 6 y=true):Calls Tryz.prog 31 #[.string ⟨#[76,101,115,115]⟩,.int .i64 6,.int .i64 x,.int .i64 y] w fun e w'=>e=.returned (.tuple #[.int .i64 (bin 10 6 x y).1,.int .i64 (bin 10 6 x y).2])∧∃ n,w'=w.drewN n:=by
 rw [jfk 10 x y hx hy];go_enter Tryz.func31,Tryz.ntmps31;go_wp2_with (first | (go_at_call 45;refine (jah _ _ _).mono ?_;rintro e w' ⟨rfl,rfl⟩) | (go_at_call 54;refine (jnI _ _ _ _).mono ?_;rintro e w' ⟨rfl,rfl⟩));go_ret2;exact ⟨rfl,0,rfl⟩
theorem jl6 (x y:Int) (w:World) (hx:chk 7 x=true) (hy:chk 7 y=true):Calls Tryz.prog 31 #[.string ⟨#[76,101,115,115]⟩,.int .i64 7,.int .i64 x,.int .i64 y] w fun e w'=>e=.returned (.tuple #[.int .i64 (bin 10 7 x y).1,.int .i64 (bin 10 7 x y).2])∧∃ n,w'=w.drewN n:=by
 rw [jfl 10 x y hx hy];go_enter Tryz.func31,Tryz.ntmps31;go_wp2_with (first | (go_at_call 45;refine (jah _ _ _).mono ?_;rintro e w' ⟨rfl,rfl⟩) | (go_at_call 54;refine (jnI _ _ _ _).mono ?_;rintro e w' ⟨rfl,rfl⟩));go_ret2;exact ⟨rfl,0,rfl⟩
theorem jl7 (x y:Int) (w:World) (hx:chk 9 x=true) (hy:chk 9 y=true):Calls Tryz.prog 31 #[.string ⟨#[76,101,115,115]⟩,.int .i64 9,.int .i64 x,.int .i64 y] w fun e w'=>e=.returned (.tuple #[.int .i64 (bin 10 9 x y).1,.int .i64 (bin 10 9 x y).2])∧∃ n,w'=w.drewN n:=by
 rw [jfm 10 x y hx hy];go_enter Tryz.func31,Tryz.ntmps31;go_wp2_with (first | (go_at_call 45;refine (jah _ _ _).mono ?_;rintro e w' ⟨rfl,rfl⟩) | (go_at_call 55;refine (jqN _ _ _).mono ?_;rintro e w' ⟨rfl,rfl⟩));go_ret2;exact ⟨rfl,0,rfl⟩
theorem binary10 (t x y:Int) (w:World):Calls Tryz.prog 31 #[.string ⟨#[76,101,115,115]⟩,.int .i64 t,.int .i64 x,.int .i64 y] w fun e w'=>e=.returned (.tuple #[.int .i64 (bin 10 t x y).1,.int .i64 (bin 10 t x y).2])∧∃ n,w'=w.drewN n:=by
 cases hx:chk t x with
 | false=>rw [jcv 10 t x y hx];exact jfV t x y w (.inl hx)
 | true =>
  cases hy:chk t y with
  | false=>rw [jcw 10 t x y hy];exact jfV t x y w (.inr ⟨hx,hy⟩)
  | true =>
   rcases ja4 t x hx with rfl | rfl | rfl | rfl
   ·exact jl4 x y w hx hy
   ·exact jl5 x y w hx hy
   ·exact jl6 x y w hx hy
   ·exact jl7 x y w hx hy
theorem jfW (t x y:Int) (w:World) (h:chk t x=false∨chk t x=true∧chk t y=false):Calls Tryz.prog 31 #[.string ⟨#[71,114,101,97,116,101,114]⟩,.int .i64 t,.int .i64 x,.int .i64 y] w fun e w'=>e=.returned (.tuple #[.int .i64 0,.int .i64 1])∧∃ n,w'=w.drewN n:=by
 rcases h with hx | ⟨hx,hy⟩
 all_goals
  go_enter Tryz.func31,Tryz.ntmps31;go_wp2_with (first | (go_at_call 45;refine (jah _ _ _).mono ?_;rintro e w' ⟨rfl,rfl⟩));go_ret2;exact ⟨rfl,0,rfl⟩
theorem jl8 (x y:Int) (w:World) (hx:chk 1 x=true) (hy:chk 1 y=true):Calls Tryz.prog 31 #[.string ⟨#[71,114,101,97,116,101,114]⟩,.int .i64 1,.int .i64 x,.int .i64 y] w fun e w'=>e=.returned (.tuple #[.int .i64 (bin 11 1 x y).1,.int .i64 (bin 11 1 x y).2])∧∃ n,w'=w.drewN n:=by
 rw [jfj 11 x y hx hy];go_enter Tryz.func31,Tryz.ntmps31;go_wp2_with (first | (go_at_call 45;refine (jah _ _ _).mono ?_;rintro e w' ⟨rfl,rfl⟩) | (go_at_call 50;refine (jaH _ _).mono ?_;rintro e w' ⟨rfl,rfl⟩) | (go_at_call 53;refine (js4 _ _ _).mono ?_;rintro e w' ⟨rfl,n,rfl⟩));go_ret2;exact ⟨rfl,_,rfl⟩
theorem jl9 (x y:Int) (w:World) (hx:chk 6 x=true) (hy:chk 6 y=true):Calls Tryz.prog 31 #[.string ⟨#[71,114,101,97,116,101,114]⟩,.int .i64 6,.int .i64 x,.int .i64 y] w fun e w'=>e=.returned (.tuple #[.int .i64 (bin 11 6 x y).1,.int .i64 (bin 11 6 x y).2])∧∃ n,w'=w.drewN n:=by
 rw [jfk 11 x y hx hy];go_enter Tryz.func31,Tryz.ntmps31;go_wp2_with (first | (go_at_call 45;refine (jah _ _ _).mono ?_;rintro e w' ⟨rfl,rfl⟩) | (go_at_call 54;refine (jnJ _ _ _ _).mono ?_;rintro e w' ⟨rfl,rfl⟩));go_ret2;exact ⟨rfl,0,rfl⟩
theorem jma (x y:Int) (w:World) (hx:chk 7 x=true) (hy:chk 7 y=true):Calls Tryz.prog 31 #[.string ⟨#[71,114,101,97,116,101,114]⟩,.int .i64 7,.int .i64 x,.int .i64 y] w fun e w'=>e=.returned (.tuple #[.int .i64 (bin 11 7 x y).1,.int .i64 (bin 11 7 x y).2])∧∃ n,w'=w.drewN n:=by
 rw [jfl 11 x y hx hy];go_enter Tryz.func31,Tryz.ntmps31;go_wp2_with (first | (go_at_call 45;refine (jah _ _ _).mono ?_;rintro e w' ⟨rfl,rfl⟩) | (go_at_call 54;refine (jnJ _ _ _ _).mono ?_;rintro e w' ⟨rfl,rfl⟩));go_ret2;exact ⟨rfl,0,rfl⟩
theorem jmb (x y:Int) (w:World) (hx:chk 9 x=true) (hy:chk 9 y=true):Calls Tryz.prog 31 #[.string ⟨#[71,114,101,97,116,101,114]⟩,.int .i64 9,.int .i64 x,.int .i64 y] w fun e w'=>e=.returned (.tuple #[.int .i64 (bin 11 9 x y).1,.int .i64 (bin 11 9 x y).2])∧∃ n,w'=w.drewN n:=by
 rw [jfm 11 x y hx hy];go_enter Tryz.func31,Tryz.ntmps31;go_wp2_with (first | (go_at_call 45;refine (jah _ _ _).mono ?_;rintro e w' ⟨rfl,rfl⟩) | (go_at_call 55;refine (jqO _ _ _).mono ?_;rintro e w' ⟨rfl,rfl⟩));go_ret2;exact ⟨rfl,0,rfl⟩
theorem binary11 (t x y:Int) (w:World):Calls Tryz.prog 31 #[.string ⟨#[71,114,101,97,116,101,114]⟩,.int .i64 t,.int .i64 x,.int .i64 y] w fun e w'=>e=.returned (.tuple #[.int .i64 (bin 11 t x y).1,.int .i64 (bin 11 t x y).2])∧∃ n,w'=w.drewN n:=by
 cases hx:chk t x with
 | false=>rw [jcv 11 t x y hx];exact jfW t x y w (.inl hx)
 | true =>
  cases hy:chk t y with
  | false=>rw [jcw 11 t x y hy];exact jfW t x y w (.inr ⟨hx,hy⟩)
  | true =>
   rcases ja4 t x hx with rfl | rfl | rfl | rfl
   ·exact jl8 x y w hx hy
   ·exact jl9 x y w hx hy
   ·exact jma x y w hx hy
   ·exact jmb x y w hx hy
end Go.Proofs.YteigfipgmghgmaaGreatDoor.Nu
