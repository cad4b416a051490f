/- A part. -/
import Derived.Test.YteigfipgmghgmaaGreatDoorVartBI
import Derived.Test.YteigfipgmghgmaaGreatDoorVartBJ
import Derived.Test.YteigfipgmghgmaaGreatDoorVartBL
import Derived.Test.YteigfipgmghgmaaGreatDoorVartAT
set_option maxHeartbeats 8000000
set_option maxRecDepth 100000
namespace Go.Proofs.YteigfipgmghgmaaGreatDoor
open Go.RowKit
theorem jvc (b:Nat) (hb:b<4294967296) (w:World):W64 (Nu.sqB b):=by
 obtain ⟨r,n,-,hr⟩:=Nu.ext_sqrtS_ex (Nu.cval .f32 .f64 b w) w;rw [← Nu.sq_all b hb w w r hr];exact jbx _ (Nu.cval_lt _ _)
theorem jvd (b:Nat) (hb:b<4294967296):W64 (Nu.flB b):=by
 unfold Nu.flB
 split
 ·exact ⟨by decide,by decide⟩
 ·rename_i h
  by_cases h2:b % 2147483648<2139095040
  ·have:=(Nu.flW_fin b hb h2).1;exact ⟨by omega,by omega⟩
  ·have : Nu.flW b < 4294967296 := by
     rcases (show b=2139095040∨b=4286578688 by omega) with rfl | rfl
     ·exact (show Nu.flW 2139095040<4294967296 by decide +kernel)
     ·exact (show Nu.flW 4286578688<4294967296 by decide +kernel)
   exact ⟨by omega,by omega⟩
theorem jve (e:Nat):W64 (Nu.sgI e):=by
 unfold Nu.sgI
 split
 ·exact jdO _ _ _
 ·exact ⟨by decide,by decide⟩
theorem jvf (b:Nat) (hb:b<4294967296):W64 (Nu.thI b):=by
 unfold Nu.thI
 split
 ·exact ⟨by decide,by decide⟩
 ·split
  ·have:=Nu.wsF_lt 1065353216 b hb;exact ⟨by omega,by omega⟩
  ·have:=Nu.wsF_lt (Nu.qT (Nu.absF b)) b hb;exact ⟨by omega,by omega⟩
def k1 (op:ByteArray):Nat:=([[73,100,101,110,116,105,116,121],[78,101,103],[65,98,115],[78,111,116],[82,101,108,117],[83,113,114,116],[70,108,111,111,114],[69,120,112],[83,105,103,109,111,105,100],[84,97,110,104]]:List (List UInt8)).idxOf op.toList
def uX (k:Nat) (x:Int):Int:=match k with
 | 5=>Nu.sqB (Nu.fb x)
 | 6=>Nu.flB (Nu.fb x)
 | 7=>Nu.tob (Nu.exW (Nu.fb x))
 | 8=>Nu.sgI (Nu.exW (Nu.negF (Nu.fb x)))
 | _=>Nu.thI (Nu.fb x)
def unX (k:Nat) (t x:Int):Int×Int:=if k<5 then Nu.un k t x else if Nu.chk t x=true then (uX k x,0) else (0,1)
theorem jjx (k:Nat) (x:Int) (w:World):W64 (uX k x):=by
 unfold uX
 split
 ·exact jvc _ (jej x) w
 ·exact jvd _ (jej x)
 ·exact jbx _ (Nu.exW_lt _ (jej x))
 ·exact jve _
 ·exact jvf _ (jej x)
theorem un_x (op:ByteArray) (hop:op∈([⟨#[73,100,101,110,116,105,116,121]⟩,⟨#[78,101,103]⟩,⟨#[65,98,115]⟩,⟨#[78,111,116]⟩,⟨#[82,101,108,117]⟩,⟨#[83,113,114,116]⟩,⟨#[70,108,111,111,114]⟩,⟨#[69,120,112]⟩,⟨#[83,105,103,109,111,105,100]⟩,⟨#[84,97,110,104]⟩]:List ByteArray)) (t x:Int) (hx:W64 x) (hf:op∈([⟨#[83,113,114,116]⟩,⟨#[70,108,111,111,114]⟩,⟨#[69,120,112]⟩,⟨#[83,105,103,109,111,105,100]⟩,⟨#[84,97,110,104]⟩]:List ByteArray)→t=1) (w:World):Calls Tryz.prog 29 #[.string op,.int .i64 t,.int .i64 x] w (jri (unX (k1 op) t x) w):=by
 simp only [List.mem_cons,List.not_mem_nil,or_false] at hop
 rcases hop with rfl | rfl | rfl | rfl | rfl | rfl | rfl | rfl | rfl | rfl
 ·rw [show k1 ⟨#[73,100,101,110,116,105,116,121]⟩=0 by kernel_rfl,show unX 0 t x=Nu.un 0 t x from if_pos (by omega)];refine (Nu.unary0 t x w).mono ?_;rintro e w' ⟨rfl,rfl⟩;exact ⟨rfl,fun _=>jjv 0 t x hx,0,rfl⟩
 ·rw [show k1 ⟨#[78,101,103]⟩=1 by kernel_rfl,show unX 1 t x=Nu.un 1 t x from if_pos (by omega)];refine (Nu.unary1 t x w).mono ?_;rintro e w' ⟨rfl,rfl⟩;exact ⟨rfl,fun _=>jjv 1 t x hx,0,rfl⟩
 ·rw [show k1 ⟨#[65,98,115]⟩=2 by kernel_rfl,show unX 2 t x=Nu.un 2 t x from if_pos (by omega)];refine (Nu.unary2 t x w).mono ?_;rintro e w' ⟨rfl,rfl⟩;exact ⟨rfl,fun _=>jjv 2 t x hx,0,rfl⟩
 ·rw [show k1 ⟨#[78,111,116]⟩=3 by kernel_rfl,show unX 3 t x=Nu.un 3 t x from if_pos (by omega)];refine (Nu.unary3 t x w).mono ?_;rintro e w' ⟨rfl,rfl⟩;exact ⟨rfl,fun _=>jjv 3 t x hx,0,rfl⟩
 ·rw [show k1 ⟨#[82,101,108,117]⟩=4 by kernel_rfl,show unX 4 t x=Nu.un 4 t x from if_pos (by omega)];refine (Nu.unary4 t x w).mono ?_;rintro e w' ⟨rfl,rfl⟩;exact ⟨rfl,fun _=>jjv 4 t x hx,0,rfl⟩
 ·obtain rfl:t=1:=hf (by simp);rw [show k1 ⟨#[83,113,114,116]⟩=5 by kernel_rfl];unfold unX;rw [if_neg (by omega)]
  by_cases hc:Nu.chk 1 x=true
  ·rw [if_pos hc];refine (Nu.unaryF5 x w hc).mono ?_;rintro e w' ⟨rfl,q,rfl⟩;exact ⟨rfl,fun _=>jjx 5 x w,q,rfl⟩
  ·rw [if_neg hc];have hc':Nu.chk 1 x=false:=by simpa using hc
   refine (Nu.unary5_no 1 x w hc').mono ?_;rintro e w' ⟨rfl,rfl⟩;rw [Nu.un_no 5 1 x hc'];exact ⟨rfl,fun h=>absurd h (by decide),0,rfl⟩
 ·obtain rfl:t=1:=hf (by simp);rw [show k1 ⟨#[70,108,111,111,114]⟩=6 by kernel_rfl];unfold unX;rw [if_neg (by omega)]
  by_cases hc:Nu.chk 1 x=true
  ·rw [if_pos hc];refine (Nu.unaryF6 x w hc).mono ?_;rintro e w' ⟨rfl,q,rfl⟩;exact ⟨rfl,fun _=>jjx 6 x w,q,rfl⟩
  ·rw [if_neg hc];have hc':Nu.chk 1 x=false:=by simpa using hc
   refine (Nu.unary6_no 1 x w hc').mono ?_;rintro e w' ⟨rfl,rfl⟩;rw [Nu.un_no 6 1 x hc'];exact ⟨rfl,fun h=>absurd h (by decide),0,rfl⟩
 ·obtain rfl:t=1:=hf (by simp);rw [show k1 ⟨#[69,120,112]⟩=7 by kernel_rfl];unfold unX;rw [if_neg (by omega)]
  by_cases hc:Nu.chk 1 x=true
  ·rw [if_pos hc];refine (Nu.unaryF7 x w hc).mono ?_;rintro e w' ⟨rfl,q,rfl⟩;exact ⟨rfl,fun _=>jjx 7 x w,q,rfl⟩
  ·rw [if_neg hc];have hc':Nu.chk 1 x=false:=by simpa using hc
   refine (Nu.unary7_no 1 x w hc').mono ?_;rintro e w' ⟨rfl,rfl⟩;rw [Nu.un_no 7 1 x hc'];exact ⟨rfl,fun h=>absurd h (by decide),0,rfl⟩
 ·obtain rfl:t=1:=hf (by simp);rw [show k1 ⟨#[83,105,103,109,111,105,100]⟩=8 by kernel_rfl];unfold unX;rw [if_neg (by omega)]
  by_cases hc:Nu.chk 1 x=true
  ·rw [if_pos hc];refine (Nu.unaryF8 x w hc).mono ?_;rintro e w' ⟨rfl,q,rfl⟩;exact ⟨rfl,fun _=>jjx 8 x w,q,rfl⟩
  ·rw [if_neg hc];have hc':Nu.chk 1 x=false:=by simpa using hc
   refine (Nu.unary8_no 1 x w hc').mono ?_;rintro e w' ⟨rfl,rfl⟩;rw [Nu.un_no 8 1 x hc'];exact ⟨rfl,fun h=>absurd h (by decide),0,rfl⟩
 ·obtain rfl:t=1:=hf (by simp);rw [show k1 ⟨#[84,97,110,104]⟩=9 by kernel_rfl];unfold unX;rw [if_neg (by omega)]
  by_cases hc:Nu.chk 1 x=true
  ·rw [if_pos hc];refine (Nu.unaryF9 x w hc).mono ?_;rintro e w' ⟨rfl,q,rfl⟩;exact ⟨rfl,fun _=>jjx 9 x w,q,rfl⟩
  ·rw [if_neg hc];have hc':Nu.chk 1 x=false:=by simpa using hc
   refine (Nu.unary9_no 1 x w hc').mono ?_;rintro e w' ⟨rfl,rfl⟩;rw [Nu.un_no 9 1 x hc'];exact ⟨rfl,fun h=>absurd h (by decide),0,rfl⟩
theorem jua (n : Nod) (r : Int × Int) (p1 p2 B m : Nat) (ub uo un uc : Nat) (ty x : Int) (w : World) (hm : 0 < m) (hn : w.heap[p1]? = some (.cells #[.string n.op, .string n.name, .slice n.iv.a n.iv.n n.iv.c, .string n.out, .slice n.av.a n.av.n n.av.c] 25 (0, 0))) (hi : w.heap[p2]? = some (.cells #[.slice (some ⟨ub, uo, none⟩) un uc] 26 (0, 0))) (hun : 0 < un) (ht : w.cell? ⟨ub, uo, none⟩ = some (.int .i64 ty)) (hx : w.cell? ⟨B, 0, none⟩ = some (.int .i64 x))
    (UC:∀ wx,Calls Tryz.prog 29 #[.string n.op,.int .i64 ty,.int .i64 x] wx (jri r wx)) :
    Calls Tryz.prog 28 #[.slice (some ⟨B,0,none⟩) m m,.pointer (some ⟨p1,0,none⟩),.pointer (some ⟨p2,0,none⟩)] w (jri r w):=by
     obtain ⟨n0,-,-,-,-⟩:=jak hn;have c8:=jbY hi;have hun':(0:Int)<(un:Int):=by omega
     have i0:(0:Int)<(m:Int):=by omega
     obtain ⟨v,c⟩:=r;have BB:=jac UC;clear hn hi UC;go_enter Tryz.func28,Tryz.ntmps28;go_wp2_with fail;go_region_held3 (fun w'=>w'.cell? ⟨p1,0,none⟩=some (.string n.op)∧w'.cell? ⟨p2,0,none⟩=some (.slice (some ⟨ub,uo,none⟩) un uc)∧w'.cell? ⟨ub,uo,none⟩=some (.int .i64 ty)∧w'.cell? ⟨B,0,none⟩=some (.int .i64 x)) (go_keep) (first | (go_at_call 29;refine (BB.out _).mono ?_;rintro e w1 ⟨rfl,hP,q,rfl⟩;have HP:=jac hP;clear hP) | fail);go_wp2;go_ret2;exact ⟨rfl,HP.out,_,by first | rfl | exact World.drewN_drewN _ _ _⟩
theorem jub (n:Nod) (k:Nat) (hk:kOf n.op=some k) (p1 p2 B m:Nat) (ub uo un uc:Nat) (ty x y:Int) (w:World) (hm:1<m) (hn:w.heap[p1]?=some (.cells #[.string n.op,.string n.name,.slice n.iv.a n.iv.n n.iv.c,.string n.out,.slice n.av.a n.av.n n.av.c] 25 (0,0))) (hi:w.heap[p2]?=some (.cells #[.slice (some ⟨ub,uo,none⟩) un uc] 26 (0,0))) (hun:0<un) (ht:w.cell? ⟨ub,uo,none⟩=some (.int .i64 ty)) (hx:w.cell? ⟨B,0,none⟩=some (.int .i64 x)) (hy:w.cell? ⟨B,1,none⟩=some (.int .i64 y)) (rx:W64 x) (ry:W64 y) :
    Calls Tryz.prog 30 #[.slice (some ⟨B,0,none⟩) m m,.pointer (some ⟨p1,0,none⟩),.pointer (some ⟨p2,0,none⟩)] w (jri (Nu.bin k ty x y) w):=by
     obtain ⟨n0,-,-,-,-⟩:=jak hn;have c8:=jbY hi;have hun':(0:Int)<(un:Int):=by omega
     have i1:(1:Int)<(m:Int):=by omega
     have i0:(0:Int)<(m:Int):=by omega
     have BB:=jac (fun (wx:World)=>ju1 hk ty x y wx);have RR:=jac (jtT k ty x y rx ry);obtain ⟨⟨r1,r2⟩,er⟩ : ∃ r,r=Nu.bin k ty x y:=⟨_,rfl⟩
     rw [← er] at BB RR ⊢;clear hn hi hk rx ry er;go_enter Tryz.func30,Tryz.ntmps30;go_wp2_with fail
     go_quiet (first | (go_at_call 31;refine (BB.out _).mono ?_;rintro e w' ⟨rfl,q,rfl⟩;exact ⟨rfl,_,World.drewN_drewN _ _ _⟩) | fail)
     go_wp2;go_ret2;exact ⟨rfl,fun _=>RR.out,_,rfl⟩
theorem jrR (B m:Nat) (x y z:Int) (w:World) (hm:2<m) (hx:w.cell? ⟨B,0,none⟩=some (.int .i64 x)) (hy:w.cell? ⟨B,1,none⟩=some (.int .i64 y)) (hz:w.cell? ⟨B,2,none⟩=some (.int .i64 z)) (ry:W64 y) (rz:W64 z) :
    Calls Tryz.prog 32 #[.slice (some ⟨B,0,none⟩) m m] w (jri (if x=1 then y else z,0) w):=by
     have i2:(2:Int)<(m:Int):=by omega
     have i1:(1:Int)<(m:Int):=by omega
     have i0:(0:Int)<(m:Int):=by omega
     have RY:=jac ry;have RZ:=jac rz;clear ry rz
     by_cases h:x=1
     ·have hb:(x==1)=true:=by simp [h]
      rw [if_pos h];clear h;go_enter Tryz.func32,Tryz.ntmps32;go_wp2;go_ret2;exact ⟨rfl,fun _=>RY.out,0,rfl⟩
     ·have hb:(x==1)=false:=by simp [h]
      rw [if_neg h];clear h;go_enter Tryz.func32,Tryz.ntmps32;go_wp2;go_ret2;exact ⟨rfl,fun _=>RZ.out,0,rfl⟩
def clX (lo hi x:Int):Int×Int:=if (Nu.bin 4 1 x lo).2=0 then Nu.bin 5 1 (Nu.bin 4 1 x lo).1 hi else (0,(Nu.bin 4 1 x lo).2)
theorem jvg (B m p1 p2:Nat) (x lo hi:Int) (w:World) (hm:0<m) (h1:w.heap[p1]?=some (.cells #[.int .i64 lo] 2 (0,0))) (h2:w.heap[p2]?=some (.cells #[.int .i64 hi] 2 (0,0))) (hx:w.cell? ⟨B,0,none⟩=some (.int .i64 x)) :
    Calls Tryz.prog 56 #[.slice (some ⟨B,0,none⟩) m m,.pointer (some ⟨p1,0,none⟩),.pointer (some ⟨p2,0,none⟩)] w (jri (clX lo hi x) w):=by
     have i0:(0:Int)<(m:Int):=by omega
     have c1:=jbY h1;have c2:=jbY h2;unfold clX;obtain ⟨⟨y1,s1⟩,e1⟩ : ∃ r,r=Nu.bin 4 1 x lo:=⟨_,rfl⟩
     have BA:=jac (fun (wx:World)=>Nu.binary4 1 x lo wx);rw [← e1] at BA ⊢;simp only at BA ⊢;have BB:=jac (fun (wx:World)=>Nu.binary5 1 y1 hi wx);have RR:=jac (jrE 5 y1 hi);obtain ⟨⟨y2,s2⟩,e3⟩ : ∃ r,r=Nu.bin 5 1 y1 hi:=⟨_,rfl⟩
     rw [← e3] at BB RR ⊢;clear h1 h2 e1 e3
     by_cases h:s1=0
     ·have hb:(s1 != 0)=false:=by simp [h]
      rw [if_pos h];clear h;go_enter Tryz.func56,Tryz.ntmps56;go_wp2_with fail
      go_quiet (first | (go_at_call 31;refine (BA.out _).mono ?_;rintro e w' ⟨rfl,q,rfl⟩;exact ⟨rfl,_,World.drewN_drewN _ _ _⟩) | fail)
      go_wp2_with (first | (go_at_call 31;refine (BB.out _).mono ?_;rintro e w' ⟨rfl,q,rfl⟩) | fail);go_wp2;go_ret2;exact ⟨rfl,fun _=>RR.out,_,by first | rfl | exact World.drewN_drewN _ _ _⟩
     ·have hb:(s1 != 0)=true:=by simpa using h
      have H:=jac h;rw [if_neg h];clear h;go_enter Tryz.func56,Tryz.ntmps56;go_wp2_with fail
      go_quiet (first | (go_at_call 31;refine (BA.out _).mono ?_;rintro e w' ⟨rfl,q,rfl⟩;exact ⟨rfl,_,World.drewN_drewN _ _ _⟩) | fail)
      go_wp2;go_ret2;exact ⟨rfl,fun h=>absurd h H.out,_,rfl⟩
theorem jvh (p1 p2 B m:Nat) (ub uo un uc:Nat) (a0 a2:Value) (ty tz x:Int) (w:World) (hm:0<m) (hi:w.heap[p1]?=some (.cells #[.slice (some ⟨ub,uo,none⟩) un uc] 26 (0,0))) (ho:w.heap[p2]?=some (.cells #[a0,.int .i64 tz,a2] 53 (0,0))) (hun:0<un) (ht:w.cell? ⟨ub,uo,none⟩=some (.int .i64 ty)) (hx:w.cell? ⟨B,0,none⟩=some (.int .i64 x)) (rx:W64 x) :
    Calls Tryz.prog 35 #[.slice (some ⟨B,0,none⟩) m m,.pointer (some ⟨p1,0,none⟩),.pointer (some ⟨p2,0,none⟩)] w (jri (Nu.cst ty tz x) w):=by
     have c8:=jbY hi;have c9:=(cell_of_row _ _ 1 _ _ (0,0) ho).trans rfl;have hun':(0:Int)<(un:Int):=by omega
     have i0:(0:Int)<(m:Int):=by omega
     have BB:=jac (fun (wx:World)=>Nu.cast_code ty tz x wx);have RR:=jac (jtS ty tz x rx);obtain ⟨⟨r1,r2⟩,er⟩ : ∃ r,r=Nu.cst ty tz x:=⟨_,rfl⟩
     rw [← er] at BB RR ⊢;clear hi ho rx er;go_enter Tryz.func35,Tryz.ntmps35;go_wp2_with fail
     go_quiet (first | (go_at_call 36;refine (BB.out _).mono ?_;rintro e w' ⟨rfl,q,rfl⟩;exact ⟨rfl,_,World.drewN_drewN _ _ _⟩) | fail)
     go_wp2;go_ret2;exact ⟨rfl,fun _=>RR.out,_,rfl⟩
end Go.Proofs.YteigfipgmghgmaaGreatDoor
namespace Go.Proofs.YteigfipgmghgmaaGreatDoor
open Go.RowKit
theorem jgj {w:World} {u:Sl} {ps:List (Ten×Tq)} (hv:TensIn w u.v ps) (hp:0<ps.length):∃ ub uo:Nat,u.a=some ⟨ub,uo,none⟩∧u.n=ps.length∧∀ wy,w.grownBy wy none→wy.cell? ⟨ub,uo,none⟩=some (.int .i64 (ps[0]'hp).1.ty):=by
 obtain ⟨ua,un,uc⟩:=u;obtain ⟨ub,uo,rfl⟩:=hv.vals.addr (k:=0) (by simpa using hp);obtain ⟨xa,xc,e1,-⟩:=hv.vals.form;simp only [Sl.v,List.length_map,Value.slice.injEq] at e1;obtain ⟨-,rfl,-⟩:=e1;exact ⟨ub,uo,rfl,rfl,fun wy hy=>by have:=((hv.more hy).at 0 hp).1;simpa using this⟩
theorem jdQ {w:World} {B m:Nat} {xs:List Int} (h:IsInts w (.slice (some ⟨B,0,none⟩) m m) xs) (hl:xs.length=m) (i:Nat) (hi:i<m):w.cell? ⟨B,i,none⟩=some (.int .i64 (xs.getD i 0))∧W64 (xs.getD i 0):=by
 obtain ⟨zb,zo,ez,hc⟩:=h.get (k:=0) (by omega)
 cases ez
 exact ⟨by simpa using hc i (by omega),h.wf _ (jrg (by omega))⟩
theorem juc (n:Nod) (hop:n.op.toList∉([[73,100,101,110,116,105,116,121],[78,101,103],[65,98,115],[78,111,116],[82,101,108,117],[83,113,114,116],[70,108,111,111,114],[69,120,112],[83,105,103,109,111,105,100],[84,97,110,104],[65,100,100],[83,117,98],[77,117,108],[68,105,118],[77,97,120],[77,105,110],[65,110,100],[79,114],[88,111,114],[69,113,117,97,108],[76,101,115,115],[71,114,101,97,116,101,114],[87,104,101,114,101],[67,108,105,112],[67,97,115,116]]:List (List UInt8))) (u:Sl) (nam0:ByteArray) (ty:Int) (dv:Sl) (w:World) :
    Calls Tryz.prog 14 #[jaz n,.slice u.a u.n u.c,.agg #[.string nam0,.int .i64 ty,.slice dv.a dv.n dv.c]] w (EvQ w (.error 5)):=by
     have WN:=jac (fun (wx:World)=>jrD n hop u (.string nam0) (.int .i64 ty) (.slice dv.a dv.n dv.c) wx);clear hop;obtain ⟨op,nam,⟨ia,il,ic⟩,out,⟨ao,al,cap⟩⟩:=n;obtain ⟨ua,un,uc⟩:=u;obtain ⟨da,dn,dc⟩:=dv;unfold jaz at WN ⊢;simp only at WN ⊢;obtain ⟨w0,hw0⟩ : ∃ w0,w0=(w.alloc (.cells #[.string op,.string nam,.slice ia il ic,.string out,.slice ao al cap] 25)).alloc (.cells #[.string nam0,.int .i64 ty,.slice da dn dc] 53):=⟨_,rfl⟩
     have g0:Hid (w.grownBy w0 none):=by show w.grownBy w0 none;rw [hw0];exact jaa (jab _ _) (jab _ _)
     go_enter Tryz.func14,Tryz.ntmps14;go_wp2_with fail;rw [← hw0];clear hw0;refine (WN.out w0).mono ?_;rintro e w1 ⟨rfl,hg1⟩;have hbo:∀ wx,(binOp .eql 58 .nilFunc .nilFunc).run Tryz.prog wx=.ok (.bool true) wx:=fun wx=>by rfl
     go_wp2;go_ret2;exact ⟨jaa g0.out hg1,rfl⟩
theorem jpK {p:Ten×Tq} (h:okT p=true):chk p.1.ty 0=true∧∀ z∈p.2.2,Nu.chk p.1.ty z=true:=by
 have h0:pbE p.1.ty p.2.1 p.2.2=0:=by simpa [okT] using h
 unfold pbE at h0
 split at h0
 ·omega
 ·rename_i h1
  split at h0
  ·rename_i h2;exact absurd h0 h2
  ·split at h0
   ·omega
   ·split at h0
    ·rename_i h4;exact ⟨by simpa using h1,List.all_eq_true.1 h4⟩
    ·omega
theorem jud {l:List Int} {p:Ten×Tq} (h:okT p=true) (j:Nat):Nu.chk p.1.ty ((jjr l p).getD j 0)=true:=by
 obtain ⟨h0,h1⟩:=jpK h
 have key:∀ (xs:List Int),(∀ z∈xs,Nu.chk p.1.ty z=true)→∀ i,Nu.chk p.1.ty (xs.getD i 0)=true:=by
  intro xs hx i
  by_cases hi:i<xs.length
  ·exact hx _ (jrg hi)
  ·rw [List.getD,List.getElem?_eq_none (by omega)];exact h0
 refine key _ ?_ j;unfold jjr asL Vw.rdL Vw.shows
 split
 ·split
  ·intro z hz;obtain ⟨x,-,rfl⟩:=List.mem_map.1 hz;exact key _ h1 _
  ·intro z hz;cases hz
 ·intro z hz;cases hz
theorem jvi:∀ r∈jeo,(r.1∈([[73,100,101,110,116,105,116,121],[78,101,103],[65,98,115],[78,111,116],[82,101,108,117],[83,113,114,116],[70,108,111,111,114],[69,120,112],[83,105,103,109,111,105,100],[84,97,110,104]]:List (List UInt8))→1≤r.2.1)∧(r.1∈jdG→2≤r.2.1)∧(r.1=[87,104,101,114,101]→3≤r.2.1)∧(r.1=[67,108,105,112]→1≤r.2.1)∧(r.1=[67,97,115,116]→1≤r.2.1):=by decide +kernel
theorem jpL {t:Int} {l:List Int} {a:Int} (h:jaO (t::l)=.ok a):a=t∧∀ s∈l,s=t:=by
 have h':(if l.all (fun s=>s==t)=true then (.ok t:R Int) else .error 4)=.ok a:=h
 by_cases h1:l.all (fun s=>s==t)=true
 ·rw [if_pos h1] at h'
  cases h'
  exact ⟨rfl,by simpa using h1⟩
 ·rw [if_neg h1] at h'
  cases h'
theorem jpM {op:ByteArray} {t:Int} (hop:op∈([⟨#[83,113,114,116]⟩,⟨#[70,108,111,111,114]⟩,⟨#[69,120,112]⟩,⟨#[83,105,103,109,111,105,100]⟩,⟨#[84,97,110,104]⟩]:List ByteArray)) (h:jcx op.toList t=true):t=1:=by
 simp only [List.mem_cons,List.not_mem_nil,or_false] at hop
 rcases hop with rfl | rfl | rfl | rfl | rfl <;> rw [jaj] at h <;> simp [jcx] at h <;> exact h
theorem grp_1 {op:ByteArray} (hop:op∈([⟨#[73,100,101,110,116,105,116,121]⟩,⟨#[78,101,103]⟩,⟨#[65,98,115]⟩,⟨#[78,111,116]⟩,⟨#[82,101,108,117]⟩,⟨#[83,113,114,116]⟩,⟨#[70,108,111,111,114]⟩,⟨#[69,120,112]⟩,⟨#[83,105,103,109,111,105,100]⟩,⟨#[84,97,110,104]⟩]:List ByteArray)):(grp op).1=10∧op.toList∈([[73,100,101,110,116,105,116,121],[78,101,103],[65,98,115],[78,111,116],[82,101,108,117],[83,113,114,116],[70,108,111,111,114],[69,120,112],[83,105,103,109,111,105,100],[84,97,110,104]]:List (List UInt8)):=by
 simp only [List.mem_cons,List.not_mem_nil,or_false] at hop
 rcases hop with rfl | rfl | rfl | rfl | rfl | rfl | rfl | rfl | rfl | rfl <;> exact ⟨by kernel_rfl,by rw [jaj];decide⟩
theorem grp_2 {op:ByteArray} {k:Nat} (h:kOf op=some k):(grp op).1=(if 9≤k then 8 else 9)∧op.toList∈jdG:=by
 refine ⟨?_,jpv h⟩;have h12:=jlu h;simp only [List.mem_cons,List.not_mem_nil,or_false] at h12
 rcases h12 with rfl | rfl | rfl | rfl | rfl | rfl | rfl | rfl | rfl | rfl | rfl | rfl
 ·obtain rfl:k=0:=Option.some.inj (h.symm.trans (show kOf ⟨#[65,100,100]⟩=some 0 by kernel_rfl));exact (show (grp ⟨#[65,100,100]⟩).1=9 by kernel_rfl)
 ·obtain rfl:k=1:=Option.some.inj (h.symm.trans (show kOf ⟨#[83,117,98]⟩=some 1 by kernel_rfl));exact (show (grp ⟨#[83,117,98]⟩).1=9 by kernel_rfl)
 ·obtain rfl:k=2:=Option.some.inj (h.symm.trans (show kOf ⟨#[77,117,108]⟩=some 2 by kernel_rfl));exact (show (grp ⟨#[77,117,108]⟩).1=9 by kernel_rfl)
 ·obtain rfl:k=3:=Option.some.inj (h.symm.trans (show kOf ⟨#[68,105,118]⟩=some 3 by kernel_rfl));exact (show (grp ⟨#[68,105,118]⟩).1=9 by kernel_rfl)
 ·obtain rfl:k=4:=Option.some.inj (h.symm.trans (show kOf ⟨#[77,97,120]⟩=some 4 by kernel_rfl));exact (show (grp ⟨#[77,97,120]⟩).1=9 by kernel_rfl)
 ·obtain rfl:k=5:=Option.some.inj (h.symm.trans (show kOf ⟨#[77,105,110]⟩=some 5 by kernel_rfl));exact (show (grp ⟨#[77,105,110]⟩).1=9 by kernel_rfl)
 ·obtain rfl:k=6:=Option.some.inj (h.symm.trans (show kOf ⟨#[65,110,100]⟩=some 6 by kernel_rfl));exact (show (grp ⟨#[65,110,100]⟩).1=9 by kernel_rfl)
 ·obtain rfl:k=7:=Option.some.inj (h.symm.trans (show kOf ⟨#[79,114]⟩=some 7 by kernel_rfl));exact (show (grp ⟨#[79,114]⟩).1=9 by kernel_rfl)
 ·obtain rfl:k=8:=Option.some.inj (h.symm.trans (show kOf ⟨#[88,111,114]⟩=some 8 by kernel_rfl));exact (show (grp ⟨#[88,111,114]⟩).1=9 by kernel_rfl)
 ·obtain rfl:k=9:=Option.some.inj (h.symm.trans (show kOf ⟨#[69,113,117,97,108]⟩=some 9 by kernel_rfl));exact (show (grp ⟨#[69,113,117,97,108]⟩).1=8 by kernel_rfl)
 ·obtain rfl:k=10:=Option.some.inj (h.symm.trans (show kOf ⟨#[76,101,115,115]⟩=some 10 by kernel_rfl));exact (show (grp ⟨#[76,101,115,115]⟩).1=8 by kernel_rfl)
 ·obtain rfl:k=11:=Option.some.inj (h.symm.trans (show kOf ⟨#[71,114,101,97,116,101,114]⟩=some 11 by kernel_rfl));exact (show (grp ⟨#[71,114,101,97,116,101,114]⟩).1=8 by kernel_rfl)
def jim (p:Ten×Tq):Val×List Int:=(jeh p,p.2.1)
theorem jjy (ps:List (Ten×Tq)):jaD (ps.map jim)=ps.map (·.1.ty):=by
 unfold jaD;rw [List.map_map]
 rfl
end Go.Proofs.YteigfipgmghgmaaGreatDoor
namespace Go.Proofs.YteigfipgmghgmaaGreatDoor
open Go.RowKit
theorem jvj (n:Nod) (hop:n.op∈([⟨#[73,100,101,110,116,105,116,121]⟩,⟨#[78,101,103]⟩,⟨#[65,98,115]⟩,⟨#[78,111,116]⟩,⟨#[82,101,108,117]⟩,⟨#[83,113,114,116]⟩,⟨#[70,108,111,111,114]⟩,⟨#[69,120,112]⟩,⟨#[83,105,103,109,111,105,100]⟩,⟨#[84,97,110,104]⟩]:List ByteArray)) (u:Sl) (ps:List (Ten×Tq)) (nam0:ByteArray) (ty:Int) (dv:Sl) (w:World) (hv:TensIn w u.v ps) (hp:0<ps.length) (t0:Int) (e0:(ps[0]'hp).1.ty=t0) (hf:n.op∈([⟨#[83,113,114,116]⟩,⟨#[70,108,111,111,114]⟩,⟨#[69,120,112]⟩,⟨#[83,105,103,109,111,105,100]⟩,⟨#[84,97,110,104]⟩]:List ByteArray)→t0=1) :
    Calls Tryz.prog 21 #[jaz n,.slice u.a u.n u.c,.agg #[.string nam0,.int .i64 ty,.slice dv.a dv.n dv.c]] w (jtK (fun c=>unX (k1 n.op) t0 (c.getD 0 0)) ps.length w):=by
     refine (wof_1 n hop u _ _ _ w).mono ?_;rintro e w1 ⟨rfl,hg,hb1,hb2⟩;obtain ⟨ub,uo,e1,e2,hh⟩:=jgj hv hp;refine ⟨_,_,rfl,hg,fun _ _=>by kernel_rfl,fun wy B xs hy hxl hxi=>?_⟩;obtain ⟨x0,r0⟩:=jdQ hxi hxl 0 hp;have k1:=jag hb1 hy;have k2:=jag hb2 hy;rw [e1] at k2;have h0:=hh wy (jaa hg hy);rw [e0] at h0;exact jua n _ _ _ B _ ub uo u.n u.c _ _ wy hp k1 k2 (by omega) h0 x0 (fun wx=>un_x n.op hop _ _ r0 hf wx)
theorem jsr (n:Nod) (k:Nat) (hk:kOf n.op=some k) (u:Sl) (ps:List (Ten×Tq)) (nam0:ByteArray) (ty:Int) (dv:Sl) (w:World) (hv:TensIn w u.v ps) (hp:1<ps.length) (t0:Int) (e0:(ps[0]'(Nat.lt_of_succ_lt hp)).1.ty=t0) :
    Calls Tryz.prog 21 #[jaz n,.slice u.a u.n u.c,.agg #[.string nam0,.int .i64 ty,.slice dv.a dv.n dv.c]] w (jtK (fun c=>Nu.bin k t0 (c.getD 0 0) (c.getD 1 0)) ps.length w):=by
     refine (jkG n (jlu hk) u _ _ _ w).mono ?_;rintro e w1 ⟨rfl,hg,hb1,hb2⟩;obtain ⟨ub,uo,e1,e2,hh⟩:=jgj hv (Nat.lt_of_succ_lt hp);refine ⟨_,_,rfl,hg,fun _ _=>by kernel_rfl,fun wy B xs hy hxl hxi=>?_⟩;obtain ⟨x0,r0⟩:=jdQ hxi hxl 0 (by omega);obtain ⟨x1,r1⟩:=jdQ hxi hxl 1 hp;have k1:=jag hb1 hy;have k2:=jag hb2 hy;rw [e1] at k2;have h0:=hh wy (jaa hg hy);rw [e0] at h0;exact jub n k hk _ _ B _ ub uo u.n u.c _ _ _ wy hp k1 k2 (by omega) h0 x0 x1 r0 r1
theorem jmN (n:Nod) (hop:n.op=⟨#[87,104,101,114,101]⟩) (u:Sl) (m:Nat) (nam0:ByteArray) (ty:Int) (dv:Sl) (w:World) (hp:2<m) :
    Calls Tryz.prog 21 #[jaz n,.slice u.a u.n u.c,.agg #[.string nam0,.int .i64 ty,.slice dv.a dv.n dv.c]] w (jtK (fun c=>(if c.getD 0 0=1 then c.getD 1 0 else c.getD 2 0,0)) m w):=by
     refine (jpx n hop u _ _ _ w).mono ?_;rintro e w1 ⟨rfl,hg⟩;refine ⟨_,_,rfl,hg,fun _ _=>by kernel_rfl,fun wy B xs hy hxl hxi=>?_⟩;obtain ⟨x0,-⟩:=jdQ hxi hxl 0 (by omega);obtain ⟨x1,r1⟩:=jdQ hxi hxl 1 (by omega);obtain ⟨x2,r2⟩:=jdQ hxi hxl 2 hp;exact jrR B m _ _ _ wy hp x0 x1 x2 r1 r2
theorem jpN (n:Nod) (hop:n.op=⟨#[67,108,105,112]⟩) (xs:List Atr) (cs:List Cont) (u:Sl) (m:Nat) (nam0:ByteArray) (ty:Int) (dv:Sl) (w:World) (hv:jbR w n.av.v xs) (hc:∀ (j:Nat) (a:Atr),xs[j]?=some a→∃ c,cs[j]?=some c∧Has w a c) (hp:0<m) :
    Calls Tryz.prog 21 #[jaz n,.slice u.a u.n u.c,.agg #[.string nam0,.int .i64 ty,.slice dv.a dv.n dv.c]] w (jtK (fun c=>clX (jep xs ⟨#[109,105,110]⟩ 4286578688) (jep xs ⟨#[109,97,120]⟩ 2139095040) (c.getD 0 0)) m w):=by
     refine (jrF n hop xs cs u _ _ _ w hv hc).mono ?_;rintro e w1 ⟨p1,p2,rfl,hg,hb1,hb2⟩;refine ⟨_,_,rfl,hg,fun _ _=>by kernel_rfl,fun wy B xs hy hxl hxi=>?_⟩;obtain ⟨x0,-⟩:=jdQ hxi hxl 0 hp;exact jvg B m p1 p2 _ _ _ wy hp (jag hb1 hy) (jag hb2 hy) x0
theorem jpO (n:Nod) (hop:n.op=⟨#[67,97,115,116]⟩) (u:Sl) (ps:List (Ten×Tq)) (nam0:ByteArray) (ty:Int) (dv:Sl) (w:World) (hv:TensIn w u.v ps) (hp:0<ps.length) (t0:Int) (e0:(ps[0]'hp).1.ty=t0) :
    Calls Tryz.prog 21 #[jaz n,.slice u.a u.n u.c,.agg #[.string nam0,.int .i64 ty,.slice dv.a dv.n dv.c]] w (jtK (fun c=>Nu.cst t0 ty (c.getD 0 0)) ps.length w):=by
     refine (jrC n hop u _ _ _ w).mono ?_;rintro e w1 ⟨rfl,hg,hb1,hb2⟩;obtain ⟨ub,uo,e1,e2,hh⟩:=jgj hv hp;refine ⟨_,_,rfl,hg,fun _ _=>by kernel_rfl,fun wy B xs hy hxl hxi=>?_⟩;obtain ⟨x0,r0⟩:=jdQ hxi hxl 0 hp;have k1:=jag hb1 hy;have k2:=jag hb2 hy;rw [e1] at k1;have h0:=hh wy (jaa hg hy);rw [e0] at h0;exact jvh _ _ B _ ub uo u.n u.c _ _ _ ty _ wy hp k1 k2 (by omega) h0 x0 r0
theorem jd6 (n : Nod) (u : Sl) (ps : List (Ten × Tq)) (nam0 : ByteArray) (ty : Int) (dv : Sl) (l : List Int) (F : List Int → Int × Int) (w : World) (hv : TensIn w u.v ps) (hp0 : 0 < ps.length) (hp1 : ps.length ≤ 1000) (hd : IsInts w dv.v l) (hc : ja2 l = 0)
    (WO:∀ wx,w.grownBy wx none→Calls Tryz.prog 21 #[jaz n,.slice u.a u.n u.c,.agg #[.string nam0,.int .i64 ty,.slice dv.a dv.n dv.c]] wx (jtK F ps.length wx)) :
    Calls Tryz.prog 14 #[jaz n,.slice u.a u.n u.c,.agg #[.string nam0,.int .i64 ty,.slice dv.a dv.n dv.c]] w (EvQ w (jcz F ps l (jaA l).toNat)) :=
     jrz n u ps nam0 ty dv l F (jaA l).toNat w hv hp0 hp1 hd (by have:=(jbb hc).le;omega) (fun p hp ha=>(jtL (by simpa [jgl] using ha)).1) WO
def MadeX (n:Nod) (ins:List ByteArray) (A:At) (ts:List Int) (ty:Int) (F:List Int→Int×Int):Prop:=∀ (u:Sl) (ps:List (Ten×Tq)) (nam0:ByteArray) (dv:Sl) (l:List Int) (w:World),NodeAll w n ins A→TensIn w u.v ps→ps.length≤1000→IsInts w dv.v l→ja2 l=0→ps.map (·.1.ty)=ts →
    Calls Tryz.prog 14 #[jaz n,.slice u.a u.n u.c,.agg #[.string nam0,.int .i64 ty,.slice dv.a dv.n dv.c]] w (EvQ w (jcz F ps l (jaA l).toNat))
theorem jue {ps:List (Ten×Tq)} {ts:List Int} (h:ps.map (·.1.ty)=ts) (i:Nat) (hi:i<ps.length):(ps[i]'hi).1.ty=ts.getD i 0:=by
 subst h;rw [List.getD,List.getElem?_map,List.getElem?_eq_getElem hi]
 rfl
def ElOp (n:Nod):Prop:=(grp n.op).2=1∨(grp n.op).2=2∨(grp n.op).2=3
theorem jvk (n:Nod) (ins:List ByteArray) (A:At) (ts:List Int) (ty:Int) (hop:A.op=n.op) (hchk:jbJ (jcN n.op) n.op ins n.out A.xs A.cs=0) (hlen:ts.length=ins.length) (ht:jdg A ts (grp n.op).1=.ok ty) :
    (ElOp n∧0<ts.length∧∃ F,MadeX n ins A ts ty F)∨(∀ (u:Sl) (nam0:ByteArray) (dv:Sl) (w:World),Calls Tryz.prog 14 #[jaz n,.slice u.a u.n u.c,.agg #[.string nam0,.int .i64 ty,.slice dv.a dv.n dv.c]] w (EvQ w (.error 5))):=by
     obtain ⟨R0,hR,e1,e2,-⟩:=jev hchk;obtain ⟨a1,a2,a3,a4,a5⟩:=jvi R0 hR;rw [e1] at a1 a2 a3 a4 a5
     by_cases h1:n.op∈([⟨#[73,100,101,110,116,105,116,121]⟩,⟨#[78,101,103]⟩,⟨#[65,98,115]⟩,⟨#[78,111,116]⟩,⟨#[82,101,108,117]⟩,⟨#[83,113,114,116]⟩,⟨#[70,108,111,111,114]⟩,⟨#[69,120,112]⟩,⟨#[83,105,103,109,111,105,100]⟩,⟨#[84,97,110,104]⟩]:List ByteArray)
     ·obtain ⟨g,hm⟩:=grp_1 h1;have hp:0<ts.length:=by have:=a1 hm;omega
      rw [g] at ht
      have et:ts.getD 0 0=ty∧jcx A.op.toList ty=true:=by
       cases ts with
       | nil=>cases hp
       | cons t q =>
        obtain ⟨t',q1,q2⟩:=jaZ ht;obtain ⟨b,q3,q4⟩:=jaZ q2
        cases q4
        exact ⟨(jpL q1).1.symm,jky q3⟩
      rw [hop] at et;refine .inl ⟨?_,hp,fun c=>unX (k1 n.op) (ts.getD 0 0) (c.getD 0 0),fun u ps nam0 dv l w hn hv hp1 hd hc hts=>?_⟩
      ·simp only [List.mem_cons,List.not_mem_nil,or_false] at h1
       rcases h1 with h | h | h | h | h | h | h | h | h | h <;> exact .inl (by rw [h];kernel_rfl)
      ·have hpl:ps.length=ts.length:=by rw [← hts,List.length_map]
       exact jd6 n u ps nam0 ty dv l _ w hv (by omega) hp1 hd hc (fun wx hx=>jvj n h1 u ps nam0 ty dv wx (hv.more hx) (by omega) _ (jue hts 0 (by omega)) (fun hf=>et.1.trans (jpM hf et.2)))
     ·cases hk:kOf n.op with
      | some k =>
       obtain ⟨g,hm⟩:=grp_2 hk;have hp:1<ts.length:=by have:=a2 hm;omega
       refine .inl ⟨?_,by omega,fun c=>Nu.bin k (ts.getD 0 0) (c.getD 0 0) (c.getD 1 0),fun u ps nam0 dv l w hn hv hp1 hd hc hts=>?_⟩
       ·have h12:=jlu hk;simp only [List.mem_cons,List.not_mem_nil,or_false] at h12
        rcases h12 with h | h | h | h | h | h | h | h | h | h | h | h <;> exact .inr (.inl (by rw [h];kernel_rfl))
       ·have hpl:ps.length=ts.length:=by rw [← hts,List.length_map]
        exact jd6 n u ps nam0 ty dv l _ w hv (by omega) hp1 hd hc (fun wx hx=>jsr n k hk u ps nam0 ty dv wx (hv.more hx) (by omega) _ (jue hts 0 (by omega)))
      | none =>
       by_cases h2:n.op=⟨#[87,104,101,114,101]⟩
       ·have hp:2<ts.length:=by have:=a3 (by rw [h2,jaj]);omega
        refine .inl ⟨.inr (.inr (by rw [h2];kernel_rfl)),by omega,fun c=>(if c.getD 0 0=1 then c.getD 1 0 else c.getD 2 0,0),fun u ps nam0 dv l w hn hv hp1 hd hc hts=>?_⟩;have hpl:ps.length=ts.length:=by rw [← hts,List.length_map]
        exact jd6 n u ps nam0 ty dv l _ w hv (by omega) hp1 hd hc (fun wx hx=>jmN n h2 u ps.length nam0 ty dv wx (by omega))
       ·by_cases h3:n.op=⟨#[67,108,105,112]⟩
        ·have hp:0<ts.length:=by have:=a4 (by rw [h3,jaj]);omega
         refine .inl ⟨.inl (by rw [h3];kernel_rfl),hp,fun c=>clX (jep A.xs ⟨#[109,105,110]⟩ 4286578688) (jep A.xs ⟨#[109,97,120]⟩ 2139095040) (c.getD 0 0),fun u ps nam0 dv l w hn hv hp1 hd hc hts=>?_⟩;have hpl:ps.length=ts.length:=by rw [← hts,List.length_map]
         exact jd6 n u ps nam0 ty dv l _ w hv (by omega) hp1 hd hc (fun wx hx=>jpN n h3 A.xs A.cs u ps.length nam0 ty dv wx (hn.more hx).node.av (hn.more hx).node.has (by omega))
        ·by_cases h4:n.op=⟨#[67,97,115,116]⟩
         ·have hp:0<ts.length:=by have:=a5 (by rw [h4,jaj]);omega
          refine .inl ⟨.inl (by rw [h4];kernel_rfl),hp,fun c=>Nu.cst (ts.getD 0 0) ty (c.getD 0 0),fun u ps nam0 dv l w hn hv hp1 hd hc hts=>?_⟩;have hpl:ps.length=ts.length:=by rw [← hts,List.length_map]
          exact jd6 n u ps nam0 ty dv l _ w hv (by omega) hp1 hd hc (fun wx hx=>jpO n h4 u ps nam0 ty dv wx (hv.more hx) (by omega) _ (jue hts 0 (by omega)))
         ·refine .inr fun u nam0 dv w=>juc n ?_ u nam0 ty dv w;intro hm;have hk2:n.op.toList∉jdG:=List.idxOf?_eq_none_iff.1 hk;simp only [jdG,List.mem_cons,List.not_mem_nil,or_false,not_or] at hm h1 hk2;have nb:∀ z:ByteArray,n.op≠z→n.op.toList≠z.data.toList:=fun z hz e=>hz (jmK (by rw [e,jaj]));obtain ⟨x0,x1,x2,x3,x4,x5,x6,x7,x8,x9⟩:=h1;obtain ⟨y0,y1,y2,y3,y4,y5,y6,y7,y8,y9,y10,y11⟩:=hk2
          rcases hm with e | e | e | e | e | e | e | e | e | e | e | e | e | e | e | e | e | e | e | e | e | e | e | e | e
          ·exact nb _ x0 e
          ·exact nb _ x1 e
          ·exact nb _ x2 e
          ·exact nb _ x3 e
          ·exact nb _ x4 e
          ·exact nb _ x5 e
          ·exact nb _ x6 e
          ·exact nb _ x7 e
          ·exact nb _ x8 e
          ·exact nb _ x9 e
          ·exact y0 e
          ·exact y1 e
          ·exact y2 e
          ·exact y3 e
          ·exact y4 e
          ·exact y5 e
          ·exact y6 e
          ·exact y7 e
          ·exact y8 e
          ·exact y9 e
          ·exact y10 e
          ·exact y11 e
          ·exact nb _ h2 e
          ·exact nb _ h3 e
          ·exact nb _ h4 e
def DoX (n:Nod) (ins:List ByteArray) (A:At) (ts:List Int) (M:List (Ten×Tq)→List Int→R (List Int)):Prop:=∀ (u:Sl) (ps:List (Ten×Tq)) (w:World),Laid w→NodeAll w n ins A→TensIn w u.v ps→ps.length≤1000→ps.map (·.1.ty)=ts →
    Calls Tryz.prog 8 #[jaz n,.slice u.a u.n u.c] w (DoQ w (doR (jde ps (jid n ins A (ps.map jim))) (M ps)))
theorem do_x (n : Nod) (ins : List ByteArray) (A : At) (ts : List Int) (M : List (Ten × Tq) → List Int → R (List Int)) (hM : ∀ ps l, Nz (M ps l))
    (MC:∀ (u:Sl) (ps:List (Ten×Tq)) (nam0:ByteArray) (ty:Int) (dv:Sl) (l:List Int) (w:World),NodeAll w n ins A→TensIn w u.v ps→ps.length≤1000→IsInts w dv.v l→ps.map (·.1.ty)=ts→ps.all okT=true→OutOk n ins A (ps.map jim) (ty,l)→Calls Tryz.prog 14 #[jaz n,.slice u.a u.n u.c,.agg #[.string nam0,.int .i64 ty,.slice dv.a dv.n dv.c]] w (EvQ w (M ps l))):DoX n ins A ts M:=by
     intro u ps w hl hn hv hp1 hts;refine jkI _ u _ w fun wx hx=>jkH _ u _ _ wx (jij fun c h=>jfw h) (hM ps) (fun wy hy=>?_) (fun wy ty dv l hy hr hd=>?_)
     ·refine jf1 n u ps _ wy (hv.more (jaa hx hy)) (by omega) fun wz s vs hz hvs h1 h2=>?_;have key:=jo7 n ins A s vs wz (hl.more (jaa (jaa hx hy) hz)) (hn.more (jaa (jaa hx hy) hz)) hvs;rw [jgi (us:=ps.map jim) (by rw [h1,List.map_map];rfl) (by rw [h2,List.map_map];rfl)] at key;exact key
     ·obtain ⟨hok,hr⟩:=jii hr;exact MC u ps n.out ty dv l wy (hn.more (jaa hx hy)) (hv.more (jaa hx hy)) hp1 hd hts hok (jkz hr)
theorem jvl (n:Nod) (ins:List ByteArray) (A:At) (ps0:List (Ten×Tq)) (ty:Int) (l0:List Int) (hop:A.op=n.op) (ok:OutOk n ins A (ps0.map jim) (ty,l0)) :
    (ElOp n∧0<ps0.length∧∃ F,DoX n ins A (ps0.map (·.1.ty)) (fun ps l=>jcz F ps l (jaA l).toNat))∨DoX n ins A (ps0.map (·.1.ty)) (fun _ _=>.error 5):=by
     have ht:=ok.typ;rw [jjy] at ht
     have hl:(ps0.map (·.1.ty)).length=ins.length:=by
      have:=ok.len;rw [List.length_map] at this ⊢;exact this
     rcases jvk n ins A (ps0.map (·.1.ty)) ty hop ok.chk hl ht with ⟨h1,h2,F,hF⟩ | hE
     ·refine .inl ⟨h1,by rw [List.length_map] at h2;exact h2,F,do_x n ins A _ _ (fun ps l=>jkJ _ _ _ _) fun u ps nam0 ty' dv l w hn hv hp1 hd hts hok ok'=>?_⟩;have ht':=ok'.typ;rw [jjy,hts,ht] at ht'
      cases ht'
      exact hF u ps nam0 dv l w hn hv hp1 hd ok'.cnt hts
     ·refine .inr (do_x n ins A _ _ (fun ps l c h=>by cases h;decide) fun u ps nam0 ty' dv l w hn hv hp1 hd hts hok ok'=>?_);have ht':=ok'.typ;rw [jjy,hts,ht] at ht'
      cases ht'
      exact hE u nam0 dv w
end Go.Proofs.YteigfipgmghgmaaGreatDoor
namespace Go.Proofs.YteigfipgmghgmaaGreatDoor
open Go.RowKit
theorem jly:∀ (vs us:List (Val×List Int)),jeL vs=.ok ()→us.map (·.1.ty)=vs.map (·.1.ty)→(∀ u∈us,u.2=[])→jeL us=.ok ()
 | [],[],_,_,_=>rfl
 | v::vs,u::us,h,ht,hd=>by
  simp only [List.map_cons,List.cons.injEq] at ht;simp only [jeL] at h ⊢;obtain ⟨a,h1,h⟩:=jaZ h;obtain ⟨b,h2,h⟩:=jaZ h;rw [ht.1,h1,hd u (List.mem_cons_self ..),jly vs us h ht.2 (fun q hq=>hd q (List.mem_cons_of_mem _ hq))]
  rfl
 | [],u::us,_,h,_=>by simp at h
 | v::vs,[],_,h,_=>by simp at h
theorem jpP {n:Nod} {A:At} {D:List (List Int)} (h:ElOp n) (hD:∀ d∈D,d=[]):jfn A D (grp n.op).2=.ok []:=by
 have g:∀ i,D.getD i []=[]:=fun i=>by
  by_cases hi:i<D.length
  ·rw [List.getD,List.getElem?_eq_getElem hi];exact hD _ (List.getElem_mem hi)
  ·rw [List.getD,List.getElem?_eq_none (by omega)];rfl
 have s:jaE [] []=.ok []:=by kernel_rfl
 rcases h with h | h | h <;> rw [h]
 ·show Except.ok (D.getD 0 [])=_;rw [g]
 ·show jaE (D.getD 0 []) (D.getD 1 [])=_;rw [g,g,s]
 ·show (jaE (D.getD 0 []) (D.getD 1 [])).bind (fun l=>jaE l (D.getD 2 []))=_;rw [g,g,g,s];exact s
theorem jrS {n:Nod} {ins:List ByteArray} {A:At} {ps us:List (Ten×Tq)} {ty:Int} {l:List Int} (ok:OutOk n ins A (ps.map jim) (ty,l)) (he:ElOp n) (ht:us.map (·.1.ty)=ps.map (·.1.ty)) (hd:∀ u∈us,u.2.1=[]):jid n ins A (us.map jim)=.ok (ty,[]):=by
 have hl:us.length=ps.length:=by simpa using congrArg List.length ht
 have e1:jaD (us.map jim)=jaD (ps.map jim):=by rw [jjy,jjy,ht]
 have e2:jfn A (jdM (us.map jim)) (grp n.op).2=.ok []:=jpP he fun d hm=>by
  unfold jdM at hm;rw [List.map_map] at hm;obtain ⟨u,hu,rfl⟩:=List.mem_map.1 hm;exact hd u hu
 have e3:jeL (us.map jim)=.ok ():=jly (ps.map jim) (us.map jim) ok.vin (by rw [List.map_map,List.map_map];exact ht) fun u hu=>by
  obtain ⟨p,hp,rfl⟩:=List.mem_map.1 hu;exact hd p hp
 have h2:=ok.len;rw [List.length_map] at h2;have e4:decide ((us.map jim).length=ins.length)=true:=by rw [List.length_map,hl];simpa using h2
 have ht2:=ok.typ;rw [← e1] at ht2;unfold jid jbE;rw [ok.chk,e4,e3,ht2,e2];have h3:=ok.thn;show (jdt ty (jen (A.xs.find? (isA ⟨#[116,104,101,110]⟩ 3)))).bind (fun _=>.ok (ty,([]:List Int)))=_;rw [show jdt ty (jen (A.xs.find? (isA ⟨#[116,104,101,110]⟩ 3)))=.ok () from h3]
 rfl
def jpQ (l:List Int) (j:Nat) (p:Ten×Tq):Int:=(jjr l p).getD j 0
theorem jpR (z:Int):asE [] [z] []=0∧asL [] [z] []=[z]:=jtN (by decide) (by simp [jaA])
theorem juf {l:List Int} {p u:Ten×Tq} {j:Nat} (h:okT p=true) (ht:u.1.ty=p.1.ty) (hd:u.2.1=[]) (hz:u.2.2=[jpQ l j p]):okT u=true:=by
 have h1:=jud (l:=l) h j;obtain ⟨h0,-⟩:=jpK h;unfold okT;rw [ht,hd,hz]
 have:pbE p.1.ty [] [jpQ l j p]=0:=by
  unfold pbE;rw [if_neg (by simp [h0]),if_neg (by decide),if_neg (by simp [cnt,jaA];decide),if_pos];simp only [List.all_cons,List.all_nil,Bool.and_true];exact h1
 rw [this]
 rfl
theorem jpS {F:List Int→Int×Int} {ps us:List (Ten×Tq)} {l zs:List Int} (h:jcz F ps l (jaA l).toNat=.ok zs) (j:Nat) (hj:j<zs.length) (hd:us.map (·.2)=ps.map (fun p=>(([]:List Int),[jpQ l j p]))):jcz F us [] (jaA []).toNat=.ok [zs.getD j 0]:=by
 obtain ⟨ha,he⟩:=jpw h;obtain ⟨hz,h0⟩:=jkK F (ps.map (jjr l)) (jaA l).toNat 0 zs he;have hN:zs.length=(jaA l).toNat:=by rw [hz];simp
 have hu:∀ u∈us,u.2.1=[]∧∃ z,u.2.2=[z]:=fun u hu=>by
  have hm:u.2∈ps.map (fun p=>(([]:List Int),[jpQ l j p])):=by rw [← hd];exact List.mem_map.2 ⟨u,hu,rfl⟩
  obtain ⟨p,hp,e⟩:=List.mem_map.1 hm;rw [← e];exact ⟨rfl,_,rfl⟩
 have a1:us.all (jgl [])=true:=List.all_eq_true.2 fun u hm=>by
  obtain ⟨q1,z,q2⟩:=hu u hm;unfold jgl;rw [q1,q2,(jpR z).1]
  rfl
 have a2:(us.map (jjr [])).map (·.getD 0 0)=(ps.map (jjr l)).map (·.getD j 0):=by
  have e1:∀ vs:List (Ten×Tq),(∀ u∈vs,u.2.1=[]∧∃ z,u.2.2=[z])→(vs.map (jjr [])).map (·.getD 0 0)=(vs.map (·.2)).map (fun q=>q.2.getD 0 0):=by
   intro vs
   induction vs with
   | nil=>intro _;rfl
   | cons u vs ih =>
    intro hv;obtain ⟨q1,z,q2⟩:=hv u (List.mem_cons_self ..);simp only [List.map_cons];rw [ih fun q hq=>hv q (List.mem_cons_of_mem _ hq)]
    congr 1
    unfold jjr;rw [q1,q2,(jpR z).2]
  rw [e1 us hu,hd,List.map_map,List.map_map]
  rfl
 unfold jcz;rw [if_pos a1];have hj2:j∈List.range' 0 (jaA l).toNat:=by rw [List.mem_range'];exact ⟨j,by omega,by omega⟩
 have hz2:zs.getD j 0=(F ((ps.map (jjr l)).map (·.getD j 0))).1:=by
  rw [hz,List.getD,List.getElem?_map,List.getElem?_range' (by omega)];simp
 rw [show (jaA []).toNat=1 from rfl];simp only [evL];rw [a2,if_pos (h0 j hj2),hz2]
 rfl
end Go.Proofs.YteigfipgmghgmaaGreatDoor
namespace Go.Proofs.YteigfipgmghgmaaGreatDoor
open Go.RowKit
theorem do_xe (n:Nod) (ins:List ByteArray) (A:At) (u:Sl) (ps:List (Ten×Tq)) (w:World) (c:Int) (hl:Laid w) (hn:NodeAll w n ins A) (hv:TensIn w u.v ps) (hp1:ps.length≤1000) (h:jde ps (jid n ins A (ps.map jim))=.error c) :
    Calls Tryz.prog 8 #[jaz n,.slice u.a u.n u.c] w (DoQ w (.error c)):=by
     refine jkI n u _ w fun wx hx=>?_
     have key:=jkH n u (jde ps (jid n ins A (ps.map jim))) (fun _=>.error 5) wx (jij fun c h=>jfw h) (fun _ c h=>by cases h;decide) (fun wy hy=>by
      refine jf1 n u ps _ wy (hv.more (jaa hx hy)) (by omega) fun wz s vs hz hvs h1 h2=>?_;have key:=jo7 n ins A s vs wz (hl.more (jaa (jaa hx hy) hz)) (hn.more (jaa (jaa hx hy) hz)) hvs;rw [jgi (us:=ps.map jim) (by rw [h1,List.map_map];rfl) (by rw [h2,List.map_map];rfl)] at key;exact key) (fun wy ty dv l hy hr hd=>by rw [h] at hr;cases hr)
     rw [h] at key;exact key
structure Sec (n:Nod) (ps:List (Ten×Tq)) (w:World) (ty:Int) (l zs:List Int):Prop where
 cnt:ja2 l=0
 len:(zs.length:Int)=jaA l
 asok:∀ p∈ps,asE p.2.1 p.2.2 l=0
 again:∀ (u:Sl) (us:List (Ten×Tq)) (wx:World) (j:Nat),w.grownBy wx none→TensIn wx u.v us→us.map (·.1.ty)=ps.map (·.1.ty)→j<zs.length→us.map (·.2)=ps.map (fun p=>(([]:List Int),[jpQ l j p]))→Calls Tryz.prog 8 #[jaz n,.slice u.a u.n u.c] wx (DoQ wx (.ok (ty,[],[zs.getD j 0])))
theorem jug (n:Nod) (ins:List ByteArray) (A:At) (u:Sl) (ps:List (Ten×Tq)) (w:World) (hl:Laid w) (hn:NodeAll w n ins A) (hv:TensIn w u.v ps) (hp1:ps.length≤1000):∃ r:R (Int×List Int×List Int),(∀ wx,w.grownBy wx none→Calls Tryz.prog 8 #[jaz n,.slice u.a u.n u.c] wx (DoQ wx r))∧(∀ c,r=.error c→c≠0)∧∀ ty l zs,r=.ok (ty,l,zs)→Sec n ps w ty l zs:=by
 cases h0:jde ps (jid n ins A (ps.map jim)) with
 | error c=>exact ⟨.error c,fun wx hx=>do_xe n ins A u ps wx c (hl.more hx) (hn.more hx) (hv.more hx) hp1 h0,fun d e=>by cases e;exact jij (fun c h=>jfw h) _ h0,fun ty l zs e=>by cases e⟩
 | ok rr =>
  obtain ⟨ty,l⟩:=rr;obtain ⟨hok,hr⟩:=jii h0;have ok:=jkz hr
  rcases jvl n ins A ps ty l hn.op ok with ⟨he,hp,F,hF⟩ | hE
  ·refine ⟨doR (.ok (ty,l)) (fun l=>jcz F ps l (jaA l).toNat),fun wx hx=>?_,?_,?_⟩
   ·have key:=hF u ps wx (hl.more hx) (hn.more hx) (hv.more hx) hp1 rfl;rw [h0] at key;exact key
   ·intro c h
    replace h:(jcz F ps l (jaA l).toNat).map (fun zs=>(ty,l,zs))=.error c:=h
    cases hm:jcz F ps l (jaA l).toNat with
    | error d=>rw [hm] at h;cases h;exact jkJ _ _ _ _ _ hm
    | ok zs=>rw [hm] at h;cases h
   ·intro ty' l' zs h
    replace h:(jcz F ps l (jaA l).toNat).map (fun zs=>(ty,l,zs))=.ok (ty',l',zs):=h
    cases hm:jcz F ps l (jaA l).toNat with
    | error d=>rw [hm] at h;cases h
    | ok zs' =>
     rw [hm] at h
     cases h
     obtain ⟨ha,hev⟩:=jpw hm;have hpr:1≤jaA l:=prod_pos l (jbb ok.cnt).pos;have hz:=(jkK F _ _ _ _ hev).1;have hzl:zs.length=(jaA l).toNat:=by rw [hz];simp
     refine ⟨ok.cnt,by omega,fun p hp=>by simpa [jgl] using List.all_eq_true.1 ha p hp,fun v us wx j hx hus ht hj hd=>?_⟩;have hul:us.length=ps.length:=by simpa using congrArg List.length ht
     have key:=hF v us wx (hl.more hx) (hn.more hx) hus (by omega) ht
     have hu1:∀ q∈us,q.2.1=[]:=fun q hq=>by
      have hm2:q.2∈us.map (·.2):=List.mem_map.2 ⟨q,hq,rfl⟩;rw [hd] at hm2;obtain ⟨p,-,e⟩:=List.mem_map.1 hm2;rw [← e]
     have hall:us.all okT=true:=List.all_eq_true.2 fun q hq=>by
      obtain ⟨i,hi,e⟩:=List.mem_iff_getElem.1 hq
      have e1:q.1.ty=(ps[i]'(by omega)).1.ty:=by
       have:=congrArg (fun l=>l[i]?) ht;simp only [List.getElem?_map] at this;rw [List.getElem?_eq_getElem hi,List.getElem?_eq_getElem (by omega),e] at this;exact Option.some.inj this
      have e2:q.2=([],[jpQ l j (ps[i]'(by omega))]):=by
       have:=congrArg (fun l=>l[i]?) hd;simp only [List.getElem?_map] at this;rw [List.getElem?_eq_getElem hi,List.getElem?_eq_getElem (by omega),e] at this;exact Option.some.inj this
      exact juf (List.all_eq_true.1 hok _ (List.getElem_mem (show i<ps.length by omega))) e1 (by rw [e2]) (by rw [e2])
     have hn2:jde us (jid n ins A (us.map jim))=.ok (ty,[]):=by
      unfold jde;rw [if_pos hall];exact jrS ok he ht hu1
     rw [hn2] at key;have hm3:=jpS hm j hj hd
     have e3:doR (.ok (ty,[])) (fun l=>jcz F us l (jaA l).toNat)=.ok (ty,[],[zs.getD j 0]):=by
      show (jcz F us [] (jaA []).toNat).map _=_;rw [hm3]
      rfl
     rw [e3] at key;exact key
  ·refine ⟨.error 5,fun wx hx=>?_,fun c h=>by cases h;decide,fun ty l zs h=>by cases h⟩;have key:=hE u ps wx (hl.more hx) (hn.more hx) (hv.more hx) hp1 rfl;rw [h0] at key;exact key
end Go.Proofs.YteigfipgmghgmaaGreatDoor
namespace Go.Proofs.YteigfipgmghgmaaGreatDoor
open Go.RowKit
theorem jd7 {w:World} {B te:Nat} {zs:List Int} (h:w.heap[B]?=some (.cells (zs.map (Value.int .i64)).toArray te (0,0))) (hl:zs.length≤1000) (hz:∀ z∈zs,-1000≤z∧z≤1000):IsInts w (.slice (some ⟨B,0,none⟩) zs.length zs.length) zs:=by
 refine ⟨_,_,rfl,Nat.le_refl _,by omega,by omega,(fun h=>by cases h),fun _=>⟨B,0,rfl,fun t ht=>?_⟩,fun z h=>by have:=hz z h;omega⟩;rw [Nat.zero_add,cell_of_row _ _ t _ _ (0,0) h];simp [List.getD,ht]
theorem jrT {w:World} {B:Nat} {cur:Array Value} {ps:List (Ten×Tq)} (h:w.heap[B]?=some (.cells cur 32 (0,0))) (hc:cur.toList=(ps.map (·.1)).flatMap jdo) (hs:cur.size=ps.length*3) (hl:ps.length≤1000) (hh:∀ p∈ps,IsInts w p.1.dv.v p.2.1∧IsInts w p.1.tv.v p.2.2):TensIn w (.slice (some ⟨B,0,none⟩) ps.length ps.length) ps:=by
 refine ⟨?_,hh⟩;have e:ps.length=(ps.map (·.1)).length:=by rw [List.length_map]
 rw [e];exact jh7 (te:=32) (bytes:=56) je9 h hc (by rw [hs,e]) (by rw [← e];omega) (by rw [← e];omega)
theorem jrU (w:World) (op out:ByteArray) (iv:Sl) (ins:List ByteArray) (hi:jfe w iv.v ins):NodeIn w ⟨op,⟨#[]⟩,iv,out,joK⟩ ins [] [] :=
 ⟨hi,jaW.isL (te:=92) (base:=0) jeY (jaW.nil ..) (by simp),(fun j a h=>by simp at h),by simp,(fun a h=>by cases h)⟩
def elX (op out i1 i2:ByteArray) (k:Nat) (t0 t1:Int) (x y xs ys:List Int):R (Int×List Int×List Int) :=
 doR (jde [tq t0 x xs,tq t1 y ys] (jid ⟨op,⟨#[]⟩,joK,out,joK⟩ [i1,i2] ⟨op,[],[]⟩ [tv t0 x,tv t1 y])) fun l=>jcz (F2 k t0) [tq t0 x xs,tq t1 y ys] l (jaA l).toNat
theorem jss (op out:ByteArray) (iv:Sl) (i1 i2:ByteArray) (k:Nat) (hk:kOf op=some k) (ho:out.size≤1048576) (u:Sl) (T0 T1:Ten) (x y xs ys:List Int) (w:World) (hl:Laid w) (hi:jfe w iv.v [i1,i2]) (hv:TensIn w u.v [(T0,(x,xs)),(T1,(y,ys))]) :
    Calls Tryz.prog 8 #[jaz ⟨op,⟨#[]⟩,iv,out,joK⟩,.slice u.a u.n u.c] w (DoQ w (elX op out i1 i2 k T0.ty T1.ty x y xs ys)):=by
     have hn:∀ wx,w.grownBy wx none→NodeAll wx ⟨op,⟨#[]⟩,iv,out,joK⟩ [i1,i2] ⟨op,[],[]⟩:=fun wx hx=>⟨jrU wx op out iv _ (hi.more hx),rfl,(fun a h=>by cases h),(fun a h=>by cases h),ho⟩
     refine jkI _ u _ w fun wx hx=>jkH _ u (jde [tq T0.ty x xs,tq T1.ty y ys] (jid ⟨op,⟨#[]⟩,iv,out,joK⟩ [i1,i2] ⟨op,[],[]⟩ [tv T0.ty x,tv T1.ty y])) _ wx (jij fun c h=>jfw h) (fun l=>jkJ _ _ _ _) (fun wy hy=>?_) (fun wy ty dv l hy hr hd=>?_)
     ·refine jf1 _ u [(T0,(x,xs)),(T1,(y,ys))] _ wy (hv.more (jaa hx hy)) (by simp) fun wz s vs hz hvs h1 h2=>?_;have key:=jo7 _ [i1,i2] ⟨op,[],[]⟩ s vs wz (hl.more (jaa (jaa hx hy) hz)) (hn wz (jaa (jaa hx hy) hz)) hvs;rw [jgi (us:=[tv T0.ty x,tv T1.ty y]) h1 h2] at key;exact key
     ·have hvy:=hv.more (jaa hx hy);exact jd6 _ u [(T0,(x,xs)),(T1,(y,ys))] _ ty dv l (F2 k T0.ty) wy hvy (by simp) (by simp) hd (jkz (jii hr).2).cnt (fun wz hz=>jsr _ k hk u [(T0,(x,xs)),(T1,(y,ys))] _ ty dv wz (hvy.more hz) (by simp) T0.ty rfl)
theorem jpT:elX ⟨#[65,100,100]⟩ ⟨#[99]⟩ ⟨#[97]⟩ ⟨#[98]⟩ 0 6 6 [1,3] [2,1] [1,2,3] [10,0]=.ok (6,[2,3],[11,12,13,1,2,3]):=by kernel_rfl
theorem jpU:elX ⟨#[68,105,118]⟩ ⟨#[99]⟩ ⟨#[97]⟩ ⟨#[98]⟩ 3 6 6 [1,3] [2,1] [1,2,3] [10,0]=.error 7:=by kernel_rfl
theorem jaN {x:World} {i:Nat} {o:Obj} (p:Obj) (h:x.heap[i]?=some o):(x.alloc p).heap[i]?=some o:=((jab x p).block i (Array.getElem?_eq_some_iff.1 h).1 (by simp)).trans h
theorem jbk {x:World} {i:Nat} (p:Obj) (h:x.heap.size=i):(x.alloc p).heap[i]?=some p∧(x.alloc p).heap.size=i+1:=by
 subst h;exact ⟨heap_alloc_new x p,by simp⟩
theorem jcT {x:World} {i B:Nat} {o:Obj} {v:Value} (h:x.heap[i]?=some o) (hne:i≠B):(x.setCell ⟨B,0,none⟩ v).heap[i]?=some o:=by
 rw [← h];exact Below.heap_setCell _ _ _ _ (fun e=>hne (by rw [e]))
theorem jpV (x:World) (B:Nat) (v:Value):x.grownBy (x.setCell ⟨B,0,none⟩ v) (some B) :=
 ⟨rfl,rfl,rfl,by simp [World.setCell],fun k _ hk=>Below.heap_setCell _ _ _ _ (fun e=>hk (by rw [e]))⟩
theorem eight (w:World) (o0 o1 o2 o3 o4 o5 o6 o7:Obj):∀ W,W=(((((((w.alloc o0).alloc o1).alloc o2).alloc o3).alloc o4).alloc o5).alloc o6).alloc o7 →
    W.heap[w.heap.size]?=some o0∧W.heap[w.heap.size+1]?=some o1∧W.heap[w.heap.size+1+1]?=some o2∧W.heap[w.heap.size+1+1+1]?=some o3∧W.heap[w.heap.size+1+1+1+1]?=some o4∧W.heap[w.heap.size+1+1+1+1+1]?=some o5∧W.heap[w.heap.size+1+1+1+1+1+1]?=some o6∧W.heap[w.heap.size+1+1+1+1+1+1+1]?=some o7∧W.heap.size=w.heap.size+1+1+1+1+1+1+1+1∧w.grownBy W none:=by
     rintro W rfl;obtain ⟨a0,z0⟩:=jbk o0 (x:=w) rfl;obtain ⟨a1,z1⟩:=jbk o1 z0;obtain ⟨a2,z2⟩:=jbk o2 z1;obtain ⟨a3,z3⟩:=jbk o3 z2;obtain ⟨a4,z4⟩:=jbk o4 z3;obtain ⟨a5,z5⟩:=jbk o5 z4;obtain ⟨a6,z6⟩:=jbk o6 z5;obtain ⟨a7,z7⟩:=jbk o7 z6;refine ⟨?_,?_,?_,?_,?_,?_,?_,a7,z7,?_⟩
     ·exact jaN _ (jaN _ (jaN _ (jaN _ (jaN _ (jaN _ (jaN _ a0))))))
     ·exact jaN _ (jaN _ (jaN _ (jaN _ (jaN _ (jaN _ a1)))))
     ·exact jaN _ (jaN _ (jaN _ (jaN _ (jaN _ a2))))
     ·exact jaN _ (jaN _ (jaN _ (jaN _ a3)))
     ·exact jaN _ (jaN _ (jaN _ a4))
     ·exact jaN _ (jaN _ a5)
     ·exact jaN _ a6
     ·exact jaa (jaa (jaa (jaa (jaa (jaa (jaa (jab _ _) (jab _ _)) (jab _ _)) (jab _ _)) (jab _ _)) (jab _ _)) (jab _ _)) (jab _ _)
theorem jjz {w : World} {b B : Nat} (h0 : w.heap[b]? = some (.cells #[.int .i64 1, .int .i64 3] 3 (0, 0))) (h1 : w.heap[b + 1]? = some (.cells #[.int .i64 1, .int .i64 2, .int .i64 3] 2 (0, 0))) (h3 : w.heap[b + 1 + 1 + 1]? = some (.cells #[.int .i64 2, .int .i64 1] 3 (0, 0))) (h4 : w.heap[b + 1 + 1 + 1 + 1]? = some (.cells #[.int .i64 10, .int .i64 0] 2 (0, 0)))
    (hB:w.heap[B]?=some (.cells #[.int .i64 6,.slice (some ⟨b,0,none⟩) 2 2,.slice (some ⟨b+1,0,none⟩) 3 3,.int .i64 6,.slice (some ⟨b+1+1+1,0,none⟩) 2 2,.slice (some ⟨b+1+1+1+1,0,none⟩) 2 2] 32 (0,0))) :
    TensIn w (.slice (some ⟨B,0,none⟩) 2 2) [(⟨6,⟨some ⟨b,0,none⟩,2,2⟩,⟨some ⟨b+1,0,none⟩,3,3⟩⟩,([1,3],[1,2,3])),(⟨6,⟨some ⟨b+1+1+1,0,none⟩,2,2⟩,⟨some ⟨b+1+1+1+1,0,none⟩,2,2⟩⟩,([2,1],[10,0]))]:=by
     refine jrT (ps:=[(⟨6,⟨some ⟨b,0,none⟩,2,2⟩,⟨some ⟨b+1,0,none⟩,3,3⟩⟩,([1,3],[1,2,3])),(⟨6,⟨some ⟨b+1+1+1,0,none⟩,2,2⟩,⟨some ⟨b+1+1+1+1,0,none⟩,2,2⟩⟩,([2,1],[10,0]))]) hB rfl rfl (by simp) fun p hp=>?_;simp only [List.mem_cons,List.not_mem_nil,or_false] at hp
     rcases hp with rfl | rfl
     ·exact ⟨jd7 (zs:=[1,3]) h0 (by simp) (by simp),jd7 (zs:=[1,2,3]) h1 (by simp) (by simp)⟩
     ·exact ⟨jd7 (zs:=[2,1]) h3 (by simp) (by simp),jd7 (zs:=[10,0]) h4 (by simp) (by simp)⟩
theorem jpW (w:World) (hl:Laid w):Calls Tryz.prog 7 #[] w fun e w'=>e=.returned (.bool true)∧w.grownBy w' none:=by
 have HL:=jac hl;clear hl;obtain ⟨W,hW⟩ : ∃ W,W=(((((((w.alloc (.cells #[.int .i64 1,.int .i64 3] 3)).alloc (.cells #[.int .i64 1,.int .i64 2,.int .i64 3] 2)).alloc (.cells #[.int .i64 6,.slice (some ⟨w.heap.size,0,none⟩) 2 2,.slice (some ⟨w.heap.size+1,0,none⟩) 3 3] 32)).alloc (.cells #[.int .i64 2,.int .i64 1] 3)).alloc (.cells #[.int .i64 10,.int .i64 0] 2)).alloc (.cells #[.int .i64 6,.slice (some ⟨w.heap.size+1+1+1,0,none⟩) 2 2,.slice (some ⟨w.heap.size+1+1+1+1,0,none⟩) 2 2] 32)).alloc (.cells #[.string ⟨#[97]⟩,.string ⟨#[98]⟩] 9)).alloc (.cells #[.string ⟨#[65,100,100]⟩,.string ⟨#[]⟩,.slice (some ⟨w.heap.size+1+1+1+1+1+1,0,none⟩) 2 2,.string ⟨#[99]⟩,.slice none 0 0] 25):=⟨_,rfl⟩
 obtain ⟨b0,b1,b2,b3,b4,b5,b6,b7,zW,gW⟩:=eight w _ _ _ _ _ _ _ _ W hW;obtain ⟨V,hV⟩ : ∃ V,V=W.alloc (.cells #[.int .i64 6,.slice (some ⟨w.heap.size,0,none⟩) 2 2,.slice (some ⟨w.heap.size+1,0,none⟩) 3 3,.int .i64 6,.slice (some ⟨w.heap.size+1+1+1,0,none⟩) 2 2,.slice (some ⟨w.heap.size+1+1+1+1,0,none⟩) 2 2] 32):=⟨_,rfl⟩
 obtain ⟨b8,zV⟩:=jbk (.cells #[.int .i64 6,.slice (some ⟨w.heap.size,0,none⟩) 2 2,.slice (some ⟨w.heap.size+1,0,none⟩) 3 3,.int .i64 6,.slice (some ⟨w.heap.size+1+1+1,0,none⟩) 2 2,.slice (some ⟨w.heap.size+1+1+1+1,0,none⟩) 2 2] 32) zW;rw [← hV] at b8 zV;have gV:W.grownBy V none:=by rw [hV];exact jab _ _
 have c0:=jag b0 gV;have c1:=jag b1 gV;have c2:=jag b2 gV;have c3:=jag b3 gV;have c4:=jag b4 gV;have c5:=jag b5 gV;have c6:=jag b6 gV;have c7:=jag b7 gV;have GV:=jac (jaa gW gV);have E1:=jac (jss ⟨#[65,100,100]⟩ ⟨#[99]⟩ ⟨some ⟨w.heap.size+1+1+1+1+1+1,0,none⟩,2,2⟩ ⟨#[97]⟩ ⟨#[98]⟩ 0 (by kernel_rfl) (by decide) ⟨some ⟨w.heap.size+1+1+1+1+1+1+1+1,0,none⟩,2,2⟩ _ _ _ _ _ _ V (HL.out.more GV.out) (jh7 (te:=9) (bytes:=16) (xs:=[⟨#[97]⟩,⟨#[98]⟩]) jfI c6 rfl rfl (Nat.le_of_ble_eq_true rfl) (Nat.le_of_ble_eq_true rfl)) (jjz c0 c1 c3 c4 b8));rw [show elX ⟨#[65,100,100]⟩ ⟨#[99]⟩ ⟨#[97]⟩ ⟨#[98]⟩ 0 (Ten.ty ⟨6,⟨some ⟨w.heap.size,0,none⟩,2,2⟩,⟨some ⟨w.heap.size+1,0,none⟩,3,3⟩⟩) (Ten.ty ⟨6,⟨some ⟨w.heap.size+1+1+1,0,none⟩,2,2⟩,⟨some ⟨w.heap.size+1+1+1+1,0,none⟩,2,2⟩⟩) [1,3] [2,1] [1,2,3] [10,0]=.ok (6,[2,3],[11,12,13,1,2,3]) from jpT] at E1;unfold jaz joK at E1;simp only at E1;have BC:Hid (∀ wx,V.grownBy wx none→wx.heap[w.heap.size]?=some (.cells #[.int .i64 1,.int .i64 3] 3 (0,0))∧wx.heap[w.heap.size+1]?=some (.cells #[.int .i64 1,.int .i64 2,.int .i64 3] 2 (0,0))∧wx.heap[w.heap.size+1+1]?=some (.cells #[.int .i64 6,.slice (some ⟨w.heap.size,0,none⟩) 2 2,.slice (some ⟨w.heap.size+1,0,none⟩) 3 3] 32 (0,0))∧wx.heap[w.heap.size+1+1+1]?=some (.cells #[.int .i64 2,.int .i64 1] 3 (0,0))∧wx.heap[w.heap.size+1+1+1+1]?=some (.cells #[.int .i64 10,.int .i64 0] 2 (0,0))∧wx.heap[w.heap.size+1+1+1+1+1]?=some (.cells #[.int .i64 6,.slice (some ⟨w.heap.size+1+1+1,0,none⟩) 2 2,.slice (some ⟨w.heap.size+1+1+1+1,0,none⟩) 2 2] 32 (0,0))∧wx.heap[w.heap.size+1+1+1+1+1+1]?=some (.cells #[.string ⟨#[97]⟩,.string ⟨#[98]⟩] 9 (0,0))∧wx.heap[w.heap.size+1+1+1+1+1+1+1]?=some (.cells #[.string ⟨#[65,100,100]⟩,.string ⟨#[]⟩,.slice (some ⟨w.heap.size+1+1+1+1+1+1,0,none⟩) 2 2,.string ⟨#[99]⟩,.slice none 0 0] 25 (0,0))):=fun wx hx=>⟨jag c0 hx,jag c1 hx,jag c2 hx,jag c3 hx,jag c4 hx,jag c5 hx,jag c6 hx,jag c7 hx⟩
 have ZV:=jac zV;clear b0 b1 b2 b3 b4 b5 b6 b7 b8 c0 c1 c2 c3 c4 c5 c6 c7 zW zV gW gV;go_enter Tryz.func7,Tryz.ntmps7;go_wp2_with fail;rw [← hW,← hV];clear hW hV;refine E1.out.mono ?_;rintro e w1 ⟨hg1,⟨ty,⟨da,dn,dc⟩,⟨ta,tn,tc⟩⟩,ht,rfl,od,ot⟩;simp only at ht;subst ht;unfold jpY;simp only;obtain ⟨wA,hwA⟩ : ∃ wA,wA=w1.alloc (.cells #[.int .i64 6,.slice da dn dc,.slice ta tn tc] 32):=⟨_,rfl⟩
 have gA:w1.grownBy wA none:=by rw [hwA];exact jab _ _
 obtain ⟨bA,zA⟩:=jbk (.cells #[.int .i64 6,.slice da dn dc,.slice ta tn tc] 32) (x:=w1) rfl;rw [← hwA] at bA zA;obtain ⟨c0,c1,c2,c3,c4,c5,c6,c7⟩:=BC.out wA (jaa hg1 gA);have s1:=hg1.size;have s2:=ZV.out;obtain ⟨N,hN⟩ : ∃ N,N=w.heap.size+1+1+1+1+1+1+1:=⟨_,rfl⟩
 obtain ⟨wB,hwB⟩ : ∃ wB,wB=wA.setCell ⟨w.heap.size+1+1+1+1+1+1+1,0,none⟩ (.string ⟨#[68,105,118]⟩):=⟨_,rfl⟩
 have k7:wA.cell? ⟨w.heap.size+1+1+1+1+1+1+1,0,none⟩=some (.string ⟨#[65,100,100]⟩):=(cell_of_row _ _ 0 _ _ (0,0) c7).trans rfl;have f7:=frozen_of_row wA (w.heap.size+1+1+1+1+1+1+1) 0 _ _ c7
 have nB:wB.heap[w.heap.size+1+1+1+1+1+1+1]?=some (.cells #[.string ⟨#[68,105,118]⟩,.string ⟨#[]⟩,.slice (some ⟨w.heap.size+1+1+1+1+1+1,0,none⟩) 2 2,.string ⟨#[99]⟩,.slice none 0 0] 25 (0,0)):=by
  rw [hwB];simpa using heap_setCell_same wA (w.heap.size+1+1+1+1+1+1+1) 0 _ _ (.string ⟨#[68,105,118]⟩) c7
 have d0:=jcT (B:=w.heap.size+1+1+1+1+1+1+1) (v:=.string ⟨#[68,105,118]⟩) c0 (by omega);have d1:=jcT (B:=w.heap.size+1+1+1+1+1+1+1) (v:=.string ⟨#[68,105,118]⟩) c1 (by omega);have d2:=jcT (B:=w.heap.size+1+1+1+1+1+1+1) (v:=.string ⟨#[68,105,118]⟩) c2 (by omega);have d3:=jcT (B:=w.heap.size+1+1+1+1+1+1+1) (v:=.string ⟨#[68,105,118]⟩) c3 (by omega);have d4:=jcT (B:=w.heap.size+1+1+1+1+1+1+1) (v:=.string ⟨#[68,105,118]⟩) c4 (by omega);have d5:=jcT (B:=w.heap.size+1+1+1+1+1+1+1) (v:=.string ⟨#[68,105,118]⟩) c5 (by omega);have d6:=jcT (B:=w.heap.size+1+1+1+1+1+1+1) (v:=.string ⟨#[68,105,118]⟩) c6 (by omega);have dA:=jcT (B:=w.heap.size+1+1+1+1+1+1+1) (v:=.string ⟨#[68,105,118]⟩) bA (by omega);rw [← hwB] at d0 d1 d2 d3 d4 d5 d6 dA;have zB:wB.heap.size=w1.heap.size+1:=by rw [hwB,← zA];simp [World.setCell]
 have gB:wA.grownBy wB (some (w.heap.size+1+1+1+1+1+1+1)):=by rw [hwB];exact jpV _ _ _
 have GB:=jac (jaG (jaa GV.out (jaa hg1 gA)) gB (by omega));have OD:=jac ((od.more gA (by cases (Sl.v ⟨da,dn,dc⟩).ownBlock <;> simp)).more gB (jhf od.1 (by omega)))
 have OT:=jac ((ot.more gA (by cases (Sl.v ⟨ta,tn,tc⟩).ownBlock <;> simp)).more gB (jhf ot.1 (by omega)))
 obtain ⟨wC,hwC⟩ : ∃ wC,wC=wB.alloc (.cells #[.int .i64 6,.slice (some ⟨w.heap.size,0,none⟩) 2 2,.slice (some ⟨w.heap.size+1,0,none⟩) 3 3,.int .i64 6,.slice (some ⟨w.heap.size+1+1+1,0,none⟩) 2 2,.slice (some ⟨w.heap.size+1+1+1+1,0,none⟩) 2 2] 32):=⟨_,rfl⟩
 obtain ⟨b8,-⟩:=jbk (.cells #[.int .i64 6,.slice (some ⟨w.heap.size,0,none⟩) 2 2,.slice (some ⟨w.heap.size+1,0,none⟩) 3 3,.int .i64 6,.slice (some ⟨w.heap.size+1+1+1,0,none⟩) 2 2,.slice (some ⟨w.heap.size+1+1+1+1,0,none⟩) 2 2] 32) zB;rw [← hwC] at b8;have gC:wB.grownBy wC none:=by rw [hwC];exact jab _ _
 have E2:=jac (jss ⟨#[68,105,118]⟩ ⟨#[99]⟩ ⟨some ⟨w.heap.size+1+1+1+1+1+1,0,none⟩,2,2⟩ ⟨#[97]⟩ ⟨#[98]⟩ 3 (by kernel_rfl) (by decide) ⟨some ⟨w1.heap.size+1,0,none⟩,2,2⟩ _ _ _ _ _ _ wC (HL.out.more (jaa GB.out gC)) (jh7 (te:=9) (bytes:=16) (xs:=[⟨#[97]⟩,⟨#[98]⟩]) jfI (jag d6 gC) rfl rfl (Nat.le_of_ble_eq_true rfl) (Nat.le_of_ble_eq_true rfl)) (jjz (jag d0 gC) (jag d1 gC) (jag d3 gC) (jag d4 gC) b8));rw [show elX ⟨#[68,105,118]⟩ ⟨#[99]⟩ ⟨#[97]⟩ ⟨#[98]⟩ 3 (Ten.ty ⟨6,⟨some ⟨w.heap.size,0,none⟩,2,2⟩,⟨some ⟨w.heap.size+1,0,none⟩,3,3⟩⟩) (Ten.ty ⟨6,⟨some ⟨w.heap.size+1+1+1,0,none⟩,2,2⟩,⟨some ⟨w.heap.size+1+1+1+1,0,none⟩,2,2⟩⟩) [1,3] [2,1] [1,2,3] [10,0]=.error 7 from jpU] at E2;unfold jaz joK at E2;simp only at E2;obtain ⟨n0,n1,n2,n3,n4⟩:=jak (n:=⟨⟨#[68,105,118]⟩,⟨#[]⟩,⟨some ⟨w.heap.size+1+1+1+1+1+1,0,none⟩,2,2⟩,⟨#[99]⟩,⟨none,0,0⟩⟩) nB;obtain ⟨x0,x1,x2⟩:=ja3 d2;obtain ⟨y0,y1,y2⟩:=ja3 d5;simp only at n0 n1 n2 n3 n4;rw [hwB,hwA] at n0 n1 n2 n3 n4 x0 x1 x2 y0 y1 y2;rw [hwA] at k7 f7;have DA:=jac dA;have GC:=jac gC;clear c0 c1 c2 c3 c4 c5 c6 c7 d0 d1 d2 d3 d4 d5 d6 dA nB b8 gC gB gA bA zA s1 s2 od ot hg1 E1 hN;go_wp2_with fail;rw [← hwA,← hwB,← hwC];clear hwA hwB hwC n0 n1 n2 n3 n4 x0 x1 x2 y0 y1 y2 k7 f7;refine E2.out.mono ?_;rintro e w2 ⟨hg2,rfl⟩;have G2:=jac (jaa (jaa GB.out GC.out) hg2);obtain ⟨wD,hwD⟩ : ∃ wD,wD=w2.alloc (.cells #[.int .i64 0,.slice none 0 0,.slice none 0 0] 32):=⟨_,rfl⟩
 obtain ⟨wE,hwE⟩ : ∃ wE,wE=wD.alloc (.cells #[.int .i64 2,.int .i64 3] 3):=⟨_,rfl⟩
 obtain ⟨wF,hwF⟩ : ∃ wF,wF=wE.alloc (.cells #[.int .i64 11,.int .i64 12,.int .i64 13,.int .i64 1,.int .i64 2,.int .i64 3] 2):=⟨_,rfl⟩
 have gD:w2.grownBy wD none:=by rw [hwD];exact jab _ _
 have gE:wD.grownBy wE none:=by rw [hwE];exact jab _ _
 have gF:wE.grownBy wF none:=by rw [hwF];exact jab _ _
 obtain ⟨-,zD⟩:=jbk (.cells #[.int .i64 0,.slice none 0 0,.slice none 0 0] 32) (x:=w2) rfl;rw [← hwD] at zD;obtain ⟨bE,zE⟩:=jbk (.cells #[.int .i64 2,.int .i64 3] 3) zD;rw [← hwE] at bE zE;obtain ⟨bF,-⟩:=jbk (.cells #[.int .i64 11,.int .i64 12,.int .i64 13,.int .i64 1,.int .i64 2,.int .i64 3] 2) zE;rw [← hwF] at bF;have gB2:=jaa (jaa (jaa (jaa GC.out hg2) gD) gE) gF;have SA:=jac (jme 6 _ _ _ _ [2,3] [11,12,13,1,2,3] wF (OD.out.ints.more gB2) (OT.out.ints.more gB2) (jd7 (zs:=[2,3]) (jag bE gF) (by simp) (by simp)) (jd7 (zs:=[11,12,13,1,2,3]) bF (by simp) (by simp)));simp only [Sl.v,List.length_cons,List.length_nil,Nat.zero_add,Nat.reduceAdd] at SA;obtain ⟨y0,y1,y2⟩:=ja3 (jag DA.out (jaa (jaa GC.out hg2) gD));rw [hwD] at y0 y1 y2;have GF:=jac (jaa (jaa (jaa G2.out gD) gE) gF);clear gB2 gD gE gF zD zE bE bF hg2 E2;go_wp2_with fail;rw [← hwD,← hwE,← hwF];clear hwD hwE hwF y0 y1 y2;refine SA.out.mono ?_;rintro e w6 ⟨rfl,hg6⟩;go_wp2;go_ret;exact ⟨rfl,jaa GF.out hg6⟩
end Go.Proofs.YteigfipgmghgmaaGreatDoor
