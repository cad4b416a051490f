/- A part. -/
import Derived.Test.YteigfipgmghgmaaGreatDoorQartBN
import Derived.Test.YteigfipgmghgmaaGreatDoorQartBO
import Derived.Test.YteigfipgmghgmaaGreatDoorQartAU
import Derived.Test.YteigfipgmghgmaaGreatDoorQartBP
import Derived.Test.YteigfipgmghgmaaGreatDoorQartAN
set_option maxHeartbeats 16000000
set_option maxRecDepth 100000
namespace Go.Proofs.YteigfipgmghgmaaGreatDoor
open Go.RowKit
def W64 (x:Int):Prop := -9223372036854775808≤x∧x≤9223372036854775807
theorem jim (k:Nat) (t x:Int) (hx:W64 x):W64 (Nu.un k t x).1:=by
 unfold Nu.un
 split
 ·rename_i hc
  split
  ·exact hx
  ·split
   ·unfold Nu.unFl
    split
    ·exact jbD _ (Nu.negF_lt _ (jec x))
    ·exact jbD _ (Nu.absF_lt _)
    ·exact jbD _ (Nu.reluF_lt _ (jec x))
    ·exact ⟨by decide,by decide⟩
   ·split
    ·rename_i h9;subst h9;unfold Nu.unBo
     split
     ·rcases jnU hc with rfl | rfl <;> exact ⟨by decide,by decide⟩
     ·exact ⟨by decide,by decide⟩
    ·unfold Nu.unIn
     split
     ·exact jbU _ _ (jdT _)
     ·show W64 (Nu.absI t x);unfold Nu.absI
      split
      ·exact jbU _ _ (jdT _)
      ·exact hx
     ·exact ⟨by decide,by decide⟩
 ·exact ⟨by decide,by decide⟩
theorem jed {v:Int} (h:Nu.chk 1 v=true):W64 v:=by
 have h2:(0≤v∧v<4294967296):=by
  unfold Nu.chk at h;simp at h;omega
 exact ⟨by omega,by omega⟩
theorem jcv (b:Bool):Nu.chk 9 (Nu.b2i b)=true:=by cases b <;> decide
theorem jrY (t:Int) (b:Nat):W64 (Nu.f2i t b):=by
 have hv:W64 ((floatToIntVal .f64 (Nu.cv b) .i64).getD 0):=by
  cases h:floatToIntVal .f64 (Nu.cv b) .i64 with
  | none=>exact ⟨by decide,by decide⟩
  | some n=>exact Nu.val_bd _ n h
 unfold Nu.f2i
 split
 ·exact ⟨by decide,by decide⟩
 ·split
  ·split
   ·exact ⟨by decide,by decide⟩
   ·split
    ·exact ⟨by decide,by decide⟩
    ·exact hv
  ·split
   ·exact ⟨by decide,by decide⟩
   ·split
    ·exact ⟨by decide,by decide⟩
    ·exact hv
theorem f2i_6 (b:Nat) (hb:b<4294967296):Nu.chk 6 (Nu.f2i 6 b)=true:=by
 have key : -2147483648≤Nu.f2i 6 b∧Nu.f2i 6 b≤2147483647:=by
  unfold Nu.f2i
  split
  ·decide
  ·rename_i hn;simp only [if_true]
   rcases Nu.int_cases b hb (Nu.not_nan_le b hb (by simpa using hn)) with ⟨h1,-⟩ | ⟨h1,h2,-⟩ | ⟨h1,h2,-,-,n,h3,h4,h5⟩
   ·rw [if_pos h1];decide
   ·rw [if_neg (by rw [h1];decide),if_pos h2];decide
   ·rw [if_neg (by rw [h1];decide),if_neg (by rw [h2];decide),h3];exact ⟨h4,h5⟩
 unfold Nu.chk;simp only;simp;omega
theorem jrZ (f t x:Int) (hx:W64 x):W64 (Nu.cst f t x).1:=by
 unfold Nu.cst
 split
 ·split
  ·exact hx
  ·split
   ·exact jcX _
   ·split
    ·exact jrY _ _
    ·split
     ·exact jcX _
     ·split
      ·exact jbD _ (Nu.foi_lt x)
      ·exact jbU _ _ hx
 ·exact ⟨by decide,by decide⟩
theorem jr0 (f t x:Int) (h:(Nu.cst f t x).2=0):Nu.chk t (Nu.cst f t x).1=true:=by
 unfold Nu.cst at h ⊢
 split at h
 ·rename_i hc;rw [if_pos hc];rw [Bool.and_eq_true] at hc;have ht:=Nu.isT_cases t hc.2
  split
  ·rename_i e;rw [← e];exact hc.1
  ·rename_i e1
   split
   ·rename_i e2;rw [e2.2];exact jcv _
   ·rename_i e2
    split
    ·rename_i e3
     rcases ht with rfl | rfl | rfl | rfl
     ·exact absurd e3 e1
     ·exact f2i_6 _ (jec x)
     ·simp [Nu.chk]
     ·exact absurd ⟨e3,rfl⟩ e2
    ·split
     ·rename_i e4;rw [e4];exact jcv _
     ·split
      ·rename_i e4;rw [e4];exact Nu.chk_tob _ (Nu.foi_lt x)
      ·rename_i e4 e5;exact Nu.wrapT_stays t x (by rcases ht with rfl | rfl | rfl | rfl <;> simp_all)
 ·cases h
theorem jr1 (k:Nat) (t x y:Int) (hx:W64 x) (hy:W64 y):W64 (Nu.bin k t x y).1:=by
 have h:=jsK k t [x,y];unfold G2 at h;rw [if_pos (by exact ⟨hx,hy⟩)] at h;exact h
theorem jee (op:BinOp) (x y:Nat):Nu.chk 1 (Nu.tobO (floatBits op .f32 x y))=true:=by
 cases h:floatBits op .f32 x y with
 | none=>decide
 | some r =>
  have:=floatBits_wf h;exact Nu.chk_tob r (by simpa [Lit.wf] using this)
theorem jnZ (x y:Nat) (hx:x<4294967296) (hy:y<4294967296):Nu.chk 1 (Nu.maxF x y)=true:=by
 unfold Nu.maxF
 split
 ·decide
 ·exact Nu.chk_tob y hy
 ·exact Nu.chk_tob x hx
 ·split
  ·exact Nu.chk_tob y hy
  ·exact Nu.chk_tob x hx
theorem jn0 (x y:Nat) (hx:x<4294967296) (hy:y<4294967296):Nu.chk 1 (Nu.minF x y)=true:=by
 unfold Nu.minF
 split
 ·decide
 ·exact Nu.chk_tob x hx
 ·exact Nu.chk_tob y hy
 ·split
  ·exact Nu.chk_tob x hx
  ·exact Nu.chk_tob y hy
def jr7 (k:Nat) (t:Int):Int:=if 9≤k then 9 else t
theorem jn1 (k:Nat) (t x y:Int) (hk:k<12) (h0:(Nu.bin k t x y).2=0):Nu.chk (jr7 k t) (Nu.bin k t x y).1=true:=by
 have h:=h0;unfold Nu.bin at h ⊢
 split at h
 case isFalse=>cases h
 rename_i hc;rw [if_pos hc];rw [Bool.and_eq_true] at hc;have hk':k=0∨k=1∨k=2∨k=3∨k=4∨k=5∨k=6∨k=7∨k=8∨k=9∨k=10∨k=11:=by omega
 have hlx:=jec x;have hly:=jec y
 by_cases h1:t=1
 ·subst h1;rw [if_pos rfl] at h ⊢
  rcases hk' with rfl | rfl | rfl | rfl | rfl | rfl | rfl | rfl | rfl | rfl | rfl | rfl
  ·exact jee _ _ _
  ·exact jee _ _ _
  ·exact jee _ _ _
  ·exact jee _ _ _
  ·exact jnZ _ _ hlx hly
  ·exact jn0 _ _ hlx hly
  ·cases h
  ·cases h
  ·cases h
  ·exact jcv _
  ·exact jcv _
  ·exact jcv _
 ·rw [if_neg h1] at h ⊢
  by_cases h9:t=9
  ·subst h9;rw [if_pos rfl] at h ⊢
   rcases jnU hc.1 with rfl | rfl <;> rcases jnU hc.2 with rfl | rfl <;> rcases hk' with rfl | rfl | rfl | rfl | rfl | rfl | rfl | rfl | rfl | rfl | rfl | rfl <;> revert h <;> decide
  ·rw [if_neg h9] at h ⊢;have ht:=Nu.ints_of t x hc.1 h1 h9
   rcases hk' with rfl | rfl | rfl | rfl | rfl | rfl | rfl | rfl | rfl | rfl | rfl | rfl
   ·exact Nu.wrapT_stays t _ ht
   ·exact Nu.wrapT_stays t _ ht
   ·exact Nu.wrapT_stays t _ ht
   ·by_cases h0:y=0
    ·simp [Nu.binIn,h0] at h
    ·simp only [Nu.binIn,h0,if_false];exact Nu.wrapT_stays t _ ht
   ·exact Nu.wrapT_stays t _ ht
   ·exact Nu.wrapT_stays t _ ht
   ·cases h
   ·cases h
   ·cases h
   ·exact jcv _
   ·exact jcv _
   ·exact jcv _
theorem jbr {c:Int} {A:Prop} (h0:c=0) (h:c=0∧A∨c=1):A:=h.elim (·.2) (fun e=>absurd (h0.symm.trans e) (by decide))
theorem jsL (op:ByteArray) (hop:op∈([⟨#[73,100,101,110,116,105,116,121]⟩,⟨#[78,101,103]⟩,⟨#[65,98,115]⟩,⟨#[78,111,116]⟩,⟨#[82,101,108,117]⟩,⟨#[83,113,114,116]⟩,⟨#[70,108,111,111,114]⟩,⟨#[69,120,112]⟩,⟨#[83,105,103,109,111,105,100]⟩,⟨#[84,97,110,104]⟩]:List ByteArray)) (t x:Int) (hx:W64 x) (hf:op∈([⟨#[83,113,114,116]⟩,⟨#[70,108,111,111,114]⟩,⟨#[69,120,112]⟩,⟨#[83,105,103,109,111,105,100]⟩,⟨#[84,97,110,104]⟩]:List ByteArray)→t=1) (w:World):Calls Tryz.prog 29 #[.string op,.int .i64 t,.int .i64 x] w (jqp (fun v=>Nu.chk t v=true) w):=by
 simp only [List.mem_cons,List.not_mem_nil,or_false] at hop
 rcases hop with rfl | rfl | rfl | rfl | rfl | rfl | rfl | rfl | rfl | rfl
 ·refine (Nu.unary0 t x w).mono ?_;rintro e w' ⟨rfl,rfl⟩;exact ⟨_,_,rfl,fun h=>⟨jim 0 t x hx,jbr h (Nu.un_stays 0 t x (by decide))⟩,0,rfl⟩
 ·refine (Nu.unary1 t x w).mono ?_;rintro e w' ⟨rfl,rfl⟩;exact ⟨_,_,rfl,fun h=>⟨jim 1 t x hx,jbr h (Nu.un_stays 1 t x (by decide))⟩,0,rfl⟩
 ·refine (Nu.unary2 t x w).mono ?_;rintro e w' ⟨rfl,rfl⟩;exact ⟨_,_,rfl,fun h=>⟨jim 2 t x hx,jbr h (Nu.un_stays 2 t x (by decide))⟩,0,rfl⟩
 ·refine (Nu.unary3 t x w).mono ?_;rintro e w' ⟨rfl,rfl⟩;exact ⟨_,_,rfl,fun h=>⟨jim 3 t x hx,jbr h (Nu.un_stays 3 t x (by decide))⟩,0,rfl⟩
 ·refine (Nu.unary4 t x w).mono ?_;rintro e w' ⟨rfl,rfl⟩;exact ⟨_,_,rfl,fun h=>⟨jim 4 t x hx,jbr h (Nu.un_stays 4 t x (by decide))⟩,0,rfl⟩
 ·obtain rfl:t=1:=hf (by simp);refine (Nu.stay_un5 1 x w).mono ?_;rintro e w' ⟨v,c,q,hc,rfl,rfl⟩;exact ⟨v,c,rfl,fun h=>⟨jed (jbr h hc),jbr h hc⟩,q,rfl⟩
 ·obtain rfl:t=1:=hf (by simp);refine (Nu.stay_un6 1 x w).mono ?_;rintro e w' ⟨v,c,q,hc,rfl,rfl⟩;exact ⟨v,c,rfl,fun h=>⟨jed (jbr h hc),jbr h hc⟩,q,rfl⟩
 ·obtain rfl:t=1:=hf (by simp);refine (Nu.stay_un7 1 x w).mono ?_;rintro e w' ⟨v,c,q,hc,rfl,rfl⟩;exact ⟨v,c,rfl,fun h=>⟨jed (jbr h hc),jbr h hc⟩,q,rfl⟩
 ·obtain rfl:t=1:=hf (by simp);refine (Nu.stay_un8 1 x w).mono ?_;rintro e w' ⟨v,c,q,hc,rfl,rfl⟩;exact ⟨v,c,rfl,fun h=>⟨jed (jbr h hc),jbr h hc⟩,q,rfl⟩
 ·obtain rfl:t=1:=hf (by simp);refine (Nu.stay_un9 1 x w).mono ?_;rintro e w' ⟨v,c,q,hc,rfl,rfl⟩;exact ⟨v,c,rfl,fun h=>⟨jed (jbr h hc),jbr h hc⟩,q,rfl⟩
theorem jsM {op:ByteArray} {k:Nat} (h:kOf op=some k) (t x y:Int) (w:World):Calls Tryz.prog 31 #[.string op,.int .i64 t,.int .i64 x,.int .i64 y] w fun e w'=>e=.returned (.tuple #[.int .i64 (Nu.bin k t x y).1,.int .i64 (Nu.bin k t x y).2])∧∃ q,w'=w.drewN q:=by
 have h12:=jnY h;simp only [List.mem_cons,List.not_mem_nil,or_false] at h12
 rcases h12 with rfl | rfl | rfl | rfl | rfl | rfl | rfl | rfl | rfl | rfl | rfl | rfl
 ·obtain rfl:k=0:=Option.some.inj (h.symm.trans (show kOf ⟨#[65,100,100]⟩=some 0 by kernel_rfl));exact Nu.binary0 t x y w
 ·obtain rfl:k=1:=Option.some.inj (h.symm.trans (show kOf ⟨#[83,117,98]⟩=some 1 by kernel_rfl));exact Nu.binary1 t x y w
 ·obtain rfl:k=2:=Option.some.inj (h.symm.trans (show kOf ⟨#[77,117,108]⟩=some 2 by kernel_rfl));exact Nu.binary2 t x y w
 ·obtain rfl:k=3:=Option.some.inj (h.symm.trans (show kOf ⟨#[68,105,118]⟩=some 3 by kernel_rfl));exact Nu.binary3 t x y w
 ·obtain rfl:k=4:=Option.some.inj (h.symm.trans (show kOf ⟨#[77,97,120]⟩=some 4 by kernel_rfl));exact Nu.binary4 t x y w
 ·obtain rfl:k=5:=Option.some.inj (h.symm.trans (show kOf ⟨#[77,105,110]⟩=some 5 by kernel_rfl));exact Nu.binary5 t x y w
 ·obtain rfl:k=6:=Option.some.inj (h.symm.trans (show kOf ⟨#[65,110,100]⟩=some 6 by kernel_rfl));exact Nu.binary6 t x y w
 ·obtain rfl:k=7:=Option.some.inj (h.symm.trans (show kOf ⟨#[79,114]⟩=some 7 by kernel_rfl));exact Nu.binary7 t x y w
 ·obtain rfl:k=8:=Option.some.inj (h.symm.trans (show kOf ⟨#[88,111,114]⟩=some 8 by kernel_rfl));exact Nu.binary8 t x y w
 ·obtain rfl:k=9:=Option.some.inj (h.symm.trans (show kOf ⟨#[69,113,117,97,108]⟩=some 9 by kernel_rfl));exact Nu.binary9 t x y w
 ·obtain rfl:k=10:=Option.some.inj (h.symm.trans (show kOf ⟨#[76,101,115,115]⟩=some 10 by kernel_rfl));exact Nu.binary10 t x y w
 ·obtain rfl:k=11:=Option.some.inj (h.symm.trans (show kOf ⟨#[71,114,101,97,116,101,114]⟩=some 11 by kernel_rfl));exact Nu.binary11 t x y w
theorem k_lt {op:ByteArray} {k:Nat} (h:kOf op=some k):k<12:=by
 unfold kOf at h;rw [List.idxOf?_eq_some_iff] at h;exact h.1
theorem jn2 (n : Nod) (P : Int → Prop) (p1 p2 B m : Nat) (ub uo un uc : Nat) (ty x : Int) (w : World) (hm : 0 < m) (hn : w.heap[p1]? = some (.cells #[.string n.op, .string n.name, .slice n.iv.a n.iv.n n.iv.c, .string n.out, .slice n.av.a n.av.n n.av.c] 25 (0, 0))) (hi : w.heap[p2]? = some (.cells #[.slice (some ⟨ub, uo, none⟩) un uc] 26 (0, 0))) (hun : 0 < un) (ht : w.cell? ⟨ub, uo, none⟩ = some (.int .i64 ty)) (hx : w.cell? ⟨B, 0, none⟩ = some (.int .i64 x))
    (UC:∀ wx,Calls Tryz.prog 29 #[.string n.op,.int .i64 ty,.int .i64 x] wx (jqp P wx)) :
    Calls Tryz.prog 28 #[.slice (some ⟨B,0,none⟩) m m,.pointer (some ⟨p1,0,none⟩),.pointer (some ⟨p2,0,none⟩)] w (jqp P w):=by
     obtain ⟨n0,-,-,-,-⟩:=jaj hn;have c8:=jbk hi;have hun':(0:Int)<(un:Int):=by omega
     have i0:(0:Int)<(m:Int):=by omega
     have BB:=jac UC;clear hn hi UC;go_enter Tryz.func28,Tryz.ntmps28;go_wp2_with fail;go_region_held3 (fun w'=>w'.cell? ⟨p1,0,none⟩=some (.string n.op)∧w'.cell? ⟨p2,0,none⟩=some (.slice (some ⟨ub,uo,none⟩) un uc)∧w'.cell? ⟨ub,uo,none⟩=some (.int .i64 ty)∧w'.cell? ⟨B,0,none⟩=some (.int .i64 x)) (go_keep) (first | (go_at_call 29;refine (BB.out _).mono ?_;rintro e w1 ⟨v,c,rfl,hP,q,rfl⟩;have HP:=jac hP;clear hP) | fail);go_wp2;go_ret2;exact ⟨v,c,rfl,HP.out,_,by first | rfl | exact World.drewN_drewN _ _ _⟩
theorem jn3 (n:Nod) (k:Nat) (hk:kOf n.op=some k) (p1 p2 B m:Nat) (ub uo un uc:Nat) (ty x y:Int) (w:World) (hm:1<m) (hn:w.heap[p1]?=some (.cells #[.string n.op,.string n.name,.slice n.iv.a n.iv.n n.iv.c,.string n.out,.slice n.av.a n.av.n n.av.c] 25 (0,0))) (hi:w.heap[p2]?=some (.cells #[.slice (some ⟨ub,uo,none⟩) un uc] 26 (0,0))) (hun:0<un) (ht:w.cell? ⟨ub,uo,none⟩=some (.int .i64 ty)) (hx:w.cell? ⟨B,0,none⟩=some (.int .i64 x)) (hy:w.cell? ⟨B,1,none⟩=some (.int .i64 y)) (rx:W64 x) (ry:W64 y) :
    Calls Tryz.prog 30 #[.slice (some ⟨B,0,none⟩) m m,.pointer (some ⟨p1,0,none⟩),.pointer (some ⟨p2,0,none⟩)] w (jqp (fun v=>Nu.chk (jr7 k ty) v=true) w):=by
     obtain ⟨n0,-,-,-,-⟩:=jaj hn;have c8:=jbk hi;have hun':(0:Int)<(un:Int):=by omega
     have i1:(1:Int)<(m:Int):=by omega
     have i0:(0:Int)<(m:Int):=by omega
     have BB:=jac (fun (wx:World)=>jsM hk ty x y wx);have RR:=jac (show W64 (Nu.bin k ty x y).1∧((Nu.bin k ty x y).2=0→Nu.chk (jr7 k ty) (Nu.bin k ty x y).1=true) from ⟨jr1 k ty x y rx ry,jn1 k ty x y (k_lt hk)⟩);obtain ⟨r1,e1⟩ : ∃ r,r=(Nu.bin k ty x y).1:=⟨_,rfl⟩
     obtain ⟨r2,e2⟩ : ∃ r,r=(Nu.bin k ty x y).2:=⟨_,rfl⟩
     rw [← e1,← e2] at BB RR;clear hn hi hk rx ry e1 e2;go_enter Tryz.func30,Tryz.ntmps30;go_wp2_with fail
     go_quiet (first | (go_at_call 31;refine (BB.out _).mono ?_;rintro e w' ⟨rfl,q,rfl⟩;exact ⟨rfl,_,World.drewN_drewN _ _ _⟩) | fail)
     go_wp2;go_ret2;exact ⟨r1,r2,rfl,fun h=>⟨RR.out.1,RR.out.2 h⟩,_,rfl⟩
theorem jk7 (B m:Nat) (x y z:Int) (w:World) (hm:2<m) (hx:w.cell? ⟨B,0,none⟩=some (.int .i64 x)) (hy:w.cell? ⟨B,1,none⟩=some (.int .i64 y)) (hz:w.cell? ⟨B,2,none⟩=some (.int .i64 z)) (ry:W64 y) (rz:W64 z) :
    Calls Tryz.prog 32 #[.slice (some ⟨B,0,none⟩) m m] w (jqp (fun v=>v=y∨v=z) w):=by
     have i2:(2:Int)<(m:Int):=by omega
     have i1:(1:Int)<(m:Int):=by omega
     have i0:(0:Int)<(m:Int):=by omega
     have RY:=jac ry;have RZ:=jac rz;clear ry rz;go_enter Tryz.func32,Tryz.ntmps32
     by_cases h:x=1
     ·have hb:(x==1)=true:=by simp [h]
      clear h;go_wp2;go_ret2;exact ⟨y,0,rfl,fun _=>⟨RY.out,.inl rfl⟩,0,rfl⟩
     ·have hb:(x==1)=false:=by simp [h]
      clear h;go_wp2;go_ret2;exact ⟨z,0,rfl,fun _=>⟨RZ.out,.inr rfl⟩,0,rfl⟩
end Go.Proofs.YteigfipgmghgmaaGreatDoor
namespace Go.Proofs.YteigfipgmghgmaaGreatDoor
open Go.RowKit
theorem wof_1 (n:Nod) (hop:n.op∈([⟨#[73,100,101,110,116,105,116,121]⟩,⟨#[78,101,103]⟩,⟨#[65,98,115]⟩,⟨#[78,111,116]⟩,⟨#[82,101,108,117]⟩,⟨#[83,113,114,116]⟩,⟨#[70,108,111,111,114]⟩,⟨#[69,120,112]⟩,⟨#[83,105,103,109,111,105,100]⟩,⟨#[84,97,110,104]⟩]:List ByteArray)) (u:Sl) (a0 a1 a2:Value) (w:World) :
    Calls Tryz.prog 21 #[jaz n,.slice u.a u.n u.c,.agg #[a0,a1,a2]] w fun e w'=>e=.returned (.func (.func 28) #[] #[.pointer (some ⟨w.heap.size,0,none⟩),.pointer (some ⟨w.heap.size+1,0,none⟩)])∧w.grownBy w' none∧w'.heap[w.heap.size]?=some (.cells #[.string n.op,.string n.name,.slice n.iv.a n.iv.n n.iv.c,.string n.out,.slice n.av.a n.av.n n.av.c] 25 (0,0))∧w'.heap[w.heap.size+1]?=some (.cells #[.slice u.a u.n u.c] 26 (0,0)):=by
     have hmf:∀ (fn:Fn) (first cap:Array Value) (w:World),(Instr.makeFunc fn first cap).run Tryz.prog w=.ok (.func fn first cap) w:=fun _ _ _ _=>rfl;obtain ⟨op,nam,⟨ia,il,ic⟩,out,⟨ao,al,cap⟩⟩:=n;obtain ⟨ua,un,uc⟩:=u;unfold jaz;simp only at hop ⊢;have B3:=jac (jbL w (.cells #[.string op,.string nam,.slice ia il ic,.string out,.slice ao al cap] 25) (.cells #[.slice ua un uc] 26) (.cells #[a0,a1,a2] 53));have G3:=jac (jaa (jaa (jab w (.cells #[.string op,.string nam,.slice ia il ic,.string out,.slice ao al cap] 25)) (jab _ (.cells #[.slice ua un uc] 26))) (jab _ (.cells #[a0,a1,a2] 53)));simp only [List.mem_cons,List.not_mem_nil,or_false] at hop
     rcases hop with rfl | rfl | rfl | rfl | rfl | rfl | rfl | rfl | rfl | rfl
     all_goals
      go_enter Tryz.func21,Tryz.ntmps21;go_wp2;go_ret;exact ⟨rfl,G3.out,B3.out.1,B3.out.2.1⟩
theorem jn4 (n:Nod) (hop:n.op=⟨#[87,104,101,114,101]⟩) (u:Sl) (a0 a1 a2:Value) (w:World) :
    Calls Tryz.prog 21 #[jaz n,.slice u.a u.n u.c,.agg #[a0,a1,a2]] w fun e w'=>e=.returned (.func (.func 32) #[] #[])∧w.grownBy w' none:=by
     have hmf:∀ (fn:Fn) (first cap:Array Value) (w:World),(Instr.makeFunc fn first cap).run Tryz.prog w=.ok (.func fn first cap) w:=fun _ _ _ _=>rfl;obtain ⟨op,nam,⟨ia,il,ic⟩,out,⟨ao,al,cap⟩⟩:=n;obtain ⟨ua,un,uc⟩:=u;unfold jaz;simp only at hop ⊢;have B3:=jac (jbL w (.cells #[.string op,.string nam,.slice ia il ic,.string out,.slice ao al cap] 25) (.cells #[.slice ua un uc] 26) (.cells #[a0,a1,a2] 53));have G3:=jac (jaa (jaa (jab w (.cells #[.string op,.string nam,.slice ia il ic,.string out,.slice ao al cap] 25)) (jab _ (.cells #[.slice ua un uc] 26))) (jab _ (.cells #[a0,a1,a2] 53)));subst hop;go_enter Tryz.func21,Tryz.ntmps21;go_wp2;go_ret;exact ⟨rfl,G3.out⟩
theorem jpT (n:Nod) (hop:n.op=⟨#[67,97,115,116]⟩) (u:Sl) (a0 a1 a2:Value) (w:World) :
    Calls Tryz.prog 21 #[jaz n,.slice u.a u.n u.c,.agg #[a0,a1,a2]] w fun e w'=>e=.returned (.func (.func 35) #[] #[.pointer (some ⟨w.heap.size+1,0,none⟩),.pointer (some ⟨w.heap.size+2,0,none⟩)])∧w.grownBy w' none∧w'.heap[w.heap.size+1]?=some (.cells #[.slice u.a u.n u.c] 26 (0,0))∧w'.heap[w.heap.size+2]?=some (.cells #[a0,a1,a2] 53 (0,0)):=by
     have hmf:∀ (fn:Fn) (first cap:Array Value) (w:World),(Instr.makeFunc fn first cap).run Tryz.prog w=.ok (.func fn first cap) w:=fun _ _ _ _=>rfl;obtain ⟨op,nam,⟨ia,il,ic⟩,out,⟨ao,al,cap⟩⟩:=n;obtain ⟨ua,un,uc⟩:=u;unfold jaz;simp only at hop ⊢;have B3:=jac (jbL w (.cells #[.string op,.string nam,.slice ia il ic,.string out,.slice ao al cap] 25) (.cells #[.slice ua un uc] 26) (.cells #[a0,a1,a2] 53));have G3:=jac (jaa (jaa (jab w (.cells #[.string op,.string nam,.slice ia il ic,.string out,.slice ao al cap] 25)) (jab _ (.cells #[.slice ua un uc] 26))) (jab _ (.cells #[a0,a1,a2] 53)));subst hop;go_enter Tryz.func21,Tryz.ntmps21;go_wp2;go_ret;exact ⟨rfl,G3.out,B3.out.2.1,B3.out.2.2⟩
theorem jpU (n:Nod) (hop:n.op.toList∉([[73,100,101,110,116,105,116,121],[78,101,103],[65,98,115],[78,111,116],[82,101,108,117],[83,113,114,116],[70,108,111,111,114],[69,120,112],[83,105,103,109,111,105,100],[84,97,110,104],[65,100,100],[83,117,98],[77,117,108],[68,105,118],[77,97,120],[77,105,110],[65,110,100],[79,114],[88,111,114],[69,113,117,97,108],[76,101,115,115],[71,114,101,97,116,101,114],[87,104,101,114,101],[67,108,105,112],[67,97,115,116]]:List (List UInt8))) (u:Sl) (a0 a1 a2:Value) (w:World) :
    Calls Tryz.prog 21 #[jaz n,.slice u.a u.n u.c,.agg #[a0,a1,a2]] w fun e w'=>e=.returned .nilFunc∧w.grownBy w' none:=by
     have hmf:∀ (fn:Fn) (first cap:Array Value) (w:World),(Instr.makeFunc fn first cap).run Tryz.prog w=.ok (.func fn first cap) w:=fun _ _ _ _=>rfl;obtain ⟨op,nam,⟨ia,il,ic⟩,out,⟨ao,al,cap⟩⟩:=n;obtain ⟨ua,un,uc⟩:=u;unfold jaz;simp only at hop ⊢;have B3:=jac (jbL w (.cells #[.string op,.string nam,.slice ia il ic,.string out,.slice ao al cap] 25) (.cells #[.slice ua un uc] 26) (.cells #[a0,a1,a2] 53));have G3:=jac (jaa (jaa (jab w (.cells #[.string op,.string nam,.slice ia il ic,.string out,.slice ao al cap] 25)) (jab _ (.cells #[.slice ua un uc] 26))) (jab _ (.cells #[a0,a1,a2] 53)));simp only [List.mem_cons,List.not_mem_nil,or_false,not_or] at hop;obtain ⟨m0,m1,m2,m3,m4,m5,m6,m7,m8,m9,m10,m11,m12,m13,m14,m15,m16,m17,m18,m19,m20,m21,m22,m23,m24⟩:=hop;have d0:(op.toList==[73,100,101,110,116,105,116,121])=false:=by simpa using m0
     have d1:(op.toList==[78,101,103])=false:=by simpa using m1
     have d2:(op.toList==[65,98,115])=false:=by simpa using m2
     have d3:(op.toList==[78,111,116])=false:=by simpa using m3
     have d4:(op.toList==[82,101,108,117])=false:=by simpa using m4
     have d5:(op.toList==[83,113,114,116])=false:=by simpa using m5
     have d6:(op.toList==[70,108,111,111,114])=false:=by simpa using m6
     have d7:(op.toList==[69,120,112])=false:=by simpa using m7
     have d8:(op.toList==[83,105,103,109,111,105,100])=false:=by simpa using m8
     have d9:(op.toList==[84,97,110,104])=false:=by simpa using m9
     have d10:(op.toList==[65,100,100])=false:=by simpa using m10
     have d11:(op.toList==[83,117,98])=false:=by simpa using m11
     have d12:(op.toList==[77,117,108])=false:=by simpa using m12
     have d13:(op.toList==[68,105,118])=false:=by simpa using m13
     have d14:(op.toList==[77,97,120])=false:=by simpa using m14
     have d15:(op.toList==[77,105,110])=false:=by simpa using m15
     have d16:(op.toList==[65,110,100])=false:=by simpa using m16
     have d17:(op.toList==[79,114])=false:=by simpa using m17
     have d18:(op.toList==[88,111,114])=false:=by simpa using m18
     have d19:(op.toList==[69,113,117,97,108])=false:=by simpa using m19
     have d20:(op.toList==[76,101,115,115])=false:=by simpa using m20
     have d21:(op.toList==[71,114,101,97,116,101,114])=false:=by simpa using m21
     have d22:(op.toList==[87,104,101,114,101])=false:=by simpa using m22
     have d23:(op.toList==[67,108,105,112])=false:=by simpa using m23
     have d24:(op.toList==[67,97,115,116])=false:=by simpa using m24
     clear m0 m1 m2 m3 m4 m5 m6 m7 m8 m9 m10 m11 m12 m13 m14 m15 m16 m17 m18 m19 m20 m21 m22 m23 m24;go_enter Tryz.func21,Tryz.ntmps21;go_wp2;go_ret;exact ⟨rfl,G3.out⟩
theorem jpV (k:Nat) (x y:Int):W64 (Nu.bin k 1 x y).1:=by
 unfold Nu.bin
 split
 ·rw [if_pos rfl];exact jil k _ _ (jec x) (jec y)
 ·exact ⟨by decide,by decide⟩
theorem jn5 (x y:Int) (w:World):Calls Tryz.prog 33 #[.int .i64 x,.int .i64 y] w fun e w'=>e=.returned (.func (.func 56) #[] #[.pointer (some ⟨w.heap.size,0,none⟩),.pointer (some ⟨w.heap.size+1,0,none⟩)])∧w.grownBy w' none∧w'.heap[w.heap.size]?=some (.cells #[.int .i64 x] 2 (0,0))∧w'.heap[w.heap.size+1]?=some (.cells #[.int .i64 y] 2 (0,0)):=by
 have hmf:∀ (fn:Fn) (first cap:Array Value) (w:World),(Instr.makeFunc fn first cap).run Tryz.prog w=.ok (.func fn first cap) w:=fun _ _ _ _=>rfl;have B2:=jac (ja1 w (.cells #[.int .i64 x] 2) (.cells #[.int .i64 y] 2));have G2:=jac (jaa (jab w (.cells #[.int .i64 x] 2)) (jab _ (.cells #[.int .i64 y] 2)));go_enter Tryz.func33,Tryz.ntmps33;go_wp2;go_ret;exact ⟨rfl,G2.out,B2.out.1,B2.out.2⟩
theorem jpW (B m p1 p2:Nat) (x lo hi:Int) (w:World) (hm:0<m) (h1:w.heap[p1]?=some (.cells #[.int .i64 lo] 2 (0,0))) (h2:w.heap[p2]?=some (.cells #[.int .i64 hi] 2 (0,0))) (hx:w.cell? ⟨B,0,none⟩=some (.int .i64 x)) :
    Calls Tryz.prog 56 #[.slice (some ⟨B,0,none⟩) m m,.pointer (some ⟨p1,0,none⟩),.pointer (some ⟨p2,0,none⟩)] w (jqp (fun v=>Nu.chk 1 v=true) w):=by
     have i0:(0:Int)<(m:Int):=by omega
     have c1:=jbk h1;have c2:=jbk h2;obtain ⟨y1,e1⟩ : ∃ r,r=(Nu.bin 4 1 x lo).1:=⟨_,rfl⟩
     obtain ⟨s1,e2⟩ : ∃ r,r=(Nu.bin 4 1 x lo).2:=⟨_,rfl⟩
     have BA:=jac (fun (wx:World)=>Nu.binary4 1 x lo wx);rw [← e1,← e2] at BA;have BB:=jac (fun (wx:World)=>Nu.binary5 1 y1 hi wx);have RR:=jac (show W64 (Nu.bin 5 1 y1 hi).1∧((Nu.bin 5 1 y1 hi).2=0→Nu.chk 1 (Nu.bin 5 1 y1 hi).1=true) from ⟨jpV 5 y1 hi,fun h=>jn1 5 1 y1 hi (by omega) h⟩);obtain ⟨y2,e3⟩ : ∃ r,r=(Nu.bin 5 1 y1 hi).1:=⟨_,rfl⟩
     obtain ⟨s2,e4⟩ : ∃ r,r=(Nu.bin 5 1 y1 hi).2:=⟨_,rfl⟩
     rw [← e3,← e4] at BB RR;clear h1 h2 e1 e2 e3 e4;go_enter Tryz.func56,Tryz.ntmps56;go_wp2_with fail
     go_quiet (first | (go_at_call 31;refine (BA.out _).mono ?_;rintro e w' ⟨rfl,q,rfl⟩;exact ⟨rfl,_,World.drewN_drewN _ _ _⟩) | fail)
     by_cases h:s1=0
     ·have hb:(s1 != 0)=false:=by simp [h]
      clear h;go_wp2_with (first | (go_at_call 31;refine (BB.out _).mono ?_;rintro e w' ⟨rfl,q,rfl⟩) | fail);go_wp2;go_ret2;exact ⟨y2,s2,rfl,fun h=>⟨RR.out.1,RR.out.2 h⟩,_,by first | rfl | exact World.drewN_drewN _ _ _⟩
     ·have hb:(s1 != 0)=true:=by simpa using h
      have H:=jac h;clear h;go_wp2;go_ret2;exact ⟨0,s1,rfl,fun h=>absurd h H.out,_,rfl⟩
theorem jpX (p1 p2 B m:Nat) (ub uo un uc:Nat) (a0 a2:Value) (ty tz x:Int) (w:World) (hm:0<m) (hi:w.heap[p1]?=some (.cells #[.slice (some ⟨ub,uo,none⟩) un uc] 26 (0,0))) (ho:w.heap[p2]?=some (.cells #[a0,.int .i64 tz,a2] 53 (0,0))) (hun:0<un) (ht:w.cell? ⟨ub,uo,none⟩=some (.int .i64 ty)) (hx:w.cell? ⟨B,0,none⟩=some (.int .i64 x)) (rx:W64 x) :
    Calls Tryz.prog 35 #[.slice (some ⟨B,0,none⟩) m m,.pointer (some ⟨p1,0,none⟩),.pointer (some ⟨p2,0,none⟩)] w (jqp (fun v=>Nu.chk tz v=true) w):=by
     have c8:=jbk hi;have c9:=(cell_of_row _ _ 1 _ _ (0,0) ho).trans rfl;have hun':(0:Int)<(un:Int):=by omega
     have i0:(0:Int)<(m:Int):=by omega
     have BB:=jac (fun (wx:World)=>Nu.cast_code ty tz x wx);have RR:=jac (show W64 (Nu.cst ty tz x).1∧((Nu.cst ty tz x).2=0→Nu.chk tz (Nu.cst ty tz x).1=true) from ⟨jrZ ty tz x rx,jr0 ty tz x⟩);obtain ⟨r1,e1⟩ : ∃ r,r=(Nu.cst ty tz x).1:=⟨_,rfl⟩
     obtain ⟨r2,e2⟩ : ∃ r,r=(Nu.cst ty tz x).2:=⟨_,rfl⟩
     rw [← e1,← e2] at BB RR;clear hi ho rx e1 e2;go_enter Tryz.func35,Tryz.ntmps35;go_wp2_with fail
     go_quiet (first | (go_at_call 36;refine (BB.out _).mono ?_;rintro e w' ⟨rfl,q,rfl⟩;exact ⟨rfl,_,World.drewN_drewN _ _ _⟩) | fail)
     go_wp2;go_ret2;exact ⟨r1,r2,rfl,fun h=>⟨RR.out.1,RR.out.2 h⟩,_,rfl⟩
theorem jpY (n:Nod) (hop:n.op=⟨#[67,108,105,112]⟩) (xs:List Atr) (cs:List Cont) (u:Sl) (a0 a1 a2:Value) (w:World) (hv:jbK w n.av.v xs) (hc:∀ (j:Nat) (a:Atr),xs[j]?=some a→∃ c,cs[j]?=some c∧Has w a c) :
    Calls Tryz.prog 21 #[jaz n,.slice u.a u.n u.c,.agg #[a0,a1,a2]] w fun e w'=>∃ p1 p2:Nat,e=.returned (.func (.func 56) #[] #[.pointer (some ⟨p1,0,none⟩),.pointer (some ⟨p2,0,none⟩)])∧w.grownBy w' none∧w'.heap[p1]?=some (.cells #[.int .i64 (je1 xs ⟨#[109,105,110]⟩ 4286578688)] 2 (0,0))∧w'.heap[p2]?=some (.cells #[.int .i64 (je1 xs ⟨#[109,97,120]⟩ 2139095040)] 2 (0,0)):=by
     have SB:=jac (fun (nm:ByteArray) (z:Int) (wx:World) (hg:w.grownBy wx none)=>jlL n xs cs nm z wx (hv.more hg) (fun j a ha=>(hc j a ha).imp fun c h=>⟨h.1,h.2.more hg⟩));clear hv hc;obtain ⟨op,nam,⟨ia,il,ic⟩,out,⟨ao,al,cap⟩⟩:=n;obtain ⟨ua,un,uc⟩:=u;unfold jaz at SB ⊢;simp only at hop SB ⊢;obtain ⟨w0,hw0⟩ : ∃ w0,w0=((w.alloc (.cells #[.string op,.string nam,.slice ia il ic,.string out,.slice ao al cap] 25)).alloc (.cells #[.slice ua un uc] 26)).alloc (.cells #[a0,a1,a2] 53):=⟨_,rfl⟩
     have g0:Hid (w.grownBy w0 none):=by show w.grownBy w0 none;rw [hw0];exact jaa (jaa (jab _ _) (jab _ _)) (jab _ _)
     have hb0:=(jbL w (.cells #[.string op,.string nam,.slice ia il ic,.string out,.slice ao al cap] 25) (.cells #[.slice ua un uc] 26) (.cells #[a0,a1,a2] 53)).1;rw [← hw0] at hb0;have BX:Hid (∀ wx,w0.grownBy wx none→wx.heap[w.heap.size]?=some (.cells #[.string op,.string nam,.slice ia il ic,.string out,.slice ao al cap] 25 (0,0))):=fun wx hg=>jaf hb0 hg;clear hb0;obtain ⟨n0,n1,n2,n3,n4⟩:=jaj (n:=⟨op,nam,⟨ia,il,ic⟩,out,⟨ao,al,cap⟩⟩) (BX.out w0 (jad _));have GD:=jac (jag (jad w0));simp only at n0 n1 n2 n3 n4;obtain ⟨lo,hlo⟩ : ∃ q,q=je1 xs ⟨#[109,105,110]⟩ 4286578688:=⟨_,rfl⟩
     obtain ⟨hi,hhi⟩ : ∃ q,q=je1 xs ⟨#[109,97,120]⟩ 2139095040:=⟨_,rfl⟩
     have S1:=jac (fun (wx:World) (hg:w.grownBy wx none)=>SB.out ⟨#[109,105,110]⟩ 4286578688 wx hg);have S2:=jac (fun (wx:World) (hg:w.grownBy wx none)=>SB.out ⟨#[109,97,120]⟩ 2139095040 wx hg);rw [← hlo] at S1 ⊢;rw [← hhi] at S2 ⊢;clear hlo hhi SB;subst hop;go_enter Tryz.func21,Tryz.ntmps21;go_wp2_with fail;rw [← hw0];clear hw0;go_wp2_with fail;go_region_held3 (fun w'=>w'.cell? ⟨w.heap.size,0,none⟩=some (.string ⟨#[67,108,105,112]⟩)∧w'.cell? ⟨w.heap.size,1,none⟩=some (.string nam)∧w'.cell? ⟨w.heap.size,2,none⟩=some (.slice ia il ic)∧w'.cell? ⟨w.heap.size,3,none⟩=some (.string out)∧w'.cell? ⟨w.heap.size,4,none⟩=some (.slice ao al cap)) (go_keep) (first | (have q1:=G1.out;clear q1;go_at_call 34;refine (S2.out _ (jaa g0.out G1.out)).mono ?_;rintro e w2 ⟨rfl,hg2⟩;have G2:=jac (jaa G1.out hg2);obtain ⟨n0,n1,n2,n3,n4⟩:=jaj (n:=⟨⟨#[67,108,105,112]⟩,nam,⟨ia,il,ic⟩,out,⟨ao,al,cap⟩⟩) (BX.out w2 G2.out);clear hg2;simp only at n0 n1 n2 n3 n4) | (go_at_call 34;refine (S1.out _ (jaa g0.out GD.out)).mono ?_;rintro e w1 ⟨rfl,hg1⟩;have G1:=jac (jaa GD.out hg1);obtain ⟨n0,n1,n2,n3,n4⟩:=jaj (n:=⟨⟨#[67,108,105,112]⟩,nam,⟨ia,il,ic⟩,out,⟨ao,al,cap⟩⟩) (BX.out w1 G1.out);clear hg1;simp only at n0 n1 n2 n3 n4) | (go_at_call 33;refine (jn5 lo hi _).mono ?_;rintro e w3 ⟨rfl,hg3,hb1,hb2⟩;have G3:=jac (jaa g0.out (jaa G2.out hg3));have HB1:=jac hb1;have HB2:=jac hb2;obtain ⟨n0,n1,n2,n3,n4⟩:=jaj (n:=⟨⟨#[67,108,105,112]⟩,nam,⟨ia,il,ic⟩,out,⟨ao,al,cap⟩⟩) (BX.out w3 (jaa G2.out hg3));clear hg3 hb1 hb2;simp only at n0 n1 n2 n3 n4) | fail)
     all_goals
      go_wp2;go_ret;exact ⟨_,_,rfl,G3.out,HB1.out,HB2.out⟩
end Go.Proofs.YteigfipgmghgmaaGreatDoor
namespace Go.Proofs.YteigfipgmghgmaaGreatDoor
open Go.RowKit
theorem jfy {w:World} {u:Sl} {ps:List (Ten×Tq)} (hv:TensIn w u.v ps) (hp:0<ps.length):∃ ub uo:Nat,u.a=some ⟨ub,uo,none⟩∧u.n=ps.length∧∀ wy,w.grownBy wy none→wy.cell? ⟨ub,uo,none⟩=some (.int .i64 (ps[0]'hp).1.ty):=by
 obtain ⟨ua,un,uc⟩:=u;obtain ⟨ub,uo,rfl⟩:=hv.vals.addr (k:=0) (by simpa using hp);obtain ⟨xa,xc,e1,-⟩:=hv.vals.form;simp only [Sl.v,List.length_map,Value.slice.injEq] at e1;obtain ⟨-,rfl,-⟩:=e1;exact ⟨ub,uo,rfl,rfl,fun wy hy=>by have:=((hv.more hy).at 0 hp).1;simpa using this⟩
theorem jdj {w:World} {B m:Nat} {xs:List Int} (h:IsInts w (.slice (some ⟨B,0,none⟩) m m) xs) (hl:xs.length=m) (i:Nat) (hi:i<m):w.cell? ⟨B,i,none⟩=some (.int .i64 (xs.getD i 0))∧W64 (xs.getD i 0):=by
 obtain ⟨zb,zo,ez,hc⟩:=h.get (k:=0) (by omega)
 cases ez
 exact ⟨by simpa using hc i (by omega),h.wf _ (jpq (by omega))⟩
theorem jsN (n:Nod) (hop:n.op∈([⟨#[73,100,101,110,116,105,116,121]⟩,⟨#[78,101,103]⟩,⟨#[65,98,115]⟩,⟨#[78,111,116]⟩,⟨#[82,101,108,117]⟩,⟨#[83,113,114,116]⟩,⟨#[70,108,111,111,114]⟩,⟨#[69,120,112]⟩,⟨#[83,105,103,109,111,105,100]⟩,⟨#[84,97,110,104]⟩]:List ByteArray)) (u:Sl) (ps:List (Ten×Tq)) (nam0:ByteArray) (ty:Int) (dv:Sl) (w:World) (hv:TensIn w u.v ps) (hp:0<ps.length) (hf:n.op∈([⟨#[83,113,114,116]⟩,⟨#[70,108,111,111,114]⟩,⟨#[69,120,112]⟩,⟨#[83,105,103,109,111,105,100]⟩,⟨#[84,97,110,104]⟩]:List ByteArray)→(ps[0]'hp).1.ty=1) :
    Calls Tryz.prog 21 #[jaz n,.slice u.a u.n u.c,.agg #[.string nam0,.int .i64 ty,.slice dv.a dv.n dv.c]] w (jrP (fun _ y=>Nu.chk (ps[0]'hp).1.ty y=true) ps.length w):=by
     refine (wof_1 n hop u _ _ _ w).mono ?_;rintro e w1 ⟨rfl,hg,hb1,hb2⟩;obtain ⟨ub,uo,e1,e2,hh⟩:=jfy hv hp;refine ⟨_,_,rfl,hg,fun _ _=>by kernel_rfl,fun wy B xs hy hxl hxi=>?_⟩;obtain ⟨x0,r0⟩:=jdj hxi hxl 0 hp;have k1:=jaf hb1 hy;have k2:=jaf hb2 hy;rw [e1] at k2;exact jn2 n _ _ _ B _ ub uo u.n u.c _ _ wy hp k1 k2 (by omega) (hh wy (jaa hg hy)) x0 (fun wx=>jsL n.op hop _ _ r0 hf wx)
theorem jsO (n:Nod) (k:Nat) (hk:kOf n.op=some k) (u:Sl) (ps:List (Ten×Tq)) (nam0:ByteArray) (ty:Int) (dv:Sl) (w:World) (hv:TensIn w u.v ps) (hp:1<ps.length) :
    Calls Tryz.prog 21 #[jaz n,.slice u.a u.n u.c,.agg #[.string nam0,.int .i64 ty,.slice dv.a dv.n dv.c]] w (jrP (fun _ y=>Nu.chk (jr7 k (ps[0]'(Nat.lt_of_succ_lt hp)).1.ty) y=true) ps.length w):=by
     refine (jfv n (jnY hk) u _ _ _ w).mono ?_;rintro e w1 ⟨rfl,hg,hb1,hb2⟩;obtain ⟨ub,uo,e1,e2,hh⟩:=jfy hv (Nat.lt_of_succ_lt hp);refine ⟨_,_,rfl,hg,fun _ _=>by kernel_rfl,fun wy B xs hy hxl hxi=>?_⟩;obtain ⟨x0,r0⟩:=jdj hxi hxl 0 (by omega);obtain ⟨x1,r1⟩:=jdj hxi hxl 1 hp;have k1:=jaf hb1 hy;have k2:=jaf hb2 hy;rw [e1] at k2;exact jn3 n k hk _ _ B _ ub uo u.n u.c _ _ _ wy hp k1 k2 (by omega) (hh wy (jaa hg hy)) x0 x1 r0 r1
theorem jk8 (n:Nod) (hop:n.op=⟨#[87,104,101,114,101]⟩) (u:Sl) (m:Nat) (nam0:ByteArray) (ty:Int) (dv:Sl) (w:World) (hp:2<m) :
    Calls Tryz.prog 21 #[jaz n,.slice u.a u.n u.c,.agg #[.string nam0,.int .i64 ty,.slice dv.a dv.n dv.c]] w (jrP (fun xs y=>y=xs.getD 1 0∨y=xs.getD 2 0) m w):=by
     refine (jn4 n hop u _ _ _ w).mono ?_;rintro e w1 ⟨rfl,hg⟩;refine ⟨_,_,rfl,hg,fun _ _=>by kernel_rfl,fun wy B xs hy hxl hxi=>?_⟩;obtain ⟨x0,-⟩:=jdj hxi hxl 0 (by omega);obtain ⟨x1,r1⟩:=jdj hxi hxl 1 (by omega);obtain ⟨x2,r2⟩:=jdj hxi hxl 2 hp;exact jk7 B m _ _ _ wy hp x0 x1 x2 r1 r2
theorem jn6 (n:Nod) (hop:n.op=⟨#[67,108,105,112]⟩) (xs:List Atr) (cs:List Cont) (u:Sl) (m:Nat) (nam0:ByteArray) (ty:Int) (dv:Sl) (w:World) (hv:jbK w n.av.v xs) (hc:∀ (j:Nat) (a:Atr),xs[j]?=some a→∃ c,cs[j]?=some c∧Has w a c) (hp:0<m) :
    Calls Tryz.prog 21 #[jaz n,.slice u.a u.n u.c,.agg #[.string nam0,.int .i64 ty,.slice dv.a dv.n dv.c]] w (jrP (fun _ y=>Nu.chk 1 y=true) m w):=by
     refine (jpY n hop xs cs u _ _ _ w hv hc).mono ?_;rintro e w1 ⟨p1,p2,rfl,hg,hb1,hb2⟩;refine ⟨_,_,rfl,hg,fun _ _=>by kernel_rfl,fun wy B xs hy hxl hxi=>?_⟩;obtain ⟨x0,-⟩:=jdj hxi hxl 0 hp;exact jpW B m p1 p2 _ _ _ wy hp (jaf hb1 hy) (jaf hb2 hy) x0
theorem jn7 (n:Nod) (hop:n.op=⟨#[67,97,115,116]⟩) (u:Sl) (ps:List (Ten×Tq)) (nam0:ByteArray) (ty:Int) (dv:Sl) (w:World) (hv:TensIn w u.v ps) (hp:0<ps.length) :
    Calls Tryz.prog 21 #[jaz n,.slice u.a u.n u.c,.agg #[.string nam0,.int .i64 ty,.slice dv.a dv.n dv.c]] w (jrP (fun _ y=>Nu.chk ty y=true) ps.length w):=by
     refine (jpT n hop u _ _ _ w).mono ?_;rintro e w1 ⟨rfl,hg,hb1,hb2⟩;obtain ⟨ub,uo,e1,e2,hh⟩:=jfy hv hp;refine ⟨_,_,rfl,hg,fun _ _=>by kernel_rfl,fun wy B xs hy hxl hxi=>?_⟩;obtain ⟨x0,r0⟩:=jdj hxi hxl 0 hp;have k1:=jaf hb1 hy;have k2:=jaf hb2 hy;rw [e1] at k1;exact jpX _ _ B _ ub uo u.n u.c _ _ _ ty _ wy hp k1 k2 (by omega) (hh wy (jaa hg hy)) x0 r0
theorem jr2 (n:Nod) (hop:n.op.toList∉([[73,100,101,110,116,105,116,121],[78,101,103],[65,98,115],[78,111,116],[82,101,108,117],[83,113,114,116],[70,108,111,111,114],[69,120,112],[83,105,103,109,111,105,100],[84,97,110,104],[65,100,100],[83,117,98],[77,117,108],[68,105,118],[77,97,120],[77,105,110],[65,110,100],[79,114],[88,111,114],[69,113,117,97,108],[76,101,115,115],[71,114,101,97,116,101,114],[87,104,101,114,101],[67,108,105,112],[67,97,115,116]]:List (List UInt8))) (u:Sl) (nam0:ByteArray) (ty:Int) (dv:Sl) (w:World) :
    Calls Tryz.prog 14 #[jaz n,.slice u.a u.n u.c,.agg #[.string nam0,.int .i64 ty,.slice dv.a dv.n dv.c]] w (EvQ w (.error 5)):=by
     have WN:=jac (fun (wx:World)=>jpU n hop u (.string nam0) (.int .i64 ty) (.slice dv.a dv.n dv.c) wx);clear hop;obtain ⟨op,nam,⟨ia,il,ic⟩,out,⟨ao,al,cap⟩⟩:=n;obtain ⟨ua,un,uc⟩:=u;obtain ⟨da,dn,dc⟩:=dv;unfold jaz at WN ⊢;simp only at WN ⊢;obtain ⟨w0,hw0⟩ : ∃ w0,w0=(w.alloc (.cells #[.string op,.string nam,.slice ia il ic,.string out,.slice ao al cap] 25)).alloc (.cells #[.string nam0,.int .i64 ty,.slice da dn dc] 53):=⟨_,rfl⟩
     have g0:Hid (w.grownBy w0 none):=by show w.grownBy w0 none;rw [hw0];exact jaa (jab _ _) (jab _ _)
     go_enter Tryz.func14,Tryz.ntmps14;go_wp2_with fail;rw [← hw0];clear hw0;refine (WN.out w0).mono ?_;rintro e w1 ⟨rfl,hg1⟩;have hbo:∀ wx,(binOp .eql 58 .nilFunc .nilFunc).run Tryz.prog wx=.ok (.bool true) wx:=fun wx=>by rfl
     go_wp2;go_ret2;exact ⟨jaa g0.out hg1,rfl⟩
def jr8 (ty:Int) (l:List Int) (r:R (List Int)):Prop:=match r with
 | .ok zs=>pbE ty l zs=0
 | .error c=>c≠0
theorem jsP {ty:Int} {l zs:List Int} (hc:ja7 l=0) (hl:zs.length=(jaR l).toNat) (hz:∀ j,j<zs.length→Nu.chk ty (zs.getD j 0)=true):pbE ty l zs=0:=by
 have hp:1≤jaR l:=prod_pos l (jcx hc).pos;have h0:=Nu.chk_types ty _ (hz 0 (by omega));have h1:chk ty 0=true:=by rcases h0 with rfl | rfl | rfl | rfl <;> decide
 unfold pbE;rw [if_neg (by simp [h1]),if_neg (by simp [hc]),if_neg (by unfold cnt;rw [if_pos hc];omega),if_pos];rw [List.all_eq_true];intro z hm;obtain ⟨j,hj,rfl⟩:=List.mem_iff_getElem.1 hm;have:=hz j hj;rw [List.getD,List.getElem?_eq_getElem hj] at this;exact this
theorem jr3 {p:Ten×Tq} (h:okT p=true):chk p.1.ty 0=true∧∀ z∈p.2.2,Nu.chk p.1.ty z=true:=by
 have h0:pbE p.1.ty p.2.1 p.2.2=0:=by simpa [okT] using h
 unfold pbE at h0
 split at h0
 ·omega
 ·rename_i h1
  split at h0
  ·rename_i h2;exact absurd h0 h2
  ·split at h0
   ·omega
   ·split at h0
    ·rename_i h4;exact ⟨by simpa using h1,List.all_eq_true.1 h4⟩
    ·omega
theorem jn8 {l:List Int} {p:Ten×Tq} (h:okT p=true) (j:Nat):Nu.chk p.1.ty ((jgp l p).getD j 0)=true:=by
 obtain ⟨h0,h1⟩:=jr3 h
 have key:∀ (xs:List Int),(∀ z∈xs,Nu.chk p.1.ty z=true)→∀ i,Nu.chk p.1.ty (xs.getD i 0)=true:=by
  intro xs hx i
  by_cases hi:i<xs.length
  ·exact hx _ (jpq hi)
  ·rw [List.getD,List.getElem?_eq_none (by omega)];exact h0
 refine key _ ?_ j;unfold jgp asL Vw.rdL Vw.shows
 split
 ·split
  ·intro z hz;obtain ⟨x,-,rfl⟩:=List.mem_map.1 hz;exact key _ h1 _
  ·intro z hz;cases hz
 ·intro z hz;cases hz
theorem jjV {ps:List (Ten×Tq)} {l:List Int} (i j:Nat) (hi:i<ps.length):(jrD (ps.map (jgp l)) j).getD i 0=(jgp l ps[i]).getD j 0:=by
 unfold jrD;rw [List.getD,List.getElem?_map,List.getElem?_map,List.getElem?_eq_getElem hi]
 rfl
theorem ev_of {w w':World} {P:List Int→Int→Prop} {cols:List (List Int)} {N:Nat} {e:Ending} {K:R (List Int)→Prop} (h:EvS w P cols N e w') (he:∀ c,c≠0→K (.error c)) (hK:∀ zs,zs.length=N→(∀ j,j<N→P (jrD cols j) (zs.getD j 0))→K (.ok zs)):∃ r,K r∧EvQ w r e w':=by
 obtain ⟨hg,⟨c,hc,rfl⟩ | ⟨u,zs,rfl,ho,hl,hz⟩⟩:=h
 ·exact ⟨.error c,he c hc,hg,rfl⟩
 ·exact ⟨.ok zs,hK zs hl hz,hg,u,rfl,ho⟩
theorem jef (n : Nod) (u : Sl) (ps : List (Ten × Tq)) (nam0 : ByteArray) (ty : Int) (dv : Sl) (l : List Int) (P : List Int → Int → Prop) (w : World) (hv : TensIn w u.v ps) (hp0 : 0 < ps.length) (hp1 : ps.length ≤ 1000) (hd : IsInts w dv.v l) (hc : ja7 l = 0)
    (WO:∀ wx,w.grownBy wx none→Calls Tryz.prog 21 #[jaz n,.slice u.a u.n u.c,.agg #[.string nam0,.int .i64 ty,.slice dv.a dv.n dv.c]] wx (jrP P ps.length wx)) (hP:∀ j y,P (jrD (ps.map (jgp l)) j) y→Nu.chk ty y=true) :
    Calls Tryz.prog 14 #[jaz n,.slice u.a u.n u.c,.agg #[.string nam0,.int .i64 ty,.slice dv.a dv.n dv.c]] w fun e w'=>∃ r,jr8 ty l r∧EvQ w r e w':=by
     refine (jpL n u ps nam0 ty dv l P (jaR l).toNat w hv hp0 hp1 hd (by have:=(jcx hc).le;omega) (fun p hp ha=>(jnO (by simpa [jeB] using ha)).1) WO).mono fun e w' h=>?_;exact ev_of (K:=jr8 ty l) h (fun c hc=>hc) fun zs hz1 hz2=>jsP hc hz1 fun j hj=>hP j _ (hz2 j (by omega))
theorem jsQ:∀ r∈jdM,(r.1∈([[73,100,101,110,116,105,116,121],[78,101,103],[65,98,115],[78,111,116],[82,101,108,117],[83,113,114,116],[70,108,111,111,114],[69,120,112],[83,105,103,109,111,105,100],[84,97,110,104]]:List (List UInt8))→1≤r.2.1)∧(r.1∈jdc→2≤r.2.1)∧(r.1=[87,104,101,114,101]→3≤r.2.1)∧(r.1=[67,108,105,112]→1≤r.2.1)∧(r.1=[67,97,115,116]→1≤r.2.1):=by decide +kernel
theorem jfz {t:Int} {l:List Int} {a:Int} (h:jaK (t::l)=.ok a):a=t∧∀ s∈l,s=t:=by
 have h':(if l.all (fun s=>s==t)=true then (.ok t:R Int) else .error 4)=.ok a:=h
 by_cases h1:l.all (fun s=>s==t)=true
 ·rw [if_pos h1] at h'
  cases h'
  exact ⟨rfl,by simpa using h1⟩
 ·rw [if_neg h1] at h'
  cases h'
theorem jn9 {op:ByteArray} {t:Int} (hop:op∈([⟨#[83,113,114,116]⟩,⟨#[70,108,111,111,114]⟩,⟨#[69,120,112]⟩,⟨#[83,105,103,109,111,105,100]⟩,⟨#[84,97,110,104]⟩]:List ByteArray)) (h:jcj op.toList t=true):t=1:=by
 simp only [List.mem_cons,List.not_mem_nil,or_false] at hop
 rcases hop with rfl | rfl | rfl | rfl | rfl <;> rw [jak] at h <;> simp [jcj] at h <;> exact h
theorem grp_1 {op:ByteArray} (hop:op∈([⟨#[73,100,101,110,116,105,116,121]⟩,⟨#[78,101,103]⟩,⟨#[65,98,115]⟩,⟨#[78,111,116]⟩,⟨#[82,101,108,117]⟩,⟨#[83,113,114,116]⟩,⟨#[70,108,111,111,114]⟩,⟨#[69,120,112]⟩,⟨#[83,105,103,109,111,105,100]⟩,⟨#[84,97,110,104]⟩]:List ByteArray)):(grp op).1=10∧op.toList∈([[73,100,101,110,116,105,116,121],[78,101,103],[65,98,115],[78,111,116],[82,101,108,117],[83,113,114,116],[70,108,111,111,114],[69,120,112],[83,105,103,109,111,105,100],[84,97,110,104]]:List (List UInt8)):=by
 simp only [List.mem_cons,List.not_mem_nil,or_false] at hop
 rcases hop with rfl | rfl | rfl | rfl | rfl | rfl | rfl | rfl | rfl | rfl <;> exact ⟨by kernel_rfl,by rw [jak];decide⟩
theorem grp_2 {op:ByteArray} {k:Nat} (h:kOf op=some k):(grp op).1=(if 9≤k then 8 else 9)∧op.toList∈jdc:=by
 refine ⟨?_,jnX h⟩;have h12:=jnY h;simp only [List.mem_cons,List.not_mem_nil,or_false] at h12
 rcases h12 with rfl | rfl | rfl | rfl | rfl | rfl | rfl | rfl | rfl | rfl | rfl | rfl
 ·obtain rfl:k=0:=Option.some.inj (h.symm.trans (show kOf ⟨#[65,100,100]⟩=some 0 by kernel_rfl));exact (show (grp ⟨#[65,100,100]⟩).1=9 by kernel_rfl)
 ·obtain rfl:k=1:=Option.some.inj (h.symm.trans (show kOf ⟨#[83,117,98]⟩=some 1 by kernel_rfl));exact (show (grp ⟨#[83,117,98]⟩).1=9 by kernel_rfl)
 ·obtain rfl:k=2:=Option.some.inj (h.symm.trans (show kOf ⟨#[77,117,108]⟩=some 2 by kernel_rfl));exact (show (grp ⟨#[77,117,108]⟩).1=9 by kernel_rfl)
 ·obtain rfl:k=3:=Option.some.inj (h.symm.trans (show kOf ⟨#[68,105,118]⟩=some 3 by kernel_rfl));exact (show (grp ⟨#[68,105,118]⟩).1=9 by kernel_rfl)
 ·obtain rfl:k=4:=Option.some.inj (h.symm.trans (show kOf ⟨#[77,97,120]⟩=some 4 by kernel_rfl));exact (show (grp ⟨#[77,97,120]⟩).1=9 by kernel_rfl)
 ·obtain rfl:k=5:=Option.some.inj (h.symm.trans (show kOf ⟨#[77,105,110]⟩=some 5 by kernel_rfl));exact (show (grp ⟨#[77,105,110]⟩).1=9 by kernel_rfl)
 ·obtain rfl:k=6:=Option.some.inj (h.symm.trans (show kOf ⟨#[65,110,100]⟩=some 6 by kernel_rfl));exact (show (grp ⟨#[65,110,100]⟩).1=9 by kernel_rfl)
 ·obtain rfl:k=7:=Option.some.inj (h.symm.trans (show kOf ⟨#[79,114]⟩=some 7 by kernel_rfl));exact (show (grp ⟨#[79,114]⟩).1=9 by kernel_rfl)
 ·obtain rfl:k=8:=Option.some.inj (h.symm.trans (show kOf ⟨#[88,111,114]⟩=some 8 by kernel_rfl));exact (show (grp ⟨#[88,111,114]⟩).1=9 by kernel_rfl)
 ·obtain rfl:k=9:=Option.some.inj (h.symm.trans (show kOf ⟨#[69,113,117,97,108]⟩=some 9 by kernel_rfl));exact (show (grp ⟨#[69,113,117,97,108]⟩).1=8 by kernel_rfl)
 ·obtain rfl:k=10:=Option.some.inj (h.symm.trans (show kOf ⟨#[76,101,115,115]⟩=some 10 by kernel_rfl));exact (show (grp ⟨#[76,101,115,115]⟩).1=8 by kernel_rfl)
 ·obtain rfl:k=11:=Option.some.inj (h.symm.trans (show kOf ⟨#[71,114,101,97,116,101,114]⟩=some 11 by kernel_rfl));exact (show (grp ⟨#[71,114,101,97,116,101,114]⟩).1=8 by kernel_rfl)
def jsR (p:Ten×Tq):Val×List Int:=(jdF p,p.2.1)
theorem jsS (ps:List (Ten×Tq)):jaB (ps.map jsR)=ps.map (·.1.ty):=by
 unfold jaB;rw [List.map_map]
 rfl
theorem jpZ (n:Nod) (ins:List ByteArray) (A:At) (u:Sl) (ps:List (Ten×Tq)) (nam0:ByteArray) (ty:Int) (dv:Sl) (l:List Int) (w:World) (hn:NodeAll w n ins A) (hv:TensIn w u.v ps) (hp1:ps.length≤1000) (hd:IsInts w dv.v l) (hok:ps.all okT=true) (ok:OutOk n ins A (ps.map jsR) (ty,l)) :
    Calls Tryz.prog 14 #[jaz n,.slice u.a u.n u.c,.agg #[.string nam0,.int .i64 ty,.slice dv.a dv.n dv.c]] w fun e w'=>∃ r,jr8 ty l r∧EvQ w r e w':=by
     rw [List.all_eq_true] at hok;obtain ⟨R0,hR,e1,e2,-⟩:=jdR ok.chk;have e3:=ok.len;rw [List.length_map] at e3;obtain ⟨a1,a2,a3,a4,a5⟩:=jsQ R0 hR;rw [e1] at a1 a2 a3 a4 a5;have ht:=ok.typ;rw [jsS] at ht;have hc:=ok.cnt;simp only at ht hc
     by_cases h1:n.op∈([⟨#[73,100,101,110,116,105,116,121]⟩,⟨#[78,101,103]⟩,⟨#[65,98,115]⟩,⟨#[78,111,116]⟩,⟨#[82,101,108,117]⟩,⟨#[83,113,114,116]⟩,⟨#[70,108,111,111,114]⟩,⟨#[69,120,112]⟩,⟨#[83,105,103,109,111,105,100]⟩,⟨#[84,97,110,104]⟩]:List ByteArray)
     ·obtain ⟨g,hm⟩:=grp_1 h1;have hp:0<ps.length:=by have:=a1 hm;omega
      rw [g] at ht
      have et:(ps[0]'hp).1.ty=ty∧jcj A.op.toList ty=true:=by
       cases ps with
       | nil=>cases hp
       | cons p q =>
        obtain ⟨t,q1,q2⟩:=jaI ht;obtain ⟨b,q3,q4⟩:=jaI q2
        cases q4
        rw [List.map_cons] at q1;exact ⟨(jfz q1).1.symm,jg2 q3⟩
      rw [hn.op] at et;exact jef n u ps nam0 ty dv l _ w hv hp hp1 hd hc (fun wx hx=>jsN n h1 u ps nam0 ty dv wx (hv.more hx) hp (fun hf=>et.1.trans (jn9 hf et.2))) (fun j y h=>by rw [et.1] at h;exact h)
     ·cases hk:kOf n.op with
      | some k =>
       obtain ⟨g,hm⟩:=grp_2 hk;have hp:1<ps.length:=by have:=a2 hm;omega
       rw [g] at ht
       have et:jr7 k (ps[0]'(Nat.lt_of_succ_lt hp)).1.ty=ty:=by
        cases ps with
        | nil=>cases hp
        | cons p q =>
         unfold jr7
         split at ht
         ·rename_i h9;rw [if_pos h9];obtain ⟨t,q1,q2⟩:=jaI ht;obtain ⟨b,q3,q4⟩:=jaI q2
          cases q4
          rfl
         ·rename_i h9;rw [if_neg h9];obtain ⟨t,q1,q2⟩:=jaI ht;obtain ⟨b,q3,q4⟩:=jaI q2
          cases q4
          rw [List.map_cons] at q1;exact (jfz q1).1.symm
       exact jef n u ps nam0 ty dv l _ w hv (Nat.lt_of_succ_lt hp) hp1 hd hc (fun wx hx=>jsO n k hk u ps nam0 ty dv wx (hv.more hx) hp) (fun j y h=>by rw [et] at h;exact h)
      | none =>
       by_cases h2:n.op=⟨#[87,104,101,114,101]⟩
       ·have hm:n.op.toList=[87,104,101,114,101]:=by rw [h2,jak]
        have hp:2<ps.length:=by have:=a3 hm;omega
        rw [show (grp n.op).1=2 from by rw [h2];kernel_rfl] at ht
        have et:(ps[1]'(Nat.lt_of_succ_lt hp)).1.ty=ty∧(ps[2]'hp).1.ty=ty:=by
         match ps,hp,ht with
         | p::q::r::s,_,ht =>
          obtain ⟨b,q3,q4⟩:=jaI ht;simp only [List.map_cons,List.tail_cons] at q4;obtain ⟨q5,q6⟩:=jfz q4;exact ⟨q5.symm,(q6 _ (List.mem_cons_self ..)).trans q5.symm⟩
        refine jef n u ps nam0 ty dv l _ w hv (by omega) hp1 hd hc (fun wx hx=>jk8 n h2 u ps.length nam0 ty dv wx hp) (fun j y h=>?_);rw [jjV 1 j (by omega),jjV 2 j hp] at h
        rcases h with rfl | rfl
        ·have:=jn8 (l:=l) (hok _ (List.getElem_mem (Nat.lt_of_succ_lt hp))) j;rw [et.1] at this;exact this
        ·have:=jn8 (l:=l) (hok _ (List.getElem_mem hp)) j;rw [et.2] at this;exact this
       ·by_cases h3:n.op=⟨#[67,108,105,112]⟩
        ·have hm:n.op.toList=[67,108,105,112]:=by rw [h3,jak]
         have hp:0<ps.length:=by have:=a4 hm;omega
         rw [show (grp n.op).1=7 from by rw [h3];kernel_rfl] at ht;obtain ⟨t,q1,q2⟩:=jaI ht;obtain ⟨b,q3,q4⟩:=jaI q2
         cases q4
         exact jef n u ps nam0 1 dv l _ w hv hp hp1 hd hc (fun wx hx=>jn6 n h3 A.xs A.cs u ps.length nam0 1 dv wx (hn.more hx).node.av (hn.more hx).node.has hp) (fun j y h=>h)
        ·by_cases h4:n.op=⟨#[67,97,115,116]⟩
         ·have hm:n.op.toList=[67,97,115,116]:=by rw [h4,jak]
          have hp:0<ps.length:=by have:=a5 hm;omega
          exact jef n u ps nam0 ty dv l _ w hv hp hp1 hd hc (fun wx hx=>jn7 n h4 u ps nam0 ty dv wx (hv.more hx) hp) (fun j y h=>h)
         ·refine (jr2 n ?_ u nam0 ty dv w).mono fun e w' h=>⟨.error 5,(by decide:(5:Int)≠0),h⟩
          intro hm;have hk2:n.op.toList∉jdc:=List.idxOf?_eq_none_iff.1 hk;simp only [jdc,List.mem_cons,List.not_mem_nil,or_false,not_or] at hm h1 hk2;have nb:∀ z:ByteArray,n.op≠z→n.op.toList≠z.data.toList:=fun z hz e=>hz (jk6 (by rw [e,jak]));obtain ⟨x0,x1,x2,x3,x4,x5,x6,x7,x8,x9⟩:=h1;obtain ⟨y0,y1,y2,y3,y4,y5,y6,y7,y8,y9,y10,y11⟩:=hk2
          rcases hm with e | e | e | e | e | e | e | e | e | e | e | e | e | e | e | e | e | e | e | e | e | e | e | e | e
          ·exact nb _ x0 e
          ·exact nb _ x1 e
          ·exact nb _ x2 e
          ·exact nb _ x3 e
          ·exact nb _ x4 e
          ·exact nb _ x5 e
          ·exact nb _ x6 e
          ·exact nb _ x7 e
          ·exact nb _ x8 e
          ·exact nb _ x9 e
          ·exact y0 e
          ·exact y1 e
          ·exact y2 e
          ·exact y3 e
          ·exact y4 e
          ·exact y5 e
          ·exact y6 e
          ·exact y7 e
          ·exact y8 e
          ·exact y9 e
          ·exact y10 e
          ·exact y11 e
          ·exact nb _ h2 e
          ·exact nb _ h3 e
          ·exact nb _ h4 e
theorem jr4 (n:Nod) (ins:List ByteArray) (A:At) (u:Sl) (ps:List (Ten×Tq)) (w:World) (hl:Laid w) (hn:NodeAll w n ins A) (hv:TensIn w u.v ps) (hp1:ps.length≤1000) :
    Calls Tryz.prog 8 #[jaz n,.slice u.a u.n u.c] w (DoS w (jd6 ps (jlb n ins A (ps.map jsR))) jr8):=by
     refine jrR n u _ jr8 w fun wx hx=>jrQ n u _ jr8 wx (jnQ fun c h=>jpA h) (fun ty l c h=>h) (fun wy hy=>?_) (fun wy ty dv l hy hr hd=>?_)
     ·refine jhX n u ps _ wy (hv.more (jaa hx hy)) (by omega) fun wz s vs hz hvs h1 h2=>?_;have key:=jsB n ins A s vs wz (hl.more (jaa (jaa hx hy) hz)) (hn.more (jaa (jaa hx hy) hz)) hvs;rw [jnV (us:=ps.map jsR) (by rw [h1,List.map_map];rfl) (by rw [h2,List.map_map];rfl)] at key;exact key
     ·obtain ⟨hok,hr⟩:=jjT hr;exact jpZ n ins A u ps n.out ty dv l wy (hn.more (jaa hx hy)) (hv.more (jaa hx hy)) hp1 hd hok (jrH hr)
end Go.Proofs.YteigfipgmghgmaaGreatDoor
