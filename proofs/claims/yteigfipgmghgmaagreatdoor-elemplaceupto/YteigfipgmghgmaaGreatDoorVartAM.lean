/- A part. -/
import Derived.Test.YteigfipgmghgmaaGreatDoorVartAF
import Derived.Test.YteigfipgmghgmaaGreatDoorVartAJ
import Derived.Test.YteigfipgmghgmaaGreatDoorVartAL
import Derived.Test.YteigfipgmghgmaaGreatDoorVartAB
import Derived.Test.YteigfipgmghgmaaGreatDoorVartAD
import Derived.WalkLawsBesides
import Derived.Deep.RegionHeld3
set_option maxHeartbeats 6400000
set_option maxRecDepth 100000
namespace Go.Proofs.YteigfipgmghgmaaGreatDoor
open Go.RowKit
def jgO (xs:List Atr) (cs:List Cont):Int:=match (xs.zip cs).find? (fun p=>isA ⟨#[118,97,108,117,101]⟩ 4 p.1) with
 | some p=>pbE p.1.ty p.2.d p.2.t
 | none=>pbE 0 [] []
def jbJ (r:Option (Int×Int×List Ra)) (op:ByteArray) (ins:List ByteArray) (out:ByteArray) (xs:List Atr) (cs:List Cont):Int :=
 if jbZ r ins out xs≠0 then jbZ r ins out xs else if (op.toList==[67,111,110,115,116,97,110,116])=true then jgO xs cs else 0
theorem jb1 {r:Option (Int×Int×List Ra)} {op:ByteArray} {ins:List ByteArray} {out:ByteArray} {xs:List Atr} {cs:List Cont} {e:Int} (h:jbZ r ins out xs=e) (he:e≠0):jbJ r op ins out xs cs=e:=by
 unfold jbJ;rw [h,if_pos he]
theorem jdU {R:Atr→Cont→Prop} {P:Atr→Bool} : ∀ {xs:List Atr} {cs:List Cont},(∀ (j:Nat) (a:Atr),xs[j]?=some a→∃ c,cs[j]?=some c∧R a c) →
    (xs.find? P=none∧(xs.zip cs).find? (fun p=>P p.1)=none)∨∃ a c,xs.find? P=some a∧(xs.zip cs).find? (fun p=>P p.1)=some (a,c)∧R a c
     | [],_,_=>Or.inl ⟨rfl,by simp⟩
     | x::l,[],h=>by
      obtain ⟨c,hc,-⟩:=h 0 x rfl;simp at hc
     | x::l,c::cs,h=>by
      cases hx:P x with
      | true =>
       obtain ⟨c',hc,hr⟩:=h 0 x rfl;obtain rfl:c=c':=by simpa using hc
       exact Or.inr ⟨x,c,by simp [hx],by simp [hx],hr⟩
      | false =>
       rcases jdU (P:=P) (xs:=l) (cs:=cs) (fun j a hj=>h (j+1) a hj) with ⟨e1,e2⟩ | ⟨a,c',e1,e2,e3⟩
       ·exact Or.inl ⟨by simp [hx,e1],by rw [List.zip_cons_cons,List.find?_cons];simp [hx,e2]⟩
       ·exact Or.inr ⟨a,c',by simp [hx,e1],by rw [List.zip_cons_cons,List.find?_cons];simp [hx,e2],e3⟩
theorem jqr {w:World} {xs:List Atr} {cs:List Cont} (hc:∀ (j:Nat) (a:Atr),xs[j]?=some a→∃ c,cs[j]?=some c∧Has w a c) :
    ∃ (A:Atr) (b:Bool) (d t:List Int),(xs.find? (isA ⟨#[118,97,108,117,101]⟩ 4)).getD jcM=A∧(xs.find? (isA ⟨#[118,97,108,117,101]⟩ 4)).isSome=b∧IsInts w A.dv.v d∧IsInts w A.tv.v t∧jgO xs cs=pbE A.ty d t:=by
     have nil:IsInts w (.slice none 0 0) []:=⟨none,0,rfl,by simp,by simp,by simp,fun _=>⟨rfl,rfl⟩,fun h=>by simp at h,fun z hz=>by simp at hz⟩
     rcases jdU (P:=isA ⟨#[118,97,108,117,101]⟩ 4) hc with ⟨e1,e2⟩ | ⟨a,c,e1,e2,e3⟩
     ·exact ⟨jcM,false,[],[],by rw [e1];rfl,by rw [e1];rfl,nil,nil,by unfold jgO;rw [e2];rfl⟩
     ·exact ⟨a,true,c.d,c.t,by rw [e1];rfl,by rw [e1];rfl,e3.d,e3.t,by unfold jgO;rw [e2]⟩
theorem jlO (n : Nod) (xs : List Atr) (cs : List Cont) (ins : List ByteArray) (r : Option (Int × Int × List Ra)) (w : World) (hl : Laid w) (hin : jfe w n.iv.v ins) (hv : jbR w n.av.v xs) (hc : ∀ (j : Nat) (a : Atr), xs[j]? = some a → ∃ c, cs[j]? = some c ∧ Has w a c) (hsz : ∀ a ∈ xs, a.s.size ≤ 4294967296)
    (hrule:∀ wx,Laid wx→Calls Tryz.prog 98 #[.string n.op] wx fun e w'=>ja5 r w' e∧wx.grownBy w' none) (hrs:∀ lo hi rs,r=some (lo,hi,rs)→rs.length≤20) :
    Calls Tryz.prog 70 #[jaz n] w fun e w'=>e=.returned (.int .i64 (jbJ r n.op ins n.out xs cs))∧w.grownBy w' none:=by
     have TH:=jac (fun (wx:World) (hx:w.grownBy wx none)=>jk3 n xs wx (hl.more hx) (hv.more hx) hsz);have CA:=jac (fun (rv:Value) (rs:List Ra) (wx:World) (hx:w.grownBy wx none) (hr:jsA wx rv rs)=>jgr n xs rv rs wx (hv.more hx) hr);have CS:=jac (fun (wx:World) (hx:w.grownBy wx none)=>jix n.iv.v ins ⟨#[]⟩ wx (hin.more hx));have FN:=jac (fun (p q:Nat) (wx:World) (hg:w.grownBy wx none) (hp:wx.heap[p]?=some (.cells #[.string ⟨#[118,97,108,117,101]⟩] 9 (0,0))) (hq:wx.heap[q]?=some (.cells #[.int .i64 4] 3 (0,0)))=>jcd n xs p q ⟨#[118,97,108,117,101]⟩ 4 wx (hv.more hg) hp hq);obtain ⟨A,bA,dA,tA,hA1,hA2,hA3,hA4,hA5⟩:=jqr hc;rw [hA1,hA2] at FN;have HA3:=jac hA3;have HA4:=jac hA4;have HA5:=jac hA5;clear hA1 hA2 hA3 hA4 hA5 hc;have RU:=jac (fun (wx:World) (hx:w.grownBy wx none)=>hrule wx (hl.more hx));obtain ⟨op,nam,⟨ia,il,ic⟩,out,⟨ao,al,cap⟩⟩:=n;obtain ⟨ia',ic',hiv,i1,i2,i3⟩:=hin.form;obtain ⟨rfl,rfl,rfl⟩ : ia=ia'∧il=ins.length∧ic=ic':=by simpa [Sl.v] using hiv
     unfold jaz at TH CA FN ⊢;unfold jlB at FN;simp only [Sl.v] at TH CA CS RU FN ⊢;clear hl hin hv hsz hrule hiv;obtain ⟨w0,hw0⟩ : ∃ w0,w0=w.alloc (.cells #[.string op,.string nam,.slice ia ins.length ic,.string out,.slice ao al cap] 25):=⟨_,rfl⟩
     have g0:w.grownBy w0 none:=by rw [hw0];exact jab _ _
     have hb0:=heap_alloc_new w (.cells #[.string op,.string nam,.slice ia ins.length ic,.string out,.slice ao al cap] 25);obtain ⟨n0,-⟩:=jak (n:=⟨op,nam,⟨ia,ins.length,ic⟩,out,⟨ao,al,cap⟩⟩) hb0;rw [← hw0] at hb0;have HZ0:Hid (w0.heap.size=w.heap.size+1):=by show _=_;rw [hw0];simp
     have BX:Hid (∀ wx,w0.grownBy wx none→wx.heap[w.heap.size]?=some (.cells #[.string op,.string nam,.slice ia ins.length ic,.string out,.slice ao al cap] 25 (0,0))):=fun wx hg=>jag hb0 hg;clear hb0;go_enter Tryz.func70,Tryz.ntmps70;go_wp2_with fail;rw [← hw0];clear hw0 n0;refine (RU.out w0 g0).mono ?_;rintro e w1 ⟨hru,hg1⟩;have g1:=jaa g0 hg1
     rcases hr:r with _ | ⟨lo,hi,rs⟩
     ·rw [hr] at hru;have hru:e=.returned (.tuple #[.agg #[.int .i64 0,.int .i64 0,.slice none 0 0],.bool false]):=hru;subst hru;have E:Hid (jbZ r ins out xs=5):=by show _=_;rw [hr];rfl
      clear hr hrs;go_wp2;go_ret;exact ⟨by rw [jb1 E.out (by decide)];rfl,jaa g1 (jab _ _)⟩
     ·rw [hr] at hru;obtain ⟨a,nn,c,rfl,ho⟩:=hru;have hrl:rs.length≤20:=hrs lo hi rs hr;have HC0:Hid (jbZ r ins out xs=if (ins.length:Int)<lo then 4 else if hi<(ins.length:Int) then 4 else if (out.toList==[])||ins.any (isS ⟨#[]⟩) then 5 else if jbU rs xs=0 then jfB (xs.find? (isA ⟨#[116,104,101,110]⟩ 3)) else jbU rs xs):=by show _=_;rw [hr];rfl
      clear hr;obtain ⟨W1,hW1⟩ : ∃ W1,W1=w1.alloc (.cells #[.int .i64 lo,.int .i64 hi,.slice a nn c] 134):=⟨_,rfl⟩
      have G1:w1.grownBy W1 none:=by rw [hW1];exact jab _ _
      have B1:=heap_alloc_new w1 (.cells #[.int .i64 lo,.int .i64 hi,.slice a nn c] 134);obtain ⟨z0,z1,z2,-⟩:=jam B1;have IR:=jac (ho.isL (bytes:=32) jeW (by omega));have g2:=jaa g1 G1;have g02:=jaa hg1 G1;obtain ⟨n0,n1,n2,n3,n4⟩:=jak (n:=⟨op,nam,⟨ia,ins.length,ic⟩,out,⟨ao,al,cap⟩⟩) (BX.out W1 g02);have RB:Hid (∀ wx,W1.grownBy wx none→wx.heap[w1.heap.size]?=some (.cells #[.int .i64 lo,.int .i64 hi,.slice a nn c] 134 (0,0))):=fun wx hg=>jag (by rw [hW1];exact B1) hg;rw [hW1] at n0 n1 n2 n3 n4;clear B1 hrs ho
      by_cases h4:(ins.length:Int)<lo
      ·have E:Hid (jbZ r ins out xs=4):=by show _=_;rw [HC0.out,if_pos h4]
       go_wp2;rw [← hW1];go_ret;exact ⟨by rw [jb1 E.out (by decide)];rfl,g2⟩
      ·by_cases h5:hi<(ins.length:Int)
       ·have E:Hid (jbZ r ins out xs=4):=by show _=_;rw [HC0.out,if_neg h4,if_pos h5]
        go_wp2;rw [← hW1];go_ret;exact ⟨by rw [jb1 E.out (by decide)];rfl,g2⟩
       ·have HC1:Hid (jbZ r ins out xs=if (out.toList==[])||ins.any (isS ⟨#[]⟩) then 5 else if jbU rs xs=0 then jfB (xs.find? (isA ⟨#[116,104,101,110]⟩ 3)) else jbU rs xs):=by show _=_;rw [HC0.out,if_neg h4,if_neg h5]
        by_cases ho6:(out.toList==[])=true
        ·have E:Hid (jbZ r ins out xs=5):=by show _=_;rw [HC1.out,ho6];rfl
         go_wp2;rw [← hW1];go_ret;exact ⟨by rw [jb1 E.out (by decide)];rfl,g2⟩
        ·have ho7:(out.toList==[])=false:=by simpa using ho6
         have HO7:=jac ho7;clear ho6;go_wp2_with fail;rw [← hW1];clear hW1 z0 z1 z2 n0 n1 n2 n3 n4;refine (CS.out W1 g2).mono ?_;rintro e w3 ⟨rfl,hg3⟩;have g3:=jaa g2 hg3;obtain ⟨z0,z1,z2,-⟩:=jam (RB.out w3 hg3);obtain ⟨n0,n1,n2,n3,n4⟩:=jak (n:=⟨op,nam,⟨ia,ins.length,ic⟩,out,⟨ao,al,cap⟩⟩) (BX.out w3 (jaa g02 hg3))
         cases hany:ins.any (isS ⟨#[]⟩) with
         | true =>
          have E:Hid (jbZ r ins out xs=5):=by show _=_;rw [HC1.out,hany,Bool.or_true];rfl
          clear hany;go_wp2;go_ret;exact ⟨by rw [jb1 E.out (by decide)];rfl,g3⟩
         | false =>
          have HC2:Hid (jbZ r ins out xs=if jbU rs xs=0 then jfB (xs.find? (isA ⟨#[116,104,101,110]⟩ 3)) else jbU rs xs):=by show _=_;rw [HC1.out,hany,HO7.out];rfl
          clear hany;go_wp2_with fail;refine (CA.out _ rs w3 g3 (IR.out.more (jaa G1 hg3))).mono ?_;rintro e w4 ⟨rfl,hg4⟩;have g4:=jaa g3 hg4;clear z0 z1 z2 n0 n1 n2 n3 n4;obtain ⟨n0,n1,n2,n3,n4⟩:=jak (n:=⟨op,nam,⟨ia,ins.length,ic⟩,out,⟨ao,al,cap⟩⟩) (BX.out w4 (jaa (jaa g02 hg3) hg4));obtain ⟨X,hX⟩ : ∃ X,X=jbU rs xs:=⟨_,rfl⟩
          rw [← hX] at HC2;rw [← hX];clear hX
          by_cases h0:X=0
          ·subst h0;have HC3:Hid (jbZ r ins out xs=jfB (xs.find? (isA ⟨#[116,104,101,110]⟩ 3))):=by show _=_;rw [HC2.out];rfl
           go_wp2_with fail;refine (TH.out w4 g4).mono ?_;rintro e w5 ⟨v,rfl,ho5,hg5⟩;have g5:=jaa g4 hg5;obtain ⟨va,vc,rfl⟩:=jaW.form ho5;clear n0 n1 n2 n3 n4 ho5;obtain ⟨n0,n1,n2,n3,n4⟩:=jak (n:=⟨op,nam,⟨ia,ins.length,ic⟩,out,⟨ao,al,cap⟩⟩) (BX.out w5 (jaa (jaa (jaa g02 hg3) hg4) hg5));obtain ⟨Y,hY⟩ : ∃ Y,Y=jfB (xs.find? (isA ⟨#[116,104,101,110]⟩ 3)):=⟨_,rfl⟩
           rw [← hY] at HC3;rw [← hY];clear hY
           by_cases h1:Y=0
           ·subst h1
            by_cases hop:(op.toList==[67,111,110,115,116,97,110,116])=true
            ·have EF : Hid (jbJ r op ins out xs cs = pbE A.ty dA tA) := by
               show _=_;unfold jbJ;rw [if_neg (by rw [HC3.out];simp),if_pos hop,HA5.out]
             have g05:=jaa (jaa (jaa g02 hg3) hg4) hg5;have HZ5:Hid (w.heap.size<w5.heap.size):=by have:=g05.size;have:=HZ0.out;show _<_;omega
             go_wp2_with fail;go_cut [8,9] from 58 to 66 (fun p b wx=>∃ N:Nat,p=.pointer (some ⟨N,0,none⟩)∧wx.heap[N]?=some (.cells #[.string A.name,.int .i64 A.kind,.int .i64 A.f,.int .i64 A.i,.string A.s,.int .i64 A.ty,.slice A.dv.a A.dv.n A.dv.c,.slice A.tv.a A.tv.n A.tv.c,.slice A.iv.a A.iv.n A.iv.c] 92 (0,0))∧w.grownBy wx none)
             case first =>
              have gd:=jaf (jad w5);go_region_held3 (fun w'=>w'.cell? ⟨w.heap.size,0,none⟩=some (.string op)∧w'.cell? ⟨w.heap.size,1,none⟩=some (.string nam)∧w'.cell? ⟨w.heap.size,2,none⟩=some (.slice ia ins.length ic)∧w'.cell? ⟨w.heap.size,3,none⟩=some (.string out)∧w'.cell? ⟨w.heap.size,4,none⟩=some (.slice ao al cap)) (go_keep) (first | (go_at_call 58;refine (jcp _ _ _).mono ?_;rintro e w1 ⟨rfl,hp1,hq1,hg1⟩;have g51:w5.grownBy w1 none:=(by first | exact jaa gd hg1 | exact jaa (jaa gd (jab _ _)) hg1);obtain ⟨n0,n1,n2,n3,n4⟩:=jak (n:=⟨op,nam,⟨ia,ins.length,ic⟩,out,⟨ao,al,cap⟩⟩) (BX.out w1 (jaa g05 g51));have hz1:w.heap.size≠w1.heap.size:=(by have:=g51.size;have:=HZ5.out;omega);have hzz:w.heap.size≠w5.heap.size:=(by have:=HZ5.out;omega);have hz1':=hz1.symm;have hzz':=hzz.symm;try (have hp2:w1.heap[w5.heap.size+1]?=some (.cells #[.string ⟨#[118,97,108,117,101]⟩] 9 (0,0)):=(by have h:=hp1;rw [show ((w5.alloc (.cells #[.string ⟨#[]⟩,.int .i64 0,.int .i64 0,.int .i64 0,.string ⟨#[]⟩,.int .i64 0,.slice none 0 0,.slice none 0 0,.slice none 0 0] 92)).drew).heap.size=w5.heap.size+1 by simp] at h;exact h));try (have hq2:w1.heap[w5.heap.size+1+1]?=some (.cells #[.int .i64 4] 3 (0,0)):=(by have h:=hq1;rw [show ((w5.alloc (.cells #[.string ⟨#[]⟩,.int .i64 0,.int .i64 0,.int .i64 0,.string ⟨#[]⟩,.int .i64 0,.slice none 0 0,.slice none 0 0,.slice none 0 0] 92)).drew).heap.size=w5.heap.size+1 by simp] at h;exact h));try (have kz:w1.heap[w5.heap.size]?=some (.cells #[.string ⟨#[]⟩,.int .i64 0,.int .i64 0,.int .i64 0,.string ⟨#[]⟩,.int .i64 0,.slice none 0 0,.slice none 0 0,.slice none 0 0] 92 (0,0)):=jag (show ((w5.alloc (.cells #[.string ⟨#[]⟩,.int .i64 0,.int .i64 0,.int .i64 0,.string ⟨#[]⟩,.int .i64 0,.slice none 0 0,.slice none 0 0,.slice none 0 0] 92)).drew).heap[w5.heap.size]?=_ from heap_alloc_new w5 _) hg1)) | (go_at_call 57;refine (FN.out _ _ _ (by first | exact jaa g5 g51 | exact jaa (jaa g5 g51) (jab _ _)) (by first | exact hp1 | exact hp2 | exact jag hp1 (jab _ _)) (by first | exact hq1 | exact hq2 | exact jag hq1 (jab _ _))).mono ?_;rintro e w2 ⟨rfl,hg2⟩;have g52:w5.grownBy w2 none:=(by first | exact jaa g51 hg2 | exact jaa (jaa g51 (jab _ _)) hg2);obtain ⟨n0,n1,n2,n3,n4⟩:=jak (n:=⟨op,nam,⟨ia,ins.length,ic⟩,out,⟨ao,al,cap⟩⟩) (BX.out w2 (jaa g05 g52));try (first | have kz2:=jag kz hg2 | have kz2:w2.heap[w1.heap.size]?=some (.cells #[.string ⟨#[]⟩,.int .i64 0,.int .i64 0,.int .i64 0,.string ⟨#[]⟩,.int .i64 0,.slice none 0 0,.slice none 0 0,.slice none 0 0] 92 (0,0)):=jag (heap_alloc_new w1 _) hg2);try (obtain ⟨f0,f1,f2,f3,f4,f5,f6,f7,f8⟩:=jbF kz2);try (obtain ⟨k0,k1,k2,k3,k4,k5,k6,k7,k8⟩:=jaR (a:=jcM) kz2)))
              ·have GG:=jac (jaa g5 g52);go_wp2_with fail
               go_meet
               exact ⟨_,rfl,heap_alloc_new w2 _,jaa GG.out (jab w2 _)⟩
              ·obtain ⟨hX,gX⟩:=jb9 (.string A.name) (.int .i64 A.kind) (.int .i64 A.f) (.int .i64 A.i) (.string A.s) (.int .i64 A.ty) (.slice A.dv.a A.dv.n A.dv.c) (.slice A.tv.a A.tv.n A.tv.c) (.slice A.iv.a A.iv.n A.iv.c) (jaa g5 g52) (show w.heap.size≤w1.heap.size by have:=g51.size;have:=HZ5.out;omega) kz2;have HX:=jac hX;have GX:=jac gX;clear hX gX;go_wp2_with fail
               go_meet
               exact ⟨_,rfl,HX.out,GX.out⟩
              ·obtain ⟨hX,gX⟩:=jb9 (.string A.name) (.int .i64 A.kind) (.int .i64 A.f) (.int .i64 A.i) (.string A.s) (.int .i64 A.ty) (.slice A.dv.a A.dv.n A.dv.c) (.slice A.tv.a A.tv.n A.tv.c) (.slice A.iv.a A.iv.n A.iv.c) (jaa g5 g52) (show w.heap.size≤w5.heap.size by have:=HZ5.out;omega) kz2;have HX:=jac hX;have GX:=jac gX;clear hX gX;go_wp2_with fail
               go_meet
               exact ⟨_,rfl,HX.out,GX.out⟩
             case rest =>
              obtain ⟨N,rfl,hN,hg⟩:=hcut;obtain ⟨-,-,-,-,-,c5,c6,c7,-⟩:=jaR hN;have HG:=jac hg;have PB:=jac (jfG A.ty A.dv.v A.tv.v dA tA wc (HA3.out.more hg) (HA4.out.more hg));clear hN hg n0 n1 n2 n3 n4;go_wp2_with fail;refine PB.out.mono ?_;rintro e w6 ⟨rfl,hg6⟩;go_wp2;go_ret;exact ⟨by rw [EF.out];rfl,jaa HG.out hg6⟩
            ·have hop':(op.toList==[67,111,110,115,116,97,110,116])=false:=by simpa using hop
             have EF:Hid (jbJ r op ins out xs cs=0):=by
              show _=_;unfold jbJ;rw [if_neg (by rw [HC3.out];simp),if_neg hop]
             clear hop;go_wp2;go_ret;exact ⟨by rw [EF.out];rfl,g5⟩
           ·have h2:(Y==0)=false:=by simpa using h1
            have h3':(Y != 0)=true:=by simp [bne,h2]
            have HY0:=jac h1;clear h1;go_wp2;go_ret;exact ⟨by rw [jb1 HC3.out HY0.out];rfl,g5⟩
          ·have E:Hid (jbZ r ins out xs=X):=by show _=_;rw [HC2.out,if_neg h0]
           have h2:(X==0)=false:=by simpa using h0
           have h3':(X != 0)=true:=by simp [bne,h2]
           have HX0:=jac h0;clear h0;go_wp2;go_ret;exact ⟨by rw [jb1 E.out HX0.out];rfl,g4⟩
theorem jnk:∀ r∈jeo,r.2.2.2.length≤20:=by decide
theorem jnl (n:Nod) (xs:List Atr) (cs:List Cont) (ins:List ByteArray) (w:World) (hl:Laid w) (hin:jfe w n.iv.v ins) (hv:jbR w n.av.v xs) (hc:∀ (j:Nat) (a:Atr),xs[j]?=some a→∃ c,cs[j]?=some c∧Has w a c) (hsz:∀ a∈xs,a.s.size≤4294967296) :
    Calls Tryz.prog 70 #[jaz n] w fun e w'=>e=.returned (.int .i64 (jbJ (jcN n.op) n.op ins n.out xs cs))∧w.grownBy w' none:=by
     refine jlO n xs cs ins (jcN n.op) w hl hin hv hc hsz (fun wx h=>jlN n.op wx h) ?_;intro lo hi rs h;unfold jcN at h
     cases hf:jeo.find? (fun r=>r.1==n.op.toList) with
     | none=>rw [hf] at h;cases h
     | some r =>
      rw [hf] at h;have:=jnk r (List.mem_of_find?_eq_some hf);simp only [Option.map_some,Option.some.injEq] at h;rw [h] at this;exact this
end Go.Proofs.YteigfipgmghgmaaGreatDoor
namespace Go.Proofs.YteigfipgmghgmaaGreatDoor
open Go.RowKit
structure NodeIn (w:World) (n:Nod) (ins:List ByteArray) (xs:List Atr) (cs:List Cont):Prop where
 ins:jfe w n.iv.v ins
 av:jbR w n.av.v xs
 has:∀ (j:Nat) (a:Atr),xs[j]?=some a→∃ c,cs[j]?=some c∧Has w a c
 few:xs.length≤2097152
 short:∀ a∈xs,a.s.size≤1048576
theorem NodeIn.more {w w':World} {n:Nod} {ins:List ByteArray} {xs:List Atr} {cs:List Cont} (h:NodeIn w n ins xs cs) (hg:w.grownBy w' none):NodeIn w' n ins xs cs :=
 ⟨h.ins.more hg,h.av.more hg,fun j a e=>by obtain ⟨c,e1,e2⟩:=h.has j a e;exact ⟨c,e1,e2.more hg⟩,h.few,h.short⟩
theorem jqs (n:Nod) (ins:List ByteArray) (xs:List Atr) (cs:List Cont) (w:World) (hl:Laid w) (h:NodeIn w n ins xs cs) :
    Calls Tryz.prog 70 #[jaz n] w fun e w'=>e=.returned (.int .i64 (jbJ (jcN n.op) n.op ins n.out xs cs))∧w.grownBy w' none :=
     jnl n xs cs ins w hl h.ins h.av h.has (fun a ha=>by have:=h.short a ha;omega)
theorem Copied.len {w w':World} {n:Nod} {ins:List ByteArray} {xs:List Atr} {cs:List Cont} {iv av:Sl} {ys:List Atr} (h:Copied w w' n ins xs cs iv av ys):ys.length=xs.length:=by
 have:=congrArg List.length h.eq;simpa using this
end Go.Proofs.YteigfipgmghgmaaGreatDoor
namespace Go.Proofs.YteigfipgmghgmaaGreatDoor
open Go.RowKit
structure Val where
 name:ByteArray
 ty:Int
 dv:Sl
def jee (v:Val):List Value:=[.string v.name,.int .i64 v.ty,.slice v.dv.a v.dv.n v.dv.c]
theorem jlP (v:Val):(jee v).length=3:=rfl
structure Nam where
 name:ByteArray
 ty:Int
 dv:Sl
 tv:Sl
def jr5 (v:Nam):List Value:=[.string v.name,.int .i64 v.ty,.slice v.dv.a v.dv.n v.dv.c,.slice v.tv.a v.tv.n v.tv.c]
def jur (n:Nod):List Value:=[.string n.op,.string n.name,.slice n.iv.a n.iv.n n.iv.c,.string n.out,.slice n.av.a n.av.n n.av.c]
abbrev jnm (w:World) (v:Value) (xs:List Val):Prop:=IsL 48 3 jee w v xs
abbrev jus (w:World) (v:Value) (xs:List Nam):Prop:=IsL 72 4 jr5 w v xs
abbrev jut (w:World) (v:Value) (xs:List Nod):Prop:=IsL 96 5 jur w v xs
theorem IsL.val {w:World} {b off len cap:Nat} {xs:List Val} (h:IsL 48 3 jee w (.slice (some ⟨b,off,none⟩) len cap) xs) (k:Nat) (hk:k<xs.length) :
    w.cell? ⟨b,off+k*3,none⟩=some (.string xs[k].name)∧w.cell? ⟨b,off+k*3+1,none⟩=some (.int .i64 xs[k].ty)∧w.cell? ⟨b,off+k*3+2,none⟩=some (.slice xs[k].dv.a xs[k].dv.n xs[k].dv.c) :=
     ⟨h.at k hk 0 (by omega),h.at k hk 1 (by omega),h.at k hk 2 (by omega)⟩
theorem IsL.nam {w:World} {b off len cap:Nat} {xs:List Nam} (h:IsL 72 4 jr5 w (.slice (some ⟨b,off,none⟩) len cap) xs) (k:Nat) (hk:k<xs.length) :
    w.cell? ⟨b,off+k*4,none⟩=some (.string xs[k].name)∧w.cell? ⟨b,off+k*4+1,none⟩=some (.int .i64 xs[k].ty)∧w.cell? ⟨b,off+k*4+2,none⟩=some (.slice xs[k].dv.a xs[k].dv.n xs[k].dv.c)∧w.cell? ⟨b,off+k*4+3,none⟩=some (.slice xs[k].tv.a xs[k].tv.n xs[k].tv.c) :=
     ⟨h.at k hk 0 (by omega),h.at k hk 1 (by omega),h.at k hk 2 (by omega),h.at k hk 3 (by omega)⟩
structure Gra where
 name:ByteArray
 nv:Sl
 iv:Sl
 ov:Sl
 tv:Sl
structure Nc where
 n:Nod
 ins:List ByteArray
 xs:List Atr
 cs:List Cont
structure GraphIn (w:World) (g:Gra) (nds:List Nc) (vin vout:List (Val×List Int)) (its:List (Nam×List Int×List Int)):Prop where
 nodes:jut w g.nv.v (nds.map (·.n))
 ins:jnm w g.iv.v (vin.map (·.1))
 outs:jnm w g.ov.v (vout.map (·.1))
 inits:jus w g.tv.v (its.map (·.1))
 node:∀ c∈nds,NodeIn w c.n c.ins c.xs c.cs
 din:∀ p∈vin,IsInts w p.1.dv.v p.2
 dout:∀ p∈vout,IsInts w p.1.dv.v p.2
 dinit:∀ p∈its,IsInts w p.1.dv.v p.2.1∧IsInts w p.1.tv.v p.2.2
 short:∀ p∈vin,p.1.name.size≤1048576
 few:nds.length≤1048576∧vin.length≤1048576∧vout.length≤1048576∧its.length≤1048576
theorem GraphIn.more {w w':World} {g:Gra} {nds:List Nc} {vin vout:List (Val×List Int)} {its:List (Nam×List Int×List Int)} (h:GraphIn w g nds vin vout its) (hg:w.grownBy w' none):GraphIn w' g nds vin vout its :=
 ⟨h.nodes.more hg,h.ins.more hg,h.outs.more hg,h.inits.more hg,fun c hc=>(h.node c hc).more hg,fun p hp=>(h.din p hp).more hg,fun p hp=>(h.dout p hp).more hg,fun p hp=>⟨(h.dinit p hp).1.more hg,(h.dinit p hp).2.more hg⟩,h.short,h.few⟩
end Go.Proofs.YteigfipgmghgmaaGreatDoor
namespace Go.Proofs.YteigfipgmghgmaaGreatDoor
open Go.RowKit
def jgw (xs:List Atr) (cs:List Cont) (nm:ByteArray) (zs:List Int):List Int:=match (xs.zip cs).find? (fun p=>isA nm 7 p.1) with
 | some p=>p.2.i
 | none=>zs
def jqt (xs:List Atr) (nm:ByteArray) (z:Int):Int:=match xs.find? (isA nm 2) with
 | some a=>a.i
 | none=>z
def jep (xs:List Atr) (nm:ByteArray) (z:Int):Int:=match xs.find? (isA nm 1) with
 | some a=>a.f
 | none=>z
theorem jhA {w:World} {xs:List Atr} {cs:List Cont} {nm:ByteArray} {kd:Int} (hc:∀ (j:Nat) (a:Atr),xs[j]?=some a→∃ c,cs[j]?=some c∧Has w a c) :
    ∃ (A:Atr) (b:Bool) (c:Cont),(xs.find? (isA nm kd)).getD jcM=A∧(xs.find? (isA nm kd)).isSome=b∧(b=true→Has w A c)∧((b=true→xs.find? (isA nm kd)=some A∧(xs.zip cs).find? (fun p=>isA nm kd p.1)=some (A,c))∧(b=false→xs.find? (isA nm kd)=none∧(xs.zip cs).find? (fun p=>isA nm kd p.1)=none)):=by
     rcases jdU (P:=isA nm kd) hc with ⟨e1,e2⟩ | ⟨a,c,e1,e2,e3⟩
     ·exact ⟨jcM,false,⟨[],[],[]⟩,by rw [e1];rfl,by rw [e1];rfl,(fun h=>by cases h),(fun h=>by cases h),fun _=>⟨e1,e2⟩⟩
     ·exact ⟨a,true,c,by rw [e1];rfl,by rw [e1];rfl,(fun _=>e3),(fun _=>⟨e1,e2⟩),(fun h=>by cases h)⟩
theorem jlQ (w:World) (te:TypeId):jaW te 1 jdq (w.alloc (.cells #[] te)) w.heap.size (.slice (some ⟨w.heap.size,0,none⟩) 0 0) [] :=
 ⟨rfl,.inr ⟨w.heap.size,0,#[],rfl,Nat.le_refl _,heap_alloc_new w _,Nat.le_refl _,by simp [maxLen],rfl,rfl⟩⟩
theorem jnn (w:World) (a:Option Addr) (l c:Nat):(binOp .eql 30 (.slice a l c) (.slice none 0 0)).run Tryz.prog w=.ok (.bool a.isNone) w:=by
 cases a <;> kernel_rfl
theorem jeE (v:Value) (zs:List Int) (w:World) (h:IsInts w v zs) :
    Calls Tryz.prog 147 #[v] w fun e w'=>∃ u:Sl,e=.returned u.v∧jaW 2 1 jdq w' w.heap.size u.v zs∧w.grownBy w' none:=by
     obtain ⟨i0,hi,hz0,hz1,hz2⟩:=info_parts jm6;have H:=jac (jqd h);obtain ⟨ao,cap,rfl,h1,h2,h3,h4,h5,h6⟩:=h
     cases ao with
     | none =>
      obtain ⟨rfl,rfl⟩:=h4 rfl;have q:=jnn w none 0 0;go_enter Tryz.func147,Tryz.ntmps147;go_wp2;go_ret;exact ⟨⟨none,0,0⟩,rfl,jaW.nil ..,jad _⟩
     | some ad =>
      clear h4 h6;have H5:=jac h5;clear h5
      have hnews:Hid (∀ o,∀ j u,(zs.map (Value.int .i64))[j]?=some u→(w.alloc o).cell? (ad.add j)=some u):=by
       intro o j u hu;have hj:j<zs.length:=by have:=(List.getElem?_eq_some_iff.1 hu).1;simpa using this
       obtain ⟨b,off,e,hc⟩:=H5.out (by omega);obtain rfl:=Option.some.inj e;rw [Addr.add_lit];refine jae ?_ (jab w o);rw [hc j hj];rw [List.getElem?_map,List.getElem?_eq_getElem hj] at hu;simpa [List.getD,hj] using hu
      have q:=jnn w (some ad) zs.length cap;have OE:=jac (jlQ w 2);go_enter Tryz.func147,Tryz.ntmps147;go_wp2_with (at_builtin;refine wpList_append_own _ rfl (.tmp 5) (.tmp 6) 30 rfl w.heap.size 2 i0 (.int .i64 0) 1 8 Tryz.underlying30 hi hz0 hz1 hz2 rfl (by decide) (.slice (some ⟨w.heap.size,0,none⟩) 0 0) 0 [] rfl (by exact OE.out) ad zs.length cap (zs.map (Value.int .i64)) rfl (by simp) (by exact hnews.out _) (by intro u hu;obtain ⟨z,-,rfl⟩:=List.mem_map.1 hu;rfl) (by simp only [maxLen];omega) (by omega) (by simp) ?_;intro v' w1 hown hgrow _)
      have o2:jaW 2 1 jdq w1 w.heap.size v' zs:=by
       unfold jaW;rw [jup];simpa using hown
      have HO:=jac o2;obtain ⟨xa,xc,rfl⟩:=jaW.form o2;have HG:Hid (w.grownBy w1 none):=jan (jab w (.cells #[] 2)) hgrow (fun r e=>by have h:w.heap.size=r:=Option.some.inj e;omega);clear o2 hown hgrow;go_ret;exact ⟨⟨xa,zs.length,xc⟩,rfl,HO.out,HG.out⟩
theorem jno (n:Nod) (xs:List Atr) (cs:List Cont) (nm:ByteArray) (other:Sl) (zs:List Int) (w:World) (hv:jbR w n.av.v xs) (hc:∀ (j:Nat) (a:Atr),xs[j]?=some a→∃ c,cs[j]?=some c∧Has w a c) (ho:IsInts w other.v zs) :
    Calls Tryz.prog 112 #[jaz n,.string nm,.slice other.a other.n other.c] w fun e w'=>∃ u:Sl,e=.returned u.v∧jaW 2 1 jdq w' w.heap.size u.v (jgw xs cs nm zs)∧w.grownBy w' none:=by
     have FN:=jac (fun (p q:Nat) (wx:World) (hg:w.grownBy wx none) (hp:wx.heap[p]?=some (.cells #[.string nm] 9 (0,0))) (hq:wx.heap[q]?=some (.cells #[.int .i64 7] 3 (0,0)))=>jcd n xs p q nm 7 wx (hv.more hg) hp hq);obtain ⟨A,bA,cA,hA1,hA2,hA3,hA4⟩:=jhA (nm:=nm) (kd:=7) hc;rw [hA1,hA2] at FN;have HA3:=jac hA3;have HA4:=jac hA4;clear hA1 hA2 hA3 hA4 hc;have HO:=jac ho;have HA5:Hid ((bA=true→jgw xs cs nm zs=cA.i)∧(bA=false→jgw xs cs nm zs=zs)):=⟨fun h=>by unfold jgw;rw [(HA4.out.1 h).2],fun h=>by unfold jgw;rw [(HA4.out.2 h).2]⟩
     clear HA4 ho;obtain ⟨op,nam,⟨ia,il,ic⟩,out,⟨ao,al,cap⟩⟩:=n;unfold jaz at FN ⊢;unfold jlB at FN;simp only at FN ⊢;clear hv;obtain ⟨w0,hw0⟩ : ∃ w0,w0=w.alloc (.cells #[.string op,.string nam,.slice ia il ic,.string out,.slice ao al cap] 25):=⟨_,rfl⟩
     have g0:w.grownBy w0 none:=by rw [hw0];exact jab _ _
     have hb0:=heap_alloc_new w (.cells #[.string op,.string nam,.slice ia il ic,.string out,.slice ao al cap] 25);rw [← hw0] at hb0;have HZ0:Hid (w0.heap.size=w.heap.size+1):=by rw [hw0];simp [Hid]
     have BX:Hid (∀ wx,w0.grownBy wx none→wx.heap[w.heap.size]?=some (.cells #[.string op,.string nam,.slice ia il ic,.string out,.slice ao al cap] 25 (0,0))):=fun wx hg=>jag hb0 hg;clear hb0;go_enter Tryz.func112,Tryz.ntmps112;go_wp2_with fail;rw [← hw0];clear hw0;go_cut [7,8] from 9 to 15 (fun p b wx=>∃ N:Nat,p=.pointer (some ⟨N,0,none⟩)∧b=.bool bA∧wx.heap[N]?=some (.cells #[.string A.name,.int .i64 A.kind,.int .i64 A.f,.int .i64 A.i,.string A.s,.int .i64 A.ty,.slice A.dv.a A.dv.n A.dv.c,.slice A.tv.a A.tv.n A.tv.c,.slice A.iv.a A.iv.n A.iv.c] 92 (0,0))∧w.grownBy wx none)
     case first =>
      obtain ⟨n0,n1,n2,n3,n4⟩:=jak (n:=⟨op,nam,⟨ia,il,ic⟩,out,⟨ao,al,cap⟩⟩) (BX.out w0 (jad _));have gd:=jaf (jad w0);go_region_held3 (fun w'=>w'.cell? ⟨w.heap.size,0,none⟩=some (.string op)∧w'.cell? ⟨w.heap.size,1,none⟩=some (.string nam)∧w'.cell? ⟨w.heap.size,2,none⟩=some (.slice ia il ic)∧w'.cell? ⟨w.heap.size,3,none⟩=some (.string out)∧w'.cell? ⟨w.heap.size,4,none⟩=some (.slice ao al cap)) (go_keep) (first | (go_at_call 58;refine (jcp _ _ _).mono ?_;rintro e w1 ⟨rfl,hp1,hq1,hg1⟩;have g01:w0.grownBy w1 none:=(by first | exact jaa gd hg1 | exact jaa (jaa gd (jab _ _)) hg1);obtain ⟨n0,n1,n2,n3,n4⟩:=jak (n:=⟨op,nam,⟨ia,il,ic⟩,out,⟨ao,al,cap⟩⟩) (BX.out w1 g01);have hz1:w.heap.size≠w1.heap.size:=(by have:=g01.size;have:=HZ0.out;omega);have hzz:w.heap.size≠w0.heap.size:=(by have:=HZ0.out;omega);have hz1':=hz1.symm;have hzz':=hzz.symm;try (have hp2:w1.heap[w0.heap.size+1]?=some (.cells #[.string nm] 9 (0,0)):=(by have h:=hp1;rw [show ((w0.alloc (.cells #[.string ⟨#[]⟩,.int .i64 0,.int .i64 0,.int .i64 0,.string ⟨#[]⟩,.int .i64 0,.slice none 0 0,.slice none 0 0,.slice none 0 0] 92)).drew).heap.size=w0.heap.size+1 by simp] at h;exact h));try (have hq2:w1.heap[w0.heap.size+1+1]?=some (.cells #[.int .i64 7] 3 (0,0)):=(by have h:=hq1;rw [show ((w0.alloc (.cells #[.string ⟨#[]⟩,.int .i64 0,.int .i64 0,.int .i64 0,.string ⟨#[]⟩,.int .i64 0,.slice none 0 0,.slice none 0 0,.slice none 0 0] 92)).drew).heap.size=w0.heap.size+1 by simp] at h;exact h));try (have kz:w1.heap[w0.heap.size]?=some (.cells #[.string ⟨#[]⟩,.int .i64 0,.int .i64 0,.int .i64 0,.string ⟨#[]⟩,.int .i64 0,.slice none 0 0,.slice none 0 0,.slice none 0 0] 92 (0,0)):=jag (show ((w0.alloc (.cells #[.string ⟨#[]⟩,.int .i64 0,.int .i64 0,.int .i64 0,.string ⟨#[]⟩,.int .i64 0,.slice none 0 0,.slice none 0 0,.slice none 0 0] 92)).drew).heap[w0.heap.size]?=_ from heap_alloc_new w0 _) hg1)) | (go_at_call 57;refine (FN.out _ _ _ (by first | exact jaa g0 g01 | exact jaa (jaa g0 g01) (jab _ _)) (by first | exact hp1 | exact hp2 | exact jag hp1 (jab _ _)) (by first | exact hq1 | exact hq2 | exact jag hq1 (jab _ _))).mono ?_;rintro e w2 ⟨rfl,hg2⟩;have g02:w0.grownBy w2 none:=(by first | exact jaa g01 hg2 | exact jaa (jaa g01 (jab _ _)) hg2);obtain ⟨n0,n1,n2,n3,n4⟩:=jak (n:=⟨op,nam,⟨ia,il,ic⟩,out,⟨ao,al,cap⟩⟩) (BX.out w2 g02);try (first | have kz2:=jag kz hg2 | have kz2:w2.heap[w1.heap.size]?=some (.cells #[.string ⟨#[]⟩,.int .i64 0,.int .i64 0,.int .i64 0,.string ⟨#[]⟩,.int .i64 0,.slice none 0 0,.slice none 0 0,.slice none 0 0] 92 (0,0)):=jag (heap_alloc_new w1 _) hg2);try (obtain ⟨f0,f1,f2,f3,f4,f5,f6,f7,f8⟩:=jbF kz2);try (obtain ⟨k0,k1,k2,k3,k4,k5,k6,k7,k8⟩:=jaR (a:=jcM) kz2)))
      ·have GG:=jac (jaa g0 g02);go_wp2_with fail
       go_meet
       exact ⟨_,rfl,rfl,heap_alloc_new w2 _,jaa GG.out (jab w2 _)⟩
      ·obtain ⟨hX,gX⟩:=jb9 (.string A.name) (.int .i64 A.kind) (.int .i64 A.f) (.int .i64 A.i) (.string A.s) (.int .i64 A.ty) (.slice A.dv.a A.dv.n A.dv.c) (.slice A.tv.a A.tv.n A.tv.c) (.slice A.iv.a A.iv.n A.iv.c) (jaa g0 g02) (show w.heap.size≤w1.heap.size by have:=g01.size;have:=HZ0.out;omega) kz2;have HX:=jac hX;have GX:=jac gX;clear hX gX;go_wp2_with fail
       go_meet
       exact ⟨_,rfl,rfl,HX.out,GX.out⟩
      ·obtain ⟨hX,gX⟩:=jb9 (.string A.name) (.int .i64 A.kind) (.int .i64 A.f) (.int .i64 A.i) (.string A.s) (.int .i64 A.ty) (.slice A.dv.a A.dv.n A.dv.c) (.slice A.tv.a A.tv.n A.tv.c) (.slice A.iv.a A.iv.n A.iv.c) (jaa g0 g02) (show w.heap.size≤w0.heap.size by have:=HZ0.out;omega) kz2;have HX:=jac hX;have GX:=jac gX;clear hX gX;go_wp2_with fail
       go_meet
       exact ⟨_,rfl,rfl,HX.out,GX.out⟩
     case rest =>
      obtain ⟨N,rfl,rfl,hN,hg⟩:=hcut;obtain ⟨c0,c1,c2,c3,c4,c5,c6,c7,c8⟩:=jaR hN;have HG:=jac hg;clear hN
      cases bA with
      | true =>
       have E:Hid (jgw xs cs nm zs=cA.i):=HA5.out.1 rfl;have CL:=jac (jeE _ cA.i wc (HA3.out rfl |>.i.more hg));go_wp2_with fail;refine CL.out.mono ?_;rintro e w3 ⟨u,rfl,hu,hg3⟩;go_wp2;go_ret;exact ⟨u,rfl,by rw [E.out];exact hu.base_le HG.out.size,jaa HG.out hg3⟩
      | false =>
       have E:Hid (jgw xs cs nm zs=zs):=HA5.out.2 rfl;have CL:=jac (jeE _ zs wc (HO.out.more hg));go_wp2_with fail;refine CL.out.mono ?_;rintro e w3 ⟨u,rfl,hu,hg3⟩;go_wp2;go_ret;exact ⟨u,rfl,by rw [E.out];exact hu.base_le HG.out.size,jaa HG.out hg3⟩
theorem jqu (n:Nod) (xs:List Atr) (cs:List Cont) (nm:ByteArray) (z:Int) (w:World) (hv:jbR w n.av.v xs) (hc:∀ (j:Nat) (a:Atr),xs[j]?=some a→∃ c,cs[j]?=some c∧Has w a c) :
    Calls Tryz.prog 104 #[jaz n,.string nm,.int .i64 z] w fun e w'=>e=.returned (.int .i64 (jqt xs nm z))∧w.grownBy w' none:=by
     have FN:=jac (fun (p q:Nat) (wx:World) (hg:w.grownBy wx none) (hp:wx.heap[p]?=some (.cells #[.string nm] 9 (0,0))) (hq:wx.heap[q]?=some (.cells #[.int .i64 2] 3 (0,0)))=>jcd n xs p q nm 2 wx (hv.more hg) hp hq);obtain ⟨A,bA,cA,hA1,hA2,hA3,hA4⟩:=jhA (nm:=nm) (kd:=2) hc;rw [hA1,hA2] at FN;have HA3:=jac hA3;have HA4:=jac hA4;clear hA1 hA2 hA3 hA4 hc;have HA5:Hid ((bA=true→jqt xs nm z=A.i)∧(bA=false→jqt xs nm z=z)):=⟨fun h=>by unfold jqt;rw [(HA4.out.1 h).1],fun h=>by unfold jqt;rw [(HA4.out.2 h).1]⟩
     clear HA3 HA4;obtain ⟨op,nam,⟨ia,il,ic⟩,out,⟨ao,al,cap⟩⟩:=n;unfold jaz at FN ⊢;unfold jlB at FN;simp only at FN ⊢;clear hv;obtain ⟨w0,hw0⟩ : ∃ w0,w0=w.alloc (.cells #[.string op,.string nam,.slice ia il ic,.string out,.slice ao al cap] 25):=⟨_,rfl⟩
     have g0:w.grownBy w0 none:=by rw [hw0];exact jab _ _
     have hb0:=heap_alloc_new w (.cells #[.string op,.string nam,.slice ia il ic,.string out,.slice ao al cap] 25);rw [← hw0] at hb0;have HZ0:Hid (w0.heap.size=w.heap.size+1):=by rw [hw0];simp [Hid]
     have BX:Hid (∀ wx,w0.grownBy wx none→wx.heap[w.heap.size]?=some (.cells #[.string op,.string nam,.slice ia il ic,.string out,.slice ao al cap] 25 (0,0))):=fun wx hg=>jag hb0 hg;clear hb0;go_enter Tryz.func104,Tryz.ntmps104;go_wp2_with fail;rw [← hw0];clear hw0;go_cut [7,8] from 9 to 15 (fun p b wx=>∃ N:Nat,p=.pointer (some ⟨N,0,none⟩)∧b=.bool bA∧wx.heap[N]?=some (.cells #[.string A.name,.int .i64 A.kind,.int .i64 A.f,.int .i64 A.i,.string A.s,.int .i64 A.ty,.slice A.dv.a A.dv.n A.dv.c,.slice A.tv.a A.tv.n A.tv.c,.slice A.iv.a A.iv.n A.iv.c] 92 (0,0))∧w.grownBy wx none)
     case first =>
      obtain ⟨n0,n1,n2,n3,n4⟩:=jak (n:=⟨op,nam,⟨ia,il,ic⟩,out,⟨ao,al,cap⟩⟩) (BX.out w0 (jad _));have gd:=jaf (jad w0);go_region_held3 (fun w'=>w'.cell? ⟨w.heap.size,0,none⟩=some (.string op)∧w'.cell? ⟨w.heap.size,1,none⟩=some (.string nam)∧w'.cell? ⟨w.heap.size,2,none⟩=some (.slice ia il ic)∧w'.cell? ⟨w.heap.size,3,none⟩=some (.string out)∧w'.cell? ⟨w.heap.size,4,none⟩=some (.slice ao al cap)) (go_keep) (first | (go_at_call 58;refine (jcp _ _ _).mono ?_;rintro e w1 ⟨rfl,hp1,hq1,hg1⟩;have g01:w0.grownBy w1 none:=(by first | exact jaa gd hg1 | exact jaa (jaa gd (jab _ _)) hg1);obtain ⟨n0,n1,n2,n3,n4⟩:=jak (n:=⟨op,nam,⟨ia,il,ic⟩,out,⟨ao,al,cap⟩⟩) (BX.out w1 g01);have hz1:w.heap.size≠w1.heap.size:=(by have:=g01.size;have:=HZ0.out;omega);have hzz:w.heap.size≠w0.heap.size:=(by have:=HZ0.out;omega);have hz1':=hz1.symm;have hzz':=hzz.symm;try (have hp2:w1.heap[w0.heap.size+1]?=some (.cells #[.string nm] 9 (0,0)):=(by have h:=hp1;rw [show ((w0.alloc (.cells #[.string ⟨#[]⟩,.int .i64 0,.int .i64 0,.int .i64 0,.string ⟨#[]⟩,.int .i64 0,.slice none 0 0,.slice none 0 0,.slice none 0 0] 92)).drew).heap.size=w0.heap.size+1 by simp] at h;exact h));try (have hq2:w1.heap[w0.heap.size+1+1]?=some (.cells #[.int .i64 2] 3 (0,0)):=(by have h:=hq1;rw [show ((w0.alloc (.cells #[.string ⟨#[]⟩,.int .i64 0,.int .i64 0,.int .i64 0,.string ⟨#[]⟩,.int .i64 0,.slice none 0 0,.slice none 0 0,.slice none 0 0] 92)).drew).heap.size=w0.heap.size+1 by simp] at h;exact h));try (have kz:w1.heap[w0.heap.size]?=some (.cells #[.string ⟨#[]⟩,.int .i64 0,.int .i64 0,.int .i64 0,.string ⟨#[]⟩,.int .i64 0,.slice none 0 0,.slice none 0 0,.slice none 0 0] 92 (0,0)):=jag (show ((w0.alloc (.cells #[.string ⟨#[]⟩,.int .i64 0,.int .i64 0,.int .i64 0,.string ⟨#[]⟩,.int .i64 0,.slice none 0 0,.slice none 0 0,.slice none 0 0] 92)).drew).heap[w0.heap.size]?=_ from heap_alloc_new w0 _) hg1)) | (go_at_call 57;refine (FN.out _ _ _ (by first | exact jaa g0 g01 | exact jaa (jaa g0 g01) (jab _ _)) (by first | exact hp1 | exact hp2 | exact jag hp1 (jab _ _)) (by first | exact hq1 | exact hq2 | exact jag hq1 (jab _ _))).mono ?_;rintro e w2 ⟨rfl,hg2⟩;have g02:w0.grownBy w2 none:=(by first | exact jaa g01 hg2 | exact jaa (jaa g01 (jab _ _)) hg2);obtain ⟨n0,n1,n2,n3,n4⟩:=jak (n:=⟨op,nam,⟨ia,il,ic⟩,out,⟨ao,al,cap⟩⟩) (BX.out w2 g02);try (first | have kz2:=jag kz hg2 | have kz2:w2.heap[w1.heap.size]?=some (.cells #[.string ⟨#[]⟩,.int .i64 0,.int .i64 0,.int .i64 0,.string ⟨#[]⟩,.int .i64 0,.slice none 0 0,.slice none 0 0,.slice none 0 0] 92 (0,0)):=jag (heap_alloc_new w1 _) hg2);try (obtain ⟨f0,f1,f2,f3,f4,f5,f6,f7,f8⟩:=jbF kz2);try (obtain ⟨k0,k1,k2,k3,k4,k5,k6,k7,k8⟩:=jaR (a:=jcM) kz2)))
      ·have GG:=jac (jaa g0 g02);go_wp2_with fail
       go_meet
       exact ⟨_,rfl,rfl,heap_alloc_new w2 _,jaa GG.out (jab w2 _)⟩
      ·obtain ⟨hX,gX⟩:=jb9 (.string A.name) (.int .i64 A.kind) (.int .i64 A.f) (.int .i64 A.i) (.string A.s) (.int .i64 A.ty) (.slice A.dv.a A.dv.n A.dv.c) (.slice A.tv.a A.tv.n A.tv.c) (.slice A.iv.a A.iv.n A.iv.c) (jaa g0 g02) (show w.heap.size≤w1.heap.size by have:=g01.size;have:=HZ0.out;omega) kz2;have HX:=jac hX;have GX:=jac gX;clear hX gX;go_wp2_with fail
       go_meet
       exact ⟨_,rfl,rfl,HX.out,GX.out⟩
      ·obtain ⟨hX,gX⟩:=jb9 (.string A.name) (.int .i64 A.kind) (.int .i64 A.f) (.int .i64 A.i) (.string A.s) (.int .i64 A.ty) (.slice A.dv.a A.dv.n A.dv.c) (.slice A.tv.a A.tv.n A.tv.c) (.slice A.iv.a A.iv.n A.iv.c) (jaa g0 g02) (show w.heap.size≤w0.heap.size by have:=HZ0.out;omega) kz2;have HX:=jac hX;have GX:=jac gX;clear hX gX;go_wp2_with fail
       go_meet
       exact ⟨_,rfl,rfl,HX.out,GX.out⟩
     case rest =>
      obtain ⟨N,rfl,rfl,hN,hg⟩:=hcut;obtain ⟨c0,c1,c2,c3,c4,c5,c6,c7,c8⟩:=jaR hN;have HG:=jac hg;clear hN
      cases bA with
      | true =>
       have E:Hid (jqt xs nm z=A.i):=HA5.out.1 rfl;clear hg;go_wp2;go_ret;exact ⟨by rw [E.out];rfl,HG.out⟩
      | false =>
       have E:Hid (jqt xs nm z=z):=HA5.out.2 rfl;clear hg;go_wp2;go_ret;exact ⟨by rw [E.out];rfl,HG.out⟩
theorem jnp (n:Nod) (xs:List Atr) (cs:List Cont) (nm:ByteArray) (z:Int) (w:World) (hv:jbR w n.av.v xs) (hc:∀ (j:Nat) (a:Atr),xs[j]?=some a→∃ c,cs[j]?=some c∧Has w a c) :
    Calls Tryz.prog 34 #[jaz n,.string nm,.int .i64 z] w fun e w'=>e=.returned (.int .i64 (jep xs nm z))∧w.grownBy w' none:=by
     have FN:=jac (fun (p q:Nat) (wx:World) (hg:w.grownBy wx none) (hp:wx.heap[p]?=some (.cells #[.string nm] 9 (0,0))) (hq:wx.heap[q]?=some (.cells #[.int .i64 1] 3 (0,0)))=>jcd n xs p q nm 1 wx (hv.more hg) hp hq);obtain ⟨A,bA,cA,hA1,hA2,hA3,hA4⟩:=jhA (nm:=nm) (kd:=1) hc;rw [hA1,hA2] at FN;have HA3:=jac hA3;have HA4:=jac hA4;clear hA1 hA2 hA3 hA4 hc;have HA5:Hid ((bA=true→jep xs nm z=A.f)∧(bA=false→jep xs nm z=z)):=⟨fun h=>by unfold jep;rw [(HA4.out.1 h).1],fun h=>by unfold jep;rw [(HA4.out.2 h).1]⟩
     clear HA3 HA4;obtain ⟨op,nam,⟨ia,il,ic⟩,out,⟨ao,al,cap⟩⟩:=n;unfold jaz at FN ⊢;unfold jlB at FN;simp only at FN ⊢;clear hv;obtain ⟨w0,hw0⟩ : ∃ w0,w0=w.alloc (.cells #[.string op,.string nam,.slice ia il ic,.string out,.slice ao al cap] 25):=⟨_,rfl⟩
     have g0:w.grownBy w0 none:=by rw [hw0];exact jab _ _
     have hb0:=heap_alloc_new w (.cells #[.string op,.string nam,.slice ia il ic,.string out,.slice ao al cap] 25);rw [← hw0] at hb0;have HZ0:Hid (w0.heap.size=w.heap.size+1):=by rw [hw0];simp [Hid]
     have BX:Hid (∀ wx,w0.grownBy wx none→wx.heap[w.heap.size]?=some (.cells #[.string op,.string nam,.slice ia il ic,.string out,.slice ao al cap] 25 (0,0))):=fun wx hg=>jag hb0 hg;clear hb0;go_enter Tryz.func34,Tryz.ntmps34;go_wp2_with fail;rw [← hw0];clear hw0;go_cut [7,8] from 9 to 15 (fun p b wx=>∃ N:Nat,p=.pointer (some ⟨N,0,none⟩)∧b=.bool bA∧wx.heap[N]?=some (.cells #[.string A.name,.int .i64 A.kind,.int .i64 A.f,.int .i64 A.i,.string A.s,.int .i64 A.ty,.slice A.dv.a A.dv.n A.dv.c,.slice A.tv.a A.tv.n A.tv.c,.slice A.iv.a A.iv.n A.iv.c] 92 (0,0))∧w.grownBy wx none)
     case first =>
      obtain ⟨n0,n1,n2,n3,n4⟩:=jak (n:=⟨op,nam,⟨ia,il,ic⟩,out,⟨ao,al,cap⟩⟩) (BX.out w0 (jad _));have gd:=jaf (jad w0);go_region_held3 (fun w'=>w'.cell? ⟨w.heap.size,0,none⟩=some (.string op)∧w'.cell? ⟨w.heap.size,1,none⟩=some (.string nam)∧w'.cell? ⟨w.heap.size,2,none⟩=some (.slice ia il ic)∧w'.cell? ⟨w.heap.size,3,none⟩=some (.string out)∧w'.cell? ⟨w.heap.size,4,none⟩=some (.slice ao al cap)) (go_keep) (first | (go_at_call 58;refine (jcp _ _ _).mono ?_;rintro e w1 ⟨rfl,hp1,hq1,hg1⟩;have g01:w0.grownBy w1 none:=(by first | exact jaa gd hg1 | exact jaa (jaa gd (jab _ _)) hg1);obtain ⟨n0,n1,n2,n3,n4⟩:=jak (n:=⟨op,nam,⟨ia,il,ic⟩,out,⟨ao,al,cap⟩⟩) (BX.out w1 g01);have hz1:w.heap.size≠w1.heap.size:=(by have:=g01.size;have:=HZ0.out;omega);have hzz:w.heap.size≠w0.heap.size:=(by have:=HZ0.out;omega);have hz1':=hz1.symm;have hzz':=hzz.symm;try (have hp2:w1.heap[w0.heap.size+1]?=some (.cells #[.string nm] 9 (0,0)):=(by have h:=hp1;rw [show ((w0.alloc (.cells #[.string ⟨#[]⟩,.int .i64 0,.int .i64 0,.int .i64 0,.string ⟨#[]⟩,.int .i64 0,.slice none 0 0,.slice none 0 0,.slice none 0 0] 92)).drew).heap.size=w0.heap.size+1 by simp] at h;exact h));try (have hq2:w1.heap[w0.heap.size+1+1]?=some (.cells #[.int .i64 1] 3 (0,0)):=(by have h:=hq1;rw [show ((w0.alloc (.cells #[.string ⟨#[]⟩,.int .i64 0,.int .i64 0,.int .i64 0,.string ⟨#[]⟩,.int .i64 0,.slice none 0 0,.slice none 0 0,.slice none 0 0] 92)).drew).heap.size=w0.heap.size+1 by simp] at h;exact h));try (have kz:w1.heap[w0.heap.size]?=some (.cells #[.string ⟨#[]⟩,.int .i64 0,.int .i64 0,.int .i64 0,.string ⟨#[]⟩,.int .i64 0,.slice none 0 0,.slice none 0 0,.slice none 0 0] 92 (0,0)):=jag (show ((w0.alloc (.cells #[.string ⟨#[]⟩,.int .i64 0,.int .i64 0,.int .i64 0,.string ⟨#[]⟩,.int .i64 0,.slice none 0 0,.slice none 0 0,.slice none 0 0] 92)).drew).heap[w0.heap.size]?=_ from heap_alloc_new w0 _) hg1)) | (go_at_call 57;refine (FN.out _ _ _ (by first | exact jaa g0 g01 | exact jaa (jaa g0 g01) (jab _ _)) (by first | exact hp1 | exact hp2 | exact jag hp1 (jab _ _)) (by first | exact hq1 | exact hq2 | exact jag hq1 (jab _ _))).mono ?_;rintro e w2 ⟨rfl,hg2⟩;have g02:w0.grownBy w2 none:=(by first | exact jaa g01 hg2 | exact jaa (jaa g01 (jab _ _)) hg2);obtain ⟨n0,n1,n2,n3,n4⟩:=jak (n:=⟨op,nam,⟨ia,il,ic⟩,out,⟨ao,al,cap⟩⟩) (BX.out w2 g02);try (first | have kz2:=jag kz hg2 | have kz2:w2.heap[w1.heap.size]?=some (.cells #[.string ⟨#[]⟩,.int .i64 0,.int .i64 0,.int .i64 0,.string ⟨#[]⟩,.int .i64 0,.slice none 0 0,.slice none 0 0,.slice none 0 0] 92 (0,0)):=jag (heap_alloc_new w1 _) hg2);try (obtain ⟨f0,f1,f2,f3,f4,f5,f6,f7,f8⟩:=jbF kz2);try (obtain ⟨k0,k1,k2,k3,k4,k5,k6,k7,k8⟩:=jaR (a:=jcM) kz2)))
      ·have GG:=jac (jaa g0 g02);go_wp2_with fail
       go_meet
       exact ⟨_,rfl,rfl,heap_alloc_new w2 _,jaa GG.out (jab w2 _)⟩
      ·obtain ⟨hX,gX⟩:=jb9 (.string A.name) (.int .i64 A.kind) (.int .i64 A.f) (.int .i64 A.i) (.string A.s) (.int .i64 A.ty) (.slice A.dv.a A.dv.n A.dv.c) (.slice A.tv.a A.tv.n A.tv.c) (.slice A.iv.a A.iv.n A.iv.c) (jaa g0 g02) (show w.heap.size≤w1.heap.size by have:=g01.size;have:=HZ0.out;omega) kz2;have HX:=jac hX;have GX:=jac gX;clear hX gX;go_wp2_with fail
       go_meet
       exact ⟨_,rfl,rfl,HX.out,GX.out⟩
      ·obtain ⟨hX,gX⟩:=jb9 (.string A.name) (.int .i64 A.kind) (.int .i64 A.f) (.int .i64 A.i) (.string A.s) (.int .i64 A.ty) (.slice A.dv.a A.dv.n A.dv.c) (.slice A.tv.a A.tv.n A.tv.c) (.slice A.iv.a A.iv.n A.iv.c) (jaa g0 g02) (show w.heap.size≤w0.heap.size by have:=HZ0.out;omega) kz2;have HX:=jac hX;have GX:=jac gX;clear hX gX;go_wp2_with fail
       go_meet
       exact ⟨_,rfl,rfl,HX.out,GX.out⟩
     case rest =>
      obtain ⟨N,rfl,rfl,hN,hg⟩:=hcut;obtain ⟨c0,c1,c2,c3,c4,c5,c6,c7,c8⟩:=jaR hN;have HG:=jac hg;clear hN
      cases bA with
      | true =>
       have E:Hid (jep xs nm z=A.f):=HA5.out.1 rfl;clear hg;go_wp2;go_ret;exact ⟨by rw [E.out];rfl,HG.out⟩
      | false =>
       have E:Hid (jep xs nm z=z):=HA5.out.2 rfl;clear hg;go_wp2;go_ret;exact ⟨by rw [E.out];rfl,HG.out⟩
end Go.Proofs.YteigfipgmghgmaaGreatDoor
namespace Go.Proofs.YteigfipgmghgmaaGreatDoor
abbrev R:=Except Int
def jal (b:Bool):R Unit:=if b=true then .ok () else .error 4
def jhB (e:Int):R Unit:=if e=0 then .ok () else .error e
def jbA (x:Int):Int:=if (if x < -1073741824 then -1073741824 else x)<1073741824 then (if x < -1073741824 then -1073741824 else x) else 1073741824
def jao (t:Int):Bool:=t==1||t==6||t==7||t==9
def jiJ (t:Int):R Unit:=if jao t=true then .ok () else .error 5
def jaX (zs:List Int):R Int:=if ja2 zs=0 then .ok (jaA zs) else .error (ja2 zs)
def jaE (a b:List Int):R (List Int):=if bcE a b=0 then .ok (bcR a b) else .error (bcE a b)
def jaT (x:Int) (n:Nat):Int:=if x<0 then x+n else x
def jcs (a:Int) (jaL:Nat):Option Nat:=if jaT a jaL<0 then none else if (jaL:Int)≤jaT a jaL then none else some (jaT a jaL).toNat
def jd9 (a:Int) (jaL:Nat):R Nat:=match jcs a jaL with
 | some i=>.ok i
 | none=>.error 4
def jeq (jaL:Nat):List Int→List Bool→Option (List Bool)
 | [],is=>some is
 | a::l,is=>match jcs a jaL with
  | none=>none
  | some i=>if is.getD i false=true then none else jeq jaL l (is.set i true)
def jb7 (l:List Int) (jaL:Nat):R (List Bool):=match jeq jaL l (List.replicate jaL false) with
 | some is=>.ok is
 | none=>.error 4
def ja9 (x:Int) (d:Nat):Int:=if (if jaT x d<0 then 0 else jaT x d)<d then (if jaT x d<0 then 0 else jaT x d) else d
def jdb (n:Nat):List Int:=(List.range n).map Int.ofNat
def jgx (x:Int):R Bool:=if x=0 then .ok false else if x=1 then .ok true else .error 4
structure At where
 op:ByteArray
 xs:List Atr
 cs:List Cont
def At.int (n:At) (nm:ByteArray) (z:Int):Int:=jqt n.xs nm z
def At.ints (n:At) (nm:ByteArray) (zs:List Int):List Int:=jgw n.xs n.cs nm zs
def jnq (n:At) (jaL:Nat):List Int:=n.ints ⟨#[112,101,114,109]⟩ (jdb jaL).reverse
def jca (n:At) (jaL:Nat):List Int :=
 if n.op.toList=[65,114,103,77,97,120] then [n.int ⟨#[97,120,105,115]⟩ 0] else if n.op.toList=[83,111,102,116,109,97,120] then [n.int ⟨#[97,120,105,115]⟩ (-1)] else n.ints ⟨#[97,120,101,115]⟩ (jdb jaL)
def jds (keep:Bool):List Int→List Bool→List Int
 | d::l,g::gs=>if g=false then d::jds keep l gs else if keep=true then 1::jds keep l gs else jds keep l gs
 | _,_=>[]
def jcl (n:At) (x:List Int):R (List Int):=do
 let keep ← jgx (n.int ⟨#[107,101,101,112,100,105,109,115]⟩ 1)
 let gone ← jb7 (jca n x.length) x.length
 return jds keep x gone
def jbK (x:List Int) (count:Int):List Int→Nat→Option Nat→Int→List Int→R (Option Nat×Int×List Int)
 | [],_,left,known,dims=>.ok (left,known,dims)
 | d::l,i,left,known,dims=>do
  let (left',d') ← (if d = -1 then (if left=none then .ok (some i,1) else .error 4) else if d=0 then (if i<x.length then .ok (left,x.getD i 0) else .error 4) else .ok (left,d):R (Option Nat×Int))
  jal (decide (1≤d'∧d'≤count))
  jal (decide (known*d'≤count))
  jbK x count l (i+1) left' (known*d') (dims++[d'])
def jaS (x shape:List Int):R (List Int):=do
 let count ← jaX x
 let (left,known,dims) ← jbK x count shape 0 none 1 []
 jal (decide (count % known=0∧(left≠none∨known=count)))
 return (match left with
  | some j=>dims.set j (count / known)
  | none=>dims)
def jer (x:List Int):List Int→R (List Int)
 | []=>.ok []
 | p::l=>if 0≤p then (jer x l).map (x.getD p.toNat 0::·) else .error 4
def jbc (n:At) (x:List Int):R (List Int):=do
 jal (decide ((jnq n x.length).length=x.length))
 let _ ← jb7 (jnq n x.length) x.length
 jer x (jnq n x.length)
def jjR (dims:List Int) (axis:Nat) (y:List Int):Bool:=(List.range y.length).all (fun i=>i==axis||y.getD i 0==dims.getD i 0)
def je0 (axis:Nat):List (List Int)→List Int→R (List Int)
 | [],dims=>.ok dims
 | y::l,dims=>do
  jal (decide (y.length=dims.length))
  jal (jjR dims axis y)
  je0 axis l (dims.set axis (dims.getD axis 0+y.getD axis 0))
def jcI (n:At) (x:List Int) (ys:List (List Int)):R (List Int):=do
 let axis ← jd9 (n.int ⟨#[97,120,105,115]⟩ 0) x.length
 je0 axis ys x
def jcb (x:List Int):List Int→List Int→List Int→List Int→R (List Int)
 | a::al,s::ss,e::es,dims=>do
  let axis ← jd9 a x.length
  jal (decide (ja9 s (x.getD axis 0).toNat<ja9 e (x.getD axis 0).toNat))
  jcb x al ss es (dims.set axis (ja9 e (x.getD axis 0).toNat - ja9 s (x.getD axis 0).toNat))
 | _,_,_,dims=>.ok dims
def jct (n:At) (x:List Int):R (List Int):=do
 let starts:=n.ints ⟨#[115,116,97,114,116,115]⟩ []
 let ends:=n.ints ⟨#[101,110,100,115]⟩ []
 let axes:=n.ints ⟨#[97,120,101,115]⟩ (jdb starts.length)
 jal (decide (starts.length=ends.length∧starts.length=axes.length))
 let _ ← jb7 axes x.length
 jcb x axes starts ends x
def jqv (r:Nat):List Int→Nat→List Int→R (List Int)
 | [],_,dims=>.ok dims
 | p::l,i,dims=>do
  jal (decide (0≤p∧p≤65536))
  jqv r l (i+1) (dims.set (i % r) (dims.getD (i % r) 0+p))
def jcU (x pads:List Int):R (List Int):=do
 jal (decide (pads.length=2*x.length))
 jqv x.length pads 0 x
def jbj:List Int→List Bool→R (List Int)
 | d::l,g::gs=>if g=true then (if d=1 then jbj l gs else .error 4) else (jbj l gs).map (d::·)
 | _,_=>.ok []
def jbL (x axes:List Int):R (List Int):=do
 let gone ← jb7 axes x.length
 jbj x gone
def jfJ:List Bool→List Int→List Int
 | [],_=>[]
 | true::l,x=>1::jfJ l x
 | false::l,x=>x.getD 0 0::jfJ l x.tail
def jbw (x axes:List Int):R (List Int):=do
 let isNew ← jb7 axes (x.length+axes.length)
 return jfJ isNew x
def jbG (n:At) (x:List Int):R (List Int):=do
 let axis:=jaT (n.int ⟨#[97,120,105,115]⟩ 1) x.length
 jal (decide (0≤axis∧axis≤x.length))
 let a ← jaX (x.take axis.toNat)
 let b ← jaX (x.drop axis.toNat)
 return [a,b]
def ja6 (x y:List Int):R (List Int):=do
 jal (decide (2≤x.length∧2≤y.length))
 jal (x.getD (x.length - 1) 0==y.getD (y.length - 2) 0)
 let s ← jaE (x.take (x.length - 2)) (y.take (y.length - 2))
 return s++[x.getD (x.length - 2) 0,y.getD (y.length - 1) 0]
def jbz (x:List Int) (t:Int):R (List Int):=do
 jal (decide (x.length=2))
 let on ← jgx t
 return if on=true then [x.getD 1 0,x.getD 0 0] else x
def jdc (n:At) (x y:List Int) (z:Option (List Int)):R (List Int):=do
 let a ← jbz x (n.int ⟨#[116,114,97,110,115,65]⟩ 0)
 let b ← jbz y (n.int ⟨#[116,114,97,110,115,66]⟩ 0)
 let dims ← ja6 a b
 match z with
 | none=>return dims
 | some c=>do
  let s ← jaE dims c
  jal (decide (s=dims))
  return dims
def jbl (x:List Int) (ys:List (List Int)):R (List Int):=do
 jal (decide (2≤x.length))
 jal (ys.all (fun y=>y==(x.drop 1).take 1))
 return x
def jaY (l:List Int) (many:Nat) (least:Int):R (List Int):=do
 jal (decide (l.length=many))
 jal (l.all (fun x=>decide (least≤x∧x≤100)))
 return l
def je1 (n:At):R (List Int):=jaY (n.ints ⟨#[112,97,100,115]⟩ [0,0,0,0]) 4 0
def jaI (n:At) (x kernel:List Int) (along:Nat):R Int:=do
 let stride ← jaY (n.ints ⟨#[115,116,114,105,100,101,115]⟩ [1,1]) 2 1
 let dilation ← jaY (n.ints ⟨#[100,105,108,97,116,105,111,110,115]⟩ [1,1]) 2 1
 let pads ← je1 n
 let rest:=x.getD (2+along) 0+pads.getD along 0+pads.getD (2+along) 0 - dilation.getD along 0*(kernel.getD along 0 - 1) - 1
 jal (decide (0≤rest))
 return rest / stride.getD along 0+1
def ja0 (n:At) (x w:List Int) (z:Option (List Int)):R (List Int):=do
 jal (decide (x.length=4∧w.length=4))
 jal (match z with
  | none=>true
  | some c=>decide (c.length=1∧c.getD 0 0=w.getD 0 0))
 let group:=n.int ⟨#[103,114,111,117,112]⟩ 1
 jal (decide (1≤group))
 jal (decide (x.getD 1 0 % group=0∧w.getD 0 0 % group=0∧x.getD 1 0 / group=w.getD 1 0))
 let a ← jaI n x [w.getD 2 0,w.getD 3 0] 0
 let b ← jaI n x [w.getD 2 0,w.getD 3 0] 1
 return [x.getD 0 0,w.getD 0 0,a,b]
def jbI (n:At) (x:List Int):R (List Int):=do
 jal (decide (x.length=4))
 let kernel ← jaY (n.ints ⟨#[107,101,114,110,101,108,95,115,104,97,112,101]⟩ []) 2 1
 let pads ← je1 n
 jal ((List.range 4).all (fun i=>decide (pads.getD i 0<kernel.getD (i % 2) 0)))
 let a ← jaI n x kernel 0
 let b ← jaI n x kernel 1
 return [x.getD 0 0,x.getD 1 0,a,b]
end Go.Proofs.YteigfipgmghgmaaGreatDoor
namespace Go.Proofs.YteigfipgmghgmaaGreatDoor
open Go.RowKit
def jaJ {α:Type} (w:World) (r:R α) (Q:α→Value→World→Prop) (e:Ending) (w':World):Prop:=w.grownBy w' none∧match r with
 | .error c=>e=.panicked [{ v:=.iface 33 (.int .i64 c),recovered:=false }]
 | .ok a=>∃ v,e=.returned v∧Q a v w'
theorem jai {α:Type} {w w':World} {r:R α} {Q:α→Value→World→Prop} {c:Int} (h:r=.error c) (hg:w.grownBy w' none):jaJ w r Q (.panicked [{ v:=.iface 33 (.int .i64 c),recovered:=false }]) w':=by
 rw [h];exact ⟨hg,rfl⟩
theorem jap {α:Type} {w w':World} {r:R α} {Q:α→Value→World→Prop} {a:α} {v:Value} (h:r=.ok a) (hg:w.grownBy w' none) (hq:Q a v w'):jaJ w r Q (.returned v) w':=by
 rw [h];exact ⟨hg,v,rfl,hq⟩
theorem Owns.sl {w:World} {base:Nat} {v:Value} {zs:List Int} (h:Owns w base v zs):∃ s:Sl,v=s.v:=by
 rcases h.1.2 with ⟨rfl,-⟩ | ⟨g,cap,cur,rfl,-⟩
 ·exact ⟨⟨none,0,0⟩,rfl⟩
 ·exact ⟨⟨_,_,_⟩,rfl⟩
theorem jaq (w:World):Calls Tryz.prog 71 #[.bool true] w fun e w'=>e=.returned (.tuple #[])∧w=w':=by
 go_enter Tryz.func71,Tryz.ntmps71;go_wp2
 go_end0
 exact ⟨rfl,rfl⟩
theorem jav (w:World):Calls Tryz.prog 71 #[.bool false] w fun e w'=>e=.panicked [{ v:=.iface 33 (.int .i64 4),recovered:=false }]∧w=w':=by
 go_enter Tryz.func71,Tryz.ntmps71;go_wp2;exact ⟨rfl,rfl,rfl⟩
theorem jhC (w:World):Calls Tryz.prog 69 #[.int .i64 0] w fun e w'=>e=.returned (.tuple #[])∧w=w':=by
 go_enter Tryz.func69,Tryz.ntmps69;go_wp2
 go_end0
 exact ⟨rfl,rfl⟩
theorem jhD (c:Int) (hc:c≠0) (w:World):Calls Tryz.prog 69 #[.int .i64 c] w fun e w'=>e=.panicked [{ v:=.iface 33 (.int .i64 c),recovered:=false }]∧w=w':=by
 have h:(c != 0)=true:=by simpa using hc
 clear hc;go_enter Tryz.func69,Tryz.ntmps69;go_wp2;exact ⟨rfl,rfl,rfl⟩
theorem jes (x:Int) (n:Nat) (w:World) (hn:n≤100000000000000) (hx : -9223372036854775808≤x):Calls Tryz.prog 152 #[.int .i64 x,.int .i64 n] w fun e w'=>e=.returned (.int .i64 (jaT x n))∧w=w':=by
 by_cases h:x<0
 ·have E:Hid (jaT x n=x+n):=by show jaT x n=x+n;simp [jaT,h]
  go_enter Tryz.func152,Tryz.ntmps152;go_wp2;go_ret;exact ⟨by rw [E.out];rfl,rfl⟩
 ·have E:Hid (jaT x n=x):=by show jaT x n=x;simp [jaT,h]
  go_enter Tryz.func152,Tryz.ntmps152;go_wp2;go_ret;exact ⟨by rw [E.out];rfl,rfl⟩
theorem jk7 (a:Int) (jaL:Nat) (w:World) (hr:jaL≤100000000000000) (ha : -9223372036854775808≤a):Calls Tryz.prog 150 #[.int .i64 a,.int .i64 jaL] w fun e w'=>e=.returned (.tuple #[.int .i64 ((jcs a jaL).getD 0:Nat),.bool (jcs a jaL).isSome])∧w=w':=by
 have F:=jac (jes a jaL w hr ha);obtain ⟨f,hf⟩ : ∃ f,f=jaT a jaL:=⟨_,rfl⟩
 have E:Hid (jcs a jaL=if f<0 then none else if (jaL:Int)≤f then none else some f.toNat):=by show jcs a jaL=_;rw [hf];rfl
 rw [← hf] at F;clear hf
 by_cases h1:f<0
 ·have E2:Hid (jcs a jaL=none):=by show jcs a jaL=none;rw [E.out,if_pos h1]
  go_enter Tryz.func150,Tryz.ntmps150;go_wp2_with (go_at_call 152;refine F.out.mono ?_;rintro e w' ⟨rfl,rfl⟩);go_ret2;exact ⟨by rw [E2.out];rfl,rfl⟩
 ·by_cases h2:(jaL:Int)≤f
  ·have E2:Hid (jcs a jaL=none):=by show jcs a jaL=none;rw [E.out,if_neg h1,if_pos h2]
   go_enter Tryz.func150,Tryz.ntmps150;go_wp2_with (go_at_call 152;refine F.out.mono ?_;rintro e w' ⟨rfl,rfl⟩);go_ret2;exact ⟨by rw [E2.out];rfl,rfl⟩
  ·have E2:Hid (jcs a jaL=some f.toNat):=by show jcs a jaL=some f.toNat;rw [E.out,if_neg h1,if_neg h2]
   have E3:Hid (((f.toNat:Nat):Int)=f):=by show ((f.toNat:Nat):Int)=f;omega
   go_enter Tryz.func150,Tryz.ntmps150;go_wp2_with (go_at_call 152;refine F.out.mono ?_;rintro e w' ⟨rfl,rfl⟩);go_ret2;exact ⟨by rw [E2.out];simp only [Option.getD_some,E3.out];rfl,rfl⟩
theorem je2 (a:Int) (jaL:Nat) (w:World) (hr:jaL≤100000000000000) (ha : -9223372036854775808≤a):Calls Tryz.prog 117 #[.int .i64 a,.int .i64 jaL] w (jaJ w (jd9 a jaL) fun i v w'=>v=.int .i64 (i:Nat)∧w=w'):=by
 have F:=jac (jk7 a jaL w hr ha);unfold jd9
 cases hx:jcs a jaL with
 | none =>
  rw [hx] at F;clear hx;go_enter Tryz.func117,Tryz.ntmps117;go_wp2_with (first | (go_at_call 150;refine F.out.mono ?_;rintro e w' ⟨rfl,rfl⟩) | (go_at_call 71;refine (jav _).mono ?_;rintro e w' ⟨rfl,rfl⟩));exact ⟨rfl,jad _,rfl⟩
 | some i =>
  rw [hx] at F;clear hx;go_enter Tryz.func117,Tryz.ntmps117;go_wp2_with (first | (go_at_call 150;refine F.out.mono ?_;rintro e w' ⟨rfl,rfl⟩) | (go_at_call 71;refine (jaq _).mono ?_;rintro e w' ⟨rfl,rfl⟩));go_ret;exact ⟨jad _,_,rfl,rfl,rfl⟩
theorem jce (v:Value) (zs:List Int) (w:World) (h:IsInts w v zs):Calls Tryz.prog 73 #[v] w (jaJ w (jaX zs) fun n v w'=>v=.int .i64 n∧w=w'):=by
 have F:=jac (jbX v zs w h);unfold jaX
 by_cases hx:ja2 zs=0
 ·rw [if_pos hx];have E:cnt zs=jaA zs:=by simp [cnt,hx]
  rw [hx,E] at F;clear hx h E;go_enter Tryz.func73,Tryz.ntmps73;go_wp2_with (first | (go_at_call 44;refine F.out.mono ?_;rintro e w' ⟨rfl,rfl⟩) | (go_at_call 69;refine (jhC _).mono ?_;rintro e w' ⟨rfl,rfl⟩));go_ret;exact ⟨jad _,_,rfl,rfl,rfl⟩
 ·rw [if_neg hx];have HX:=jac hx;clear hx h;go_enter Tryz.func73,Tryz.ntmps73;go_wp2_with (first | (go_at_call 44;refine F.out.mono ?_;rintro e w' ⟨rfl,rfl⟩) | (go_at_call 69;refine (jhD _ HX.out _).mono ?_;rintro e w' ⟨rfl,rfl⟩));exact ⟨rfl,jad _,rfl⟩
theorem spread_any (u v:Sl) (a b:List Int) (w:World) (ha:IsInts w u.v a) (hb:IsInts w v.v b):Calls Tryz.prog 107 #[.slice u.a u.n u.c,.slice v.a v.n v.c] w (jaJ w (jaE a b) fun zs r w'=>∃ s:Sl,r=s.v∧Owns w' w.heap.size s.v zs):=by
 have F:=jac (jrZ u.v v.v a b w ha hb);unfold jaE
 by_cases hx:bcE a b=0
 ·rw [if_pos hx];rw [hx] at F;clear hx ha hb;go_enter Tryz.func107,Tryz.ntmps107;go_wp2_with (first | (go_at_call 40;refine F.out.mono ?_;rintro e w' ⟨r,rfl,ho,hg⟩) | (go_at_call 69;refine (jhC _).mono ?_;rintro e w' ⟨rfl,rfl⟩));go_ret;obtain ⟨s,rfl⟩:=ho.sl;exact ⟨hg,_,rfl,s,rfl,ho⟩
 ·rw [if_neg hx];have HX:=jac hx;clear hx ha hb;go_enter Tryz.func107,Tryz.ntmps107;go_wp2_with (first | (go_at_call 40;refine F.out.mono ?_;rintro e w' ⟨r,rfl,ho,hg⟩) | (go_at_call 69;refine (jhD _ HX.out _).mono ?_;rintro e w' ⟨rfl,rfl⟩));exact ⟨rfl,hg,rfl⟩
theorem jnr (t:Int) (w:World):Calls Tryz.prog 101 #[.int .i64 t] w fun e w'=>e=.returned (.bool (jao t))∧w=w':=by
 have E:Hid (chk t 0=jao t):=by
  show chk t 0=jao t;unfold chk jao
  by_cases h1:t=1
  ·subst h1;decide
  ·by_cases h6:t=6
   ·subst h6;decide
   ·by_cases h7:t=7
    ·subst h7;decide
    ·by_cases h9:t=9
     ·subst h9;decide
     ·simp [h1,h6,h7,h9]
 have C:=jac (jfF t 0 w);rw [E.out] at C;clear E;go_enter Tryz.func101,Tryz.ntmps101;go_wp2_with (go_at_call 45;refine C.out.mono ?_;rintro e w' ⟨rfl,rfl⟩);go_ret;exact ⟨rfl,rfl⟩
theorem jns (t:Int) (w:World):Calls Tryz.prog 72 #[.int .i64 t] w (jaJ w (jiJ t) fun _ v w'=>v=.tuple #[]∧w=w'):=by
 have C:=jac (jnr t w);unfold jiJ
 cases h:jao t with
 | true =>
  rw [h] at C;clear h;go_enter Tryz.func72,Tryz.ntmps72;go_wp2_with (go_at_call 101;refine C.out.mono ?_;rintro e w' ⟨rfl,rfl⟩)
  go_end0
  exact ⟨jad _,_,rfl,rfl,rfl⟩
 | false =>
  rw [h] at C;clear h;go_enter Tryz.func72,Tryz.ntmps72;go_wp2_with (go_at_call 101;refine C.out.mono ?_;rintro e w' ⟨rfl,rfl⟩);exact ⟨rfl,jad _,rfl⟩
theorem jk8 (x:Int) (w:World):Calls Tryz.prog 146 #[.int .i64 x] w (jaJ w (jgx x) fun b v w'=>v=.bool b∧w=w'):=by
 unfold jgx
 by_cases h0:x=0
 ·subst h0;rw [if_pos rfl];go_enter Tryz.func146,Tryz.ntmps146;go_wp2_with (go_at_call 71;refine (jaq _).mono ?_;rintro e w' ⟨rfl,rfl⟩);go_ret;exact ⟨jad _,_,rfl,rfl,rfl⟩
 ·rw [if_neg h0]
  by_cases h1:x=1
  ·subst h1;rw [if_pos rfl];go_enter Tryz.func146,Tryz.ntmps146;go_wp2_with (go_at_call 71;refine (jaq _).mono ?_;rintro e w' ⟨rfl,rfl⟩);go_ret;exact ⟨jad _,_,rfl,rfl,rfl⟩
  ·rw [if_neg h1];have b0:(x==0)=false:=by simpa using h0
   have b1:(x==1)=false:=by simpa using h1
   clear h0 h1;go_enter Tryz.func146,Tryz.ntmps146;go_wp2_with (go_at_call 71;refine (jav _).mono ?_;rintro e w' ⟨rfl,rfl⟩);exact ⟨rfl,jad _,rfl⟩
end Go.Proofs.YteigfipgmghgmaaGreatDoor
namespace Go.Proofs.YteigfipgmghgmaaGreatDoor
open Go.RowKit
theorem whole_any (x:Int) (w:World):Calls Tryz.prog 103 #[.int .i64 x] w fun e w'=>e=.returned (.int .i64 (jbA x))∧w=w':=by
 have E:∀ a,a=jbA x→Ending.returned (.int .i64 a)=.returned (.int .i64 (jbA x)):=fun a h=>by rw [h]
 go_enter Tryz.func103,Tryz.ntmps103;go_wp2
 all_goals
  go_ret;refine ⟨E _ ?_,rfl⟩;unfold jbA
  split <;> split at*<;> omega
theorem jjS (x:Int) (d:Nat) (w:World) (hd:d≤100000000000000) (hx : -9223372036854775808≤x):Calls Tryz.prog 149 #[.int .i64 x,.int .i64 d] w fun e w'=>e=.returned (.int .i64 (ja9 x d))∧w=w':=by
 have F:=jac (jes x d w hd hx);have E:Hid (∀ a,a=(if (if jaT x d<0 then 0 else jaT x d)<(d:Int) then (if jaT x d<0 then 0 else jaT x d) else (d:Int))→Ending.returned (.int .i64 a)=.returned (.int .i64 (ja9 x d))):=fun a h=>by rw [h];rfl
 obtain ⟨f,hf⟩ : ∃ f,f=jaT x d:=⟨_,rfl⟩
 rw [← hf] at F E;clear hf;go_enter Tryz.func149,Tryz.ntmps149;go_wp2_with (go_at_call 152;refine F.out.mono ?_;rintro e w' ⟨rfl,rfl⟩)
 all_goals
  go_ret;refine ⟨E.out _ ?_,rfl⟩
  split <;> split at*<;> omega
theorem jlR (n:Nat) (hn:n≤100000000000000):∃ M:Array Value,(∀ W:World,(Instr.makeSlice 143 (.int .i64 (n:Int)) (.int .i64 (n:Int))).run Tryz.prog W=.ok (.slice (some ⟨W.heap.size,0,none⟩) n n) (W.alloc (.cells M 4))) ∧
    ∀ (W:World) (base:Nat),base≤W.heap.size→jd8 (W.alloc (.cells M 4)) base W.heap.size (List.replicate n false):=by
     obtain ⟨j0,hj,jz0,jz1,jz2⟩:=info_parts jp3;obtain ⟨M1,hM1⟩ : ∃ M,M=madeCells (Value.bool false).cells (((n:Nat):Int).toNat*j0.size):=⟨_,rfl⟩
     have E1:M1.toList=List.replicate n (.bool false):=by rw [hM1,jz1,Nat.mul_one,show (Value.bool false).cells=#[Value.bool false] from rfl,toList_madeCells_one];simp
     refine ⟨M1,fun W=>?_,fun W base hb=>?_⟩
     ·have h:=Go.run_make (P:=Tryz.prog) W 143 4 j0 (.bool false) Tryz.underlying143 hj jz0 .i64 .i64 (n:Int) (n:Int) (by omega) (by omega) (by rw [jz2];omega) (by omega);rw [← hM1] at h;simpa using h
     ·unfold jd8;rw [List.length_replicate,List.map_replicate];refine ⟨by simp,Or.inr ⟨W.heap.size,n,M1,rfl,hb,heap_alloc_new W _,Nat.le_refl _,by simp only [maxLen];omega,?_,?_⟩⟩
      ·rw [← Array.length_toList,E1,List.length_replicate,Nat.mul_one]
      ·rw [E1,List.take_of_length_le (by simp)]
theorem IsInts.sl {w:World} {v:Value} {zs:List Int} (h:IsInts w v zs):∃ a c,v=.slice a zs.length c∧zs.length≤c∧c≤9223372036854775807∧zs.length*8≤140737488351232:=by
 obtain ⟨ao,cap,rfl,h1,h2,h3,h4,h5,h6⟩:=h;exact ⟨ao,cap,rfl,h1,h2,h3⟩
theorem IsInts.get {w:World} {a:Option Addr} {n c:Nat} {zs:List Int} (h:IsInts w (.slice a n c) zs) {k:Nat} (hk:k<zs.length):∃ b off,a=some ⟨b,off,none⟩∧∀ i,i<zs.length→w.cell? ⟨b,off+i,none⟩=some (.int .i64 (zs.getD i 0)):=by
 obtain ⟨ao,cap,e,h1,h2,h3,h4,h5,h6⟩:=h
 cases e
 obtain ⟨b,off,rfl,hc⟩:=h5 (by omega);exact ⟨b,off,rfl,hc⟩
theorem jlS {jaL : Nat} {l : List Int} {k : Nat} {is : List Bool} (hk : k < l.length) : jeq jaL (l.drop k) is = match jcs (l.getD k 0) jaL with
    | none=>none
    | some i=>if is.getD i false=true then none else jeq jaL (l.drop (k+1)) (is.set i true):=by
     rw [jba l k hk]
     rfl
theorem jeF {a:Int} {jaL i:Nat} (h:jcs a jaL=some i):i<jaL:=by
 unfold jcs at h
 split at h
 ·cases h
 ·split at h
  ·cases h
  ·cases h
   omega
theorem jqw (v : Value) (l : List Int) (jaL : Nat) (w : World) (hv : IsInts w v l) (hr : jaL ≤ 100000000000000) : Calls Tryz.prog 144 #[v, .int .i64 jaL] w fun e w' => w.grownBy w' none ∧ match jeq jaL l (List.replicate jaL false) with
    | some is=>∃ B,e=.returned (.tuple #[.slice (some ⟨B,0,none⟩) jaL jaL,.bool true])∧jd8 w' w.heap.size B is∧is.length=jaL
    | none=>e=.returned (.tuple #[.slice none 0 0,.bool false]):=by
     obtain ⟨M,mk1,OW⟩:=jlR jaL hr;have O0:=jac (OW w w.heap.size (Nat.le_refl _));clear OW;obtain ⟨r,hr0⟩ : ∃ r,r=jeq jaL l (List.replicate jaL false):=⟨_,rfl⟩
     rw [← hr0];have HR0:=jac hr0;obtain ⟨a,c,rfl,c1,c2,c3⟩:=hv.sl;have HV:=jac hv;clear hv hr0;go_enter Tryz.func144,Tryz.ntmps144;go_wp2_with fail;clear mk1;go_loopw [15] (fun i wr=>∃ (k:Nat) (is:List Bool),k≤l.length∧i=.int .i64 k∧jd8 wr w.heap.size w.heap.size is∧is.length=jaL∧w.grownBy wr none∧jeq jaL (l.drop k) is=r) (fun i _=>l.length - (intOf i).toNat)
     case atStart=>exact ⟨0,List.replicate jaL false,Nat.zero_le _,rfl,O0.out,by simp,jab _ _,HR0.out.symm⟩
     case round =>
      obtain ⟨k,is,hk,rfl,ho,hlen,hg,hs⟩:=hrel;have HO:=jac ho;have HL:=jac hlen;have HG:=jac hg;have HS:=jac hs;clear ho hlen hg hs
      by_cases hkl:k<l.length
      ·obtain ⟨b,off,rfl,hc⟩:=HV.out.get hkl;have hz:=HV.out.wf (l.getD k 0) (by simp [List.getD,hkl]);have hcell:=hc k hkl;have hcell2:wr.cell? ⟨b,off+k,none⟩=some (.int .i64 (l.getD k 0)):=jae hcell HG.out;have ST:=jlS (jaL:=jaL) (is:=is) hkl;rw [HS.out] at ST;obtain ⟨z,hz0⟩ : ∃ z,z=l.getD k 0:=⟨_,rfl⟩
       rw [← hz0] at hz hcell2 ST;have AX:=jac (jk7 z jaL wr (by omega) hz.1);clear hc hcell hz0
       cases hx:jcs z jaL with
       | none =>
        rw [hx] at AX ST;simp only at ST;clear hx;subst ST;go_wp2_with (go_at_call 150;refine AX.out.mono ?_;rintro e w' ⟨rfl,rfl⟩);go_ret2;exact ⟨HG.out,rfl⟩
       | some i =>
        have hi:=jeF hx;rw [hx] at AX ST;simp only at ST;clear hx;have hget:is[i]?=some (is.getD i false):=by simp [List.getD,show i<is.length by rw [HL.out];exact hi]
        obtain ⟨bb,hbb⟩ : ∃ bb,bb=is.getD i false:=⟨_,rfl⟩
        rw [← hbb] at hget ST;obtain ⟨cb,fb⟩:=HO.out.at hget;clear hbb
        cases bb with
        | true =>
         rw [if_pos rfl] at ST;subst ST;go_wp2_with (go_at_call 150;refine AX.out.mono ?_;rintro e w' ⟨rfl,rfl⟩);go_ret2;exact ⟨HG.out,rfl⟩
        | false =>
         rw [if_neg (by decide)] at ST;have HST:=jac ST;clear ST;obtain ⟨so,sg⟩:=HO.out.set i true;have SO:=jac so;have SG:=jac (jan HG.out sg (fun r e=>by cases e;exact Nat.le_refl _));clear so sg;go_wp2_with (go_at_call 150;refine AX.out.mono ?_;rintro e w' ⟨rfl,rfl⟩);go_roundw
         case rel=>exact ⟨k+1,is.set i true,by omega,by go_num,SO.out,by rw [List.length_set];exact HL.out,SG.out,HST.out.symm⟩
         case measure=>simp [intOf];omega
      ·have hkk:k=l.length:=by omega
       subst hkk
       have E:r=some is:=by
        rw [← HS.out,List.drop_length]
        rfl
       subst E;clear hk hkl;go_wp2;go_ret2;exact ⟨HG.out,_,rfl,HO.out,HL.out⟩
end Go.Proofs.YteigfipgmghgmaaGreatDoor
