/- A part. -/
import Derived.Test.YtanpkdkenifmbaaGreatDoorUartAF
set_option maxHeartbeats 6400000
set_option maxRecDepth 100000
namespace Go.Proofs.YtanpkdkenifmbaaGreatDoor
open Go.RowKit
def fOK (f:Int):Bool:=decide (0≤f)&&(decide (f<4294967296)&&(f==2143289344||decide (bits BinOp.andNot IntKind.i64 f 2147483648≤2139095040)))
theorem jqK (f:Int) (w:World) :
    Calls Tryz.prog 50 #[.int .i64 1,.int .i64 f] w fun e w'=>e=.returned (.bool (fOK f))∧w.grownBy w' none:=by
     by_cases h0:0≤f
     ·by_cases h1:f<4294967296
      ·by_cases h2:f=2143289344
       ·subst h2;go_enter Tryz.func50,Tryz.ntmps50;go_wp2;go_ret;exact ⟨rfl,jae _⟩
       ·have h3:(f==2143289344)=false:=by simpa using h2
        have H0:=jac h0;have H1:=jac h1;have H3:=jac h3;go_enter Tryz.func50,Tryz.ntmps50;go_wp2;go_ret;exact ⟨by rw [fOK,decide_eq_true H0.out,decide_eq_true H1.out];simp [H3.out],jae _⟩
      ·have H1:=jac h1;have H0:=jac h0;go_enter Tryz.func50,Tryz.ntmps50;go_wp2;go_ret;exact ⟨by rw [fOK,decide_eq_false (show ¬ f<4294967296 by have:=H1.out;omega)];simp,jae _⟩
     ·have H0:=jac h0;go_enter Tryz.func50,Tryz.ntmps50;go_wp2;go_ret;exact ⟨by rw [fOK,decide_eq_false (show ¬ 0≤f by have:=H0.out;omega)];rfl,jae _⟩
def jkn (rs:List Ra) (xs:List Atr):List Atr→Nat→Option Int
 | [],_=>none
 | a::l,i=>match rs.find? (jhv a.name) with
  | none=>some 5
  | some r=>if (a.kind != r.kind)||(xs.take i).any (jdL a.name) then some 4 else if (a.kind==1)&&!(fOK a.f) then some 4 else jkn rs xs l (i+1)
def jqL (rs:List Ra) (xs:List Atr):Bool:=rs.any (fun r=>r.must&&!(xs.find? (isA r.name r.kind)).isSome)
def jbQ (rs:List Ra) (xs:List Atr):Int:=match jkn rs xs xs 0 with
 | some e=>e
 | none=>if jqL rs xs then 4 else 0
theorem jqM {rs : List Ra} {xs : List Atr} {k : Nat} (hk : k < xs.length) : jkn rs xs (xs.drop k) k = match rs.find? (jhv xs[k].name) with
    | none=>some 5
    | some r=>if (xs[k].kind != r.kind)||(xs.take k).any (jdL xs[k].name) then some 4 else if (xs[k].kind==1)&&!(fOK xs[k].f) then some 4 else jkn rs xs (xs.drop (k+1)) (k+1):=by
     rw [List.drop_eq_getElem_cons hk,jkn]
theorem joA {α:Type} {bytes size:Nat} {f:α→List Value} {w:World} {ao:Option Addr} {len cap:Nat} {xs:List α} (h:IsL bytes size f w (.slice ao len cap) xs) (k:Nat) (hk:k≤xs.length):IsL bytes size f w (.slice ao k cap) (xs.take k):=by
 obtain ⟨ao',cap',e,h1,h2,h3,h4,h5⟩:=h
 cases e
 have hl:(xs.take k).length=k:=by rw [List.length_take];omega
 refine ⟨ao,cap,by rw [hl],by omega,h2,?_,fun e=>?_,fun hp=>?_⟩
 ·rw [hl];exact Nat.le_trans (Nat.mul_le_mul_right _ hk) h3
 ·obtain ⟨rfl,hc⟩:=h4 e;exact ⟨List.take_nil,hc⟩
 ·obtain ⟨b,off,rfl,hc⟩:=h5 (by omega);refine ⟨b,off,rfl,fun j hj i hi=>?_⟩;have hj':j<xs.length:=by omega
  have:=hc j hj' i hi;simpa [List.getElem_take] using this
theorem jhy {l:List Ra} {f:Ra→Bool} {k:Nat} {x:Ra} (h:(l.take k).any f=false) (hx:l[k]?=some x) (hf:f x=false):(l.take (k+1)).any f=false:=by
 rw [List.take_add_one,List.any_append,h,hx];simp [hf]
theorem jcW {rs:List Ra} {xs:List Atr} {e:Int} (h:jkn rs xs xs 0=some e):jbQ rs xs=e:=by unfold jbQ;rw [h]
theorem jfR (n:Nod) (xs:List Atr) (rv:Value) (rs:List Ra) (w:World) (hv:jcc w n.av.v xs) (hr:jqB w rv rs) :
    Calls Tryz.prog 81 #[jaA n,rv] w fun e w'=>e=.returned (.int .i64 (jbQ rs xs))∧w.grownBy w' none:=by
     obtain ⟨op,nam,⟨ia,il,ic⟩,out,⟨ao,al,cap⟩⟩:=n;simp only at hv;obtain ⟨ao',cap',hav,h1,h2,h3⟩:=hv.form;obtain ⟨rfl,rfl,rfl⟩ : ao=ao'∧al=xs.length∧cap=cap':=by simpa [Sl.v] using hav
     have HV:=jac hv;have HR:=jac hr;obtain ⟨ra,rc,rfl,k1,k2,k3⟩:=hr.form;clear hv hav hr;unfold jaA;simp only;obtain ⟨w0,hw0⟩ : ∃ w0,w0=w.alloc (.cells #[.string op,.string nam,.slice ia il ic,.string out,.slice ao xs.length cap] 25):=⟨_,rfl⟩
     have g0:w.grownBy w0 none:=by rw [hw0];exact jab _ _
     have hb0:=heap_alloc_new w (.cells #[.string op,.string nam,.slice ia il ic,.string out,.slice ao xs.length cap] 25);obtain ⟨-,-,-,-,n4⟩:=jai (n:=⟨op,nam,⟨ia,il,ic⟩,out,⟨ao,xs.length,cap⟩⟩) hb0;rw [← hw0] at hb0;have BX:Hid (∀ wx,w0.grownBy wx none→wx.heap[w.heap.size]?=some (.cells #[.string op,.string nam,.slice ia il ic,.string out,.slice ao xs.length cap] 25 (0,0))):=fun wx hg=>jag hb0 hg;clear hb0;go_enter Tryz.func81,Tryz.ntmps81;go_wp2_with fail;rw [← hw0];clear hw0 n4;go_loopw [17] (fun i wr=>w0.grownBy wr none∧∃ k:Nat,k≤xs.length∧i=.int .i64 k∧jkn rs xs xs 0=jkn rs xs (xs.drop k) k) (fun i _=>xs.length - (intOf i).toNat)
     case atStart=>exact ⟨jae _,0,Nat.zero_le _,rfl,rfl⟩
     case round =>
      obtain ⟨hg,k,hk,rfl,hpl⟩:=hrel;have HPL:=jac hpl;clear hpl
      by_cases hlt:k<xs.length
      ·have HVk:=HV.out.more (jaa g0 hg);obtain ⟨b,off,rfl⟩:=HVk.addr hlt;obtain ⟨a0,a1,a2,a3,a4,a5,a6,a7,a8⟩:=HVk.attr k hlt;have HCK:=jac (jqM (rs:=rs) hlt);obtain ⟨A,hA⟩ : ∃ A,A=xs[k]:=⟨_,rfl⟩
       rw [← hA] at a0 a1 a2 a3 a4 a5 a6 a7 a8 HCK;clear HVk hA;obtain ⟨W1,hW1⟩ : ∃ W1,W1=wr.alloc (.cells #[.string A.name,.int .i64 A.kind,.int .i64 A.f,.int .i64 A.i,.string A.s,.int .i64 A.ty,.slice A.dv.a A.dv.n A.dv.c,.slice A.tv.a A.tv.n A.tv.c,.slice A.iv.a A.iv.n A.iv.c] 68):=⟨_,rfl⟩
       have G1:wr.grownBy W1 none:=by rw [hW1];exact jab _ _
       have B1:=heap_alloc_new wr (.cells #[.string A.name,.int .i64 A.kind,.int .i64 A.f,.int .i64 A.i,.string A.s,.int .i64 A.ty,.slice A.dv.a A.dv.n A.dv.c,.slice A.tv.a A.tv.n A.tv.c,.slice A.iv.a A.iv.n A.iv.c] 68);rw [← hW1] at B1;have AB:Hid (∀ wx,W1.grownBy wx none→wx.heap[wr.heap.size]?=some (.cells #[.string A.name,.int .i64 A.kind,.int .i64 A.f,.int .i64 A.i,.string A.s,.int .i64 A.ty,.slice A.dv.a A.dv.n A.dv.c,.slice A.tv.a A.tv.n A.tv.c,.slice A.iv.a A.iv.n A.iv.c] 68 (0,0))):=fun wx hx=>jag B1 hx;have g1:=jaa hg G1;clear B1;go_wp2_with fail;rw [← hW1];clear hW1 a0 a1 a2 a3 a4 a5 a6 a7 a8;refine (jow _ rs wr.heap.size A.name W1 (HR.out.more (jaa g0 g1)) (ja2 (AB.out W1 (jae _))).1).mono ?_;rintro e w2 ⟨rfl,hg2⟩;have g2:=jaa g1 hg2
       rcases jcT (jhv A.name) rs 0 with ⟨e1,e2⟩ | ⟨j,hj,e1,e2⟩
       ·rw [e1];have E:Hid (jbQ rs xs=5):=jcW (by rw [HPL.out,HCK.out,e2]);clear e1 e2;go_wp2;go_ret;exact ⟨by rw [E.out];rfl,jaa g0 g2⟩
       ·rw [e1,show ((0+j:Nat):Int)=(j:Int) by simp];have HE2:=jac e2;clear e1 e2;have HRk:=HR.out.more (jaa g0 g2);obtain ⟨rb,ro,rfl⟩:=HRk.addr hj;obtain ⟨r0,r1,r2⟩:=HRk.ra j hj;obtain ⟨c0,c1,c2,-⟩:=ja2 (AB.out w2 hg2);obtain ⟨-,-,-,-,n4⟩:=jai (n:=⟨op,nam,⟨ia,il,ic⟩,out,⟨some ⟨b,off,none⟩,xs.length,cap⟩⟩) (BX.out w2 g2);obtain ⟨R,hR⟩ : ∃ R,R=rs[j]:=⟨_,rfl⟩
        rw [← hR] at r0 r1 r2 HE2;clear HRk hR r0 r2 c0;have gd:=jaf (jae w2);have CA:=jac (fun (wx:World) (hx:w2.grownBy wx none)=>jfQ (.slice (some ⟨b,off,none⟩) k cap) (xs.take k) wr.heap.size A.name wx (joA (HV.out.more (jaa (jaa g0 g2) hx)) k (by omega)) (ja2 (AB.out wx (jaa hg2 hx))).1)
        by_cases hkd:(A.kind != R.kind)=true
        ·have HKD:=jac hkd;go_wp2_with fail;have E:Hid (jbQ rs xs=4):=jcW (by rw [HPL.out,HCK.out,HE2.out];simp only [HKD.out,Bool.true_or,if_true]);go_region
         all_goals
          go_wp2;go_ret;exact ⟨by rw [E.out];rfl,jaf (jaa g0 g2)⟩
        ·have hkd':(A.kind != R.kind)=false:=by simpa using hkd
         have HKD:=jac hkd';clear hkd;have hkc:k≤cap:=by omega
         go_wp2_with fail;go_region_held3 (fun w'=>w'.cell? ⟨wr.heap.size,1,none⟩=some (.int .i64 A.kind)∧w'.cell? ⟨rb,ro+j*3+1,none⟩=some (.int .i64 R.kind)∧w'.cell? ⟨w.heap.size,4,none⟩=some (.slice (some ⟨b,off,none⟩) xs.length cap)) (go_keep) (first | (go_at_call 117;refine (CA.out _ (by exact gd)).mono ?_;rintro e w3 ⟨rfl,hg3⟩;have g3:=jaa gd hg3;obtain ⟨c0,c1,c2,-⟩:=ja2 (AB.out w3 (jaa hg2 g3));obtain ⟨-,-,-,-,n4⟩:=jai (n:=⟨op,nam,⟨ia,il,ic⟩,out,⟨some ⟨b,off,none⟩,xs.length,cap⟩⟩) (BX.out w3 (jaa g2 g3));have r1:=je5 r1 g3));have g13:=jaa g2 g3
         cases hah:(xs.take k).any (jdL A.name) with
         | true =>
          have E:Hid (jbQ rs xs=4):=jcW (by rw [HPL.out,HCK.out,HE2.out];simp only [HKD.out,hah,Bool.or_true,if_true]);clear hah;go_wp2;go_ret;exact ⟨by rw [E.out];rfl,jaa g0 g13⟩
         | false =>
          have HAH:=jac hah;clear hah
          by_cases hk1:A.kind=1
          ·have HK1:=jac hk1;have e1:(A.kind==1)=true:=by simpa using hk1
           have HE1:=jac e1;rw [hk1] at c1;clear hk1 e1;go_wp2_with fail;refine (jqK A.f w3).mono ?_;rintro e w4 ⟨rfl,hg4⟩;have g14:=jaa g13 hg4
           cases hf:fOK A.f with
           | false =>
            have E:Hid (jbQ rs xs=4):=jcW (by rw [HPL.out,HCK.out,HE2.out];simp [HKD.out,HAH.out,HE1.out,hf]);clear hf;go_wp2;go_ret;exact ⟨by rw [E.out];rfl,jaa g0 g14⟩
           | true =>
            have HN:Hid (jkn rs xs xs 0=jkn rs xs (xs.drop (k+1)) (k+1)):=by
             show _=_;rw [HPL.out,HCK.out,HE2.out];simp [HKD.out,HAH.out,hf]
            clear hf;go_wp2;go_roundw
            case rel=>exact ⟨g14,k+1,by omega,by go_num,HN.out⟩
            case measure=>simp [intOf];omega
          ·have e1:(A.kind==1)=false:=by simpa using hk1
           have HN:Hid (jkn rs xs xs 0=jkn rs xs (xs.drop (k+1)) (k+1)):=by
            show _=_;rw [HPL.out,HCK.out,HE2.out];simp [HKD.out,HAH.out,e1]
           clear hk1;go_wp2;go_roundw
           case rel=>exact ⟨g13,k+1,by omega,by go_num,HN.out⟩
           case measure=>simp [intOf];omega
      ·obtain rfl:k=xs.length:=by omega
       have HN:Hid (jkn rs xs xs 0=none):=by
        show _=_;rw [HPL.out,List.drop_of_length_le (Nat.le_refl _)];rfl
       obtain ⟨wo,rfl⟩ : ∃ wo,wo=wr:=⟨_,rfl⟩
       go_wp2_with fail;go_loopw [57] (fun i wr=>w0.grownBy wr none∧∃ k:Nat,k≤rs.length∧i=.int .i64 k∧(rs.take k).any (fun r=>r.must&&!(xs.find? (isA r.name r.kind)).isSome)=false) (fun i _=>rs.length - (intOf i).toNat)
       case atStart=>exact ⟨hg,0,Nat.zero_le _,rfl,rfl⟩
       case round =>
        obtain ⟨hgr,k,hk',rfl,hno⟩:=hrel;have HNO:=jac hno;clear hno
        by_cases hlt2:k<rs.length
        ·have HRk:=HR.out.more (jaa g0 hgr);obtain ⟨rb,ro,rfl⟩:=HRk.addr hlt2;obtain ⟨a0,a1,a2⟩:=HRk.ra k hlt2;have HRK:Hid (rs[k]?=some rs[k]):=List.getElem?_eq_getElem hlt2;obtain ⟨R,hR⟩ : ∃ R,R=rs[k]:=⟨_,rfl⟩
         rw [← hR] at a0 a1 a2 HRK;clear HRk hR;obtain ⟨W1,hW1⟩ : ∃ W1,W1=wr.alloc (.cells #[.string R.name,.int .i64 R.kind,.bool R.must] 144):=⟨_,rfl⟩
         have G1:wr.grownBy W1 none:=by rw [hW1];exact jab _ _
         have B1:=heap_alloc_new wr (.cells #[.string R.name,.int .i64 R.kind,.bool R.must] 144)
         have HZ1:Hid (W1.heap.size=wr.heap.size+1∧w.heap.size<wr.heap.size):=by
          refine ⟨by rw [hW1];simp,?_⟩;exact (Array.getElem?_eq_some_iff.1 (BX.out wr hgr)).1
         rw [← hW1] at B1;have RB:Hid (∀ wx,W1.grownBy wx none→wx.heap[wr.heap.size]?=some (.cells #[.string R.name,.int .i64 R.kind,.bool R.must] 144 (0,0))):=fun wx hx=>jag B1 hx;have g1:=jaa hgr G1;have FN:=jac (fun (p q:Nat) (wx:World) (hx:W1.grownBy wx none) (hp:wx.heap[p]?=some (.cells #[.string R.name] 9 (0,0))) (hq:wx.heap[q]?=some (.cells #[.int .i64 R.kind] 3 (0,0)))=>jcs ⟨op,nam,⟨ia,il,ic⟩,out,⟨ao,xs.length,cap⟩⟩ xs p q R.name R.kind wx (HV.out.more (jaa (jaa g0 g1) hx)) hp hq);unfold jaA at FN;simp only at FN;clear B1;go_wp2;rw [← hW1];clear hW1 a0 a1 a2;go_cut [13] from 58 to 77 (fun b wx=>b=.bool (xs.find? (isA R.name R.kind)).isSome∧W1.grownBy wx none)
         case first =>
          obtain ⟨n0,n1,n2,n3,n4⟩:=jai (n:=⟨op,nam,⟨ia,il,ic⟩,out,⟨ao,xs.length,cap⟩⟩) (BX.out W1 g1);obtain ⟨q0,q1,q2⟩:=jcV (RB.out W1 (jae _));have gd:=jaf (jae W1)
          cases hf:xs.find? (isA R.name R.kind) with
          | none =>
           have HF:=jac hf;rw [hf] at FN;simp only [Option.getD_none,jlu,jcG,Option.isSome_none] at FN ⊢;go_region_held3 (fun w'=>w'.cell? ⟨w.heap.size,0,none⟩=some (.string op)∧w'.cell? ⟨w.heap.size,1,none⟩=some (.string nam)∧w'.cell? ⟨w.heap.size,2,none⟩=some (.slice ia il ic)∧w'.cell? ⟨w.heap.size,3,none⟩=some (.string out)∧w'.cell? ⟨w.heap.size,4,none⟩=some (.slice ao xs.length cap)∧w'.cell? ⟨wr.heap.size,0,none⟩=some (.string R.name)∧w'.cell? ⟨wr.heap.size,1,none⟩=some (.int .i64 R.kind)∧w'.cell? ⟨wr.heap.size,2,none⟩=some (.bool R.must)) (go_keep) (first | (go_at_call 60;refine (jct _ _ _).mono ?_;rintro e v1 ⟨rfl,hp1,hq1,hg1⟩;have g1_v1:W1.grownBy v1 none:=(by first | exact jaa gd hg1 | exact jaa (jaf (jab W1 _)) hg1);obtain ⟨n0,n1,n2,n3,n4⟩:=jai (n:=⟨op,nam,⟨ia,il,ic⟩,out,⟨ao,xs.length,cap⟩⟩) (BX.out v1 (jaa g1 g1_v1));obtain ⟨q0,q1,q2⟩:=jcV (RB.out v1 g1_v1);have y1:w.heap.size≠v1.heap.size:=(by have:=g1_v1.size;have:=HZ1.out;omega);have y1':=y1.symm;have y2:wr.heap.size≠v1.heap.size:=(by have:=g1_v1.size;have:=HZ1.out;omega);have y2':=y2.symm;have y3:w.heap.size≠W1.heap.size:=(by have:=HZ1.out;omega);have y3':=y3.symm;have y4:wr.heap.size≠W1.heap.size:=(by have:=HZ1.out;omega);have y4':=y4.symm;try (have hp2:v1.heap[W1.heap.size+1]?=some (.cells #[.string R.name] 9 (0,0)):=(by have h:=hp1;rw [show ((W1.alloc (.cells #[.string ⟨#[]⟩,.int .i64 0,.int .i64 0,.int .i64 0,.string ⟨#[]⟩,.int .i64 0,.slice none 0 0,.slice none 0 0,.slice none 0 0] 68)).drew).heap.size=W1.heap.size+1 by simp] at h;exact h));try (have hq2:v1.heap[W1.heap.size+1+1]?=some (.cells #[.int .i64 R.kind] 3 (0,0)):=(by have h:=hq1;rw [show ((W1.alloc (.cells #[.string ⟨#[]⟩,.int .i64 0,.int .i64 0,.int .i64 0,.string ⟨#[]⟩,.int .i64 0,.slice none 0 0,.slice none 0 0,.slice none 0 0] 68)).drew).heap.size=W1.heap.size+1 by simp] at h;exact h));try (have kz:v1.heap[W1.heap.size]?=some (.cells #[.string ⟨#[]⟩,.int .i64 0,.int .i64 0,.int .i64 0,.string ⟨#[]⟩,.int .i64 0,.slice none 0 0,.slice none 0 0,.slice none 0 0] 68 (0,0)):=jag (show ((W1.alloc (.cells #[.string ⟨#[]⟩,.int .i64 0,.int .i64 0,.int .i64 0,.string ⟨#[]⟩,.int .i64 0,.slice none 0 0,.slice none 0 0,.slice none 0 0] 68)).drew).heap[W1.heap.size]?=_ from heap_alloc_new W1 _) hg1)) | (go_at_call 59;refine (FN.out _ _ _ (by first | exact g1_v1 | exact jaa g1_v1 (jab _ _)) (by first | exact hp1 | exact hp2 | exact jag hp1 (jab _ _)) (by first | exact hq1 | exact hq2 | exact jag hq1 (jab _ _))).mono ?_;rintro e v2 ⟨rfl,hg2⟩;have g1_v2:W1.grownBy v2 none:=(by first | exact jaa g1_v1 hg2 | exact jaa (jaa g1_v1 (jab _ _)) hg2);obtain ⟨n0,n1,n2,n3,n4⟩:=jai (n:=⟨op,nam,⟨ia,il,ic⟩,out,⟨ao,xs.length,cap⟩⟩) (BX.out v2 (jaa g1 g1_v2));obtain ⟨q0,q1,q2⟩:=jcV (RB.out v2 g1_v2);try (first | have kz2:=jag kz hg2 | have kz2:v2.heap[v1.heap.size]?=some (.cells #[.string ⟨#[]⟩,.int .i64 0,.int .i64 0,.int .i64 0,.string ⟨#[]⟩,.int .i64 0,.slice none 0 0,.slice none 0 0,.slice none 0 0] 68 (0,0)):=jag (heap_alloc_new v1 _) hg2);try (obtain ⟨f0,f1,f2,f3,f4,f5,f6,f7,f8⟩:=jbP kz2);try (obtain ⟨k0,k1,k2,k3,k4,k5,k6,k7,k8⟩:=ja2 (a:=jcG) kz2)))
           ·have GG:=jac g1_v2;go_wp2_with fail
            go_meet
            exact ⟨by rw [HF.out];rfl,jaa GG.out (jab v2 _)⟩
           ·obtain ⟨-,gX⟩:=jci (.string ⟨#[]⟩) (.int .i64 0) (.int .i64 0) (.int .i64 0) (.string ⟨#[]⟩) (.int .i64 0) (.slice none 0 0) (.slice none 0 0) (.slice none 0 0) g1_v2 (show W1.heap.size≤v1.heap.size from g1_v1.size) kz2;have GX:=jac gX;clear gX;go_wp2_with fail
            go_meet
            exact ⟨by rw [HF.out];rfl,GX.out⟩
           ·obtain ⟨-,gX⟩:=jci (.string ⟨#[]⟩) (.int .i64 0) (.int .i64 0) (.int .i64 0) (.string ⟨#[]⟩) (.int .i64 0) (.slice none 0 0) (.slice none 0 0) (.slice none 0 0) g1_v2 (Nat.le_refl _) kz2;have GX:=jac gX;clear gX;go_wp2_with fail
            go_meet
            exact ⟨by rw [HF.out];rfl,GX.out⟩
          | some a =>
           have HF:=jac hf;rw [hf] at FN;simp only [Option.getD_some,jlu,Option.isSome_some] at FN ⊢;go_region_held3 (fun w'=>w'.cell? ⟨w.heap.size,0,none⟩=some (.string op)∧w'.cell? ⟨w.heap.size,1,none⟩=some (.string nam)∧w'.cell? ⟨w.heap.size,2,none⟩=some (.slice ia il ic)∧w'.cell? ⟨w.heap.size,3,none⟩=some (.string out)∧w'.cell? ⟨w.heap.size,4,none⟩=some (.slice ao xs.length cap)∧w'.cell? ⟨wr.heap.size,0,none⟩=some (.string R.name)∧w'.cell? ⟨wr.heap.size,1,none⟩=some (.int .i64 R.kind)∧w'.cell? ⟨wr.heap.size,2,none⟩=some (.bool R.must)) (go_keep) (first | (go_at_call 60;refine (jct _ _ _).mono ?_;rintro e v1 ⟨rfl,hp1,hq1,hg1⟩;have g1_v1:W1.grownBy v1 none:=(by first | exact jaa gd hg1 | exact jaa (jaf (jab W1 _)) hg1);obtain ⟨n0,n1,n2,n3,n4⟩:=jai (n:=⟨op,nam,⟨ia,il,ic⟩,out,⟨ao,xs.length,cap⟩⟩) (BX.out v1 (jaa g1 g1_v1));obtain ⟨q0,q1,q2⟩:=jcV (RB.out v1 g1_v1);have y1:w.heap.size≠v1.heap.size:=(by have:=g1_v1.size;have:=HZ1.out;omega);have y1':=y1.symm;have y2:wr.heap.size≠v1.heap.size:=(by have:=g1_v1.size;have:=HZ1.out;omega);have y2':=y2.symm;have y3:w.heap.size≠W1.heap.size:=(by have:=HZ1.out;omega);have y3':=y3.symm;have y4:wr.heap.size≠W1.heap.size:=(by have:=HZ1.out;omega);have y4':=y4.symm;try (have hp2:v1.heap[W1.heap.size+1]?=some (.cells #[.string R.name] 9 (0,0)):=(by have h:=hp1;rw [show ((W1.alloc (.cells #[.string ⟨#[]⟩,.int .i64 0,.int .i64 0,.int .i64 0,.string ⟨#[]⟩,.int .i64 0,.slice none 0 0,.slice none 0 0,.slice none 0 0] 68)).drew).heap.size=W1.heap.size+1 by simp] at h;exact h));try (have hq2:v1.heap[W1.heap.size+1+1]?=some (.cells #[.int .i64 R.kind] 3 (0,0)):=(by have h:=hq1;rw [show ((W1.alloc (.cells #[.string ⟨#[]⟩,.int .i64 0,.int .i64 0,.int .i64 0,.string ⟨#[]⟩,.int .i64 0,.slice none 0 0,.slice none 0 0,.slice none 0 0] 68)).drew).heap.size=W1.heap.size+1 by simp] at h;exact h));try (have kz:v1.heap[W1.heap.size]?=some (.cells #[.string ⟨#[]⟩,.int .i64 0,.int .i64 0,.int .i64 0,.string ⟨#[]⟩,.int .i64 0,.slice none 0 0,.slice none 0 0,.slice none 0 0] 68 (0,0)):=jag (show ((W1.alloc (.cells #[.string ⟨#[]⟩,.int .i64 0,.int .i64 0,.int .i64 0,.string ⟨#[]⟩,.int .i64 0,.slice none 0 0,.slice none 0 0,.slice none 0 0] 68)).drew).heap[W1.heap.size]?=_ from heap_alloc_new W1 _) hg1)) | (go_at_call 59;refine (FN.out _ _ _ (by first | exact g1_v1 | exact jaa g1_v1 (jab _ _)) (by first | exact hp1 | exact hp2 | exact jag hp1 (jab _ _)) (by first | exact hq1 | exact hq2 | exact jag hq1 (jab _ _))).mono ?_;rintro e v2 ⟨rfl,hg2⟩;have g1_v2:W1.grownBy v2 none:=(by first | exact jaa g1_v1 hg2 | exact jaa (jaa g1_v1 (jab _ _)) hg2);obtain ⟨n0,n1,n2,n3,n4⟩:=jai (n:=⟨op,nam,⟨ia,il,ic⟩,out,⟨ao,xs.length,cap⟩⟩) (BX.out v2 (jaa g1 g1_v2));obtain ⟨q0,q1,q2⟩:=jcV (RB.out v2 g1_v2);try (first | have kz2:=jag kz hg2 | have kz2:v2.heap[v1.heap.size]?=some (.cells #[.string ⟨#[]⟩,.int .i64 0,.int .i64 0,.int .i64 0,.string ⟨#[]⟩,.int .i64 0,.slice none 0 0,.slice none 0 0,.slice none 0 0] 68 (0,0)):=jag (heap_alloc_new v1 _) hg2);try (obtain ⟨f0,f1,f2,f3,f4,f5,f6,f7,f8⟩:=jbP kz2);try (obtain ⟨k0,k1,k2,k3,k4,k5,k6,k7,k8⟩:=ja2 (a:=jcG) kz2)))
           ·have GG:=jac g1_v2;go_wp2_with fail
            go_meet
            exact ⟨by rw [HF.out];rfl,jaa GG.out (jab v2 _)⟩
           ·obtain ⟨-,gX⟩:=jci (.string a.name) (.int .i64 a.kind) (.int .i64 a.f) (.int .i64 a.i) (.string a.s) (.int .i64 a.ty) (.slice a.dv.a a.dv.n a.dv.c) (.slice a.tv.a a.tv.n a.tv.c) (.slice a.iv.a a.iv.n a.iv.c) g1_v2 (show W1.heap.size≤v1.heap.size from g1_v1.size) kz2;have GX:=jac gX;clear gX;go_wp2_with fail
            go_meet
            exact ⟨by rw [HF.out];rfl,GX.out⟩
           ·obtain ⟨-,gX⟩:=jci (.string a.name) (.int .i64 a.kind) (.int .i64 a.f) (.int .i64 a.i) (.string a.s) (.int .i64 a.ty) (.slice a.dv.a a.dv.n a.dv.c) (.slice a.tv.a a.tv.n a.tv.c) (.slice a.iv.a a.iv.n a.iv.c) g1_v2 (Nat.le_refl _) kz2;have GX:=jac gX;clear gX;go_wp2_with fail
            go_meet
            exact ⟨by rw [HF.out];rfl,GX.out⟩
         case rest =>
          obtain ⟨rfl,hgc⟩:=hcut;obtain ⟨q0,q1,q2⟩:=jcV (RB.out wc hgc);have gc:=jaa g1 hgc
          cases hm:R.must with
          | false =>
           have HS:Hid ((rs.take (k+1)).any (fun r=>r.must&&!(xs.find? (isA r.name r.kind)).isSome)=false):=jhy HNO.out HRK.out (by simp [hm]);rw [hm] at q2;go_wp2;go_roundw
           case rel=>exact ⟨gc,k+1,by omega,by go_num,HS.out⟩
           case measure=>simp [intOf];omega
          | true =>
           rw [hm] at q2
           cases hs:(xs.find? (isA R.name R.kind)).isSome with
           | true =>
            have HS:Hid ((rs.take (k+1)).any (fun r=>r.must&&!(xs.find? (isA r.name r.kind)).isSome)=false):=jhy HNO.out HRK.out (by simp [hs]);clear hs;go_wp2;go_roundw
            case rel=>exact ⟨gc,k+1,by omega,by go_num,HS.out⟩
            case measure=>simp [intOf];omega
           | false =>
            have E:Hid (jbQ rs xs=4):=by
             show _=_;have h1:jqL rs xs=true:=List.any_eq_true.2 ⟨R,List.mem_of_getElem? HRK.out,by simp only [hm,hs];rfl⟩;unfold jbQ;rw [HN.out];simp [h1]
            clear hs;go_wp2;go_ret;exact ⟨by rw [E.out];rfl,jaa g0 gc⟩
        ·obtain rfl:k=rs.length:=by omega
         have E:Hid (jbQ rs xs=0):=by
          show _=_;have h1:=HNO.out;rw [List.take_of_length_le (Nat.le_refl _)] at h1;unfold jbQ jqL;rw [HN.out];simp only [h1]
          rfl
         go_wp2;go_ret;exact ⟨by rw [E.out];rfl,jaa g0 hgr⟩
end Go.Proofs.YtanpkdkenifmbaaGreatDoor
namespace Go.Proofs.YtanpkdkenifmbaaGreatDoor
open Go.RowKit
def jbU (r:Option (Int×Int×List Ra)) (ins:List ByteArray) (out:ByteArray) (xs:List Atr):Int:=match r with
 | none=>5
 | some (lo,hi,rs)=>if (ins.length:Int)<lo then 4 else if hi<(ins.length:Int) then 4 else if (out.toList==[])||ins.any (isS ⟨#[]⟩) then 5 else if jbQ rs xs=0 then je3 (xs.find? (isA ⟨#[116,104,101,110]⟩ 3)) else jbQ rs xs
end Go.Proofs.YtanpkdkenifmbaaGreatDoor
namespace Go.Proofs.YtanpkdkenifmbaaGreatDoor
open Go.RowKit
theorem jgS (w:World) (hl:Laid w) :
    Calls Tryz.prog 79 #[.string ⟨#[73,100,101,110,116,105,116,121]⟩] w fun e w'=>ja8 (some (1,1,[jat])) w' e∧w.grownBy w' none:=by
     have e1:jaw ⟨#[73,100,101,110,116,105,116,121]⟩=true:=by simp only [jaw,jaj];rfl
     obtain ⟨w0,hw0⟩ : ∃ w0,w0=w.alloc (.cells #[.int .i64 0,.int .i64 0,.slice none 0 0] 124):=⟨_,rfl⟩
     have g0:w.grownBy w0 none:=by rw [hw0];exact jab _ _
     have b0:=heap_alloc_new w (.cells #[.int .i64 0,.int .i64 0,.slice none 0 0] 124);rw [← hw0] at b0;have B0:=jac b0;have OO:=jac (jar ⟨#[73,100,101,110,116,105,116,121]⟩ w0 (hl.more g0));rw [e1] at OO;clear hl b0 e1;go_enter Tryz.func79,Tryz.ntmps79;go_wp2_with fail;rw [← hw0];clear hw0;refine OO.out.mono ?_;rintro e v0 ⟨rfl,h0⟩;go_wp2_with fail;refine (jau _ _ _ [] _ (Or.inl ⟨rfl,rfl⟩) (by decide)).mono ?_;rintro e w6 ⟨⟨a,n,c,rfl,ho,hat⟩,hg6⟩;have hlt:=(Array.getElem?_eq_some_iff.1 B0.out).1;have hsk:=h0.size
     have hne:(Value.slice a n c).ownBlock≠some w.heap.size:=fun hh=>by
      rcases hat _ hh with h | h
      ·cases h
      ·omega
     obtain ⟨b6,hX,hO,gX⟩:=jax (lo:=1) (hi:=1) g0 B0.out h0 (jae _) hg6 (fun g e=>by cases e) ho hne;obtain ⟨r0,r1,r2,f0,f1,f2⟩:=jam b6;have HX:=jac hX;have HO:=jac hO;have GX:=jac gX;clear hX hO gX b6 ho hg6 hne hat hlt hsk;go_wp2;refine bodyPost_ret (jas rfl _ _ w.heap.size rfl HX.out) rfl ?_;exact ⟨⟨_,_,_,rfl,HO.out⟩,GX.out⟩
theorem joB (w:World) (hl:Laid w) :
    Calls Tryz.prog 79 #[.string ⟨#[78,101,103]⟩] w fun e w'=>ja8 (some (1,1,[jat])) w' e∧w.grownBy w' none:=by
     have e1:jaw ⟨#[78,101,103]⟩=true:=by simp only [jaw,jaj];rfl
     obtain ⟨w0,hw0⟩ : ∃ w0,w0=w.alloc (.cells #[.int .i64 0,.int .i64 0,.slice none 0 0] 124):=⟨_,rfl⟩
     have g0:w.grownBy w0 none:=by rw [hw0];exact jab _ _
     have b0:=heap_alloc_new w (.cells #[.int .i64 0,.int .i64 0,.slice none 0 0] 124);rw [← hw0] at b0;have B0:=jac b0;have OO:=jac (jar ⟨#[78,101,103]⟩ w0 (hl.more g0));rw [e1] at OO;clear hl b0 e1;go_enter Tryz.func79,Tryz.ntmps79;go_wp2_with fail;rw [← hw0];clear hw0;refine OO.out.mono ?_;rintro e v0 ⟨rfl,h0⟩;go_wp2_with fail;refine (jau _ _ _ [] _ (Or.inl ⟨rfl,rfl⟩) (by decide)).mono ?_;rintro e w6 ⟨⟨a,n,c,rfl,ho,hat⟩,hg6⟩;have hlt:=(Array.getElem?_eq_some_iff.1 B0.out).1;have hsk:=h0.size
     have hne:(Value.slice a n c).ownBlock≠some w.heap.size:=fun hh=>by
      rcases hat _ hh with h | h
      ·cases h
      ·omega
     obtain ⟨b6,hX,hO,gX⟩:=jax (lo:=1) (hi:=1) g0 B0.out h0 (jae _) hg6 (fun g e=>by cases e) ho hne;obtain ⟨r0,r1,r2,f0,f1,f2⟩:=jam b6;have HX:=jac hX;have HO:=jac hO;have GX:=jac gX;clear hX hO gX b6 ho hg6 hne hat hlt hsk;go_wp2;refine bodyPost_ret (jas rfl _ _ w.heap.size rfl HX.out) rfl ?_;exact ⟨⟨_,_,_,rfl,HO.out⟩,GX.out⟩
theorem joC (w:World) (hl:Laid w) :
    Calls Tryz.prog 79 #[.string ⟨#[65,98,115]⟩] w fun e w'=>ja8 (some (1,1,[jat])) w' e∧w.grownBy w' none:=by
     have e1:jaw ⟨#[65,98,115]⟩=true:=by simp only [jaw,jaj];rfl
     obtain ⟨w0,hw0⟩ : ∃ w0,w0=w.alloc (.cells #[.int .i64 0,.int .i64 0,.slice none 0 0] 124):=⟨_,rfl⟩
     have g0:w.grownBy w0 none:=by rw [hw0];exact jab _ _
     have b0:=heap_alloc_new w (.cells #[.int .i64 0,.int .i64 0,.slice none 0 0] 124);rw [← hw0] at b0;have B0:=jac b0;have OO:=jac (jar ⟨#[65,98,115]⟩ w0 (hl.more g0));rw [e1] at OO;clear hl b0 e1;go_enter Tryz.func79,Tryz.ntmps79;go_wp2_with fail;rw [← hw0];clear hw0;refine OO.out.mono ?_;rintro e v0 ⟨rfl,h0⟩;go_wp2_with fail;refine (jau _ _ _ [] _ (Or.inl ⟨rfl,rfl⟩) (by decide)).mono ?_;rintro e w6 ⟨⟨a,n,c,rfl,ho,hat⟩,hg6⟩;have hlt:=(Array.getElem?_eq_some_iff.1 B0.out).1;have hsk:=h0.size
     have hne:(Value.slice a n c).ownBlock≠some w.heap.size:=fun hh=>by
      rcases hat _ hh with h | h
      ·cases h
      ·omega
     obtain ⟨b6,hX,hO,gX⟩:=jax (lo:=1) (hi:=1) g0 B0.out h0 (jae _) hg6 (fun g e=>by cases e) ho hne;obtain ⟨r0,r1,r2,f0,f1,f2⟩:=jam b6;have HX:=jac hX;have HO:=jac hO;have GX:=jac gX;clear hX hO gX b6 ho hg6 hne hat hlt hsk;go_wp2;refine bodyPost_ret (jas rfl _ _ w.heap.size rfl HX.out) rfl ?_;exact ⟨⟨_,_,_,rfl,HO.out⟩,GX.out⟩
theorem joD (w:World) (hl:Laid w) :
    Calls Tryz.prog 79 #[.string ⟨#[78,111,116]⟩] w fun e w'=>ja8 (some (1,1,[jat])) w' e∧w.grownBy w' none:=by
     have e1:jaw ⟨#[78,111,116]⟩=true:=by simp only [jaw,jaj];rfl
     obtain ⟨w0,hw0⟩ : ∃ w0,w0=w.alloc (.cells #[.int .i64 0,.int .i64 0,.slice none 0 0] 124):=⟨_,rfl⟩
     have g0:w.grownBy w0 none:=by rw [hw0];exact jab _ _
     have b0:=heap_alloc_new w (.cells #[.int .i64 0,.int .i64 0,.slice none 0 0] 124);rw [← hw0] at b0;have B0:=jac b0;have OO:=jac (jar ⟨#[78,111,116]⟩ w0 (hl.more g0));rw [e1] at OO;clear hl b0 e1;go_enter Tryz.func79,Tryz.ntmps79;go_wp2_with fail;rw [← hw0];clear hw0;refine OO.out.mono ?_;rintro e v0 ⟨rfl,h0⟩;go_wp2_with fail;refine (jau _ _ _ [] _ (Or.inl ⟨rfl,rfl⟩) (by decide)).mono ?_;rintro e w6 ⟨⟨a,n,c,rfl,ho,hat⟩,hg6⟩;have hlt:=(Array.getElem?_eq_some_iff.1 B0.out).1;have hsk:=h0.size
     have hne:(Value.slice a n c).ownBlock≠some w.heap.size:=fun hh=>by
      rcases hat _ hh with h | h
      ·cases h
      ·omega
     obtain ⟨b6,hX,hO,gX⟩:=jax (lo:=1) (hi:=1) g0 B0.out h0 (jae _) hg6 (fun g e=>by cases e) ho hne;obtain ⟨r0,r1,r2,f0,f1,f2⟩:=jam b6;have HX:=jac hX;have HO:=jac hO;have GX:=jac gX;clear hX hO gX b6 ho hg6 hne hat hlt hsk;go_wp2;refine bodyPost_ret (jas rfl _ _ w.heap.size rfl HX.out) rfl ?_;exact ⟨⟨_,_,_,rfl,HO.out⟩,GX.out⟩
theorem jlT (w:World) (hl:Laid w) :
    Calls Tryz.prog 79 #[.string ⟨#[83,113,114,116]⟩] w fun e w'=>ja8 (some (1,1,[jat])) w' e∧w.grownBy w' none:=by
     have e1:jaw ⟨#[83,113,114,116]⟩=true:=by simp only [jaw,jaj];rfl
     obtain ⟨w0,hw0⟩ : ∃ w0,w0=w.alloc (.cells #[.int .i64 0,.int .i64 0,.slice none 0 0] 124):=⟨_,rfl⟩
     have g0:w.grownBy w0 none:=by rw [hw0];exact jab _ _
     have b0:=heap_alloc_new w (.cells #[.int .i64 0,.int .i64 0,.slice none 0 0] 124);rw [← hw0] at b0;have B0:=jac b0;have OO:=jac (jar ⟨#[83,113,114,116]⟩ w0 (hl.more g0));rw [e1] at OO;clear hl b0 e1;go_enter Tryz.func79,Tryz.ntmps79;go_wp2_with fail;rw [← hw0];clear hw0;refine OO.out.mono ?_;rintro e v0 ⟨rfl,h0⟩;go_wp2_with fail;refine (jau _ _ _ [] _ (Or.inl ⟨rfl,rfl⟩) (by decide)).mono ?_;rintro e w6 ⟨⟨a,n,c,rfl,ho,hat⟩,hg6⟩;have hlt:=(Array.getElem?_eq_some_iff.1 B0.out).1;have hsk:=h0.size
     have hne:(Value.slice a n c).ownBlock≠some w.heap.size:=fun hh=>by
      rcases hat _ hh with h | h
      ·cases h
      ·omega
     obtain ⟨b6,hX,hO,gX⟩:=jax (lo:=1) (hi:=1) g0 B0.out h0 (jae _) hg6 (fun g e=>by cases e) ho hne;obtain ⟨r0,r1,r2,f0,f1,f2⟩:=jam b6;have HX:=jac hX;have HO:=jac hO;have GX:=jac gX;clear hX hO gX b6 ho hg6 hne hat hlt hsk;go_wp2;refine bodyPost_ret (jas rfl _ _ w.heap.size rfl HX.out) rfl ?_;exact ⟨⟨_,_,_,rfl,HO.out⟩,GX.out⟩
theorem jko (w:World) (hl:Laid w) :
    Calls Tryz.prog 79 #[.string ⟨#[70,108,111,111,114]⟩] w fun e w'=>ja8 (some (1,1,[jat])) w' e∧w.grownBy w' none:=by
     have e1:jaw ⟨#[70,108,111,111,114]⟩=true:=by simp only [jaw,jaj];rfl
     obtain ⟨w0,hw0⟩ : ∃ w0,w0=w.alloc (.cells #[.int .i64 0,.int .i64 0,.slice none 0 0] 124):=⟨_,rfl⟩
     have g0:w.grownBy w0 none:=by rw [hw0];exact jab _ _
     have b0:=heap_alloc_new w (.cells #[.int .i64 0,.int .i64 0,.slice none 0 0] 124);rw [← hw0] at b0;have B0:=jac b0;have OO:=jac (jar ⟨#[70,108,111,111,114]⟩ w0 (hl.more g0));rw [e1] at OO;clear hl b0 e1;go_enter Tryz.func79,Tryz.ntmps79;go_wp2_with fail;rw [← hw0];clear hw0;refine OO.out.mono ?_;rintro e v0 ⟨rfl,h0⟩;go_wp2_with fail;refine (jau _ _ _ [] _ (Or.inl ⟨rfl,rfl⟩) (by decide)).mono ?_;rintro e w6 ⟨⟨a,n,c,rfl,ho,hat⟩,hg6⟩;have hlt:=(Array.getElem?_eq_some_iff.1 B0.out).1;have hsk:=h0.size
     have hne:(Value.slice a n c).ownBlock≠some w.heap.size:=fun hh=>by
      rcases hat _ hh with h | h
      ·cases h
      ·omega
     obtain ⟨b6,hX,hO,gX⟩:=jax (lo:=1) (hi:=1) g0 B0.out h0 (jae _) hg6 (fun g e=>by cases e) ho hne;obtain ⟨r0,r1,r2,f0,f1,f2⟩:=jam b6;have HX:=jac hX;have HO:=jac hO;have GX:=jac gX;clear hX hO gX b6 ho hg6 hne hat hlt hsk;go_wp2;refine bodyPost_ret (jas rfl _ _ w.heap.size rfl HX.out) rfl ?_;exact ⟨⟨_,_,_,rfl,HO.out⟩,GX.out⟩
theorem joE (w:World) (hl:Laid w) :
    Calls Tryz.prog 79 #[.string ⟨#[69,120,112]⟩] w fun e w'=>ja8 (some (1,1,[jat])) w' e∧w.grownBy w' none:=by
     have e1:jaw ⟨#[69,120,112]⟩=true:=by simp only [jaw,jaj];rfl
     obtain ⟨w0,hw0⟩ : ∃ w0,w0=w.alloc (.cells #[.int .i64 0,.int .i64 0,.slice none 0 0] 124):=⟨_,rfl⟩
     have g0:w.grownBy w0 none:=by rw [hw0];exact jab _ _
     have b0:=heap_alloc_new w (.cells #[.int .i64 0,.int .i64 0,.slice none 0 0] 124);rw [← hw0] at b0;have B0:=jac b0;have OO:=jac (jar ⟨#[69,120,112]⟩ w0 (hl.more g0));rw [e1] at OO;clear hl b0 e1;go_enter Tryz.func79,Tryz.ntmps79;go_wp2_with fail;rw [← hw0];clear hw0;refine OO.out.mono ?_;rintro e v0 ⟨rfl,h0⟩;go_wp2_with fail;refine (jau _ _ _ [] _ (Or.inl ⟨rfl,rfl⟩) (by decide)).mono ?_;rintro e w6 ⟨⟨a,n,c,rfl,ho,hat⟩,hg6⟩;have hlt:=(Array.getElem?_eq_some_iff.1 B0.out).1;have hsk:=h0.size
     have hne:(Value.slice a n c).ownBlock≠some w.heap.size:=fun hh=>by
      rcases hat _ hh with h | h
      ·cases h
      ·omega
     obtain ⟨b6,hX,hO,gX⟩:=jax (lo:=1) (hi:=1) g0 B0.out h0 (jae _) hg6 (fun g e=>by cases e) ho hne;obtain ⟨r0,r1,r2,f0,f1,f2⟩:=jam b6;have HX:=jac hX;have HO:=jac hO;have GX:=jac gX;clear hX hO gX b6 ho hg6 hne hat hlt hsk;go_wp2;refine bodyPost_ret (jas rfl _ _ w.heap.size rfl HX.out) rfl ?_;exact ⟨⟨_,_,_,rfl,HO.out⟩,GX.out⟩
theorem jhz (w:World) (hl:Laid w) :
    Calls Tryz.prog 79 #[.string ⟨#[83,105,103,109,111,105,100]⟩] w fun e w'=>ja8 (some (1,1,[jat])) w' e∧w.grownBy w' none:=by
     have e1:jaw ⟨#[83,105,103,109,111,105,100]⟩=true:=by simp only [jaw,jaj];rfl
     obtain ⟨w0,hw0⟩ : ∃ w0,w0=w.alloc (.cells #[.int .i64 0,.int .i64 0,.slice none 0 0] 124):=⟨_,rfl⟩
     have g0:w.grownBy w0 none:=by rw [hw0];exact jab _ _
     have b0:=heap_alloc_new w (.cells #[.int .i64 0,.int .i64 0,.slice none 0 0] 124);rw [← hw0] at b0;have B0:=jac b0;have OO:=jac (jar ⟨#[83,105,103,109,111,105,100]⟩ w0 (hl.more g0));rw [e1] at OO;clear hl b0 e1;go_enter Tryz.func79,Tryz.ntmps79;go_wp2_with fail;rw [← hw0];clear hw0;refine OO.out.mono ?_;rintro e v0 ⟨rfl,h0⟩;go_wp2_with fail;refine (jau _ _ _ [] _ (Or.inl ⟨rfl,rfl⟩) (by decide)).mono ?_;rintro e w6 ⟨⟨a,n,c,rfl,ho,hat⟩,hg6⟩;have hlt:=(Array.getElem?_eq_some_iff.1 B0.out).1;have hsk:=h0.size
     have hne:(Value.slice a n c).ownBlock≠some w.heap.size:=fun hh=>by
      rcases hat _ hh with h | h
      ·cases h
      ·omega
     obtain ⟨b6,hX,hO,gX⟩:=jax (lo:=1) (hi:=1) g0 B0.out h0 (jae _) hg6 (fun g e=>by cases e) ho hne;obtain ⟨r0,r1,r2,f0,f1,f2⟩:=jam b6;have HX:=jac hX;have HO:=jac hO;have GX:=jac gX;clear hX hO gX b6 ho hg6 hne hat hlt hsk;go_wp2;refine bodyPost_ret (jas rfl _ _ w.heap.size rfl HX.out) rfl ?_;exact ⟨⟨_,_,_,rfl,HO.out⟩,GX.out⟩
theorem jlU (w:World) (hl:Laid w) :
    Calls Tryz.prog 79 #[.string ⟨#[84,97,110,104]⟩] w fun e w'=>ja8 (some (1,1,[jat])) w' e∧w.grownBy w' none:=by
     have e1:jaw ⟨#[84,97,110,104]⟩=true:=by simp only [jaw,jaj];rfl
     obtain ⟨w0,hw0⟩ : ∃ w0,w0=w.alloc (.cells #[.int .i64 0,.int .i64 0,.slice none 0 0] 124):=⟨_,rfl⟩
     have g0:w.grownBy w0 none:=by rw [hw0];exact jab _ _
     have b0:=heap_alloc_new w (.cells #[.int .i64 0,.int .i64 0,.slice none 0 0] 124);rw [← hw0] at b0;have B0:=jac b0;have OO:=jac (jar ⟨#[84,97,110,104]⟩ w0 (hl.more g0));rw [e1] at OO;clear hl b0 e1;go_enter Tryz.func79,Tryz.ntmps79;go_wp2_with fail;rw [← hw0];clear hw0;refine OO.out.mono ?_;rintro e v0 ⟨rfl,h0⟩;go_wp2_with fail;refine (jau _ _ _ [] _ (Or.inl ⟨rfl,rfl⟩) (by decide)).mono ?_;rintro e w6 ⟨⟨a,n,c,rfl,ho,hat⟩,hg6⟩;have hlt:=(Array.getElem?_eq_some_iff.1 B0.out).1;have hsk:=h0.size
     have hne:(Value.slice a n c).ownBlock≠some w.heap.size:=fun hh=>by
      rcases hat _ hh with h | h
      ·cases h
      ·omega
     obtain ⟨b6,hX,hO,gX⟩:=jax (lo:=1) (hi:=1) g0 B0.out h0 (jae _) hg6 (fun g e=>by cases e) ho hne;obtain ⟨r0,r1,r2,f0,f1,f2⟩:=jam b6;have HX:=jac hX;have HO:=jac hO;have GX:=jac gX;clear hX hO gX b6 ho hg6 hne hat hlt hsk;go_wp2;refine bodyPost_ret (jas rfl _ _ w.heap.size rfl HX.out) rfl ?_;exact ⟨⟨_,_,_,rfl,HO.out⟩,GX.out⟩
theorem joF (w:World) (hl:Laid w) :
    Calls Tryz.prog 79 #[.string ⟨#[83,117,98]⟩] w fun e w'=>ja8 (some (2,2,[jat])) w' e∧w.grownBy w' none:=by
     have e1:jaw ⟨#[83,117,98]⟩=false:=by simp only [jaw,jaj];rfl
     obtain ⟨w0,hw0⟩ : ∃ w0,w0=w.alloc (.cells #[.int .i64 0,.int .i64 0,.slice none 0 0] 124):=⟨_,rfl⟩
     have g0:w.grownBy w0 none:=by rw [hw0];exact jab _ _
     have b0:=heap_alloc_new w (.cells #[.int .i64 0,.int .i64 0,.slice none 0 0] 124);rw [← hw0] at b0;have B0:=jac b0;have OO:=jac (jar ⟨#[83,117,98]⟩ w0 (hl.more g0));rw [e1] at OO;clear hl b0 e1;go_enter Tryz.func79,Tryz.ntmps79;go_wp2_with fail;rw [← hw0];clear hw0;refine OO.out.mono ?_;rintro e v0 ⟨rfl,h0⟩;go_wp2_with fail;refine (jau _ _ _ [] _ (Or.inl ⟨rfl,rfl⟩) (by decide)).mono ?_;rintro e w6 ⟨⟨a,n,c,rfl,ho,hat⟩,hg6⟩;have hlt:=(Array.getElem?_eq_some_iff.1 B0.out).1;have hsk:=h0.size
     have hne:(Value.slice a n c).ownBlock≠some w.heap.size:=fun hh=>by
      rcases hat _ hh with h | h
      ·cases h
      ·omega
     obtain ⟨b6,hX,hO,gX⟩:=jax (lo:=2) (hi:=2) g0 B0.out h0 (jae _) hg6 (fun g e=>by cases e) ho hne;obtain ⟨r0,r1,r2,f0,f1,f2⟩:=jam b6;have HX:=jac hX;have HO:=jac hO;have GX:=jac gX;clear hX hO gX b6 ho hg6 hne hat hlt hsk;go_wp2;refine bodyPost_ret (jas rfl _ _ w.heap.size rfl HX.out) rfl ?_;exact ⟨⟨_,_,_,rfl,HO.out⟩,GX.out⟩
theorem joG (w:World) (hl:Laid w) :
    Calls Tryz.prog 79 #[.string ⟨#[77,117,108]⟩] w fun e w'=>ja8 (some (2,2,[jat])) w' e∧w.grownBy w' none:=by
     have e1:jaw ⟨#[77,117,108]⟩=false:=by simp only [jaw,jaj];rfl
     obtain ⟨w0,hw0⟩ : ∃ w0,w0=w.alloc (.cells #[.int .i64 0,.int .i64 0,.slice none 0 0] 124):=⟨_,rfl⟩
     have g0:w.grownBy w0 none:=by rw [hw0];exact jab _ _
     have b0:=heap_alloc_new w (.cells #[.int .i64 0,.int .i64 0,.slice none 0 0] 124);rw [← hw0] at b0;have B0:=jac b0;have OO:=jac (jar ⟨#[77,117,108]⟩ w0 (hl.more g0));rw [e1] at OO;clear hl b0 e1;go_enter Tryz.func79,Tryz.ntmps79;go_wp2_with fail;rw [← hw0];clear hw0;refine OO.out.mono ?_;rintro e v0 ⟨rfl,h0⟩;go_wp2_with fail;refine (jau _ _ _ [] _ (Or.inl ⟨rfl,rfl⟩) (by decide)).mono ?_;rintro e w6 ⟨⟨a,n,c,rfl,ho,hat⟩,hg6⟩;have hlt:=(Array.getElem?_eq_some_iff.1 B0.out).1;have hsk:=h0.size
     have hne:(Value.slice a n c).ownBlock≠some w.heap.size:=fun hh=>by
      rcases hat _ hh with h | h
      ·cases h
      ·omega
     obtain ⟨b6,hX,hO,gX⟩:=jax (lo:=2) (hi:=2) g0 B0.out h0 (jae _) hg6 (fun g e=>by cases e) ho hne;obtain ⟨r0,r1,r2,f0,f1,f2⟩:=jam b6;have HX:=jac hX;have HO:=jac hO;have GX:=jac gX;clear hX hO gX b6 ho hg6 hne hat hlt hsk;go_wp2;refine bodyPost_ret (jas rfl _ _ w.heap.size rfl HX.out) rfl ?_;exact ⟨⟨_,_,_,rfl,HO.out⟩,GX.out⟩
theorem joH (w:World) (hl:Laid w) :
    Calls Tryz.prog 79 #[.string ⟨#[68,105,118]⟩] w fun e w'=>ja8 (some (2,2,[jat])) w' e∧w.grownBy w' none:=by
     have e1:jaw ⟨#[68,105,118]⟩=false:=by simp only [jaw,jaj];rfl
     obtain ⟨w0,hw0⟩ : ∃ w0,w0=w.alloc (.cells #[.int .i64 0,.int .i64 0,.slice none 0 0] 124):=⟨_,rfl⟩
     have g0:w.grownBy w0 none:=by rw [hw0];exact jab _ _
     have b0:=heap_alloc_new w (.cells #[.int .i64 0,.int .i64 0,.slice none 0 0] 124);rw [← hw0] at b0;have B0:=jac b0;have OO:=jac (jar ⟨#[68,105,118]⟩ w0 (hl.more g0));rw [e1] at OO;clear hl b0 e1;go_enter Tryz.func79,Tryz.ntmps79;go_wp2_with fail;rw [← hw0];clear hw0;refine OO.out.mono ?_;rintro e v0 ⟨rfl,h0⟩;go_wp2_with fail;refine (jau _ _ _ [] _ (Or.inl ⟨rfl,rfl⟩) (by decide)).mono ?_;rintro e w6 ⟨⟨a,n,c,rfl,ho,hat⟩,hg6⟩;have hlt:=(Array.getElem?_eq_some_iff.1 B0.out).1;have hsk:=h0.size
     have hne:(Value.slice a n c).ownBlock≠some w.heap.size:=fun hh=>by
      rcases hat _ hh with h | h
      ·cases h
      ·omega
     obtain ⟨b6,hX,hO,gX⟩:=jax (lo:=2) (hi:=2) g0 B0.out h0 (jae _) hg6 (fun g e=>by cases e) ho hne;obtain ⟨r0,r1,r2,f0,f1,f2⟩:=jam b6;have HX:=jac hX;have HO:=jac hO;have GX:=jac gX;clear hX hO gX b6 ho hg6 hne hat hlt hsk;go_wp2;refine bodyPost_ret (jas rfl _ _ w.heap.size rfl HX.out) rfl ?_;exact ⟨⟨_,_,_,rfl,HO.out⟩,GX.out⟩
theorem joI (w:World) (hl:Laid w) :
    Calls Tryz.prog 79 #[.string ⟨#[77,97,120]⟩] w fun e w'=>ja8 (some (2,2,[jat])) w' e∧w.grownBy w' none:=by
     have e1:jaw ⟨#[77,97,120]⟩=false:=by simp only [jaw,jaj];rfl
     obtain ⟨w0,hw0⟩ : ∃ w0,w0=w.alloc (.cells #[.int .i64 0,.int .i64 0,.slice none 0 0] 124):=⟨_,rfl⟩
     have g0:w.grownBy w0 none:=by rw [hw0];exact jab _ _
     have b0:=heap_alloc_new w (.cells #[.int .i64 0,.int .i64 0,.slice none 0 0] 124);rw [← hw0] at b0;have B0:=jac b0;have OO:=jac (jar ⟨#[77,97,120]⟩ w0 (hl.more g0));rw [e1] at OO;clear hl b0 e1;go_enter Tryz.func79,Tryz.ntmps79;go_wp2_with fail;rw [← hw0];clear hw0;refine OO.out.mono ?_;rintro e v0 ⟨rfl,h0⟩;go_wp2_with fail;refine (jau _ _ _ [] _ (Or.inl ⟨rfl,rfl⟩) (by decide)).mono ?_;rintro e w6 ⟨⟨a,n,c,rfl,ho,hat⟩,hg6⟩;have hlt:=(Array.getElem?_eq_some_iff.1 B0.out).1;have hsk:=h0.size
     have hne:(Value.slice a n c).ownBlock≠some w.heap.size:=fun hh=>by
      rcases hat _ hh with h | h
      ·cases h
      ·omega
     obtain ⟨b6,hX,hO,gX⟩:=jax (lo:=2) (hi:=2) g0 B0.out h0 (jae _) hg6 (fun g e=>by cases e) ho hne;obtain ⟨r0,r1,r2,f0,f1,f2⟩:=jam b6;have HX:=jac hX;have HO:=jac hO;have GX:=jac gX;clear hX hO gX b6 ho hg6 hne hat hlt hsk;go_wp2;refine bodyPost_ret (jas rfl _ _ w.heap.size rfl HX.out) rfl ?_;exact ⟨⟨_,_,_,rfl,HO.out⟩,GX.out⟩
theorem joJ (w:World) (hl:Laid w) :
    Calls Tryz.prog 79 #[.string ⟨#[77,105,110]⟩] w fun e w'=>ja8 (some (2,2,[jat])) w' e∧w.grownBy w' none:=by
     have e1:jaw ⟨#[77,105,110]⟩=false:=by simp only [jaw,jaj];rfl
     obtain ⟨w0,hw0⟩ : ∃ w0,w0=w.alloc (.cells #[.int .i64 0,.int .i64 0,.slice none 0 0] 124):=⟨_,rfl⟩
     have g0:w.grownBy w0 none:=by rw [hw0];exact jab _ _
     have b0:=heap_alloc_new w (.cells #[.int .i64 0,.int .i64 0,.slice none 0 0] 124);rw [← hw0] at b0;have B0:=jac b0;have OO:=jac (jar ⟨#[77,105,110]⟩ w0 (hl.more g0));rw [e1] at OO;clear hl b0 e1;go_enter Tryz.func79,Tryz.ntmps79;go_wp2_with fail;rw [← hw0];clear hw0;refine OO.out.mono ?_;rintro e v0 ⟨rfl,h0⟩;go_wp2_with fail;refine (jau _ _ _ [] _ (Or.inl ⟨rfl,rfl⟩) (by decide)).mono ?_;rintro e w6 ⟨⟨a,n,c,rfl,ho,hat⟩,hg6⟩;have hlt:=(Array.getElem?_eq_some_iff.1 B0.out).1;have hsk:=h0.size
     have hne:(Value.slice a n c).ownBlock≠some w.heap.size:=fun hh=>by
      rcases hat _ hh with h | h
      ·cases h
      ·omega
     obtain ⟨b6,hX,hO,gX⟩:=jax (lo:=2) (hi:=2) g0 B0.out h0 (jae _) hg6 (fun g e=>by cases e) ho hne;obtain ⟨r0,r1,r2,f0,f1,f2⟩:=jam b6;have HX:=jac hX;have HO:=jac hO;have GX:=jac gX;clear hX hO gX b6 ho hg6 hne hat hlt hsk;go_wp2;refine bodyPost_ret (jas rfl _ _ w.heap.size rfl HX.out) rfl ?_;exact ⟨⟨_,_,_,rfl,HO.out⟩,GX.out⟩
theorem joK (w:World) (hl:Laid w) :
    Calls Tryz.prog 79 #[.string ⟨#[65,110,100]⟩] w fun e w'=>ja8 (some (2,2,[jat])) w' e∧w.grownBy w' none:=by
     have e1:jaw ⟨#[65,110,100]⟩=false:=by simp only [jaw,jaj];rfl
     obtain ⟨w0,hw0⟩ : ∃ w0,w0=w.alloc (.cells #[.int .i64 0,.int .i64 0,.slice none 0 0] 124):=⟨_,rfl⟩
     have g0:w.grownBy w0 none:=by rw [hw0];exact jab _ _
     have b0:=heap_alloc_new w (.cells #[.int .i64 0,.int .i64 0,.slice none 0 0] 124);rw [← hw0] at b0;have B0:=jac b0;have OO:=jac (jar ⟨#[65,110,100]⟩ w0 (hl.more g0));rw [e1] at OO;clear hl b0 e1;go_enter Tryz.func79,Tryz.ntmps79;go_wp2_with fail;rw [← hw0];clear hw0;refine OO.out.mono ?_;rintro e v0 ⟨rfl,h0⟩;go_wp2_with fail;refine (jau _ _ _ [] _ (Or.inl ⟨rfl,rfl⟩) (by decide)).mono ?_;rintro e w6 ⟨⟨a,n,c,rfl,ho,hat⟩,hg6⟩;have hlt:=(Array.getElem?_eq_some_iff.1 B0.out).1;have hsk:=h0.size
     have hne:(Value.slice a n c).ownBlock≠some w.heap.size:=fun hh=>by
      rcases hat _ hh with h | h
      ·cases h
      ·omega
     obtain ⟨b6,hX,hO,gX⟩:=jax (lo:=2) (hi:=2) g0 B0.out h0 (jae _) hg6 (fun g e=>by cases e) ho hne;obtain ⟨r0,r1,r2,f0,f1,f2⟩:=jam b6;have HX:=jac hX;have HO:=jac hO;have GX:=jac gX;clear hX hO gX b6 ho hg6 hne hat hlt hsk;go_wp2;refine bodyPost_ret (jas rfl _ _ w.heap.size rfl HX.out) rfl ?_;exact ⟨⟨_,_,_,rfl,HO.out⟩,GX.out⟩
theorem jqN (w:World) (hl:Laid w) :
    Calls Tryz.prog 79 #[.string ⟨#[79,114]⟩] w fun e w'=>ja8 (some (2,2,[jat])) w' e∧w.grownBy w' none:=by
     have e1:jaw ⟨#[79,114]⟩=false:=by simp only [jaw,jaj];rfl
     obtain ⟨w0,hw0⟩ : ∃ w0,w0=w.alloc (.cells #[.int .i64 0,.int .i64 0,.slice none 0 0] 124):=⟨_,rfl⟩
     have g0:w.grownBy w0 none:=by rw [hw0];exact jab _ _
     have b0:=heap_alloc_new w (.cells #[.int .i64 0,.int .i64 0,.slice none 0 0] 124);rw [← hw0] at b0;have B0:=jac b0;have OO:=jac (jar ⟨#[79,114]⟩ w0 (hl.more g0));rw [e1] at OO;clear hl b0 e1;go_enter Tryz.func79,Tryz.ntmps79;go_wp2_with fail;rw [← hw0];clear hw0;refine OO.out.mono ?_;rintro e v0 ⟨rfl,h0⟩;go_wp2_with fail;refine (jau _ _ _ [] _ (Or.inl ⟨rfl,rfl⟩) (by decide)).mono ?_;rintro e w6 ⟨⟨a,n,c,rfl,ho,hat⟩,hg6⟩;have hlt:=(Array.getElem?_eq_some_iff.1 B0.out).1;have hsk:=h0.size
     have hne:(Value.slice a n c).ownBlock≠some w.heap.size:=fun hh=>by
      rcases hat _ hh with h | h
      ·cases h
      ·omega
     obtain ⟨b6,hX,hO,gX⟩:=jax (lo:=2) (hi:=2) g0 B0.out h0 (jae _) hg6 (fun g e=>by cases e) ho hne;obtain ⟨r0,r1,r2,f0,f1,f2⟩:=jam b6;have HX:=jac hX;have HO:=jac hO;have GX:=jac gX;clear hX hO gX b6 ho hg6 hne hat hlt hsk;go_wp2;refine bodyPost_ret (jas rfl _ _ w.heap.size rfl HX.out) rfl ?_;exact ⟨⟨_,_,_,rfl,HO.out⟩,GX.out⟩
theorem joL (w:World) (hl:Laid w) :
    Calls Tryz.prog 79 #[.string ⟨#[88,111,114]⟩] w fun e w'=>ja8 (some (2,2,[jat])) w' e∧w.grownBy w' none:=by
     have e1:jaw ⟨#[88,111,114]⟩=false:=by simp only [jaw,jaj];rfl
     obtain ⟨w0,hw0⟩ : ∃ w0,w0=w.alloc (.cells #[.int .i64 0,.int .i64 0,.slice none 0 0] 124):=⟨_,rfl⟩
     have g0:w.grownBy w0 none:=by rw [hw0];exact jab _ _
     have b0:=heap_alloc_new w (.cells #[.int .i64 0,.int .i64 0,.slice none 0 0] 124);rw [← hw0] at b0;have B0:=jac b0;have OO:=jac (jar ⟨#[88,111,114]⟩ w0 (hl.more g0));rw [e1] at OO;clear hl b0 e1;go_enter Tryz.func79,Tryz.ntmps79;go_wp2_with fail;rw [← hw0];clear hw0;refine OO.out.mono ?_;rintro e v0 ⟨rfl,h0⟩;go_wp2_with fail;refine (jau _ _ _ [] _ (Or.inl ⟨rfl,rfl⟩) (by decide)).mono ?_;rintro e w6 ⟨⟨a,n,c,rfl,ho,hat⟩,hg6⟩;have hlt:=(Array.getElem?_eq_some_iff.1 B0.out).1;have hsk:=h0.size
     have hne:(Value.slice a n c).ownBlock≠some w.heap.size:=fun hh=>by
      rcases hat _ hh with h | h
      ·cases h
      ·omega
     obtain ⟨b6,hX,hO,gX⟩:=jax (lo:=2) (hi:=2) g0 B0.out h0 (jae _) hg6 (fun g e=>by cases e) ho hne;obtain ⟨r0,r1,r2,f0,f1,f2⟩:=jam b6;have HX:=jac hX;have HO:=jac hO;have GX:=jac gX;clear hX hO gX b6 ho hg6 hne hat hlt hsk;go_wp2;refine bodyPost_ret (jas rfl _ _ w.heap.size rfl HX.out) rfl ?_;exact ⟨⟨_,_,_,rfl,HO.out⟩,GX.out⟩
theorem jkp (w:World) (hl:Laid w) :
    Calls Tryz.prog 79 #[.string ⟨#[69,113,117,97,108]⟩] w fun e w'=>ja8 (some (2,2,[jat])) w' e∧w.grownBy w' none:=by
     have e1:jaw ⟨#[69,113,117,97,108]⟩=false:=by simp only [jaw,jaj];rfl
     obtain ⟨w0,hw0⟩ : ∃ w0,w0=w.alloc (.cells #[.int .i64 0,.int .i64 0,.slice none 0 0] 124):=⟨_,rfl⟩
     have g0:w.grownBy w0 none:=by rw [hw0];exact jab _ _
     have b0:=heap_alloc_new w (.cells #[.int .i64 0,.int .i64 0,.slice none 0 0] 124);rw [← hw0] at b0;have B0:=jac b0;have OO:=jac (jar ⟨#[69,113,117,97,108]⟩ w0 (hl.more g0));rw [e1] at OO;clear hl b0 e1;go_enter Tryz.func79,Tryz.ntmps79;go_wp2_with fail;rw [← hw0];clear hw0;refine OO.out.mono ?_;rintro e v0 ⟨rfl,h0⟩;go_wp2_with fail;refine (jau _ _ _ [] _ (Or.inl ⟨rfl,rfl⟩) (by decide)).mono ?_;rintro e w6 ⟨⟨a,n,c,rfl,ho,hat⟩,hg6⟩;have hlt:=(Array.getElem?_eq_some_iff.1 B0.out).1;have hsk:=h0.size
     have hne:(Value.slice a n c).ownBlock≠some w.heap.size:=fun hh=>by
      rcases hat _ hh with h | h
      ·cases h
      ·omega
     obtain ⟨b6,hX,hO,gX⟩:=jax (lo:=2) (hi:=2) g0 B0.out h0 (jae _) hg6 (fun g e=>by cases e) ho hne;obtain ⟨r0,r1,r2,f0,f1,f2⟩:=jam b6;have HX:=jac hX;have HO:=jac hO;have GX:=jac gX;clear hX hO gX b6 ho hg6 hne hat hlt hsk;go_wp2;refine bodyPost_ret (jas rfl _ _ w.heap.size rfl HX.out) rfl ?_;exact ⟨⟨_,_,_,rfl,HO.out⟩,GX.out⟩
theorem jlV (w:World) (hl:Laid w) :
    Calls Tryz.prog 79 #[.string ⟨#[76,101,115,115]⟩] w fun e w'=>ja8 (some (2,2,[jat])) w' e∧w.grownBy w' none:=by
     have e1:jaw ⟨#[76,101,115,115]⟩=false:=by simp only [jaw,jaj];rfl
     obtain ⟨w0,hw0⟩ : ∃ w0,w0=w.alloc (.cells #[.int .i64 0,.int .i64 0,.slice none 0 0] 124):=⟨_,rfl⟩
     have g0:w.grownBy w0 none:=by rw [hw0];exact jab _ _
     have b0:=heap_alloc_new w (.cells #[.int .i64 0,.int .i64 0,.slice none 0 0] 124);rw [← hw0] at b0;have B0:=jac b0;have OO:=jac (jar ⟨#[76,101,115,115]⟩ w0 (hl.more g0));rw [e1] at OO;clear hl b0 e1;go_enter Tryz.func79,Tryz.ntmps79;go_wp2_with fail;rw [← hw0];clear hw0;refine OO.out.mono ?_;rintro e v0 ⟨rfl,h0⟩;go_wp2_with fail;refine (jau _ _ _ [] _ (Or.inl ⟨rfl,rfl⟩) (by decide)).mono ?_;rintro e w6 ⟨⟨a,n,c,rfl,ho,hat⟩,hg6⟩;have hlt:=(Array.getElem?_eq_some_iff.1 B0.out).1;have hsk:=h0.size
     have hne:(Value.slice a n c).ownBlock≠some w.heap.size:=fun hh=>by
      rcases hat _ hh with h | h
      ·cases h
      ·omega
     obtain ⟨b6,hX,hO,gX⟩:=jax (lo:=2) (hi:=2) g0 B0.out h0 (jae _) hg6 (fun g e=>by cases e) ho hne;obtain ⟨r0,r1,r2,f0,f1,f2⟩:=jam b6;have HX:=jac hX;have HO:=jac hO;have GX:=jac gX;clear hX hO gX b6 ho hg6 hne hat hlt hsk;go_wp2;refine bodyPost_ret (jas rfl _ _ w.heap.size rfl HX.out) rfl ?_;exact ⟨⟨_,_,_,rfl,HO.out⟩,GX.out⟩
theorem jhA (w:World) (hl:Laid w) :
    Calls Tryz.prog 79 #[.string ⟨#[71,114,101,97,116,101,114]⟩] w fun e w'=>ja8 (some (2,2,[jat])) w' e∧w.grownBy w' none:=by
     have e1:jaw ⟨#[71,114,101,97,116,101,114]⟩=false:=by simp only [jaw,jaj];rfl
     obtain ⟨w0,hw0⟩ : ∃ w0,w0=w.alloc (.cells #[.int .i64 0,.int .i64 0,.slice none 0 0] 124):=⟨_,rfl⟩
     have g0:w.grownBy w0 none:=by rw [hw0];exact jab _ _
     have b0:=heap_alloc_new w (.cells #[.int .i64 0,.int .i64 0,.slice none 0 0] 124);rw [← hw0] at b0;have B0:=jac b0;have OO:=jac (jar ⟨#[71,114,101,97,116,101,114]⟩ w0 (hl.more g0));rw [e1] at OO;clear hl b0 e1;go_enter Tryz.func79,Tryz.ntmps79;go_wp2_with fail;rw [← hw0];clear hw0;refine OO.out.mono ?_;rintro e v0 ⟨rfl,h0⟩;go_wp2_with fail;refine (jau _ _ _ [] _ (Or.inl ⟨rfl,rfl⟩) (by decide)).mono ?_;rintro e w6 ⟨⟨a,n,c,rfl,ho,hat⟩,hg6⟩;have hlt:=(Array.getElem?_eq_some_iff.1 B0.out).1;have hsk:=h0.size
     have hne:(Value.slice a n c).ownBlock≠some w.heap.size:=fun hh=>by
      rcases hat _ hh with h | h
      ·cases h
      ·omega
     obtain ⟨b6,hX,hO,gX⟩:=jax (lo:=2) (hi:=2) g0 B0.out h0 (jae _) hg6 (fun g e=>by cases e) ho hne;obtain ⟨r0,r1,r2,f0,f1,f2⟩:=jam b6;have HX:=jac hX;have HO:=jac hO;have GX:=jac gX;clear hX hO gX b6 ho hg6 hne hat hlt hsk;go_wp2;refine bodyPost_ret (jas rfl _ _ w.heap.size rfl HX.out) rfl ?_;exact ⟨⟨_,_,_,rfl,HO.out⟩,GX.out⟩
theorem jiF (w:World) (hl:Laid w) :
    Calls Tryz.prog 79 #[.string ⟨#[77,97,116,77,117,108]⟩] w fun e w'=>ja8 (some (2,2,[jat])) w' e∧w.grownBy w' none:=by
     have e1:jaw ⟨#[77,97,116,77,117,108]⟩=false:=by simp only [jaw,jaj];rfl
     obtain ⟨w0,hw0⟩ : ∃ w0,w0=w.alloc (.cells #[.int .i64 0,.int .i64 0,.slice none 0 0] 124):=⟨_,rfl⟩
     have g0:w.grownBy w0 none:=by rw [hw0];exact jab _ _
     have b0:=heap_alloc_new w (.cells #[.int .i64 0,.int .i64 0,.slice none 0 0] 124);rw [← hw0] at b0;have B0:=jac b0;have OO:=jac (jar ⟨#[77,97,116,77,117,108]⟩ w0 (hl.more g0));rw [e1] at OO;clear hl b0 e1;go_enter Tryz.func79,Tryz.ntmps79;go_wp2_with fail;rw [← hw0];clear hw0;refine OO.out.mono ?_;rintro e v0 ⟨rfl,h0⟩;go_wp2_with fail;refine (jau _ _ _ [] _ (Or.inl ⟨rfl,rfl⟩) (by decide)).mono ?_;rintro e w6 ⟨⟨a,n,c,rfl,ho,hat⟩,hg6⟩;have hlt:=(Array.getElem?_eq_some_iff.1 B0.out).1;have hsk:=h0.size
     have hne:(Value.slice a n c).ownBlock≠some w.heap.size:=fun hh=>by
      rcases hat _ hh with h | h
      ·cases h
      ·omega
     obtain ⟨b6,hX,hO,gX⟩:=jax (lo:=2) (hi:=2) g0 B0.out h0 (jae _) hg6 (fun g e=>by cases e) ho hne;obtain ⟨r0,r1,r2,f0,f1,f2⟩:=jam b6;have HX:=jac hX;have HO:=jac hO;have GX:=jac gX;clear hX hO gX b6 ho hg6 hne hat hlt hsk;go_wp2;refine bodyPost_ret (jas rfl _ _ w.heap.size rfl HX.out) rfl ?_;exact ⟨⟨_,_,_,rfl,HO.out⟩,GX.out⟩
end Go.Proofs.YtanpkdkenifmbaaGreatDoor
