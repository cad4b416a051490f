/- A part. -/
import Derived.Test.YtanpkdkenifmbaaGreatDoorUartBS
import Derived.Test.YtanpkdkenifmbaaGreatDoorUartBM
import Derived.Test.YtanpkdkenifmbaaGreatDoorUartAV
import Derived.Test.YtanpkdkenifmbaaGreatDoorUartBT
set_option maxHeartbeats 16000000
set_option maxRecDepth 100000
namespace Go.Proofs.YtanpkdkenifmbaaGreatDoor
open Go.RowKit
theorem jjt (n:Nod) (ins:List ByteArray) (A:At) (u:Sl) (ps:List (Ten×Tq)) (w:World) (hl:Laid w) (hn:NodeAll w n ins A) (_hf:A.xs.length≤1048576) (_hi:ins.length≤1048576) (hv:TensIn w u.v ps) (_hvl:ps.length≤1048576) :
    Calls Tryz.prog 3 #[jaA n,.slice u.a u.n u.c] w fun e w'=>e=.returned (.bool true)∧Below w.heap.size w w':=by
     have LV:=jac (fun (wx:World) (hx:w.grownBy wx none)=>jlt wx (hl.more hx));have OO:=jac (fun (wx:World) (hx:w.grownBy wx none)=>fun (h6:ps.length≤6)=>(fun (c0:n.op≠⟨#[67,111,110,115,116,97,110,116]⟩) (c8:n.op≠⟨#[80,97,100]⟩)=>jp6 n ins A u ps wx (hl.more hx) (hn.more hx) (hv.more hx) (by omega) c0 c8));have SM:=jac (fun (wx:World) (hx:w.grownBy wx none)=>jjm u _ wx (hv.more hx));obtain ⟨R0,hR0⟩ : ∃ R0,R0=jdJ ps (jly n ins A (ps.map tvM)):=⟨_,rfl⟩
     rw [← hR0] at OO;clear hR0;obtain ⟨w0,hw0⟩ : ∃ w0,w0=w.alloc (.cells #[.string n.op,.string n.name,.slice n.iv.a n.iv.n n.iv.c,.string n.out,.slice n.av.a n.av.n n.av.c] 25):=⟨_,rfl⟩
     have g0:Hid (w.grownBy w0 none):=by show w.grownBy w0 none;rw [hw0];exact jab _ _
     have hb0:=heap_alloc_new w (.cells #[.string n.op,.string n.name,.slice n.iv.a n.iv.n n.iv.c,.string n.out,.slice n.av.a n.av.n n.av.c] 25);rw [← hw0] at hb0;have BX:Hid (∀ wx,w0.grownBy wx none→wx.heap[w.heap.size]?=some (.cells #[.string n.op,.string n.name,.slice n.iv.a n.iv.n n.iv.c,.string n.out,.slice n.av.a n.av.n n.av.c] 25 (0,0))):=fun wx hg=>jag hb0 hg;have HV:=jac hv;have BX0:=jac (fun (wx:World) (hx:w.grownBy wx none)=>hv.more hx);clear hb0 hl hn hv;have SA:=jac (fun (wx:World)=>jgv 0 (.slice none 0 0) (.slice none 0 0) (.slice none 0 0) (.slice none 0 0) [] [] wx (jbg wx 0).ints (jbg wx 0).ints (jbg wx 0).ints (jbg wx 0).ints);obtain ⟨ua,un,uc⟩:=u;obtain ⟨op,nam,⟨ia,il,ic⟩,out,⟨ao,al,cap⟩⟩:=n;unfold jaA at OO ⊢;simp only at OO SM BX hw0 ⊢;have S1:=jac (SM.out w0 g0.out);clear SM;go_enter Tryz.func3,Tryz.ntmps3;go_wp2_with fail;rw [← hw0];clear hw0;refine S1.out.mono ?_;rintro e w1 ⟨bs,rfl,h6,hgs⟩;have G1:=jac (jaa g0.out hgs);obtain ⟨n0,n1,n2,n3,n4⟩:=jai (n:=⟨op,nam,⟨ia,il,ic⟩,out,⟨ao,al,cap⟩⟩) (BX.out w1 hgs);simp only at n0 n1 n2 n3 n4;clear hgs S1
     cases bs with
     | false =>
      clear h6;go_wp2_with fail;refine (LV.out w1 G1.out).mono ?_;rintro e w2 ⟨rfl,hg2⟩;go_wp2;go_ret;exact ⟨rfl,jbL (jaa G1.out hg2)⟩
     | true =>
      have h6:=jac (h6 rfl)
      by_cases c0:op=⟨#[67,111,110,115,116,97,110,116]⟩
      ·subst c0;clear OO;go_wp2_with fail;refine (LV.out w1 G1.out).mono ?_;rintro e w2 ⟨rfl,hg2⟩;go_wp2;go_ret;exact ⟨rfl,jbL (jaa G1.out hg2)⟩
      by_cases c8:op=⟨#[80,97,100]⟩
      ·subst c8;clear OO;go_wp2_with fail;refine (LV.out w1 G1.out).mono ?_;rintro e w2 ⟨rfl,hg2⟩;go_wp2;go_ret;exact ⟨rfl,jbL (jaa G1.out hg2)⟩
      have O1:=jac (OO.out w1 G1.out h6.out c0 c8)
      have m0:(op.toList==([67,111,110,115,116,97,110,116]:List UInt8))=false:=by
       have:op.toList≠[67,111,110,115,116,97,110,116]:=fun e=>c0 (ByteArray.ext (Array.ext' (by rw [← e,jaj])));simpa using this
      have m8:(op.toList==([80,97,100]:List UInt8))=false:=by
       have:op.toList≠[80,97,100]:=fun e=>c8 (ByteArray.ext (Array.ext' (by rw [← e,jaj])));simpa using this
      clear OO c0 c8;go_wp2_with fail;refine O1.out.mono ?_;rintro e v1 ⟨hg1,hq⟩;have V1:=jac (jaa G1.out hg1);clear hg1 O1 n0 n1 n2 n3 n4
      rcases hq with ⟨c,hc,rfl⟩ | ⟨⟨ty,⟨da,dn,dc⟩,⟨ta,tn,tc⟩⟩,l,zs,-,rfl,hk,hd,ht⟩
      ·have hb:(c != 0)=true:=by simpa using hc
       clear hc;obtain ⟨W1,hW1⟩ : ∃ W1,W1=v1.alloc (.cells #[.int .i64 0,.slice none 0 0,.slice none 0 0] 32):=⟨_,rfl⟩
       have W1G:Hid (w.grownBy W1 none):=by show w.grownBy W1 none;rw [hW1];exact jaa V1.out (jab _ _)
       have GB1:=heap_alloc_new v1 (.cells #[.int .i64 0,.slice none 0 0,.slice none 0 0] 32);rw [← hW1] at GB1;have a0:=(cell_of_row _ _ 0 _ _ (0,0) GB1).trans rfl;have a1:=(cell_of_row _ _ 1 _ _ (0,0) GB1).trans rfl;have a2:=(cell_of_row _ _ 2 _ _ (0,0) GB1).trans rfl;clear GB1;go_wp2_with (first | (go_at_call 7;refine (SA.out _).mono ?_;rintro e w5 ⟨rfl,hg5⟩) | fail)
       have G5:Hid (w.grownBy w5 none):=by
        show w.grownBy w5 none
        first
         | exact jaa W1G.out hg5
         | (rw [← hW1] at hg5;exact jaa W1G.out hg5)
       clear hg5;refine (LV.out w5 G5.out).mono ?_;rintro e w6 ⟨rfl,hg6⟩;go_wp2;go_ret;exact ⟨rfl,jbL (jaa G5.out hg6)⟩
      ·unfold jjQ;simp only at hk hd ht ⊢;have KE:=jac hk;obtain ⟨_,_,et,-⟩:=ht.ints.sl;simp only [Sl.v,Value.slice.injEq] at et;obtain ⟨-,rfl,rfl⟩:=et;have DT:=jac ht.ints;have z5:=ht.ints.le;clear hk hd ht;obtain ⟨W1,hW1⟩ : ∃ W1,W1=v1.alloc (.cells #[.int .i64 ty,.slice da dn dc,.slice ta zs.length tc] 32):=⟨_,rfl⟩
       have W1G:Hid (w.grownBy W1 none):=by show w.grownBy W1 none;rw [hW1];exact jaa V1.out (jab _ _)
       have GB1:=heap_alloc_new v1 (.cells #[.int .i64 ty,.slice da dn dc,.slice ta zs.length tc] 32);have g1:v1.grownBy W1 none:=by rw [hW1];exact jab _ _
       rw [← hW1] at GB1;have BT:Hid (∀ wx,W1.grownBy wx none→wx.heap[v1.heap.size]?=some (.cells #[.int .i64 ty,.slice da dn dc,.slice ta zs.length tc] 32 (0,0))):=fun wx hg=>jag GB1 hg;have DT1:=jac (DT.out.more g1);obtain ⟨xa,xc,e1,p1,p2,p3⟩:=HV.out.vals.form;rw [List.length_map] at e1 p1 p3;simp only [Sl.v,Value.slice.injEq] at e1;obtain ⟨rfl,rfl,rfl⟩:=e1;clear GB1 g1 DT p1 p2 p3 V1 G1 h6;go_wp2_with fail;rw [← hW1];clear hW1;go_loopw [7] (fun i wr=>W1.grownBy wr none∧∃ m:Nat,m≤zs.length∧i=.int .i64 m) (fun i _=>zs.length - (intOf i).toNat)
       case atStart=>exact ⟨jae _,0,Nat.zero_le _,rfl⟩
       case round =>
        obtain ⟨hg,m,hm,rfl⟩:=hrel;have HG:=jac hg;obtain ⟨z0,z1,z2⟩:=jaK (BT.out wr hg)
        by_cases hlt:m<zs.length
        ·obtain ⟨tb,tf,rfl,hct⟩:=DT1.out.get (k:=m) hlt;have hlt':(m:Int)<(zs.length:Int):=by omega
         have CT:Hid (∀ wx,W1.grownBy wx none→wx.cell? ⟨tb,tf+m,none⟩=some (.int .i64 (zs.getD m 0))):=fun wx hx=>jad (hct m hlt) hx;have ZM:Hid (∃ p∈ps,zs.getD m 0∈p.2.2):=KE.out _ (by rw [List.getD,List.getElem?_eq_getElem hlt];exact List.getElem_mem hlt);obtain ⟨Z,hZ⟩ : ∃ Z,Z=zs.getD m 0:=⟨_,rfl⟩
         rw [← hZ] at CT ZM;clear hct hg hZ;go_wp2_with fail;go_loopw [8,9] (fun f k wr=>W1.grownBy wr none∧∃ (b:Bool) (q:Nat),q≤ps.length∧f=.bool b∧k=.int .i64 q∧(b=false→∀ p∈ps.take q,Z∉p.2.2)) (fun _ k _=>ps.length - (intOf k).toNat)
         case atStart=>exact ⟨HG.out,false,0,Nat.zero_le _,rfl,rfl,fun _ p hp=>by simp at hp⟩
         case round =>
          obtain ⟨hgq,b0,q,hq,rfl,rfl,hno⟩:=hrel;have HGQ:=jac hgq;have HNO:=jac hno;clear hno
          by_cases hql:q<ps.length
          ·obtain ⟨b,off,rfl⟩:=HV.out.vals.addr (k:=q) (by rw [List.length_map];exact hql);have hql':(q:Int)<(ps.length:Int):=by omega
           have AT:Hid (∀ wx,W1.grownBy wx none→_):=fun wx hx=>(BX0.out wx (jaa W1G.out hx)).at q hql
           have TK:Hid (ps.take (q+1)=ps.take q++[ps[q]]):=by
            show _=_;rw [List.take_add_one,List.getElem?_eq_getElem hql]
            rfl
           have XI:=jac ((BX0.out W1 W1G.out).has ps[q] (List.getElem_mem hql)).2;obtain ⟨p,hp⟩ : ∃ p,p=ps[q]:=⟨_,rfl⟩
           rw [← hp] at AT TK XI;obtain ⟨⟨ty',⟨xda,xdn,xdc⟩,⟨xta,xtn,xtc⟩⟩,⟨ds,xs⟩⟩:=p;simp only at AT TK XI;obtain ⟨_,_,ex,-⟩:=XI.out.sl;simp only [Sl.v,Value.slice.injEq] at ex;obtain ⟨-,rfl,rfl⟩:=ex;have x5:=XI.out.le;clear hp hgq;go_wp2_with fail;go_loopw [8,10] (fun f j wr=>W1.grownBy wr none∧∃ (b:Bool) (r:Nat),r≤xs.length∧f=.bool b∧j=.int .i64 r∧(b=false→(∀ p∈ps.take q,Z∉p.2.2)∧∀ i,i<r→xs.getD i 0≠Z)) (fun _ j _=>xs.length - (intOf j).toNat)
           case atStart=>exact ⟨HGQ.out,b0,0,Nat.zero_le _,rfl,rfl,fun h=>⟨HNO.out h,fun i hi=>by omega⟩⟩
           case round =>
            obtain ⟨hgr,b1,r,hr,rfl,rfl,hno⟩:=hrel;have HGR:=jac hgr;have HNR:=jac hno;clear hno;obtain ⟨a0,a1,a2⟩:=AT.out wr hgr;clear hgr
            by_cases hrl:r<xs.length
            ·have hrl':(r:Int)<(xs.length:Int):=by omega
             obtain ⟨xb,xf,rfl,hcx⟩:=XI.out.get (k:=r) hrl;have cx:=jad (hcx r hrl) HGR.out;have ct:=CT.out wr HGR.out;obtain ⟨z0,z1,z2⟩:=jaK (BT.out wr HGR.out)
             cases b1 with
             | true =>
              go_wp2_with fail;go_roundw
              case rel=>exact ⟨HGR.out,true,q+1,by omega,rfl,by go_num,fun h=>by cases h⟩
              case measure=>simp [intOf];omega
             | false =>
              have HN2:=jac (HNR.out rfl);clear HNR;have eg:xs.getD r 0=xs[r]:=by rw [List.getD,List.getElem?_eq_getElem hrl];rfl
              rw [eg] at cx
              by_cases he:xs[r]=Z
              ·go_wp2_with fail;go_region
               all_goals go_wp2
               all_goals
                go_roundw
                case rel=>exact ⟨jaa HGR.out (jaf (jae _)),true,r+1,hrl,rfl,by go_num,fun h=>by cases h⟩
                case measure=>simp [intOf];omega
              ·have hb:(xs[r]==Z)=false:=by simpa using he
               have HE:Hid (xs.getD r 0≠Z):=by show _≠_;rw [eg];exact he
               clear he;go_wp2_with fail;go_region
               all_goals go_wp2
               all_goals
                go_roundw
                case rel=>exact ⟨jaa HGR.out (jaf (jae _)),false,r+1,hrl,rfl,by go_num,fun _=>⟨HN2.out.1,fun i hi=>by
                 by_cases e:i<r
                 ·exact HN2.out.2 i e
                 ·obtain rfl:i=r:=by omega
                  exact HE.out⟩⟩
                case measure=>simp [intOf];omega
            ·obtain rfl:r=xs.length:=by omega
             obtain ⟨B1,hB1⟩ : ∃ B1,B1=b1:=⟨_,rfl⟩
             have NX:Hid (b1=false→∀ p∈ps.take (q+1),Z∉p.2.2):=fun h p hp=>by
              rw [TK.out] at hp
              rcases List.mem_append.1 hp with hp | hp
              ·exact (HNR.out h).1 p hp
              ·obtain rfl:=List.mem_singleton.1 hp;intro hz;obtain ⟨i,hi,e⟩:=List.mem_iff_getElem.1 hz;exact (HNR.out h).2 i hi (by rw [List.getD,List.getElem?_eq_getElem hi];exact e)
             go_wp2_with fail;go_roundw
             case rel=>exact ⟨HGR.out,b1,q+1,by omega,rfl,by go_num,NX.out⟩
             case measure=>simp [intOf];omega
          ·obtain rfl:q=ps.length:=by omega
           have hb:b0=true:=by
            cases b0 with
            | true=>rfl
            | false =>
             obtain ⟨p,hp,hz⟩:=ZM.out;exact absurd hz (HNO.out rfl p (by rw [List.take_length];exact hp))
           subst hb;clear hgq;go_wp2_with fail;go_roundw
           case rel=>exact ⟨HGQ.out,m+1,by omega,by go_num⟩
           case measure=>simp [intOf];omega
        ·obtain rfl:m=zs.length:=by omega
         clear hg;have GE:=jac (jaa W1G.out HG.out);go_wp2_with fail;refine (LV.out wr GE.out).mono ?_;rintro e w6 ⟨rfl,hg6⟩;go_wp2;go_ret;exact ⟨rfl,jbL (jaa GE.out hg6)⟩
end Go.Proofs.YtanpkdkenifmbaaGreatDoor
