/- A part. -/
import Derived.Test.YtbgbpfbjeleooaaGreatMRart
import Derived.Test.YtbgbpfbjeleooaaGreatRartAW
set_option maxHeartbeats 12800000
set_option maxRecDepth 100000
namespace Go.Proofs.YtbgbpfbjeleooaaGreat.Pd
open Go.RowKit
open Wr (Fld)
theorem jhq (s:ByteArray) (w:World) (hs:s.size≤9223372036854775807) :
    Calls Tryz.prog 54 #[.string s] w (jbU w (jaK s) fun G v w'=>∃ (g:Gra) (ns:List (Nod×Ni)) (is os:List (Val×List Int)) (ts:List (Nam×List Int×List Int)) (lo:Nat),v=jcM g∧G=⟨g.name,ns.map jc8,is.map jbp,os.map jbp,ts.map jc2⟩∧w.heap.size≤lo∧Quad w' lo g.nv.v g.iv.v g.ov.v g.tv.v ns is os ts):=by
     obtain ⟨nd0,nd1,nd2,nd3,nd4⟩:=info_parts jjr;obtain ⟨vl0,vl1,vl2,vl3,vl4⟩:=info_parts jhp;obtain ⟨nm0,nm1,nm2,nm3,nm4⟩:=info_parts jjs;have O:=jac (fun wx=>jcI s wx hs);obtain ⟨w0,hw0⟩ : ∃ w0,w0=(w.alloc (.cells #[.string ⟨#[]⟩,.slice none 0 0,.slice none 0 0,.slice none 0 0,.slice none 0 0] 27)).alloc (.cells #[.string ⟨#[]⟩,.slice none 0 0,.slice none 0 0,.slice none 0 0,.slice none 0 0] 27):=⟨_,rfl⟩
     have gw0:w.grownBy w0 none:=by rw [hw0];exact jaa (jab _ _) (jab _ _)
     have hbR:w0.heap[w.heap.size]?=some (.cells #[.string ⟨#[]⟩,.slice none 0 0,.slice none 0 0,.slice none 0 0,.slice none 0 0] 27 (0,0)):=by rw [hw0];exact jbT _ _ _ _ _
     have hbG:w0.heap[w.heap.size+1]?=some (.cells #[.string ⟨#[]⟩,.slice none 0 0,.slice none 0 0,.slice none 0 0,.slice none 0 0] 27 (0,0)):=by rw [hw0];exact jcO _ _ _ _ _
     have S0:w0.heap.size=w.heap.size+2:=by rw [hw0,jar,jar]
     rcases jbd s with ⟨l,hl⟩ | ⟨c,hc,-⟩
     ·rw [hl] at O;have FL:=jac hl;have E0:Hid (jaK s=(jaF jav g0 l).bind jdf):=by show _=_;unfold jaK;rw [hl];rfl
      clear hl;go_enter Tryz.func54,Tryz.ntmps54;go_wp2_with fail;rw [← hw0];refine (O.out w0).mono ?_;rintro e w1 ⟨hg1,v,rfl,B,rfl,hcur⟩;obtain ⟨lo,hlo⟩ : ∃ lo,lo=w0.heap.size:=⟨_,rfl⟩
      rw [← hlo] at hcur S0;have LB:lo≤B:=by obtain ⟨_,_,_,_,h⟩:=hcur;exact h
      obtain ⟨bR,hR⟩ : ∃ b,b=w.heap.size:=⟨_,rfl⟩
      obtain ⟨bG,hN⟩ : ∃ b,b=w.heap.size+1:=⟨_,rfl⟩
      rw [← hR] at hbR;rw [← hN] at hbG ⊢;rw [← hR];have BT:Hid (bG<B∧bR<B):=⟨by omega,by omega⟩
      have BL:Hid (bG<lo∧w.heap.size≤bG∧lo≤B+1):=⟨by omega,by omega,by omega⟩
      have BN:Hid (bR≠bG):=by show bR≠bG;omega
      have HB:Hid (w.heap.size≤B):=by show w.heap.size≤B;omega
      have RI:Hid (bR=w.heap.size):=hR;have R1:w1.heap[bR]?=some (.cells #[.string ⟨#[]⟩,.slice none 0 0,.slice none 0 0,.slice none 0 0,.slice none 0 0] 27 (0,0)):=(hg1.block bR (by omega) (by simp)).trans hbR;have N1:w1.heap[bG]?=some (.cells #[.string ⟨#[]⟩,.slice none 0 0,.slice none 0 0,.slice none 0 0,.slice none 0 0] 27 (0,0)):=(hg1.block bG (by omega) (by simp)).trans hbG;have LN:=jbq FL.out;have G1:=jaa gw0 hg1;clear hbR hbG gw0 hg1 hw0 S0 hlo LB hR hN;go_wp2_with fail;go_loopg [] l.length (fun gh wr=>∃ (x:Fld) (r:List Fld) (nm:ByteArray) (ns:List (Nod×Ni)) (is os:List (Val×List Int)) (ts:List (Nam×List Int×List Int)) (nv iv ov tv:Sl),gh=r.length∧wr.heap[bR]?=some (.cells #[.string ⟨#[]⟩,.slice none 0 0,.slice none 0 0,.slice none 0 0,.slice none 0 0] 27 (0,0))∧wr.heap[bG]?=some (.cells #[.string nm,.slice nv.a nv.n nv.c,.slice iv.a iv.n iv.c,.slice ov.a ov.n ov.c,.slice tv.a tv.n tv.c] 27 (0,0))∧Quad wr (B+1) nv.v iv.v ov.v tv.v ns is os ts∧jdo wr lo B x r∧w.grownBy wr none∧jaF jav g0 l=jaF jav ⟨nm,ns.map jc8,is.map jbp,os.map jbp,ts.map jc2⟩ r∧(ns.length+r.length≤16777216∧is.length+r.length≤16777216∧os.length+r.length≤16777216∧ts.length+r.length≤16777216∧∀ y∈r,y.b.size≤16777216))
      case atStart=>exact ⟨_,l,⟨#[]⟩,[],[],[],[],⟨none,0,0⟩,⟨none,0,0⟩,⟨none,0,0⟩,⟨none,0,0⟩,rfl,R1,N1,Quad.nil _ _,hcur,G1,rfl,by simpa using LN,by simpa using LN,by simpa using LN,by simpa using LN,fun y hy=>jdX FL.out y hy⟩
      case round =>
       obtain ⟨x,r,nm,ns,is,os,ts,⟨na,nln,nc⟩,⟨ia,iln,ic⟩,⟨oa,oln,oc⟩,⟨ta,tln,tc⟩,rfl,hR,hN,ht,hcu,hg,hf,hin⟩:=hrel;simp only [Sl.v] at hR hN ht;obtain ⟨na',nc',e9⟩:=ht.on.own.form;simp only [Value.slice.injEq,List.length_map] at e9;obtain ⟨rfl,rfl,rfl⟩:=e9;obtain ⟨ia',ic',e9⟩:=ht.oi.own.form;simp only [Value.slice.injEq,List.length_map] at e9;obtain ⟨rfl,rfl,rfl⟩:=e9;obtain ⟨oa',oc',e9⟩:=ht.oo.own.form;simp only [Value.slice.injEq,List.length_map] at e9;obtain ⟨rfl,rfl,rfl⟩:=e9;obtain ⟨ta',tc',e9⟩:=ht.ot.own.form;simp only [Value.slice.injEq,List.length_map] at e9;obtain ⟨rfl,rfl,rfl⟩:=e9;have HF:=jac hf;have HC:=jac hcu;have HG:=jac hg;have HI:=jac hin;have H4:=jac ht;have HR:=jac hR;have HN:=jac hN;clear hf hcu hg hin ht hR hN hcur R1 N1 G1 LN
       cases r with
       | nil =>
        have NX:=jac (jbX _ B x wr HC.out);have E1:Hid (jaK s=jdf ⟨nm,ns.map jc8,is.map jbp,os.map jbp,ts.map jc2⟩):=by show _=_;rw [E0.out,HF.out];rfl
        have S1:Hid (bG<wr.heap.size∧bR<wr.heap.size):=by have:=HC.out.lt;have:=BT.out;exact ⟨by omega,by omega⟩
        obtain ⟨⟨n0,n1,n2,n3,n4⟩,-⟩:=jam HN.out;have g8:=jab wr (.cells #[.string nm] 9);have G8:=jac (jaa HG.out g8);have T8:=jac (H4.out.new g8);have R8:=jac ((g8.block bR S1.out.2 (by simp)).trans HR.out);have N8:=jac ((g8.block bG S1.out.1 (by simp)).trans HN.out);have S8:Hid (bG<(wr.alloc (.cells #[.string nm] 9)).heap.size∧bR<(wr.alloc (.cells #[.string nm] 9)).heap.size):=by have:=S1.out;have:=g8.size;exact ⟨by omega,by omega⟩
        have LG:=jac (jaN (.slice (some ⟨wr.heap.size,0,none⟩) 1 1) [nm] (wr.alloc (.cells #[.string nm] 9)) (jci (heap_alloc_new wr _)));clear g8;go_wp2_with (first | (go_at_call 51;refine NX.out.mono ?_;rintro e w' ⟨rfl,rfl⟩) | fail);refine LG.out.mono ?_;obtain ⟨w8,hw8⟩ : ∃ w8,w8=wr.alloc (.cells #[.string nm] 9):=⟨_,rfl⟩
        rw [← hw8] at G8 T8 R8 N8 S8 ⊢;clear hw8 LG n0 n1 n2 n3 n4;rintro e w9 ⟨rfl,rfl⟩;obtain ⟨⟨n0,n1,n2,n3,n4⟩,-⟩:=jam N8.out
        cases hl:jas [nm] with
        | true =>
         have E4:Hid (jaK s=.error 6):=by show _=_;rw [E1.out];unfold jdf;simp only;rw [hl];rfl
         clear hl;go_wp2_with (go_at_call 53;refine (jaD _ _).mono ?_;rintro e w' ⟨rfl,rfl⟩);exact ⟨rfl,jad E4.out G8.out⟩
        | false =>
         have E2:Hid (jaK s=(jal (jcu ns.length is.length os.length ts.length) 6).bind fun _=>.ok ⟨nm,ns.map jc8,is.map jbp,os.map jbp,ts.map jc2⟩):=by show _=_;rw [E1.out];unfold jdf;simp only [List.length_map];rw [hl,Bool.false_or]
         have TM:=jac (jiM ⟨nm,⟨na,ns.length,nc⟩,⟨ia,is.length,ic⟩,⟨oa,os.length,oc⟩,⟨ta,ts.length,tc⟩⟩ w8 (by have:=HI.out.1;simp at this ⊢;omega) (by have:=HI.out.2.1;simp at this ⊢;omega) (by have:=HI.out.2.2.2.1;simp at this ⊢;omega));unfold jcM at TM;simp only at TM;clear hl E1;go_wp2_with fail;refine TM.out.mono ?_;rintro e w10 ⟨rfl,hg10⟩;have G10:=jac (jaa G8.out hg10);have T10:=jac (T8.out.new hg10);have R10:=jac ((hg10.block bR S8.out.2 (by simp)).trans R8.out);have N10:=jac ((hg10.block bG S8.out.1 (by simp)).trans N8.out);have hs10:=hg10.size;have S10:Hid (bR<w10.heap.size):=by have:=S8.out;show bR<_;omega
         clear hg10 hs10 n0 n1 n2 n3 n4 TM
         cases hm:jcu ns.length is.length os.length ts.length with
         | true =>
          have E4:Hid (jaK s=.error 6):=by show _=_;rw [E2.out,hm];rfl
          clear hm;go_wp2_with (go_at_call 53;refine (jaD _ _).mono ?_;rintro e w' ⟨rfl,rfl⟩);exact ⟨rfl,jad E4.out G10.out⟩
         | false =>
          have E4:Hid (jaK s=.ok ⟨nm,ns.map jc8,is.map jbp,os.map jbp,ts.map jc2⟩):=by show _=_;rw [E2.out,hm];rfl
          have MP:=jac hm;clear hm E2;obtain ⟨⟨n0,n1,n2,n3,n4⟩,-⟩:=jam N10.out;have n34:bR≠bG:=BN.out;have n43:bG≠bR:=BN.out.symm;have X9:=jac (jh6 (cs:=#[.string nm,.slice na ns.length nc,.slice ia is.length ic,.slice oa os.length oc,.slice ta ts.length tc]) R10.out);have GX:=jac (jaf (row:=none) G10.out X9.out.2 (fun g e=>by cases e;exact .inr (by have:=RI.out;omega)));have TX:=jac (T10.out.box X9.out.2 (by have:=BT.out;omega));go_wp2_with (first | (go_at_call 53;refine (jaM _ _).mono ?_;rintro e w' ⟨rfl,rfl⟩) | (refine wpList_store_row rfl 27 (.tmp 2) (.tmp 68) rfl bR #[.string nm,.slice na ns.length nc,.slice ia is.length ic,.slice oa os.length oc,.slice ta ts.length tc] rfl rfl 27 _ R10.out jdg rfl (by simp [Value.oneCell']) ?_));refine bodyPost_ret (jfq rfl _ _ bR rfl X9.out.1) rfl ?_;exact jaI E4.out GX.out ⟨⟨nm,⟨na,ns.length,nc⟩,⟨ia,is.length,ic⟩,⟨oa,os.length,oc⟩,⟨ta,ts.length,tc⟩⟩,ns,is,os,ts,B+1,rfl,rfl,Nat.le_trans HB.out (Nat.le_succ B),TX.out⟩
       | cons y r =>
        have NX:=jac (jbY _ B x y r wr HC.out);have YB:=jac (HI.out.2.2.2.2 y (List.mem_cons_self ..));go_wp2_with fail;refine NX.out.mono ?_;rintro e w2 ⟨rfl,hc2,hg2⟩;have hlt:=HC.out.lt;have HC2:=jac hc2;have HG2:=jac (jah HG.out hg2 (fun g e=>by cases e;exact HB.out));have T2:=jac (H4.out.box hg2 (Nat.lt_succ_self B));have N2:=jac ((hg2.block bG (by have:=BT.out;omega) (fun e=>by have e2:=Option.some.inj e;have:=BT.out;omega)).trans HN.out);have R2:=jac ((hg2.block bR (by have:=BT.out;omega) (fun e=>by have e2:=Option.some.inj e;have:=BT.out;omega)).trans HR.out);obtain ⟨a0,a1,a2,a3⟩:=hc2.cells;clear hc2 hg2 NX HC HG HN HR hlt H4
        by_cases h1:y.num=1
        ·have b1:(y.num==1)=true:=by simp [h1]
         have H1:=jac h1;clear h1;go_wp2_with fail;obtain ⟨wd,hwd⟩ : ∃ wd,wd=w2.drew:=⟨_,rfl⟩
         have gd:w2.grownBy wd none:=by rw [hwd];exact ⟨rfl,rfl,rfl,Nat.le_refl _,fun _ _ _=>rfl⟩
         have HCd:=jac (HC2.out.more gd);have HGd:=jac (jaa HG2.out gd);have Td:=jac (T2.out.new gd);have Nd:=jac ((gd.block bG (by have:=HC2.out.lt;have:=BT.out;omega) (by simp)).trans N2.out);have Rd:=jac ((gd.block bR (by have:=HC2.out.lt;have:=BT.out;omega) (by simp)).trans R2.out);clear a0 a1 a2 a3 gd N2 R2 T2 HC2 HG2;obtain ⟨a0,a1,a2,a3⟩:=HCd.out.cells;have LD:Hid (∀ wx,wd.grownBy wx none→wx.cell? ⟨bG,1,none⟩=some (.slice na ns.length nc)):=fun wx hg=>(jam ((hg.block bG (by have:=HCd.out.lt;have:=BT.out;show bG<_;omega) (by simp)).trans Nd.out)).1.2.1
         rcases jaU y with ⟨q,hx⟩ | hx
         ·have QS:Hid (q.size≤9223372036854775807):=by have:=jdY hx YB.out;show q.size≤_;omega
          cases hA:jaC q with
          | error c =>
           have E:Hid (jaK s=.error c):=by show _=_;rw [E0.out,HF.out,jaJ (f:=jav) (c:=c) (by unfold jav;rw [if_pos H1.out];rw [hx];show (jaC q).bind _=_;rw [hA];rfl)];rfl
           refine wp_region_held_drew (S:=fun _=>True) (by kernel_rfl) trivial (fun hHeld=>?_);rw [← hwd];clear hwd;refine tkA 0 ?_
           try simp only [Act.put]
           refine tkA 2 ?_
           try simp only [Act.put]
           refine wpAnyH_ready (rs:=[1,3]) (by kernel_rfl) (by simp) ?_;refine AllReadyH.cons rfl (fun K hK=>?_) ?_
           ·skip
            have n4:=LD.out wd (by exact jae _);go_simp;clear n4;refine hK.out _ _ (by trivial) (fun hHeld=>?_);clear hK K
            try simp only [Act.put]
            refine wpAnyH_ready (rs:=[3]) (by kernel_rfl) (by simp) ?_;refine AllReadyH.cons rfl (fun K hK=>?_) ?_
            ·skip
             go_simp;refine (jaA B y wd a1 a3).mono ?_;rw [hx];rintro e w' ⟨-,v,rfl,rfl,rfl⟩;refine hK.out _ _ (by trivial) (fun hHeld=>?_);clear hK K
             try simp only [Act.put]
             refine wpAnyH_ready (rs:=[4]) (by kernel_rfl) (by simp) ?_;refine AllReadyH.cons rfl (fun K hK=>?_) ?_
             ·skip
              go_simp;refine (jct q wd QS.out).mono ?_;rw [hA];rintro e w' ⟨hg,rfl⟩;exact ⟨rfl,jad E.out (jaa HGd.out hg)⟩
             exact AllReadyH.nil
            exact AllReadyH.nil
           refine AllReadyH.cons rfl (fun K hK=>?_) ?_
           ·skip
            go_simp;refine (jaA B y wd a1 a3).mono ?_;rw [hx];rintro e w' ⟨-,v,rfl,rfl,rfl⟩;refine hK.out _ _ (by trivial) (fun hHeld=>?_);clear hK K
            try simp only [Act.put]
            refine wpAnyH_ready (rs:=[1,4]) (by kernel_rfl) (by simp) ?_;refine AllReadyH.cons rfl (fun K hK=>?_) ?_
            ·skip
             have n4:=LD.out wd (by exact jae _);go_simp;clear n4;refine hK.out _ _ (by trivial) (fun hHeld=>?_);clear hK K
             try simp only [Act.put]
             refine wpAnyH_ready (rs:=[4]) (by kernel_rfl) (by simp) ?_;refine AllReadyH.cons rfl (fun K hK=>?_) ?_
             ·skip
              go_simp;refine (jct q wd QS.out).mono ?_;rw [hA];rintro e w' ⟨hg,rfl⟩;exact ⟨rfl,jad E.out (jaa HGd.out hg)⟩
             exact AllReadyH.nil
            refine AllReadyH.cons rfl (fun K hK=>?_) ?_
            ·skip
             go_simp;refine (jct q wd QS.out).mono ?_;rw [hA];rintro e w' ⟨hg,rfl⟩;exact ⟨rfl,jad E.out (jaa HGd.out hg)⟩
            exact AllReadyH.nil
           exact AllReadyH.nil
          | ok A =>
           have sz:B+1≤wd.heap.size:=HCd.out.lt;have hle:ns.length+1≤16777216:=by have:=HI.out.1;simp at this;omega
           skip
           have ES:=jac (HF.out.trans (jay (f:=jav) (b:=⟨nm,ns.map jc8++[A],is.map jbp,os.map jbp,ts.map jc2⟩) (by unfold jav;rw [if_pos H1.out];rw [hx];show (jaC q).bind _=_;rw [hA];rfl)));refine wp_region_held_drew (S:=fun _=>True) (by kernel_rfl) trivial (fun hHeld=>?_);rw [← hwd];clear hwd;refine tkA 0 ?_
           try simp only [Act.put]
           refine tkA 2 ?_
           try simp only [Act.put]
           refine wpAnyH_ready (rs:=[1,3]) (by kernel_rfl) (by simp) ?_;refine AllReadyH.cons rfl (fun K hK=>?_) ?_
           ·skip
            have n4:=LD.out wd (by exact jae _);go_simp;clear n4;refine hK.out _ _ (by trivial) (fun hHeld=>?_);clear hK K
            try simp only [Act.put]
            refine wpAnyH_ready (rs:=[3]) (by kernel_rfl) (by simp) ?_;refine AllReadyH.cons rfl (fun K hK=>?_) ?_
            ·skip
             go_simp;refine (jaA B y wd a1 a3).mono ?_;rw [hx];rintro e w' ⟨-,v,rfl,rfl,rfl⟩;refine hK.out _ _ (by trivial) (fun hHeld=>?_);clear hK K
             try simp only [Act.put]
             refine wpAnyH_ready (rs:=[4]) (by kernel_rfl) (by simp) ?_;refine AllReadyH.cons rfl (fun K hK=>?_) ?_
             ·skip
              go_simp;refine (jct q wd QS.out).mono ?_;rw [hA];rintro e w4 ⟨hg4,v,rfl,⟨yo,yn,⟨yi,yin,yic⟩,yout,⟨ya,yan,yac⟩⟩,yq,rfl,rfl,hyh0,hyf⟩;unfold jgJ;simp only;have hyh:∀ wx,w4.grownBy wx none→jmQ wx ⟨yo,yn,⟨yi,yin,yic⟩,yout,⟨ya,yan,yac⟩⟩ yq:=fun wx hg=>hyh0.more hg;clear hyh0;refine hK.out _ _ (by trivial) (fun hHeld=>?_);clear hK K
              try simp only [Act.put]
              refine wpAnyH_ready (rs:=[5]) (by kernel_rfl) (by simp) ?_;refine AllReadyH.cons rfl (fun K hK=>?_) ?_
              ·skip
               go_simp;refine hK.out _ _ (by trivial) (fun hHeld=>?_);clear hK K
               try simp only [Act.put]
               refine wpAnyH_ready (rs:=[6]) (by kernel_rfl) (by simp) ?_;refine AllReadyH.cons rfl (fun K hK=>?_) ?_
               ·skip
                have gn:wd.grownBy (w4.alloc (.cells #[.string yo,.string yn,.slice yi yin yic,.string yout,.slice ya yan yac] 35)) none:=jaa hg4 (jab _ _);have s4:=hg4.size;have OW:=Td.out.on.own.more gn;unfold OwnsL at OW;rw [List.length_map] at OW;refine step_append_lies _ (by rfl) (.tmp 17) (.tmp 21) 23 (by rfl) (B+1) 35 nd0 (.agg #[.string ⟨#[]⟩,.string ⟨#[]⟩,.slice none 0 0,.string ⟨#[]⟩,.slice none 0 0]) 5 96 Tryz.underlying23 nd1 nd2 nd3 nd4 (by rfl) (by decide) (.slice na ns.length nc) ns.length ((ns.map (·.1)).flatMap ncells) (by rfl) (by exact OW) ⟨w4.heap.size,0,none⟩ 1 1 (ncells (Nod.mk yo yn ⟨yi,yin,yic⟩ yout ⟨ya,yan,yac⟩)) (by rfl) (by rfl) (by exact jbV w4 _ _ _ rfl) (jc3 _) (by decide) (by simp only [maxLen];omega) (by omega) (by simp;omega) (w4.heap.size+1) (by simp) ?_;intro g cap w8 hown' hgrow hat hlt;have K8:=jac (jbb (fun g e=>(World.ownsRow.lt Td.out.on.own g e).1) hgrow (HCd.out.more gn) (jaa HGd.out gn) HB.out);have N8:=jac ((K8.out.1 bG (by have:=BT.out;omega)).trans ((gn.block bG (by have:=BT.out;omega) (by simp)).trans Nd.out));have hown2:OwnsL 35 5 ncells w8 (B+1) (.slice (some ⟨g,0,none⟩) (ns.length+1) cap) (ns.map (·.1)++[(Nod.mk yo yn ⟨yi,yin,yic⟩ yout ⟨ya,yan,yac⟩)]):=by unfold OwnsL;rw [List.length_append,List.flatMap_append,List.length_map];simpa using hown'
                have hat2:(Value.slice na ns.length nc).ownBlock=some g∨g=(w4.alloc (.cells #[.string yo,.string yn,.slice yi yin yic,.string yout,.slice ya yan yac] 35)).heap.size:=hat.imp_right (fun e=>by rw [e];simp);have hal:=hyh (w4.alloc (.cells #[.string yo,.string yn,.slice yi yin yic,.string yout,.slice ya yan yac] 35)) (jab _ _);have T8:=jac (Td.out.setn (y:=(Nod.mk yo yn ⟨yi,yin,yic⟩ yout ⟨ya,yan,yac⟩)) (c:=yq) gn hgrow (OwnD.snoc jdE Td.out.on (by omega) gn hgrow hat2 hown2 hal (fun b e=>⟨(hyf b e).1,by have:=(hyf b e).2;simp;omega⟩)) (jbv (hat2.imp_right (fun e=>by rw [e];exact gn.size))) (fun b e=>(hyf b e).1));obtain ⟨⟨p0,p1,p2,p3,p4⟩,qf0,qf1,qf2,qf3,qf4⟩:=jam N8.out;refine hK.out _ _ (by trivial) (fun hHeld=>?_);clear hK K
                try simp only [Act.put]
                refine tkA 7 ?_
                try simp only [Act.put]
                refine wpAnyH_ready (rs:=[8]) (by kernel_rfl) (by simp) ?_;refine AllReadyH.cons rfl (fun K hK=>?_) ?_
                ·skip
                 go_simp;refine hK.out _ _ (by trivial) (fun hHeld=>?_);clear hK K
                 try simp only [Act.put]
                 refine wpAnyH_done (by kernel_rfl) ?_ _;have R8:=jac ((K8.out.1 bR (by have:=BT.out;omega)).trans ((gn.block bR (by have:=BT.out;omega) (by simp)).trans Rd.out));have K9:=jac (jbo (j:=1) (.slice (some ⟨g,0,none⟩) (ns.length+1) cap) K8.out.2.1 K8.out.2.2 T8.out BL.out.1 BL.out.2.1 BL.out.2.2);have N9:=jac ((jfi N8.out (.slice (some ⟨g,0,none⟩) (ns.length+1) cap)).2.1);have R9:=jac ((K9.out.1 bR BN.out (by have:=K8.out.2.1.lt;have:=BT.out;omega)).trans R8.out);have ES9:=jac (show jaF jav g0 l=jaF jav ⟨nm,(ns++[((Nod.mk yo yn ⟨yi,yin,yic⟩ yout ⟨ya,yan,yac⟩),yq)]).map jc8,is.map jbp,os.map jbp,ts.map jc2⟩ r by rw [List.map_append,ES.out];rfl);clear hown' hown2 hgrow hat hlt p0 p1 p2 p3 p4 qf0 qf1 qf2 qf3 qf4 gn a0 a1 a2 a3 hyh hyf hat2 hal s4 OW;go_wp2_with fail;go_roundg r.length
                 case measure=>simp
                 case rel=>exact ⟨y,r,nm,ns++[((Nod.mk yo yn ⟨yi,yin,yic⟩ yout ⟨ya,yan,yac⟩),yq)],is,os,ts,⟨some ⟨g,0,none⟩,ns.length+1,cap⟩,⟨ia,is.length,ic⟩,⟨oa,os.length,oc⟩,⟨ta,ts.length,tc⟩,rfl,R9.out,N9.out,K9.out.2.2.2,K9.out.2.1,K9.out.2.2.1,ES9.out,⟨(by have:=HI.out.1;simp at this ⊢;omega),(by have:=HI.out.2.1;simp at this ⊢;omega),(by have:=HI.out.2.2.1;simp at this ⊢;omega),(by have:=HI.out.2.2.2.1;simp at this ⊢;omega),fun z hz=>HI.out.2.2.2.2 z (List.mem_cons_of_mem _ hz)⟩⟩
                exact AllReadyH.nil
               exact AllReadyH.nil
              exact AllReadyH.nil
             exact AllReadyH.nil
            exact AllReadyH.nil
           refine AllReadyH.cons rfl (fun K hK=>?_) ?_
           ·skip
            go_simp;refine (jaA B y wd a1 a3).mono ?_;rw [hx];rintro e w' ⟨-,v,rfl,rfl,rfl⟩;refine hK.out _ _ (by trivial) (fun hHeld=>?_);clear hK K
            try simp only [Act.put]
            refine wpAnyH_ready (rs:=[1,4]) (by kernel_rfl) (by simp) ?_;refine AllReadyH.cons rfl (fun K hK=>?_) ?_
            ·skip
             have n4:=LD.out wd (by exact jae _);go_simp;clear n4;refine hK.out _ _ (by trivial) (fun hHeld=>?_);clear hK K
             try simp only [Act.put]
             refine wpAnyH_ready (rs:=[4]) (by kernel_rfl) (by simp) ?_;refine AllReadyH.cons rfl (fun K hK=>?_) ?_
             ·skip
              go_simp;refine (jct q wd QS.out).mono ?_;rw [hA];rintro e w4 ⟨hg4,v,rfl,⟨yo,yn,⟨yi,yin,yic⟩,yout,⟨ya,yan,yac⟩⟩,yq,rfl,rfl,hyh0,hyf⟩;unfold jgJ;simp only;have hyh:∀ wx,w4.grownBy wx none→jmQ wx ⟨yo,yn,⟨yi,yin,yic⟩,yout,⟨ya,yan,yac⟩⟩ yq:=fun wx hg=>hyh0.more hg;clear hyh0;refine hK.out _ _ (by trivial) (fun hHeld=>?_);clear hK K
              try simp only [Act.put]
              refine wpAnyH_ready (rs:=[5]) (by kernel_rfl) (by simp) ?_;refine AllReadyH.cons rfl (fun K hK=>?_) ?_
              ·skip
               go_simp;refine hK.out _ _ (by trivial) (fun hHeld=>?_);clear hK K
               try simp only [Act.put]
               refine wpAnyH_ready (rs:=[6]) (by kernel_rfl) (by simp) ?_;refine AllReadyH.cons rfl (fun K hK=>?_) ?_
               ·skip
                have gn:wd.grownBy (w4.alloc (.cells #[.string yo,.string yn,.slice yi yin yic,.string yout,.slice ya yan yac] 35)) none:=jaa hg4 (jab _ _);have s4:=hg4.size;have OW:=Td.out.on.own.more gn;unfold OwnsL at OW;rw [List.length_map] at OW;refine step_append_lies _ (by rfl) (.tmp 17) (.tmp 21) 23 (by rfl) (B+1) 35 nd0 (.agg #[.string ⟨#[]⟩,.string ⟨#[]⟩,.slice none 0 0,.string ⟨#[]⟩,.slice none 0 0]) 5 96 Tryz.underlying23 nd1 nd2 nd3 nd4 (by rfl) (by decide) (.slice na ns.length nc) ns.length ((ns.map (·.1)).flatMap ncells) (by rfl) (by exact OW) ⟨w4.heap.size,0,none⟩ 1 1 (ncells (Nod.mk yo yn ⟨yi,yin,yic⟩ yout ⟨ya,yan,yac⟩)) (by rfl) (by rfl) (by exact jbV w4 _ _ _ rfl) (jc3 _) (by decide) (by simp only [maxLen];omega) (by omega) (by simp;omega) (w4.heap.size+1) (by simp) ?_;intro g cap w8 hown' hgrow hat hlt;have K8:=jac (jbb (fun g e=>(World.ownsRow.lt Td.out.on.own g e).1) hgrow (HCd.out.more gn) (jaa HGd.out gn) HB.out);have N8:=jac ((K8.out.1 bG (by have:=BT.out;omega)).trans ((gn.block bG (by have:=BT.out;omega) (by simp)).trans Nd.out));have hown2:OwnsL 35 5 ncells w8 (B+1) (.slice (some ⟨g,0,none⟩) (ns.length+1) cap) (ns.map (·.1)++[(Nod.mk yo yn ⟨yi,yin,yic⟩ yout ⟨ya,yan,yac⟩)]):=by unfold OwnsL;rw [List.length_append,List.flatMap_append,List.length_map];simpa using hown'
                have hat2:(Value.slice na ns.length nc).ownBlock=some g∨g=(w4.alloc (.cells #[.string yo,.string yn,.slice yi yin yic,.string yout,.slice ya yan yac] 35)).heap.size:=hat.imp_right (fun e=>by rw [e];simp);have hal:=hyh (w4.alloc (.cells #[.string yo,.string yn,.slice yi yin yic,.string yout,.slice ya yan yac] 35)) (jab _ _);have T8:=jac (Td.out.setn (y:=(Nod.mk yo yn ⟨yi,yin,yic⟩ yout ⟨ya,yan,yac⟩)) (c:=yq) gn hgrow (OwnD.snoc jdE Td.out.on (by omega) gn hgrow hat2 hown2 hal (fun b e=>⟨(hyf b e).1,by have:=(hyf b e).2;simp;omega⟩)) (jbv (hat2.imp_right (fun e=>by rw [e];exact gn.size))) (fun b e=>(hyf b e).1));obtain ⟨⟨p0,p1,p2,p3,p4⟩,qf0,qf1,qf2,qf3,qf4⟩:=jam N8.out;refine hK.out _ _ (by trivial) (fun hHeld=>?_);clear hK K
                try simp only [Act.put]
                refine tkA 7 ?_
                try simp only [Act.put]
                refine wpAnyH_ready (rs:=[8]) (by kernel_rfl) (by simp) ?_;refine AllReadyH.cons rfl (fun K hK=>?_) ?_
                ·skip
                 go_simp;refine hK.out _ _ (by trivial) (fun hHeld=>?_);clear hK K
                 try simp only [Act.put]
                 refine wpAnyH_done (by kernel_rfl) ?_ _;have R8:=jac ((K8.out.1 bR (by have:=BT.out;omega)).trans ((gn.block bR (by have:=BT.out;omega) (by simp)).trans Rd.out));have K9:=jac (jbo (j:=1) (.slice (some ⟨g,0,none⟩) (ns.length+1) cap) K8.out.2.1 K8.out.2.2 T8.out BL.out.1 BL.out.2.1 BL.out.2.2);have N9:=jac ((jfi N8.out (.slice (some ⟨g,0,none⟩) (ns.length+1) cap)).2.1);have R9:=jac ((K9.out.1 bR BN.out (by have:=K8.out.2.1.lt;have:=BT.out;omega)).trans R8.out);have ES9:=jac (show jaF jav g0 l=jaF jav ⟨nm,(ns++[((Nod.mk yo yn ⟨yi,yin,yic⟩ yout ⟨ya,yan,yac⟩),yq)]).map jc8,is.map jbp,os.map jbp,ts.map jc2⟩ r by rw [List.map_append,ES.out];rfl);clear hown' hown2 hgrow hat hlt p0 p1 p2 p3 p4 qf0 qf1 qf2 qf3 qf4 gn a0 a1 a2 a3 hyh hyf hat2 hal s4 OW;go_wp2_with fail;go_roundg r.length
                 case measure=>simp
                 case rel=>exact ⟨y,r,nm,ns++[((Nod.mk yo yn ⟨yi,yin,yic⟩ yout ⟨ya,yan,yac⟩),yq)],is,os,ts,⟨some ⟨g,0,none⟩,ns.length+1,cap⟩,⟨ia,is.length,ic⟩,⟨oa,os.length,oc⟩,⟨ta,ts.length,tc⟩,rfl,R9.out,N9.out,K9.out.2.2.2,K9.out.2.1,K9.out.2.2.1,ES9.out,⟨(by have:=HI.out.1;simp at this ⊢;omega),(by have:=HI.out.2.1;simp at this ⊢;omega),(by have:=HI.out.2.2.1;simp at this ⊢;omega),(by have:=HI.out.2.2.2.1;simp at this ⊢;omega),fun z hz=>HI.out.2.2.2.2 z (List.mem_cons_of_mem _ hz)⟩⟩
                exact AllReadyH.nil
               exact AllReadyH.nil
              exact AllReadyH.nil
             exact AllReadyH.nil
            refine AllReadyH.cons rfl (fun K hK=>?_) ?_
            ·skip
             go_simp;refine (jct q wd QS.out).mono ?_;rw [hA];rintro e w4 ⟨hg4,v,rfl,⟨yo,yn,⟨yi,yin,yic⟩,yout,⟨ya,yan,yac⟩⟩,yq,rfl,rfl,hyh0,hyf⟩;unfold jgJ;simp only;have hyh:∀ wx,w4.grownBy wx none→jmQ wx ⟨yo,yn,⟨yi,yin,yic⟩,yout,⟨ya,yan,yac⟩⟩ yq:=fun wx hg=>hyh0.more hg;clear hyh0;refine hK.out _ _ (by trivial) (fun hHeld=>?_);clear hK K
             try simp only [Act.put]
             refine wpAnyH_ready (rs:=[1,5]) (by kernel_rfl) (by simp) ?_;refine AllReadyH.cons rfl (fun K hK=>?_) ?_
             ·skip
              have n4:=LD.out w4 (by exact hg4);go_simp;clear n4;refine hK.out _ _ (by trivial) (fun hHeld=>?_);clear hK K
              try simp only [Act.put]
              refine wpAnyH_ready (rs:=[5]) (by kernel_rfl) (by simp) ?_;refine AllReadyH.cons rfl (fun K hK=>?_) ?_
              ·skip
               go_simp;refine hK.out _ _ (by trivial) (fun hHeld=>?_);clear hK K
               try simp only [Act.put]
               refine wpAnyH_ready (rs:=[6]) (by kernel_rfl) (by simp) ?_;refine AllReadyH.cons rfl (fun K hK=>?_) ?_
               ·skip
                have gn:wd.grownBy (w4.alloc (.cells #[.string yo,.string yn,.slice yi yin yic,.string yout,.slice ya yan yac] 35)) none:=jaa hg4 (jab _ _);have s4:=hg4.size;have OW:=Td.out.on.own.more gn;unfold OwnsL at OW;rw [List.length_map] at OW;refine step_append_lies _ (by rfl) (.tmp 17) (.tmp 21) 23 (by rfl) (B+1) 35 nd0 (.agg #[.string ⟨#[]⟩,.string ⟨#[]⟩,.slice none 0 0,.string ⟨#[]⟩,.slice none 0 0]) 5 96 Tryz.underlying23 nd1 nd2 nd3 nd4 (by rfl) (by decide) (.slice na ns.length nc) ns.length ((ns.map (·.1)).flatMap ncells) (by rfl) (by exact OW) ⟨w4.heap.size,0,none⟩ 1 1 (ncells (Nod.mk yo yn ⟨yi,yin,yic⟩ yout ⟨ya,yan,yac⟩)) (by rfl) (by rfl) (by exact jbV w4 _ _ _ rfl) (jc3 _) (by decide) (by simp only [maxLen];omega) (by omega) (by simp;omega) (w4.heap.size+1) (by simp) ?_;intro g cap w8 hown' hgrow hat hlt;have K8:=jac (jbb (fun g e=>(World.ownsRow.lt Td.out.on.own g e).1) hgrow (HCd.out.more gn) (jaa HGd.out gn) HB.out);have N8:=jac ((K8.out.1 bG (by have:=BT.out;omega)).trans ((gn.block bG (by have:=BT.out;omega) (by simp)).trans Nd.out));have hown2:OwnsL 35 5 ncells w8 (B+1) (.slice (some ⟨g,0,none⟩) (ns.length+1) cap) (ns.map (·.1)++[(Nod.mk yo yn ⟨yi,yin,yic⟩ yout ⟨ya,yan,yac⟩)]):=by unfold OwnsL;rw [List.length_append,List.flatMap_append,List.length_map];simpa using hown'
                have hat2:(Value.slice na ns.length nc).ownBlock=some g∨g=(w4.alloc (.cells #[.string yo,.string yn,.slice yi yin yic,.string yout,.slice ya yan yac] 35)).heap.size:=hat.imp_right (fun e=>by rw [e];simp);have hal:=hyh (w4.alloc (.cells #[.string yo,.string yn,.slice yi yin yic,.string yout,.slice ya yan yac] 35)) (jab _ _);have T8:=jac (Td.out.setn (y:=(Nod.mk yo yn ⟨yi,yin,yic⟩ yout ⟨ya,yan,yac⟩)) (c:=yq) gn hgrow (OwnD.snoc jdE Td.out.on (by omega) gn hgrow hat2 hown2 hal (fun b e=>⟨(hyf b e).1,by have:=(hyf b e).2;simp;omega⟩)) (jbv (hat2.imp_right (fun e=>by rw [e];exact gn.size))) (fun b e=>(hyf b e).1));obtain ⟨⟨p0,p1,p2,p3,p4⟩,qf0,qf1,qf2,qf3,qf4⟩:=jam N8.out;refine hK.out _ _ (by trivial) (fun hHeld=>?_);clear hK K
                try simp only [Act.put]
                refine tkA 7 ?_
                try simp only [Act.put]
                refine wpAnyH_ready (rs:=[8]) (by kernel_rfl) (by simp) ?_;refine AllReadyH.cons rfl (fun K hK=>?_) ?_
                ·skip
                 go_simp;refine hK.out _ _ (by trivial) (fun hHeld=>?_);clear hK K
                 try simp only [Act.put]
                 refine wpAnyH_done (by kernel_rfl) ?_ _;have R8:=jac ((K8.out.1 bR (by have:=BT.out;omega)).trans ((gn.block bR (by have:=BT.out;omega) (by simp)).trans Rd.out));have K9:=jac (jbo (j:=1) (.slice (some ⟨g,0,none⟩) (ns.length+1) cap) K8.out.2.1 K8.out.2.2 T8.out BL.out.1 BL.out.2.1 BL.out.2.2);have N9:=jac ((jfi N8.out (.slice (some ⟨g,0,none⟩) (ns.length+1) cap)).2.1);have R9:=jac ((K9.out.1 bR BN.out (by have:=K8.out.2.1.lt;have:=BT.out;omega)).trans R8.out);have ES9:=jac (show jaF jav g0 l=jaF jav ⟨nm,(ns++[((Nod.mk yo yn ⟨yi,yin,yic⟩ yout ⟨ya,yan,yac⟩),yq)]).map jc8,is.map jbp,os.map jbp,ts.map jc2⟩ r by rw [List.map_append,ES.out];rfl);clear hown' hown2 hgrow hat hlt p0 p1 p2 p3 p4 qf0 qf1 qf2 qf3 qf4 gn a0 a1 a2 a3 hyh hyf hat2 hal s4 OW;go_wp2_with fail;go_roundg r.length
                 case measure=>simp
                 case rel=>exact ⟨y,r,nm,ns++[((Nod.mk yo yn ⟨yi,yin,yic⟩ yout ⟨ya,yan,yac⟩),yq)],is,os,ts,⟨some ⟨g,0,none⟩,ns.length+1,cap⟩,⟨ia,is.length,ic⟩,⟨oa,os.length,oc⟩,⟨ta,ts.length,tc⟩,rfl,R9.out,N9.out,K9.out.2.2.2,K9.out.2.1,K9.out.2.2.1,ES9.out,⟨(by have:=HI.out.1;simp at this ⊢;omega),(by have:=HI.out.2.1;simp at this ⊢;omega),(by have:=HI.out.2.2.1;simp at this ⊢;omega),(by have:=HI.out.2.2.2.1;simp at this ⊢;omega),fun z hz=>HI.out.2.2.2.2 z (List.mem_cons_of_mem _ hz)⟩⟩
                exact AllReadyH.nil
               exact AllReadyH.nil
              exact AllReadyH.nil
             refine AllReadyH.cons rfl (fun K hK=>?_) ?_
             ·skip
              go_simp;refine hK.out _ _ (by trivial) (fun hHeld=>?_);clear hK K
              try simp only [Act.put]
              refine wpAnyH_ready (rs:=[1]) (by kernel_rfl) (by simp) ?_;refine AllReadyH.cons rfl (fun K hK=>?_) ?_
              ·skip
               have n4:=LD.out _ (by exact jaa hg4 (jab w4 (.cells #[.string yo,.string yn,.slice yi yin yic,.string yout,.slice ya yan yac] 35)));go_simp;clear n4;refine hK.out _ _ (by trivial) (fun hHeld=>?_);clear hK K
               try simp only [Act.put]
               refine wpAnyH_ready (rs:=[6]) (by kernel_rfl) (by simp) ?_;refine AllReadyH.cons rfl (fun K hK=>?_) ?_
               ·skip
                have gn:wd.grownBy (w4.alloc (.cells #[.string yo,.string yn,.slice yi yin yic,.string yout,.slice ya yan yac] 35)) none:=jaa hg4 (jab _ _);have s4:=hg4.size;have OW:=Td.out.on.own.more gn;unfold OwnsL at OW;rw [List.length_map] at OW;refine step_append_lies _ (by rfl) (.tmp 17) (.tmp 21) 23 (by rfl) (B+1) 35 nd0 (.agg #[.string ⟨#[]⟩,.string ⟨#[]⟩,.slice none 0 0,.string ⟨#[]⟩,.slice none 0 0]) 5 96 Tryz.underlying23 nd1 nd2 nd3 nd4 (by rfl) (by decide) (.slice na ns.length nc) ns.length ((ns.map (·.1)).flatMap ncells) (by rfl) (by exact OW) ⟨w4.heap.size,0,none⟩ 1 1 (ncells (Nod.mk yo yn ⟨yi,yin,yic⟩ yout ⟨ya,yan,yac⟩)) (by rfl) (by rfl) (by exact jbV w4 _ _ _ rfl) (jc3 _) (by decide) (by simp only [maxLen];omega) (by omega) (by simp;omega) (w4.heap.size+1) (by simp) ?_;intro g cap w8 hown' hgrow hat hlt;have K8:=jac (jbb (fun g e=>(World.ownsRow.lt Td.out.on.own g e).1) hgrow (HCd.out.more gn) (jaa HGd.out gn) HB.out);have N8:=jac ((K8.out.1 bG (by have:=BT.out;omega)).trans ((gn.block bG (by have:=BT.out;omega) (by simp)).trans Nd.out));have hown2:OwnsL 35 5 ncells w8 (B+1) (.slice (some ⟨g,0,none⟩) (ns.length+1) cap) (ns.map (·.1)++[(Nod.mk yo yn ⟨yi,yin,yic⟩ yout ⟨ya,yan,yac⟩)]):=by unfold OwnsL;rw [List.length_append,List.flatMap_append,List.length_map];simpa using hown'
                have hat2:(Value.slice na ns.length nc).ownBlock=some g∨g=(w4.alloc (.cells #[.string yo,.string yn,.slice yi yin yic,.string yout,.slice ya yan yac] 35)).heap.size:=hat.imp_right (fun e=>by rw [e];simp);have hal:=hyh (w4.alloc (.cells #[.string yo,.string yn,.slice yi yin yic,.string yout,.slice ya yan yac] 35)) (jab _ _);have T8:=jac (Td.out.setn (y:=(Nod.mk yo yn ⟨yi,yin,yic⟩ yout ⟨ya,yan,yac⟩)) (c:=yq) gn hgrow (OwnD.snoc jdE Td.out.on (by omega) gn hgrow hat2 hown2 hal (fun b e=>⟨(hyf b e).1,by have:=(hyf b e).2;simp;omega⟩)) (jbv (hat2.imp_right (fun e=>by rw [e];exact gn.size))) (fun b e=>(hyf b e).1));obtain ⟨⟨p0,p1,p2,p3,p4⟩,qf0,qf1,qf2,qf3,qf4⟩:=jam N8.out;refine hK.out _ _ (by trivial) (fun hHeld=>?_);clear hK K
                try simp only [Act.put]
                refine tkA 7 ?_
                try simp only [Act.put]
                refine wpAnyH_ready (rs:=[8]) (by kernel_rfl) (by simp) ?_;refine AllReadyH.cons rfl (fun K hK=>?_) ?_
                ·skip
                 go_simp;refine hK.out _ _ (by trivial) (fun hHeld=>?_);clear hK K
                 try simp only [Act.put]
                 refine wpAnyH_done (by kernel_rfl) ?_ _;have R8:=jac ((K8.out.1 bR (by have:=BT.out;omega)).trans ((gn.block bR (by have:=BT.out;omega) (by simp)).trans Rd.out));have K9:=jac (jbo (j:=1) (.slice (some ⟨g,0,none⟩) (ns.length+1) cap) K8.out.2.1 K8.out.2.2 T8.out BL.out.1 BL.out.2.1 BL.out.2.2);have N9:=jac ((jfi N8.out (.slice (some ⟨g,0,none⟩) (ns.length+1) cap)).2.1);have R9:=jac ((K9.out.1 bR BN.out (by have:=K8.out.2.1.lt;have:=BT.out;omega)).trans R8.out);have ES9:=jac (show jaF jav g0 l=jaF jav ⟨nm,(ns++[((Nod.mk yo yn ⟨yi,yin,yic⟩ yout ⟨ya,yan,yac⟩),yq)]).map jc8,is.map jbp,os.map jbp,ts.map jc2⟩ r by rw [List.map_append,ES.out];rfl);clear hown' hown2 hgrow hat hlt p0 p1 p2 p3 p4 qf0 qf1 qf2 qf3 qf4 gn a0 a1 a2 a3 hyh hyf hat2 hal s4 OW;go_wp2_with fail;go_roundg r.length
                 case measure=>simp
                 case rel=>exact ⟨y,r,nm,ns++[((Nod.mk yo yn ⟨yi,yin,yic⟩ yout ⟨ya,yan,yac⟩),yq)],is,os,ts,⟨some ⟨g,0,none⟩,ns.length+1,cap⟩,⟨ia,is.length,ic⟩,⟨oa,os.length,oc⟩,⟨ta,ts.length,tc⟩,rfl,R9.out,N9.out,K9.out.2.2.2,K9.out.2.1,K9.out.2.2.1,ES9.out,⟨(by have:=HI.out.1;simp at this ⊢;omega),(by have:=HI.out.2.1;simp at this ⊢;omega),(by have:=HI.out.2.2.1;simp at this ⊢;omega),(by have:=HI.out.2.2.2.1;simp at this ⊢;omega),fun z hz=>HI.out.2.2.2.2 z (List.mem_cons_of_mem _ hz)⟩⟩
                exact AllReadyH.nil
               exact AllReadyH.nil
              exact AllReadyH.nil
             exact AllReadyH.nil
            exact AllReadyH.nil
           exact AllReadyH.nil
         ·skip
          have E:Hid (jaK s=.error 3):=by show _=_;rw [E0.out,HF.out,jaJ (f:=jav) (c:=3) (by unfold jav;rw [if_pos H1.out];rw [hx];rfl)];rfl
          refine wp_region_held_drew (S:=fun _=>True) (by kernel_rfl) trivial (fun hHeld=>?_);rw [← hwd];clear hwd;refine tkA 0 ?_
          try simp only [Act.put]
          refine tkA 2 ?_
          try simp only [Act.put]
          refine wpAnyH_ready (rs:=[1,3]) (by kernel_rfl) (by simp) ?_;refine AllReadyH.cons rfl (fun K hK=>?_) ?_
          ·skip
           have n4:=LD.out wd (by exact jae _);go_simp;clear n4;refine hK.out _ _ (by trivial) (fun hHeld=>?_);clear hK K
           try simp only [Act.put]
           refine wpAnyH_ready (rs:=[3]) (by kernel_rfl) (by simp) ?_;refine AllReadyH.cons rfl (fun K hK=>?_) ?_
           ·skip
            go_simp;refine (jaA B y wd a1 a3).mono ?_;rw [hx];rintro e w' ⟨hg,rfl⟩;exact ⟨rfl,jad E.out (jaa HGd.out hg)⟩
           exact AllReadyH.nil
          refine AllReadyH.cons rfl (fun K hK=>?_) ?_
          ·skip
           go_simp;refine (jaA B y wd a1 a3).mono ?_;rw [hx];rintro e w' ⟨hg,rfl⟩;exact ⟨rfl,jad E.out (jaa HGd.out hg)⟩
          exact AllReadyH.nil
        ·have b1:(y.num==1)=false:=by simpa using h1
         have H1:=jac h1;clear h1
         by_cases h2:y.num=2
         ·have b2:(y.num==2)=true:=by simp [h2]
          have H2:=jac h2;clear h2;go_wp2_with fail;have TX:=jac (jaA B y w2 a1 a3);clear a0 a1 a2 a3
          rcases jaU y with ⟨q,hx⟩ | hx
          ·rw [hx] at TX;have ES:=jac (HF.out.trans (jay (f:=jav) (b:=⟨q,ns.map jc8,is.map jbp,os.map jbp,ts.map jc2⟩) (by unfold jav;rw [if_neg H1.out];rw [if_pos H2.out];rw [hx];rfl)));clear hx;refine TX.out.mono ?_;rintro e w3 ⟨hg3,v,rfl,rfl,rfl⟩;obtain ⟨⟨q0,q1,q2,q3,q4⟩,qf0,qf1,qf2,qf3,qf4⟩:=jam N2.out;go_wp2_with fail;have K4:=jac (jbo (j:=0) (.string q) HC2.out HG2.out T2.out BL.out.1 BL.out.2.1 BL.out.2.2);have N4:=jac ((jfi N2.out (.string q)).1);have R4:=jac ((K4.out.1 bR BN.out (by have:=HC2.out.lt;have:=BT.out;omega)).trans R2.out);clear q0 q1 q2 q3 q4 qf0 qf1 qf2 qf3 qf4;go_roundg r.length
           case measure=>simp
           case rel=>exact ⟨y,r,q,ns,is,os,ts,⟨na,ns.length,nc⟩,⟨ia,is.length,ic⟩,⟨oa,os.length,oc⟩,⟨ta,ts.length,tc⟩,rfl,R4.out,N4.out,K4.out.2.2.2,K4.out.2.1,K4.out.2.2.1,ES.out,⟨(by have:=HI.out.1;simp at this ⊢;omega),(by have:=HI.out.2.1;simp at this ⊢;omega),(by have:=HI.out.2.2.1;simp at this ⊢;omega),(by have:=HI.out.2.2.2.1;simp at this ⊢;omega),fun z hz=>HI.out.2.2.2.2 z (List.mem_cons_of_mem _ hz)⟩⟩
          ·rw [hx] at TX;have E:Hid (jaK s=.error 3):=by show _=_;rw [E0.out,HF.out,jaJ (f:=jav) (c:=3) (by unfold jav;rw [if_neg H1.out];rw [if_pos H2.out];rw [hx];rfl)];rfl
           clear hx;refine TX.out.mono ?_;rintro e w3 ⟨hg3,rfl⟩;exact ⟨rfl,jad E.out (jaa HG2.out hg3)⟩
         ·have b2:(y.num==2)=false:=by simpa using h2
          have H2:=jac h2;clear h2
          by_cases h5:y.num=5
          ·have b5:(y.num==5)=true:=by simp [h5]
           have H5:=jac h5;clear h5;go_wp2_with fail;obtain ⟨wd,hwd⟩ : ∃ wd,wd=w2.drew:=⟨_,rfl⟩
           have gd:w2.grownBy wd none:=by rw [hwd];exact ⟨rfl,rfl,rfl,Nat.le_refl _,fun _ _ _=>rfl⟩
           have HCd:=jac (HC2.out.more gd);have HGd:=jac (jaa HG2.out gd);have Td:=jac (T2.out.new gd);have Nd:=jac ((gd.block bG (by have:=HC2.out.lt;have:=BT.out;omega) (by simp)).trans N2.out);have Rd:=jac ((gd.block bR (by have:=HC2.out.lt;have:=BT.out;omega) (by simp)).trans R2.out);clear a0 a1 a2 a3 gd N2 R2 T2 HC2 HG2;obtain ⟨a0,a1,a2,a3⟩:=HCd.out.cells;have LD:Hid (∀ wx,wd.grownBy wx none→wx.cell? ⟨bG,4,none⟩=some (.slice ta ts.length tc)):=fun wx hg=>(jam ((hg.block bG (by have:=HCd.out.lt;have:=BT.out;show bG<_;omega) (by simp)).trans Nd.out)).1.2.2.2.2
           rcases jaU y with ⟨q,hx⟩ | hx
           ·have QS:Hid (q.size≤9223372036854775807):=by have:=jdY hx YB.out;show q.size≤_;omega
            cases hA:jaB q with
            | error c =>
             have E:Hid (jaK s=.error c):=by show _=_;rw [E0.out,HF.out,jaJ (f:=jav) (c:=c) (by unfold jav;rw [if_neg H1.out];rw [if_neg H2.out];rw [if_pos H5.out];rw [hx];show (jaB q).bind _=_;rw [hA];rfl)];rfl
             refine wp_region_held_drew (S:=fun _=>True) (by kernel_rfl) trivial (fun hHeld=>?_);rw [← hwd];clear hwd;refine tkA 0 ?_
             try simp only [Act.put]
             refine tkA 2 ?_
             try simp only [Act.put]
             refine wpAnyH_ready (rs:=[1,3]) (by kernel_rfl) (by simp) ?_;refine AllReadyH.cons rfl (fun K hK=>?_) ?_
             ·skip
              have n4:=LD.out wd (by exact jae _);go_simp;clear n4;refine hK.out _ _ (by trivial) (fun hHeld=>?_);clear hK K
              try simp only [Act.put]
              refine wpAnyH_ready (rs:=[3]) (by kernel_rfl) (by simp) ?_;refine AllReadyH.cons rfl (fun K hK=>?_) ?_
              ·skip
               go_simp;refine (jaA B y wd a1 a3).mono ?_;rw [hx];rintro e w' ⟨-,v,rfl,rfl,rfl⟩;refine hK.out _ _ (by trivial) (fun hHeld=>?_);clear hK K
               try simp only [Act.put]
               refine wpAnyH_ready (rs:=[4]) (by kernel_rfl) (by simp) ?_;refine AllReadyH.cons rfl (fun K hK=>?_) ?_
               ·skip
                go_simp;refine (jbI q wd QS.out).mono ?_;rw [hA];rintro e w' ⟨hg,rfl⟩;exact ⟨rfl,jad E.out (jaa HGd.out hg)⟩
               exact AllReadyH.nil
              exact AllReadyH.nil
             refine AllReadyH.cons rfl (fun K hK=>?_) ?_
             ·skip
              go_simp;refine (jaA B y wd a1 a3).mono ?_;rw [hx];rintro e w' ⟨-,v,rfl,rfl,rfl⟩;refine hK.out _ _ (by trivial) (fun hHeld=>?_);clear hK K
              try simp only [Act.put]
              refine wpAnyH_ready (rs:=[1,4]) (by kernel_rfl) (by simp) ?_;refine AllReadyH.cons rfl (fun K hK=>?_) ?_
              ·skip
               have n4:=LD.out wd (by exact jae _);go_simp;clear n4;refine hK.out _ _ (by trivial) (fun hHeld=>?_);clear hK K
               try simp only [Act.put]
               refine wpAnyH_ready (rs:=[4]) (by kernel_rfl) (by simp) ?_;refine AllReadyH.cons rfl (fun K hK=>?_) ?_
               ·skip
                go_simp;refine (jbI q wd QS.out).mono ?_;rw [hA];rintro e w' ⟨hg,rfl⟩;exact ⟨rfl,jad E.out (jaa HGd.out hg)⟩
               exact AllReadyH.nil
              refine AllReadyH.cons rfl (fun K hK=>?_) ?_
              ·skip
               go_simp;refine (jbI q wd QS.out).mono ?_;rw [hA];rintro e w' ⟨hg,rfl⟩;exact ⟨rfl,jad E.out (jaa HGd.out hg)⟩
              exact AllReadyH.nil
             exact AllReadyH.nil
            | ok A =>
             have sz:B+1≤wd.heap.size:=HCd.out.lt;have hle:ts.length+1≤16777216:=by have:=HI.out.2.2.2.1;simp at this;omega
             obtain ⟨vn,vt,vds,vdt⟩:=A;have ES:=jac (HF.out.trans (jay (f:=jav) (b:=⟨nm,ns.map jc8,is.map jbp,os.map jbp,ts.map jc2++[⟨vn,vt,vds,vdt⟩]⟩) (by unfold jav;rw [if_neg H1.out];rw [if_neg H2.out];rw [if_pos H5.out];rw [hx];show (jaB q).bind _=_;rw [hA];rfl)));refine wp_region_held_drew (S:=fun _=>True) (by kernel_rfl) trivial (fun hHeld=>?_);rw [← hwd];clear hwd;refine tkA 0 ?_
             try simp only [Act.put]
             refine tkA 2 ?_
             try simp only [Act.put]
             refine wpAnyH_ready (rs:=[1,3]) (by kernel_rfl) (by simp) ?_;refine AllReadyH.cons rfl (fun K hK=>?_) ?_
             ·skip
              have n4:=LD.out wd (by exact jae _);go_simp;clear n4;refine hK.out _ _ (by trivial) (fun hHeld=>?_);clear hK K
              try simp only [Act.put]
              refine wpAnyH_ready (rs:=[3]) (by kernel_rfl) (by simp) ?_;refine AllReadyH.cons rfl (fun K hK=>?_) ?_
              ·skip
               go_simp;refine (jaA B y wd a1 a3).mono ?_;rw [hx];rintro e w' ⟨-,v,rfl,rfl,rfl⟩;refine hK.out _ _ (by trivial) (fun hHeld=>?_);clear hK K
               try simp only [Act.put]
               refine wpAnyH_ready (rs:=[4]) (by kernel_rfl) (by simp) ?_;refine AllReadyH.cons rfl (fun K hK=>?_) ?_
               ·skip
                go_simp;refine (jbI q wd QS.out).mono ?_;rw [hA];rintro e w4 ⟨hg4,v,rfl,⟨yd,ydn,ydc⟩,⟨yt,ytn,ytc⟩,rfl,hyo,hyu⟩;simp only;have hyh:∀ wx,w4.grownBy wx none→jlW wx ⟨vn,vt,⟨yd,ydn,ydc⟩,⟨yt,ytn,ytc⟩⟩ (vds,vdt):=fun wx hg=>⟨(hyo.new hg).ints,(hyu.new hg).ints⟩
                have hyf:∀ b,jf9 ⟨vn,vt,⟨yd,ydn,ydc⟩,⟨yt,ytn,ytc⟩⟩ (vds,vdt) b→wd.heap.size≤b∧b<w4.heap.size:=fun b e=>by
                 rcases e with e | e
                 ·exact hyo.lt b e
                 ·exact World.ownsRow.lt hyu.1 b e
                clear hyo hyu;refine hK.out _ _ (by trivial) (fun hHeld=>?_);clear hK K
                try simp only [Act.put]
                refine wpAnyH_ready (rs:=[5]) (by kernel_rfl) (by simp) ?_;refine AllReadyH.cons rfl (fun K hK=>?_) ?_
                ·skip
                 go_simp;refine hK.out _ _ (by trivial) (fun hHeld=>?_);clear hK K
                 try simp only [Act.put]
                 refine wpAnyH_ready (rs:=[6]) (by kernel_rfl) (by simp) ?_;refine AllReadyH.cons rfl (fun K hK=>?_) ?_
                 ·skip
                  have gn:wd.grownBy (w4.alloc (.cells #[.string vn,.int .i64 vt,.slice yd ydn ydc,.slice yt ytn ytc] 67)) none:=jaa hg4 (jab _ _);have s4:=hg4.size;have OW:=Td.out.ot.own.more gn;unfold OwnsL at OW;rw [List.length_map] at OW;refine step_append_lies _ (by rfl) (.tmp 32) (.tmp 36) 25 (by rfl) (B+1) 67 nm0 (.agg #[.string ⟨#[]⟩,.int .i64 0,.slice none 0 0,.slice none 0 0]) 4 72 Tryz.underlying25 nm1 nm2 nm3 nm4 (by rfl) (by decide) (.slice ta ts.length tc) ts.length ((ts.map (·.1)).flatMap jbm) (by rfl) (by exact OW) ⟨w4.heap.size,0,none⟩ 1 1 (jbm (Nam.mk vn vt ⟨yd,ydn,ydc⟩ ⟨yt,ytn,ytc⟩)) (by rfl) (by rfl) (by exact jbV w4 _ _ _ rfl) (jdu _) (by decide) (by simp only [maxLen];omega) (by omega) (by simp;omega) (w4.heap.size+1) (by simp) ?_;intro g cap w8 hown' hgrow hat hlt;have K8:=jac (jbb (fun g e=>(World.ownsRow.lt Td.out.ot.own g e).1) hgrow (HCd.out.more gn) (jaa HGd.out gn) HB.out);have N8:=jac ((K8.out.1 bG (by have:=BT.out;omega)).trans ((gn.block bG (by have:=BT.out;omega) (by simp)).trans Nd.out));have hown2:OwnsL 67 4 jbm w8 (B+1) (.slice (some ⟨g,0,none⟩) (ts.length+1) cap) (ts.map (·.1)++[(Nam.mk vn vt ⟨yd,ydn,ydc⟩ ⟨yt,ytn,ytc⟩)]):=by unfold OwnsL;rw [List.length_append,List.flatMap_append,List.length_map];simpa using hown'
                  have hat2:(Value.slice ta ts.length tc).ownBlock=some g∨g=(w4.alloc (.cells #[.string vn,.int .i64 vt,.slice yd ydn ydc,.slice yt ytn ytc] 67)).heap.size:=hat.imp_right (fun e=>by rw [e];simp);have hal:=hyh (w4.alloc (.cells #[.string vn,.int .i64 vt,.slice yd ydn ydc,.slice yt ytn ytc] 67)) (jab _ _);have T8:=jac (Td.out.sett (y:=(Nam.mk vn vt ⟨yd,ydn,ydc⟩ ⟨yt,ytn,ytc⟩)) (c:=(vds,vdt)) gn hgrow (OwnD.snoc jbB Td.out.ot (by omega) gn hgrow hat2 hown2 hal (fun b e=>⟨(hyf b e).1,by have:=(hyf b e).2;simp;omega⟩)) (jbv (hat2.imp_right (fun e=>by rw [e];exact gn.size))) (fun b e=>(hyf b e).1));obtain ⟨⟨p0,p1,p2,p3,p4⟩,qf0,qf1,qf2,qf3,qf4⟩:=jam N8.out;refine hK.out _ _ (by trivial) (fun hHeld=>?_);clear hK K
                  try simp only [Act.put]
                  refine tkA 7 ?_
                  try simp only [Act.put]
                  refine wpAnyH_ready (rs:=[8]) (by kernel_rfl) (by simp) ?_;refine AllReadyH.cons rfl (fun K hK=>?_) ?_
                  ·skip
                   go_simp;refine hK.out _ _ (by trivial) (fun hHeld=>?_);clear hK K
                   try simp only [Act.put]
                   refine wpAnyH_done (by kernel_rfl) ?_ _;have R8:=jac ((K8.out.1 bR (by have:=BT.out;omega)).trans ((gn.block bR (by have:=BT.out;omega) (by simp)).trans Rd.out));have K9:=jac (jbo (j:=4) (.slice (some ⟨g,0,none⟩) (ts.length+1) cap) K8.out.2.1 K8.out.2.2 T8.out BL.out.1 BL.out.2.1 BL.out.2.2);have N9:=jac ((jfi N8.out (.slice (some ⟨g,0,none⟩) (ts.length+1) cap)).2.2.2.2);have R9:=jac ((K9.out.1 bR BN.out (by have:=K8.out.2.1.lt;have:=BT.out;omega)).trans R8.out);have ES9:=jac (show jaF jav g0 l=jaF jav ⟨nm,ns.map jc8,is.map jbp,os.map jbp,(ts++[((Nam.mk vn vt ⟨yd,ydn,ydc⟩ ⟨yt,ytn,ytc⟩),(vds,vdt))]).map jc2⟩ r by rw [List.map_append,ES.out];rfl);clear hown' hown2 hgrow hat hlt p0 p1 p2 p3 p4 qf0 qf1 qf2 qf3 qf4 gn a0 a1 a2 a3 hyh hyf hat2 hal s4 OW;go_wp2_with fail;go_roundg r.length
                   case measure=>simp
                   case rel=>exact ⟨y,r,nm,ns,is,os,ts++[((Nam.mk vn vt ⟨yd,ydn,ydc⟩ ⟨yt,ytn,ytc⟩),(vds,vdt))],⟨na,ns.length,nc⟩,⟨ia,is.length,ic⟩,⟨oa,os.length,oc⟩,⟨some ⟨g,0,none⟩,ts.length+1,cap⟩,rfl,R9.out,N9.out,K9.out.2.2.2,K9.out.2.1,K9.out.2.2.1,ES9.out,⟨(by have:=HI.out.1;simp at this ⊢;omega),(by have:=HI.out.2.1;simp at this ⊢;omega),(by have:=HI.out.2.2.1;simp at this ⊢;omega),(by have:=HI.out.2.2.2.1;simp at this ⊢;omega),fun z hz=>HI.out.2.2.2.2 z (List.mem_cons_of_mem _ hz)⟩⟩
                  exact AllReadyH.nil
                 exact AllReadyH.nil
                exact AllReadyH.nil
               exact AllReadyH.nil
              exact AllReadyH.nil
             refine AllReadyH.cons rfl (fun K hK=>?_) ?_
             ·skip
              go_simp;refine (jaA B y wd a1 a3).mono ?_;rw [hx];rintro e w' ⟨-,v,rfl,rfl,rfl⟩;refine hK.out _ _ (by trivial) (fun hHeld=>?_);clear hK K
              try simp only [Act.put]
              refine wpAnyH_ready (rs:=[1,4]) (by kernel_rfl) (by simp) ?_;refine AllReadyH.cons rfl (fun K hK=>?_) ?_
              ·skip
               have n4:=LD.out wd (by exact jae _);go_simp;clear n4;refine hK.out _ _ (by trivial) (fun hHeld=>?_);clear hK K
               try simp only [Act.put]
               refine wpAnyH_ready (rs:=[4]) (by kernel_rfl) (by simp) ?_;refine AllReadyH.cons rfl (fun K hK=>?_) ?_
               ·skip
                go_simp;refine (jbI q wd QS.out).mono ?_;rw [hA];rintro e w4 ⟨hg4,v,rfl,⟨yd,ydn,ydc⟩,⟨yt,ytn,ytc⟩,rfl,hyo,hyu⟩;simp only;have hyh:∀ wx,w4.grownBy wx none→jlW wx ⟨vn,vt,⟨yd,ydn,ydc⟩,⟨yt,ytn,ytc⟩⟩ (vds,vdt):=fun wx hg=>⟨(hyo.new hg).ints,(hyu.new hg).ints⟩
                have hyf:∀ b,jf9 ⟨vn,vt,⟨yd,ydn,ydc⟩,⟨yt,ytn,ytc⟩⟩ (vds,vdt) b→wd.heap.size≤b∧b<w4.heap.size:=fun b e=>by
                 rcases e with e | e
                 ·exact hyo.lt b e
                 ·exact World.ownsRow.lt hyu.1 b e
                clear hyo hyu;refine hK.out _ _ (by trivial) (fun hHeld=>?_);clear hK K
                try simp only [Act.put]
                refine wpAnyH_ready (rs:=[5]) (by kernel_rfl) (by simp) ?_;refine AllReadyH.cons rfl (fun K hK=>?_) ?_
                ·skip
                 go_simp;refine hK.out _ _ (by trivial) (fun hHeld=>?_);clear hK K
                 try simp only [Act.put]
                 refine wpAnyH_ready (rs:=[6]) (by kernel_rfl) (by simp) ?_;refine AllReadyH.cons rfl (fun K hK=>?_) ?_
                 ·skip
                  have gn:wd.grownBy (w4.alloc (.cells #[.string vn,.int .i64 vt,.slice yd ydn ydc,.slice yt ytn ytc] 67)) none:=jaa hg4 (jab _ _);have s4:=hg4.size;have OW:=Td.out.ot.own.more gn;unfold OwnsL at OW;rw [List.length_map] at OW;refine step_append_lies _ (by rfl) (.tmp 32) (.tmp 36) 25 (by rfl) (B+1) 67 nm0 (.agg #[.string ⟨#[]⟩,.int .i64 0,.slice none 0 0,.slice none 0 0]) 4 72 Tryz.underlying25 nm1 nm2 nm3 nm4 (by rfl) (by decide) (.slice ta ts.length tc) ts.length ((ts.map (·.1)).flatMap jbm) (by rfl) (by exact OW) ⟨w4.heap.size,0,none⟩ 1 1 (jbm (Nam.mk vn vt ⟨yd,ydn,ydc⟩ ⟨yt,ytn,ytc⟩)) (by rfl) (by rfl) (by exact jbV w4 _ _ _ rfl) (jdu _) (by decide) (by simp only [maxLen];omega) (by omega) (by simp;omega) (w4.heap.size+1) (by simp) ?_;intro g cap w8 hown' hgrow hat hlt;have K8:=jac (jbb (fun g e=>(World.ownsRow.lt Td.out.ot.own g e).1) hgrow (HCd.out.more gn) (jaa HGd.out gn) HB.out);have N8:=jac ((K8.out.1 bG (by have:=BT.out;omega)).trans ((gn.block bG (by have:=BT.out;omega) (by simp)).trans Nd.out));have hown2:OwnsL 67 4 jbm w8 (B+1) (.slice (some ⟨g,0,none⟩) (ts.length+1) cap) (ts.map (·.1)++[(Nam.mk vn vt ⟨yd,ydn,ydc⟩ ⟨yt,ytn,ytc⟩)]):=by unfold OwnsL;rw [List.length_append,List.flatMap_append,List.length_map];simpa using hown'
                  have hat2:(Value.slice ta ts.length tc).ownBlock=some g∨g=(w4.alloc (.cells #[.string vn,.int .i64 vt,.slice yd ydn ydc,.slice yt ytn ytc] 67)).heap.size:=hat.imp_right (fun e=>by rw [e];simp);have hal:=hyh (w4.alloc (.cells #[.string vn,.int .i64 vt,.slice yd ydn ydc,.slice yt ytn ytc] 67)) (jab _ _);have T8:=jac (Td.out.sett (y:=(Nam.mk vn vt ⟨yd,ydn,ydc⟩ ⟨yt,ytn,ytc⟩)) (c:=(vds,vdt)) gn hgrow (OwnD.snoc jbB Td.out.ot (by omega) gn hgrow hat2 hown2 hal (fun b e=>⟨(hyf b e).1,by have:=(hyf b e).2;simp;omega⟩)) (jbv (hat2.imp_right (fun e=>by rw [e];exact gn.size))) (fun b e=>(hyf b e).1));obtain ⟨⟨p0,p1,p2,p3,p4⟩,qf0,qf1,qf2,qf3,qf4⟩:=jam N8.out;refine hK.out _ _ (by trivial) (fun hHeld=>?_);clear hK K
                  try simp only [Act.put]
                  refine tkA 7 ?_
                  try simp only [Act.put]
                  refine wpAnyH_ready (rs:=[8]) (by kernel_rfl) (by simp) ?_;refine AllReadyH.cons rfl (fun K hK=>?_) ?_
                  ·skip
                   go_simp;refine hK.out _ _ (by trivial) (fun hHeld=>?_);clear hK K
                   try simp only [Act.put]
                   refine wpAnyH_done (by kernel_rfl) ?_ _;have R8:=jac ((K8.out.1 bR (by have:=BT.out;omega)).trans ((gn.block bR (by have:=BT.out;omega) (by simp)).trans Rd.out));have K9:=jac (jbo (j:=4) (.slice (some ⟨g,0,none⟩) (ts.length+1) cap) K8.out.2.1 K8.out.2.2 T8.out BL.out.1 BL.out.2.1 BL.out.2.2);have N9:=jac ((jfi N8.out (.slice (some ⟨g,0,none⟩) (ts.length+1) cap)).2.2.2.2);have R9:=jac ((K9.out.1 bR BN.out (by have:=K8.out.2.1.lt;have:=BT.out;omega)).trans R8.out);have ES9:=jac (show jaF jav g0 l=jaF jav ⟨nm,ns.map jc8,is.map jbp,os.map jbp,(ts++[((Nam.mk vn vt ⟨yd,ydn,ydc⟩ ⟨yt,ytn,ytc⟩),(vds,vdt))]).map jc2⟩ r by rw [List.map_append,ES.out];rfl);clear hown' hown2 hgrow hat hlt p0 p1 p2 p3 p4 qf0 qf1 qf2 qf3 qf4 gn a0 a1 a2 a3 hyh hyf hat2 hal s4 OW;go_wp2_with fail;go_roundg r.length
                   case measure=>simp
                   case rel=>exact ⟨y,r,nm,ns,is,os,ts++[((Nam.mk vn vt ⟨yd,ydn,ydc⟩ ⟨yt,ytn,ytc⟩),(vds,vdt))],⟨na,ns.length,nc⟩,⟨ia,is.length,ic⟩,⟨oa,os.length,oc⟩,⟨some ⟨g,0,none⟩,ts.length+1,cap⟩,rfl,R9.out,N9.out,K9.out.2.2.2,K9.out.2.1,K9.out.2.2.1,ES9.out,⟨(by have:=HI.out.1;simp at this ⊢;omega),(by have:=HI.out.2.1;simp at this ⊢;omega),(by have:=HI.out.2.2.1;simp at this ⊢;omega),(by have:=HI.out.2.2.2.1;simp at this ⊢;omega),fun z hz=>HI.out.2.2.2.2 z (List.mem_cons_of_mem _ hz)⟩⟩
                  exact AllReadyH.nil
                 exact AllReadyH.nil
                exact AllReadyH.nil
               exact AllReadyH.nil
              refine AllReadyH.cons rfl (fun K hK=>?_) ?_
              ·skip
               go_simp;refine (jbI q wd QS.out).mono ?_;rw [hA];rintro e w4 ⟨hg4,v,rfl,⟨yd,ydn,ydc⟩,⟨yt,ytn,ytc⟩,rfl,hyo,hyu⟩;simp only;have hyh:∀ wx,w4.grownBy wx none→jlW wx ⟨vn,vt,⟨yd,ydn,ydc⟩,⟨yt,ytn,ytc⟩⟩ (vds,vdt):=fun wx hg=>⟨(hyo.new hg).ints,(hyu.new hg).ints⟩
               have hyf:∀ b,jf9 ⟨vn,vt,⟨yd,ydn,ydc⟩,⟨yt,ytn,ytc⟩⟩ (vds,vdt) b→wd.heap.size≤b∧b<w4.heap.size:=fun b e=>by
                rcases e with e | e
                ·exact hyo.lt b e
                ·exact World.ownsRow.lt hyu.1 b e
               clear hyo hyu;refine hK.out _ _ (by trivial) (fun hHeld=>?_);clear hK K
               try simp only [Act.put]
               refine wpAnyH_ready (rs:=[1,5]) (by kernel_rfl) (by simp) ?_;refine AllReadyH.cons rfl (fun K hK=>?_) ?_
               ·skip
                have n4:=LD.out w4 (by exact hg4);go_simp;clear n4;refine hK.out _ _ (by trivial) (fun hHeld=>?_);clear hK K
                try simp only [Act.put]
                refine wpAnyH_ready (rs:=[5]) (by kernel_rfl) (by simp) ?_;refine AllReadyH.cons rfl (fun K hK=>?_) ?_
                ·skip
                 go_simp;refine hK.out _ _ (by trivial) (fun hHeld=>?_);clear hK K
                 try simp only [Act.put]
                 refine wpAnyH_ready (rs:=[6]) (by kernel_rfl) (by simp) ?_;refine AllReadyH.cons rfl (fun K hK=>?_) ?_
                 ·skip
                  have gn:wd.grownBy (w4.alloc (.cells #[.string vn,.int .i64 vt,.slice yd ydn ydc,.slice yt ytn ytc] 67)) none:=jaa hg4 (jab _ _);have s4:=hg4.size;have OW:=Td.out.ot.own.more gn;unfold OwnsL at OW;rw [List.length_map] at OW;refine step_append_lies _ (by rfl) (.tmp 32) (.tmp 36) 25 (by rfl) (B+1) 67 nm0 (.agg #[.string ⟨#[]⟩,.int .i64 0,.slice none 0 0,.slice none 0 0]) 4 72 Tryz.underlying25 nm1 nm2 nm3 nm4 (by rfl) (by decide) (.slice ta ts.length tc) ts.length ((ts.map (·.1)).flatMap jbm) (by rfl) (by exact OW) ⟨w4.heap.size,0,none⟩ 1 1 (jbm (Nam.mk vn vt ⟨yd,ydn,ydc⟩ ⟨yt,ytn,ytc⟩)) (by rfl) (by rfl) (by exact jbV w4 _ _ _ rfl) (jdu _) (by decide) (by simp only [maxLen];omega) (by omega) (by simp;omega) (w4.heap.size+1) (by simp) ?_;intro g cap w8 hown' hgrow hat hlt;have K8:=jac (jbb (fun g e=>(World.ownsRow.lt Td.out.ot.own g e).1) hgrow (HCd.out.more gn) (jaa HGd.out gn) HB.out);have N8:=jac ((K8.out.1 bG (by have:=BT.out;omega)).trans ((gn.block bG (by have:=BT.out;omega) (by simp)).trans Nd.out));have hown2:OwnsL 67 4 jbm w8 (B+1) (.slice (some ⟨g,0,none⟩) (ts.length+1) cap) (ts.map (·.1)++[(Nam.mk vn vt ⟨yd,ydn,ydc⟩ ⟨yt,ytn,ytc⟩)]):=by unfold OwnsL;rw [List.length_append,List.flatMap_append,List.length_map];simpa using hown'
                  have hat2:(Value.slice ta ts.length tc).ownBlock=some g∨g=(w4.alloc (.cells #[.string vn,.int .i64 vt,.slice yd ydn ydc,.slice yt ytn ytc] 67)).heap.size:=hat.imp_right (fun e=>by rw [e];simp);have hal:=hyh (w4.alloc (.cells #[.string vn,.int .i64 vt,.slice yd ydn ydc,.slice yt ytn ytc] 67)) (jab _ _);have T8:=jac (Td.out.sett (y:=(Nam.mk vn vt ⟨yd,ydn,ydc⟩ ⟨yt,ytn,ytc⟩)) (c:=(vds,vdt)) gn hgrow (OwnD.snoc jbB Td.out.ot (by omega) gn hgrow hat2 hown2 hal (fun b e=>⟨(hyf b e).1,by have:=(hyf b e).2;simp;omega⟩)) (jbv (hat2.imp_right (fun e=>by rw [e];exact gn.size))) (fun b e=>(hyf b e).1));obtain ⟨⟨p0,p1,p2,p3,p4⟩,qf0,qf1,qf2,qf3,qf4⟩:=jam N8.out;refine hK.out _ _ (by trivial) (fun hHeld=>?_);clear hK K
                  try simp only [Act.put]
                  refine tkA 7 ?_
                  try simp only [Act.put]
                  refine wpAnyH_ready (rs:=[8]) (by kernel_rfl) (by simp) ?_;refine AllReadyH.cons rfl (fun K hK=>?_) ?_
                  ·skip
                   go_simp;refine hK.out _ _ (by trivial) (fun hHeld=>?_);clear hK K
                   try simp only [Act.put]
                   refine wpAnyH_done (by kernel_rfl) ?_ _;have R8:=jac ((K8.out.1 bR (by have:=BT.out;omega)).trans ((gn.block bR (by have:=BT.out;omega) (by simp)).trans Rd.out));have K9:=jac (jbo (j:=4) (.slice (some ⟨g,0,none⟩) (ts.length+1) cap) K8.out.2.1 K8.out.2.2 T8.out BL.out.1 BL.out.2.1 BL.out.2.2);have N9:=jac ((jfi N8.out (.slice (some ⟨g,0,none⟩) (ts.length+1) cap)).2.2.2.2);have R9:=jac ((K9.out.1 bR BN.out (by have:=K8.out.2.1.lt;have:=BT.out;omega)).trans R8.out);have ES9:=jac (show jaF jav g0 l=jaF jav ⟨nm,ns.map jc8,is.map jbp,os.map jbp,(ts++[((Nam.mk vn vt ⟨yd,ydn,ydc⟩ ⟨yt,ytn,ytc⟩),(vds,vdt))]).map jc2⟩ r by rw [List.map_append,ES.out];rfl);clear hown' hown2 hgrow hat hlt p0 p1 p2 p3 p4 qf0 qf1 qf2 qf3 qf4 gn a0 a1 a2 a3 hyh hyf hat2 hal s4 OW;go_wp2_with fail;go_roundg r.length
                   case measure=>simp
                   case rel=>exact ⟨y,r,nm,ns,is,os,ts++[((Nam.mk vn vt ⟨yd,ydn,ydc⟩ ⟨yt,ytn,ytc⟩),(vds,vdt))],⟨na,ns.length,nc⟩,⟨ia,is.length,ic⟩,⟨oa,os.length,oc⟩,⟨some ⟨g,0,none⟩,ts.length+1,cap⟩,rfl,R9.out,N9.out,K9.out.2.2.2,K9.out.2.1,K9.out.2.2.1,ES9.out,⟨(by have:=HI.out.1;simp at this ⊢;omega),(by have:=HI.out.2.1;simp at this ⊢;omega),(by have:=HI.out.2.2.1;simp at this ⊢;omega),(by have:=HI.out.2.2.2.1;simp at this ⊢;omega),fun z hz=>HI.out.2.2.2.2 z (List.mem_cons_of_mem _ hz)⟩⟩
                  exact AllReadyH.nil
                 exact AllReadyH.nil
                exact AllReadyH.nil
               refine AllReadyH.cons rfl (fun K hK=>?_) ?_
               ·skip
                go_simp;refine hK.out _ _ (by trivial) (fun hHeld=>?_);clear hK K
                try simp only [Act.put]
                refine wpAnyH_ready (rs:=[1]) (by kernel_rfl) (by simp) ?_;refine AllReadyH.cons rfl (fun K hK=>?_) ?_
                ·skip
                 have n4:=LD.out _ (by exact jaa hg4 (jab w4 (.cells #[.string vn,.int .i64 vt,.slice yd ydn ydc,.slice yt ytn ytc] 67)));go_simp;clear n4;refine hK.out _ _ (by trivial) (fun hHeld=>?_);clear hK K
                 try simp only [Act.put]
                 refine wpAnyH_ready (rs:=[6]) (by kernel_rfl) (by simp) ?_;refine AllReadyH.cons rfl (fun K hK=>?_) ?_
                 ·skip
                  have gn:wd.grownBy (w4.alloc (.cells #[.string vn,.int .i64 vt,.slice yd ydn ydc,.slice yt ytn ytc] 67)) none:=jaa hg4 (jab _ _);have s4:=hg4.size;have OW:=Td.out.ot.own.more gn;unfold OwnsL at OW;rw [List.length_map] at OW;refine step_append_lies _ (by rfl) (.tmp 32) (.tmp 36) 25 (by rfl) (B+1) 67 nm0 (.agg #[.string ⟨#[]⟩,.int .i64 0,.slice none 0 0,.slice none 0 0]) 4 72 Tryz.underlying25 nm1 nm2 nm3 nm4 (by rfl) (by decide) (.slice ta ts.length tc) ts.length ((ts.map (·.1)).flatMap jbm) (by rfl) (by exact OW) ⟨w4.heap.size,0,none⟩ 1 1 (jbm (Nam.mk vn vt ⟨yd,ydn,ydc⟩ ⟨yt,ytn,ytc⟩)) (by rfl) (by rfl) (by exact jbV w4 _ _ _ rfl) (jdu _) (by decide) (by simp only [maxLen];omega) (by omega) (by simp;omega) (w4.heap.size+1) (by simp) ?_;intro g cap w8 hown' hgrow hat hlt;have K8:=jac (jbb (fun g e=>(World.ownsRow.lt Td.out.ot.own g e).1) hgrow (HCd.out.more gn) (jaa HGd.out gn) HB.out);have N8:=jac ((K8.out.1 bG (by have:=BT.out;omega)).trans ((gn.block bG (by have:=BT.out;omega) (by simp)).trans Nd.out));have hown2:OwnsL 67 4 jbm w8 (B+1) (.slice (some ⟨g,0,none⟩) (ts.length+1) cap) (ts.map (·.1)++[(Nam.mk vn vt ⟨yd,ydn,ydc⟩ ⟨yt,ytn,ytc⟩)]):=by unfold OwnsL;rw [List.length_append,List.flatMap_append,List.length_map];simpa using hown'
                  have hat2:(Value.slice ta ts.length tc).ownBlock=some g∨g=(w4.alloc (.cells #[.string vn,.int .i64 vt,.slice yd ydn ydc,.slice yt ytn ytc] 67)).heap.size:=hat.imp_right (fun e=>by rw [e];simp);have hal:=hyh (w4.alloc (.cells #[.string vn,.int .i64 vt,.slice yd ydn ydc,.slice yt ytn ytc] 67)) (jab _ _);have T8:=jac (Td.out.sett (y:=(Nam.mk vn vt ⟨yd,ydn,ydc⟩ ⟨yt,ytn,ytc⟩)) (c:=(vds,vdt)) gn hgrow (OwnD.snoc jbB Td.out.ot (by omega) gn hgrow hat2 hown2 hal (fun b e=>⟨(hyf b e).1,by have:=(hyf b e).2;simp;omega⟩)) (jbv (hat2.imp_right (fun e=>by rw [e];exact gn.size))) (fun b e=>(hyf b e).1));obtain ⟨⟨p0,p1,p2,p3,p4⟩,qf0,qf1,qf2,qf3,qf4⟩:=jam N8.out;refine hK.out _ _ (by trivial) (fun hHeld=>?_);clear hK K
                  try simp only [Act.put]
                  refine tkA 7 ?_
                  try simp only [Act.put]
                  refine wpAnyH_ready (rs:=[8]) (by kernel_rfl) (by simp) ?_;refine AllReadyH.cons rfl (fun K hK=>?_) ?_
                  ·skip
                   go_simp;refine hK.out _ _ (by trivial) (fun hHeld=>?_);clear hK K
                   try simp only [Act.put]
                   refine wpAnyH_done (by kernel_rfl) ?_ _;have R8:=jac ((K8.out.1 bR (by have:=BT.out;omega)).trans ((gn.block bR (by have:=BT.out;omega) (by simp)).trans Rd.out));have K9:=jac (jbo (j:=4) (.slice (some ⟨g,0,none⟩) (ts.length+1) cap) K8.out.2.1 K8.out.2.2 T8.out BL.out.1 BL.out.2.1 BL.out.2.2);have N9:=jac ((jfi N8.out (.slice (some ⟨g,0,none⟩) (ts.length+1) cap)).2.2.2.2);have R9:=jac ((K9.out.1 bR BN.out (by have:=K8.out.2.1.lt;have:=BT.out;omega)).trans R8.out);have ES9:=jac (show jaF jav g0 l=jaF jav ⟨nm,ns.map jc8,is.map jbp,os.map jbp,(ts++[((Nam.mk vn vt ⟨yd,ydn,ydc⟩ ⟨yt,ytn,ytc⟩),(vds,vdt))]).map jc2⟩ r by rw [List.map_append,ES.out];rfl);clear hown' hown2 hgrow hat hlt p0 p1 p2 p3 p4 qf0 qf1 qf2 qf3 qf4 gn a0 a1 a2 a3 hyh hyf hat2 hal s4 OW;go_wp2_with fail;go_roundg r.length
                   case measure=>simp
                   case rel=>exact ⟨y,r,nm,ns,is,os,ts++[((Nam.mk vn vt ⟨yd,ydn,ydc⟩ ⟨yt,ytn,ytc⟩),(vds,vdt))],⟨na,ns.length,nc⟩,⟨ia,is.length,ic⟩,⟨oa,os.length,oc⟩,⟨some ⟨g,0,none⟩,ts.length+1,cap⟩,rfl,R9.out,N9.out,K9.out.2.2.2,K9.out.2.1,K9.out.2.2.1,ES9.out,⟨(by have:=HI.out.1;simp at this ⊢;omega),(by have:=HI.out.2.1;simp at this ⊢;omega),(by have:=HI.out.2.2.1;simp at this ⊢;omega),(by have:=HI.out.2.2.2.1;simp at this ⊢;omega),fun z hz=>HI.out.2.2.2.2 z (List.mem_cons_of_mem _ hz)⟩⟩
                  exact AllReadyH.nil
                 exact AllReadyH.nil
                exact AllReadyH.nil
               exact AllReadyH.nil
              exact AllReadyH.nil
             exact AllReadyH.nil
           ·skip
            have E:Hid (jaK s=.error 3):=by show _=_;rw [E0.out,HF.out,jaJ (f:=jav) (c:=3) (by unfold jav;rw [if_neg H1.out];rw [if_neg H2.out];rw [if_pos H5.out];rw [hx];rfl)];rfl
            refine wp_region_held_drew (S:=fun _=>True) (by kernel_rfl) trivial (fun hHeld=>?_);rw [← hwd];clear hwd;refine tkA 0 ?_
            try simp only [Act.put]
            refine tkA 2 ?_
            try simp only [Act.put]
            refine wpAnyH_ready (rs:=[1,3]) (by kernel_rfl) (by simp) ?_;refine AllReadyH.cons rfl (fun K hK=>?_) ?_
            ·skip
             have n4:=LD.out wd (by exact jae _);go_simp;clear n4;refine hK.out _ _ (by trivial) (fun hHeld=>?_);clear hK K
             try simp only [Act.put]
             refine wpAnyH_ready (rs:=[3]) (by kernel_rfl) (by simp) ?_;refine AllReadyH.cons rfl (fun K hK=>?_) ?_
             ·skip
              go_simp;refine (jaA B y wd a1 a3).mono ?_;rw [hx];rintro e w' ⟨hg,rfl⟩;exact ⟨rfl,jad E.out (jaa HGd.out hg)⟩
             exact AllReadyH.nil
            refine AllReadyH.cons rfl (fun K hK=>?_) ?_
            ·skip
             go_simp;refine (jaA B y wd a1 a3).mono ?_;rw [hx];rintro e w' ⟨hg,rfl⟩;exact ⟨rfl,jad E.out (jaa HGd.out hg)⟩
            exact AllReadyH.nil
          ·have b5:(y.num==5)=false:=by simpa using h5
           have H5:=jac h5;clear h5
           by_cases h11:y.num=11
           ·have b11:(y.num==11)=true:=by simp [h11]
            have H11:=jac h11;clear h11;go_wp2_with fail;obtain ⟨wd,hwd⟩ : ∃ wd,wd=w2.drew:=⟨_,rfl⟩
            have gd:w2.grownBy wd none:=by rw [hwd];exact ⟨rfl,rfl,rfl,Nat.le_refl _,fun _ _ _=>rfl⟩
            have HCd:=jac (HC2.out.more gd);have HGd:=jac (jaa HG2.out gd);have Td:=jac (T2.out.new gd);have Nd:=jac ((gd.block bG (by have:=HC2.out.lt;have:=BT.out;omega) (by simp)).trans N2.out);have Rd:=jac ((gd.block bR (by have:=HC2.out.lt;have:=BT.out;omega) (by simp)).trans R2.out);clear a0 a1 a2 a3 gd N2 R2 T2 HC2 HG2;obtain ⟨a0,a1,a2,a3⟩:=HCd.out.cells;have LD:Hid (∀ wx,wd.grownBy wx none→wx.cell? ⟨bG,2,none⟩=some (.slice ia is.length ic)):=fun wx hg=>(jam ((hg.block bG (by have:=HCd.out.lt;have:=BT.out;show bG<_;omega) (by simp)).trans Nd.out)).1.2.2.1
            rcases jaU y with ⟨q,hx⟩ | hx
            ·have QS:Hid (q.size≤9223372036854775807):=by have:=jdY hx YB.out;show q.size≤_;omega
             cases hA:jaG q with
             | error c =>
              have E:Hid (jaK s=.error c):=by show _=_;rw [E0.out,HF.out,jaJ (f:=jav) (c:=c) (by unfold jav;rw [if_neg H1.out];rw [if_neg H2.out];rw [if_neg H5.out];rw [if_pos H11.out];rw [hx];show (jaG q).bind _=_;rw [hA];rfl)];rfl
              refine wp_region_held_drew (S:=fun _=>True) (by kernel_rfl) trivial (fun hHeld=>?_);rw [← hwd];clear hwd;refine tkA 0 ?_
              try simp only [Act.put]
              refine tkA 2 ?_
              try simp only [Act.put]
              refine wpAnyH_ready (rs:=[1,3]) (by kernel_rfl) (by simp) ?_;refine AllReadyH.cons rfl (fun K hK=>?_) ?_
              ·skip
               have n4:=LD.out wd (by exact jae _);go_simp;clear n4;refine hK.out _ _ (by trivial) (fun hHeld=>?_);clear hK K
               try simp only [Act.put]
               refine wpAnyH_ready (rs:=[3]) (by kernel_rfl) (by simp) ?_;refine AllReadyH.cons rfl (fun K hK=>?_) ?_
               ·skip
                go_simp;refine (jaA B y wd a1 a3).mono ?_;rw [hx];rintro e w' ⟨-,v,rfl,rfl,rfl⟩;refine hK.out _ _ (by trivial) (fun hHeld=>?_);clear hK K
                try simp only [Act.put]
                refine wpAnyH_ready (rs:=[4]) (by kernel_rfl) (by simp) ?_;refine AllReadyH.cons rfl (fun K hK=>?_) ?_
                ·skip
                 go_simp;refine (ja8 q wd QS.out).mono ?_;rw [hA];rintro e w' ⟨hg,rfl⟩;exact ⟨rfl,jad E.out (jaa HGd.out hg)⟩
                exact AllReadyH.nil
               exact AllReadyH.nil
              refine AllReadyH.cons rfl (fun K hK=>?_) ?_
              ·skip
               go_simp;refine (jaA B y wd a1 a3).mono ?_;rw [hx];rintro e w' ⟨-,v,rfl,rfl,rfl⟩;refine hK.out _ _ (by trivial) (fun hHeld=>?_);clear hK K
               try simp only [Act.put]
               refine wpAnyH_ready (rs:=[1,4]) (by kernel_rfl) (by simp) ?_;refine AllReadyH.cons rfl (fun K hK=>?_) ?_
               ·skip
                have n4:=LD.out wd (by exact jae _);go_simp;clear n4;refine hK.out _ _ (by trivial) (fun hHeld=>?_);clear hK K
                try simp only [Act.put]
                refine wpAnyH_ready (rs:=[4]) (by kernel_rfl) (by simp) ?_;refine AllReadyH.cons rfl (fun K hK=>?_) ?_
                ·skip
                 go_simp;refine (ja8 q wd QS.out).mono ?_;rw [hA];rintro e w' ⟨hg,rfl⟩;exact ⟨rfl,jad E.out (jaa HGd.out hg)⟩
                exact AllReadyH.nil
               refine AllReadyH.cons rfl (fun K hK=>?_) ?_
               ·skip
                go_simp;refine (ja8 q wd QS.out).mono ?_;rw [hA];rintro e w' ⟨hg,rfl⟩;exact ⟨rfl,jad E.out (jaa HGd.out hg)⟩
               exact AllReadyH.nil
              exact AllReadyH.nil
             | ok A =>
              have sz:B+1≤wd.heap.size:=HCd.out.lt;have hle:is.length+1≤16777216:=by have:=HI.out.2.1;simp at this;omega
              obtain ⟨vn,vt,vds⟩:=A;have ES:=jac (HF.out.trans (jay (f:=jav) (b:=⟨nm,ns.map jc8,is.map jbp++[⟨vn,vt,vds⟩],os.map jbp,ts.map jc2⟩) (by unfold jav;rw [if_neg H1.out];rw [if_neg H2.out];rw [if_neg H5.out];rw [if_pos H11.out];rw [hx];show (jaG q).bind _=_;rw [hA];rfl)));refine wp_region_held_drew (S:=fun _=>True) (by kernel_rfl) trivial (fun hHeld=>?_);rw [← hwd];clear hwd;refine tkA 0 ?_
              try simp only [Act.put]
              refine tkA 2 ?_
              try simp only [Act.put]
              refine wpAnyH_ready (rs:=[1,3]) (by kernel_rfl) (by simp) ?_;refine AllReadyH.cons rfl (fun K hK=>?_) ?_
              ·skip
               have n4:=LD.out wd (by exact jae _);go_simp;clear n4;refine hK.out _ _ (by trivial) (fun hHeld=>?_);clear hK K
               try simp only [Act.put]
               refine wpAnyH_ready (rs:=[3]) (by kernel_rfl) (by simp) ?_;refine AllReadyH.cons rfl (fun K hK=>?_) ?_
               ·skip
                go_simp;refine (jaA B y wd a1 a3).mono ?_;rw [hx];rintro e w' ⟨-,v,rfl,rfl,rfl⟩;refine hK.out _ _ (by trivial) (fun hHeld=>?_);clear hK K
                try simp only [Act.put]
                refine wpAnyH_ready (rs:=[4]) (by kernel_rfl) (by simp) ?_;refine AllReadyH.cons rfl (fun K hK=>?_) ?_
                ·skip
                 go_simp;refine (ja8 q wd QS.out).mono ?_;rw [hA];rintro e w4 ⟨hg4,v,rfl,⟨yd,ydn,ydc⟩,rfl,hyo⟩;simp only;have hyh:∀ wx,w4.grownBy wx none→jiA wx ⟨vn,vt,⟨yd,ydn,ydc⟩⟩ vds:=fun wx hg=>(hyo.new hg).ints;have hyf:∀ b,jdD ⟨vn,vt,⟨yd,ydn,ydc⟩⟩ vds b→wd.heap.size≤b∧b<w4.heap.size:=fun b e=>hyo.lt b e;clear hyo;refine hK.out _ _ (by trivial) (fun hHeld=>?_);clear hK K
                 try simp only [Act.put]
                 refine wpAnyH_ready (rs:=[5]) (by kernel_rfl) (by simp) ?_;refine AllReadyH.cons rfl (fun K hK=>?_) ?_
                 ·skip
                  go_simp;refine hK.out _ _ (by trivial) (fun hHeld=>?_);clear hK K
                  try simp only [Act.put]
                  refine wpAnyH_ready (rs:=[6]) (by kernel_rfl) (by simp) ?_;refine AllReadyH.cons rfl (fun K hK=>?_) ?_
                  ·skip
                   have gn:wd.grownBy (w4.alloc (.cells #[.string vn,.int .i64 vt,.slice yd ydn ydc] 82)) none:=jaa hg4 (jab _ _);have s4:=hg4.size;have OW:=Td.out.oi.own.more gn;unfold OwnsL at OW;rw [List.length_map] at OW;refine step_append_lies _ (by rfl) (.tmp 42) (.tmp 46) 24 (by rfl) (B+1) 82 vl0 (.agg #[.string ⟨#[]⟩,.int .i64 0,.slice none 0 0]) 3 48 Tryz.underlying24 vl1 vl2 vl3 vl4 (by rfl) (by decide) (.slice ia is.length ic) is.length ((is.map (·.1)).flatMap ja5) (by rfl) (by exact OW) ⟨w4.heap.size,0,none⟩ 1 1 (ja5 (Val.mk vn vt ⟨yd,ydn,ydc⟩)) (by rfl) (by rfl) (by exact jbV w4 _ _ _ rfl) (jbF _) (by decide) (by simp only [maxLen];omega) (by omega) (by simp;omega) (w4.heap.size+1) (by simp) ?_;intro g cap w8 hown' hgrow hat hlt;have K8:=jac (jbb (fun g e=>(World.ownsRow.lt Td.out.oi.own g e).1) hgrow (HCd.out.more gn) (jaa HGd.out gn) HB.out);have N8:=jac ((K8.out.1 bG (by have:=BT.out;omega)).trans ((gn.block bG (by have:=BT.out;omega) (by simp)).trans Nd.out));have hown2:OwnsL 82 3 ja5 w8 (B+1) (.slice (some ⟨g,0,none⟩) (is.length+1) cap) (is.map (·.1)++[(Val.mk vn vt ⟨yd,ydn,ydc⟩)]):=by unfold OwnsL;rw [List.length_append,List.flatMap_append,List.length_map];simpa using hown'
                   have hat2:(Value.slice ia is.length ic).ownBlock=some g∨g=(w4.alloc (.cells #[.string vn,.int .i64 vt,.slice yd ydn ydc] 82)).heap.size:=hat.imp_right (fun e=>by rw [e];simp);have hal:=hyh (w4.alloc (.cells #[.string vn,.int .i64 vt,.slice yd ydn ydc] 82)) (jab _ _);have T8:=jac (Td.out.seti (y:=(Val.mk vn vt ⟨yd,ydn,ydc⟩)) (c:=vds) gn hgrow (OwnD.snoc jaL Td.out.oi (by omega) gn hgrow hat2 hown2 hal (fun b e=>⟨(hyf b e).1,by have:=(hyf b e).2;simp;omega⟩)) (jbv (hat2.imp_right (fun e=>by rw [e];exact gn.size))) (fun b e=>(hyf b e).1));obtain ⟨⟨p0,p1,p2,p3,p4⟩,qf0,qf1,qf2,qf3,qf4⟩:=jam N8.out;refine hK.out _ _ (by trivial) (fun hHeld=>?_);clear hK K
                   try simp only [Act.put]
                   refine tkA 7 ?_
                   try simp only [Act.put]
                   refine wpAnyH_ready (rs:=[8]) (by kernel_rfl) (by simp) ?_;refine AllReadyH.cons rfl (fun K hK=>?_) ?_
                   ·skip
                    go_simp;refine hK.out _ _ (by trivial) (fun hHeld=>?_);clear hK K
                    try simp only [Act.put]
                    refine wpAnyH_done (by kernel_rfl) ?_ _;have R8:=jac ((K8.out.1 bR (by have:=BT.out;omega)).trans ((gn.block bR (by have:=BT.out;omega) (by simp)).trans Rd.out));have K9:=jac (jbo (j:=2) (.slice (some ⟨g,0,none⟩) (is.length+1) cap) K8.out.2.1 K8.out.2.2 T8.out BL.out.1 BL.out.2.1 BL.out.2.2);have N9:=jac ((jfi N8.out (.slice (some ⟨g,0,none⟩) (is.length+1) cap)).2.2.1);have R9:=jac ((K9.out.1 bR BN.out (by have:=K8.out.2.1.lt;have:=BT.out;omega)).trans R8.out);have ES9:=jac (show jaF jav g0 l=jaF jav ⟨nm,ns.map jc8,(is++[((Val.mk vn vt ⟨yd,ydn,ydc⟩),vds)]).map jbp,os.map jbp,ts.map jc2⟩ r by rw [List.map_append,ES.out];rfl);clear hown' hown2 hgrow hat hlt p0 p1 p2 p3 p4 qf0 qf1 qf2 qf3 qf4 gn a0 a1 a2 a3 hyh hyf hat2 hal s4 OW;go_wp2_with fail;go_roundg r.length
                    case measure=>simp
                    case rel=>exact ⟨y,r,nm,ns,is++[((Val.mk vn vt ⟨yd,ydn,ydc⟩),vds)],os,ts,⟨na,ns.length,nc⟩,⟨some ⟨g,0,none⟩,is.length+1,cap⟩,⟨oa,os.length,oc⟩,⟨ta,ts.length,tc⟩,rfl,R9.out,N9.out,K9.out.2.2.2,K9.out.2.1,K9.out.2.2.1,ES9.out,⟨(by have:=HI.out.1;simp at this ⊢;omega),(by have:=HI.out.2.1;simp at this ⊢;omega),(by have:=HI.out.2.2.1;simp at this ⊢;omega),(by have:=HI.out.2.2.2.1;simp at this ⊢;omega),fun z hz=>HI.out.2.2.2.2 z (List.mem_cons_of_mem _ hz)⟩⟩
                   exact AllReadyH.nil
                  exact AllReadyH.nil
                 exact AllReadyH.nil
                exact AllReadyH.nil
               exact AllReadyH.nil
              refine AllReadyH.cons rfl (fun K hK=>?_) ?_
              ·skip
               go_simp;refine (jaA B y wd a1 a3).mono ?_;rw [hx];rintro e w' ⟨-,v,rfl,rfl,rfl⟩;refine hK.out _ _ (by trivial) (fun hHeld=>?_);clear hK K
               try simp only [Act.put]
               refine wpAnyH_ready (rs:=[1,4]) (by kernel_rfl) (by simp) ?_;refine AllReadyH.cons rfl (fun K hK=>?_) ?_
               ·skip
                have n4:=LD.out wd (by exact jae _);go_simp;clear n4;refine hK.out _ _ (by trivial) (fun hHeld=>?_);clear hK K
                try simp only [Act.put]
                refine wpAnyH_ready (rs:=[4]) (by kernel_rfl) (by simp) ?_;refine AllReadyH.cons rfl (fun K hK=>?_) ?_
                ·skip
                 go_simp;refine (ja8 q wd QS.out).mono ?_;rw [hA];rintro e w4 ⟨hg4,v,rfl,⟨yd,ydn,ydc⟩,rfl,hyo⟩;simp only;have hyh:∀ wx,w4.grownBy wx none→jiA wx ⟨vn,vt,⟨yd,ydn,ydc⟩⟩ vds:=fun wx hg=>(hyo.new hg).ints;have hyf:∀ b,jdD ⟨vn,vt,⟨yd,ydn,ydc⟩⟩ vds b→wd.heap.size≤b∧b<w4.heap.size:=fun b e=>hyo.lt b e;clear hyo;refine hK.out _ _ (by trivial) (fun hHeld=>?_);clear hK K
                 try simp only [Act.put]
                 refine wpAnyH_ready (rs:=[5]) (by kernel_rfl) (by simp) ?_;refine AllReadyH.cons rfl (fun K hK=>?_) ?_
                 ·skip
                  go_simp;refine hK.out _ _ (by trivial) (fun hHeld=>?_);clear hK K
                  try simp only [Act.put]
                  refine wpAnyH_ready (rs:=[6]) (by kernel_rfl) (by simp) ?_;refine AllReadyH.cons rfl (fun K hK=>?_) ?_
                  ·skip
                   have gn:wd.grownBy (w4.alloc (.cells #[.string vn,.int .i64 vt,.slice yd ydn ydc] 82)) none:=jaa hg4 (jab _ _);have s4:=hg4.size;have OW:=Td.out.oi.own.more gn;unfold OwnsL at OW;rw [List.length_map] at OW;refine step_append_lies _ (by rfl) (.tmp 42) (.tmp 46) 24 (by rfl) (B+1) 82 vl0 (.agg #[.string ⟨#[]⟩,.int .i64 0,.slice none 0 0]) 3 48 Tryz.underlying24 vl1 vl2 vl3 vl4 (by rfl) (by decide) (.slice ia is.length ic) is.length ((is.map (·.1)).flatMap ja5) (by rfl) (by exact OW) ⟨w4.heap.size,0,none⟩ 1 1 (ja5 (Val.mk vn vt ⟨yd,ydn,ydc⟩)) (by rfl) (by rfl) (by exact jbV w4 _ _ _ rfl) (jbF _) (by decide) (by simp only [maxLen];omega) (by omega) (by simp;omega) (w4.heap.size+1) (by simp) ?_;intro g cap w8 hown' hgrow hat hlt;have K8:=jac (jbb (fun g e=>(World.ownsRow.lt Td.out.oi.own g e).1) hgrow (HCd.out.more gn) (jaa HGd.out gn) HB.out);have N8:=jac ((K8.out.1 bG (by have:=BT.out;omega)).trans ((gn.block bG (by have:=BT.out;omega) (by simp)).trans Nd.out));have hown2:OwnsL 82 3 ja5 w8 (B+1) (.slice (some ⟨g,0,none⟩) (is.length+1) cap) (is.map (·.1)++[(Val.mk vn vt ⟨yd,ydn,ydc⟩)]):=by unfold OwnsL;rw [List.length_append,List.flatMap_append,List.length_map];simpa using hown'
                   have hat2:(Value.slice ia is.length ic).ownBlock=some g∨g=(w4.alloc (.cells #[.string vn,.int .i64 vt,.slice yd ydn ydc] 82)).heap.size:=hat.imp_right (fun e=>by rw [e];simp);have hal:=hyh (w4.alloc (.cells #[.string vn,.int .i64 vt,.slice yd ydn ydc] 82)) (jab _ _);have T8:=jac (Td.out.seti (y:=(Val.mk vn vt ⟨yd,ydn,ydc⟩)) (c:=vds) gn hgrow (OwnD.snoc jaL Td.out.oi (by omega) gn hgrow hat2 hown2 hal (fun b e=>⟨(hyf b e).1,by have:=(hyf b e).2;simp;omega⟩)) (jbv (hat2.imp_right (fun e=>by rw [e];exact gn.size))) (fun b e=>(hyf b e).1));obtain ⟨⟨p0,p1,p2,p3,p4⟩,qf0,qf1,qf2,qf3,qf4⟩:=jam N8.out;refine hK.out _ _ (by trivial) (fun hHeld=>?_);clear hK K
                   try simp only [Act.put]
                   refine tkA 7 ?_
                   try simp only [Act.put]
                   refine wpAnyH_ready (rs:=[8]) (by kernel_rfl) (by simp) ?_;refine AllReadyH.cons rfl (fun K hK=>?_) ?_
                   ·skip
                    go_simp;refine hK.out _ _ (by trivial) (fun hHeld=>?_);clear hK K
                    try simp only [Act.put]
                    refine wpAnyH_done (by kernel_rfl) ?_ _;have R8:=jac ((K8.out.1 bR (by have:=BT.out;omega)).trans ((gn.block bR (by have:=BT.out;omega) (by simp)).trans Rd.out));have K9:=jac (jbo (j:=2) (.slice (some ⟨g,0,none⟩) (is.length+1) cap) K8.out.2.1 K8.out.2.2 T8.out BL.out.1 BL.out.2.1 BL.out.2.2);have N9:=jac ((jfi N8.out (.slice (some ⟨g,0,none⟩) (is.length+1) cap)).2.2.1);have R9:=jac ((K9.out.1 bR BN.out (by have:=K8.out.2.1.lt;have:=BT.out;omega)).trans R8.out);have ES9:=jac (show jaF jav g0 l=jaF jav ⟨nm,ns.map jc8,(is++[((Val.mk vn vt ⟨yd,ydn,ydc⟩),vds)]).map jbp,os.map jbp,ts.map jc2⟩ r by rw [List.map_append,ES.out];rfl);clear hown' hown2 hgrow hat hlt p0 p1 p2 p3 p4 qf0 qf1 qf2 qf3 qf4 gn a0 a1 a2 a3 hyh hyf hat2 hal s4 OW;go_wp2_with fail;go_roundg r.length
                    case measure=>simp
                    case rel=>exact ⟨y,r,nm,ns,is++[((Val.mk vn vt ⟨yd,ydn,ydc⟩),vds)],os,ts,⟨na,ns.length,nc⟩,⟨some ⟨g,0,none⟩,is.length+1,cap⟩,⟨oa,os.length,oc⟩,⟨ta,ts.length,tc⟩,rfl,R9.out,N9.out,K9.out.2.2.2,K9.out.2.1,K9.out.2.2.1,ES9.out,⟨(by have:=HI.out.1;simp at this ⊢;omega),(by have:=HI.out.2.1;simp at this ⊢;omega),(by have:=HI.out.2.2.1;simp at this ⊢;omega),(by have:=HI.out.2.2.2.1;simp at this ⊢;omega),fun z hz=>HI.out.2.2.2.2 z (List.mem_cons_of_mem _ hz)⟩⟩
                   exact AllReadyH.nil
                  exact AllReadyH.nil
                 exact AllReadyH.nil
                exact AllReadyH.nil
               refine AllReadyH.cons rfl (fun K hK=>?_) ?_
               ·skip
                go_simp;refine (ja8 q wd QS.out).mono ?_;rw [hA];rintro e w4 ⟨hg4,v,rfl,⟨yd,ydn,ydc⟩,rfl,hyo⟩;simp only;have hyh:∀ wx,w4.grownBy wx none→jiA wx ⟨vn,vt,⟨yd,ydn,ydc⟩⟩ vds:=fun wx hg=>(hyo.new hg).ints;have hyf:∀ b,jdD ⟨vn,vt,⟨yd,ydn,ydc⟩⟩ vds b→wd.heap.size≤b∧b<w4.heap.size:=fun b e=>hyo.lt b e;clear hyo;refine hK.out _ _ (by trivial) (fun hHeld=>?_);clear hK K
                try simp only [Act.put]
                refine wpAnyH_ready (rs:=[1,5]) (by kernel_rfl) (by simp) ?_;refine AllReadyH.cons rfl (fun K hK=>?_) ?_
                ·skip
                 have n4:=LD.out w4 (by exact hg4);go_simp;clear n4;refine hK.out _ _ (by trivial) (fun hHeld=>?_);clear hK K
                 try simp only [Act.put]
                 refine wpAnyH_ready (rs:=[5]) (by kernel_rfl) (by simp) ?_;refine AllReadyH.cons rfl (fun K hK=>?_) ?_
                 ·skip
                  go_simp;refine hK.out _ _ (by trivial) (fun hHeld=>?_);clear hK K
                  try simp only [Act.put]
                  refine wpAnyH_ready (rs:=[6]) (by kernel_rfl) (by simp) ?_;refine AllReadyH.cons rfl (fun K hK=>?_) ?_
                  ·skip
                   have gn:wd.grownBy (w4.alloc (.cells #[.string vn,.int .i64 vt,.slice yd ydn ydc] 82)) none:=jaa hg4 (jab _ _);have s4:=hg4.size;have OW:=Td.out.oi.own.more gn;unfold OwnsL at OW;rw [List.length_map] at OW;refine step_append_lies _ (by rfl) (.tmp 42) (.tmp 46) 24 (by rfl) (B+1) 82 vl0 (.agg #[.string ⟨#[]⟩,.int .i64 0,.slice none 0 0]) 3 48 Tryz.underlying24 vl1 vl2 vl3 vl4 (by rfl) (by decide) (.slice ia is.length ic) is.length ((is.map (·.1)).flatMap ja5) (by rfl) (by exact OW) ⟨w4.heap.size,0,none⟩ 1 1 (ja5 (Val.mk vn vt ⟨yd,ydn,ydc⟩)) (by rfl) (by rfl) (by exact jbV w4 _ _ _ rfl) (jbF _) (by decide) (by simp only [maxLen];omega) (by omega) (by simp;omega) (w4.heap.size+1) (by simp) ?_;intro g cap w8 hown' hgrow hat hlt;have K8:=jac (jbb (fun g e=>(World.ownsRow.lt Td.out.oi.own g e).1) hgrow (HCd.out.more gn) (jaa HGd.out gn) HB.out);have N8:=jac ((K8.out.1 bG (by have:=BT.out;omega)).trans ((gn.block bG (by have:=BT.out;omega) (by simp)).trans Nd.out));have hown2:OwnsL 82 3 ja5 w8 (B+1) (.slice (some ⟨g,0,none⟩) (is.length+1) cap) (is.map (·.1)++[(Val.mk vn vt ⟨yd,ydn,ydc⟩)]):=by unfold OwnsL;rw [List.length_append,List.flatMap_append,List.length_map];simpa using hown'
                   have hat2:(Value.slice ia is.length ic).ownBlock=some g∨g=(w4.alloc (.cells #[.string vn,.int .i64 vt,.slice yd ydn ydc] 82)).heap.size:=hat.imp_right (fun e=>by rw [e];simp);have hal:=hyh (w4.alloc (.cells #[.string vn,.int .i64 vt,.slice yd ydn ydc] 82)) (jab _ _);have T8:=jac (Td.out.seti (y:=(Val.mk vn vt ⟨yd,ydn,ydc⟩)) (c:=vds) gn hgrow (OwnD.snoc jaL Td.out.oi (by omega) gn hgrow hat2 hown2 hal (fun b e=>⟨(hyf b e).1,by have:=(hyf b e).2;simp;omega⟩)) (jbv (hat2.imp_right (fun e=>by rw [e];exact gn.size))) (fun b e=>(hyf b e).1));obtain ⟨⟨p0,p1,p2,p3,p4⟩,qf0,qf1,qf2,qf3,qf4⟩:=jam N8.out;refine hK.out _ _ (by trivial) (fun hHeld=>?_);clear hK K
                   try simp only [Act.put]
                   refine tkA 7 ?_
                   try simp only [Act.put]
                   refine wpAnyH_ready (rs:=[8]) (by kernel_rfl) (by simp) ?_;refine AllReadyH.cons rfl (fun K hK=>?_) ?_
                   ·skip
                    go_simp;refine hK.out _ _ (by trivial) (fun hHeld=>?_);clear hK K
                    try simp only [Act.put]
                    refine wpAnyH_done (by kernel_rfl) ?_ _;have R8:=jac ((K8.out.1 bR (by have:=BT.out;omega)).trans ((gn.block bR (by have:=BT.out;omega) (by simp)).trans Rd.out));have K9:=jac (jbo (j:=2) (.slice (some ⟨g,0,none⟩) (is.length+1) cap) K8.out.2.1 K8.out.2.2 T8.out BL.out.1 BL.out.2.1 BL.out.2.2);have N9:=jac ((jfi N8.out (.slice (some ⟨g,0,none⟩) (is.length+1) cap)).2.2.1);have R9:=jac ((K9.out.1 bR BN.out (by have:=K8.out.2.1.lt;have:=BT.out;omega)).trans R8.out);have ES9:=jac (show jaF jav g0 l=jaF jav ⟨nm,ns.map jc8,(is++[((Val.mk vn vt ⟨yd,ydn,ydc⟩),vds)]).map jbp,os.map jbp,ts.map jc2⟩ r by rw [List.map_append,ES.out];rfl);clear hown' hown2 hgrow hat hlt p0 p1 p2 p3 p4 qf0 qf1 qf2 qf3 qf4 gn a0 a1 a2 a3 hyh hyf hat2 hal s4 OW;go_wp2_with fail;go_roundg r.length
                    case measure=>simp
                    case rel=>exact ⟨y,r,nm,ns,is++[((Val.mk vn vt ⟨yd,ydn,ydc⟩),vds)],os,ts,⟨na,ns.length,nc⟩,⟨some ⟨g,0,none⟩,is.length+1,cap⟩,⟨oa,os.length,oc⟩,⟨ta,ts.length,tc⟩,rfl,R9.out,N9.out,K9.out.2.2.2,K9.out.2.1,K9.out.2.2.1,ES9.out,⟨(by have:=HI.out.1;simp at this ⊢;omega),(by have:=HI.out.2.1;simp at this ⊢;omega),(by have:=HI.out.2.2.1;simp at this ⊢;omega),(by have:=HI.out.2.2.2.1;simp at this ⊢;omega),fun z hz=>HI.out.2.2.2.2 z (List.mem_cons_of_mem _ hz)⟩⟩
                   exact AllReadyH.nil
                  exact AllReadyH.nil
                 exact AllReadyH.nil
                refine AllReadyH.cons rfl (fun K hK=>?_) ?_
                ·skip
                 go_simp;refine hK.out _ _ (by trivial) (fun hHeld=>?_);clear hK K
                 try simp only [Act.put]
                 refine wpAnyH_ready (rs:=[1]) (by kernel_rfl) (by simp) ?_;refine AllReadyH.cons rfl (fun K hK=>?_) ?_
                 ·skip
                  have n4:=LD.out _ (by exact jaa hg4 (jab w4 (.cells #[.string vn,.int .i64 vt,.slice yd ydn ydc] 82)));go_simp;clear n4;refine hK.out _ _ (by trivial) (fun hHeld=>?_);clear hK K
                  try simp only [Act.put]
                  refine wpAnyH_ready (rs:=[6]) (by kernel_rfl) (by simp) ?_;refine AllReadyH.cons rfl (fun K hK=>?_) ?_
                  ·skip
                   have gn:wd.grownBy (w4.alloc (.cells #[.string vn,.int .i64 vt,.slice yd ydn ydc] 82)) none:=jaa hg4 (jab _ _);have s4:=hg4.size;have OW:=Td.out.oi.own.more gn;unfold OwnsL at OW;rw [List.length_map] at OW;refine step_append_lies _ (by rfl) (.tmp 42) (.tmp 46) 24 (by rfl) (B+1) 82 vl0 (.agg #[.string ⟨#[]⟩,.int .i64 0,.slice none 0 0]) 3 48 Tryz.underlying24 vl1 vl2 vl3 vl4 (by rfl) (by decide) (.slice ia is.length ic) is.length ((is.map (·.1)).flatMap ja5) (by rfl) (by exact OW) ⟨w4.heap.size,0,none⟩ 1 1 (ja5 (Val.mk vn vt ⟨yd,ydn,ydc⟩)) (by rfl) (by rfl) (by exact jbV w4 _ _ _ rfl) (jbF _) (by decide) (by simp only [maxLen];omega) (by omega) (by simp;omega) (w4.heap.size+1) (by simp) ?_;intro g cap w8 hown' hgrow hat hlt;have K8:=jac (jbb (fun g e=>(World.ownsRow.lt Td.out.oi.own g e).1) hgrow (HCd.out.more gn) (jaa HGd.out gn) HB.out);have N8:=jac ((K8.out.1 bG (by have:=BT.out;omega)).trans ((gn.block bG (by have:=BT.out;omega) (by simp)).trans Nd.out));have hown2:OwnsL 82 3 ja5 w8 (B+1) (.slice (some ⟨g,0,none⟩) (is.length+1) cap) (is.map (·.1)++[(Val.mk vn vt ⟨yd,ydn,ydc⟩)]):=by unfold OwnsL;rw [List.length_append,List.flatMap_append,List.length_map];simpa using hown'
                   have hat2:(Value.slice ia is.length ic).ownBlock=some g∨g=(w4.alloc (.cells #[.string vn,.int .i64 vt,.slice yd ydn ydc] 82)).heap.size:=hat.imp_right (fun e=>by rw [e];simp);have hal:=hyh (w4.alloc (.cells #[.string vn,.int .i64 vt,.slice yd ydn ydc] 82)) (jab _ _);have T8:=jac (Td.out.seti (y:=(Val.mk vn vt ⟨yd,ydn,ydc⟩)) (c:=vds) gn hgrow (OwnD.snoc jaL Td.out.oi (by omega) gn hgrow hat2 hown2 hal (fun b e=>⟨(hyf b e).1,by have:=(hyf b e).2;simp;omega⟩)) (jbv (hat2.imp_right (fun e=>by rw [e];exact gn.size))) (fun b e=>(hyf b e).1));obtain ⟨⟨p0,p1,p2,p3,p4⟩,qf0,qf1,qf2,qf3,qf4⟩:=jam N8.out;refine hK.out _ _ (by trivial) (fun hHeld=>?_);clear hK K
                   try simp only [Act.put]
                   refine tkA 7 ?_
                   try simp only [Act.put]
                   refine wpAnyH_ready (rs:=[8]) (by kernel_rfl) (by simp) ?_;refine AllReadyH.cons rfl (fun K hK=>?_) ?_
                   ·skip
                    go_simp;refine hK.out _ _ (by trivial) (fun hHeld=>?_);clear hK K
                    try simp only [Act.put]
                    refine wpAnyH_done (by kernel_rfl) ?_ _;have R8:=jac ((K8.out.1 bR (by have:=BT.out;omega)).trans ((gn.block bR (by have:=BT.out;omega) (by simp)).trans Rd.out));have K9:=jac (jbo (j:=2) (.slice (some ⟨g,0,none⟩) (is.length+1) cap) K8.out.2.1 K8.out.2.2 T8.out BL.out.1 BL.out.2.1 BL.out.2.2);have N9:=jac ((jfi N8.out (.slice (some ⟨g,0,none⟩) (is.length+1) cap)).2.2.1);have R9:=jac ((K9.out.1 bR BN.out (by have:=K8.out.2.1.lt;have:=BT.out;omega)).trans R8.out);have ES9:=jac (show jaF jav g0 l=jaF jav ⟨nm,ns.map jc8,(is++[((Val.mk vn vt ⟨yd,ydn,ydc⟩),vds)]).map jbp,os.map jbp,ts.map jc2⟩ r by rw [List.map_append,ES.out];rfl);clear hown' hown2 hgrow hat hlt p0 p1 p2 p3 p4 qf0 qf1 qf2 qf3 qf4 gn a0 a1 a2 a3 hyh hyf hat2 hal s4 OW;go_wp2_with fail;go_roundg r.length
                    case measure=>simp
                    case rel=>exact ⟨y,r,nm,ns,is++[((Val.mk vn vt ⟨yd,ydn,ydc⟩),vds)],os,ts,⟨na,ns.length,nc⟩,⟨some ⟨g,0,none⟩,is.length+1,cap⟩,⟨oa,os.length,oc⟩,⟨ta,ts.length,tc⟩,rfl,R9.out,N9.out,K9.out.2.2.2,K9.out.2.1,K9.out.2.2.1,ES9.out,⟨(by have:=HI.out.1;simp at this ⊢;omega),(by have:=HI.out.2.1;simp at this ⊢;omega),(by have:=HI.out.2.2.1;simp at this ⊢;omega),(by have:=HI.out.2.2.2.1;simp at this ⊢;omega),fun z hz=>HI.out.2.2.2.2 z (List.mem_cons_of_mem _ hz)⟩⟩
                   exact AllReadyH.nil
                  exact AllReadyH.nil
                 exact AllReadyH.nil
                exact AllReadyH.nil
               exact AllReadyH.nil
              exact AllReadyH.nil
            ·skip
             have E:Hid (jaK s=.error 3):=by show _=_;rw [E0.out,HF.out,jaJ (f:=jav) (c:=3) (by unfold jav;rw [if_neg H1.out];rw [if_neg H2.out];rw [if_neg H5.out];rw [if_pos H11.out];rw [hx];rfl)];rfl
             refine wp_region_held_drew (S:=fun _=>True) (by kernel_rfl) trivial (fun hHeld=>?_);rw [← hwd];clear hwd;refine tkA 0 ?_
             try simp only [Act.put]
             refine tkA 2 ?_
             try simp only [Act.put]
             refine wpAnyH_ready (rs:=[1,3]) (by kernel_rfl) (by simp) ?_;refine AllReadyH.cons rfl (fun K hK=>?_) ?_
             ·skip
              have n4:=LD.out wd (by exact jae _);go_simp;clear n4;refine hK.out _ _ (by trivial) (fun hHeld=>?_);clear hK K
              try simp only [Act.put]
              refine wpAnyH_ready (rs:=[3]) (by kernel_rfl) (by simp) ?_;refine AllReadyH.cons rfl (fun K hK=>?_) ?_
              ·skip
               go_simp;refine (jaA B y wd a1 a3).mono ?_;rw [hx];rintro e w' ⟨hg,rfl⟩;exact ⟨rfl,jad E.out (jaa HGd.out hg)⟩
              exact AllReadyH.nil
             refine AllReadyH.cons rfl (fun K hK=>?_) ?_
             ·skip
              go_simp;refine (jaA B y wd a1 a3).mono ?_;rw [hx];rintro e w' ⟨hg,rfl⟩;exact ⟨rfl,jad E.out (jaa HGd.out hg)⟩
             exact AllReadyH.nil
           ·have b11:(y.num==11)=false:=by simpa using h11
            have H11:=jac h11;clear h11
            by_cases h12:y.num=12
            ·have b12:(y.num==12)=true:=by simp [h12]
             have H12:=jac h12;clear h12;go_wp2_with fail;obtain ⟨wd,hwd⟩ : ∃ wd,wd=w2.drew:=⟨_,rfl⟩
             have gd:w2.grownBy wd none:=by rw [hwd];exact ⟨rfl,rfl,rfl,Nat.le_refl _,fun _ _ _=>rfl⟩
             have HCd:=jac (HC2.out.more gd);have HGd:=jac (jaa HG2.out gd);have Td:=jac (T2.out.new gd);have Nd:=jac ((gd.block bG (by have:=HC2.out.lt;have:=BT.out;omega) (by simp)).trans N2.out);have Rd:=jac ((gd.block bR (by have:=HC2.out.lt;have:=BT.out;omega) (by simp)).trans R2.out);clear a0 a1 a2 a3 gd N2 R2 T2 HC2 HG2;obtain ⟨a0,a1,a2,a3⟩:=HCd.out.cells;have LD:Hid (∀ wx,wd.grownBy wx none→wx.cell? ⟨bG,3,none⟩=some (.slice oa os.length oc)):=fun wx hg=>(jam ((hg.block bG (by have:=HCd.out.lt;have:=BT.out;show bG<_;omega) (by simp)).trans Nd.out)).1.2.2.2.1
             rcases jaU y with ⟨q,hx⟩ | hx
             ·have QS:Hid (q.size≤9223372036854775807):=by have:=jdY hx YB.out;show q.size≤_;omega
              cases hA:jaG q with
              | error c =>
               have E:Hid (jaK s=.error c):=by show _=_;rw [E0.out,HF.out,jaJ (f:=jav) (c:=c) (by unfold jav;rw [if_neg H1.out];rw [if_neg H2.out];rw [if_neg H5.out];rw [if_neg H11.out];rw [if_pos H12.out];rw [hx];show (jaG q).bind _=_;rw [hA];rfl)];rfl
               refine wp_region_held_drew (S:=fun _=>True) (by kernel_rfl) trivial (fun hHeld=>?_);rw [← hwd];clear hwd;refine tkA 0 ?_
               try simp only [Act.put]
               refine tkA 2 ?_
               try simp only [Act.put]
               refine wpAnyH_ready (rs:=[1,3]) (by kernel_rfl) (by simp) ?_;refine AllReadyH.cons rfl (fun K hK=>?_) ?_
               ·skip
                have n4:=LD.out wd (by exact jae _);go_simp;clear n4;refine hK.out _ _ (by trivial) (fun hHeld=>?_);clear hK K
                try simp only [Act.put]
                refine wpAnyH_ready (rs:=[3]) (by kernel_rfl) (by simp) ?_;refine AllReadyH.cons rfl (fun K hK=>?_) ?_
                ·skip
                 go_simp;refine (jaA B y wd a1 a3).mono ?_;rw [hx];rintro e w' ⟨-,v,rfl,rfl,rfl⟩;refine hK.out _ _ (by trivial) (fun hHeld=>?_);clear hK K
                 try simp only [Act.put]
                 refine wpAnyH_ready (rs:=[4]) (by kernel_rfl) (by simp) ?_;refine AllReadyH.cons rfl (fun K hK=>?_) ?_
                 ·skip
                  go_simp;refine (ja8 q wd QS.out).mono ?_;rw [hA];rintro e w' ⟨hg,rfl⟩;exact ⟨rfl,jad E.out (jaa HGd.out hg)⟩
                 exact AllReadyH.nil
                exact AllReadyH.nil
               refine AllReadyH.cons rfl (fun K hK=>?_) ?_
               ·skip
                go_simp;refine (jaA B y wd a1 a3).mono ?_;rw [hx];rintro e w' ⟨-,v,rfl,rfl,rfl⟩;refine hK.out _ _ (by trivial) (fun hHeld=>?_);clear hK K
                try simp only [Act.put]
                refine wpAnyH_ready (rs:=[1,4]) (by kernel_rfl) (by simp) ?_;refine AllReadyH.cons rfl (fun K hK=>?_) ?_
                ·skip
                 have n4:=LD.out wd (by exact jae _);go_simp;clear n4;refine hK.out _ _ (by trivial) (fun hHeld=>?_);clear hK K
                 try simp only [Act.put]
                 refine wpAnyH_ready (rs:=[4]) (by kernel_rfl) (by simp) ?_;refine AllReadyH.cons rfl (fun K hK=>?_) ?_
                 ·skip
                  go_simp;refine (ja8 q wd QS.out).mono ?_;rw [hA];rintro e w' ⟨hg,rfl⟩;exact ⟨rfl,jad E.out (jaa HGd.out hg)⟩
                 exact AllReadyH.nil
                refine AllReadyH.cons rfl (fun K hK=>?_) ?_
                ·skip
                 go_simp;refine (ja8 q wd QS.out).mono ?_;rw [hA];rintro e w' ⟨hg,rfl⟩;exact ⟨rfl,jad E.out (jaa HGd.out hg)⟩
                exact AllReadyH.nil
               exact AllReadyH.nil
              | ok A =>
               have sz:B+1≤wd.heap.size:=HCd.out.lt;have hle:os.length+1≤16777216:=by have:=HI.out.2.2.1;simp at this;omega
               obtain ⟨vn,vt,vds⟩:=A;have ES:=jac (HF.out.trans (jay (f:=jav) (b:=⟨nm,ns.map jc8,is.map jbp,os.map jbp++[⟨vn,vt,vds⟩],ts.map jc2⟩) (by unfold jav;rw [if_neg H1.out];rw [if_neg H2.out];rw [if_neg H5.out];rw [if_neg H11.out];rw [if_pos H12.out];rw [hx];show (jaG q).bind _=_;rw [hA];rfl)));refine wp_region_held_drew (S:=fun _=>True) (by kernel_rfl) trivial (fun hHeld=>?_);rw [← hwd];clear hwd;refine tkA 0 ?_
               try simp only [Act.put]
               refine tkA 2 ?_
               try simp only [Act.put]
               refine wpAnyH_ready (rs:=[1,3]) (by kernel_rfl) (by simp) ?_;refine AllReadyH.cons rfl (fun K hK=>?_) ?_
               ·skip
                have n4:=LD.out wd (by exact jae _);go_simp;clear n4;refine hK.out _ _ (by trivial) (fun hHeld=>?_);clear hK K
                try simp only [Act.put]
                refine wpAnyH_ready (rs:=[3]) (by kernel_rfl) (by simp) ?_;refine AllReadyH.cons rfl (fun K hK=>?_) ?_
                ·skip
                 go_simp;refine (jaA B y wd a1 a3).mono ?_;rw [hx];rintro e w' ⟨-,v,rfl,rfl,rfl⟩;refine hK.out _ _ (by trivial) (fun hHeld=>?_);clear hK K
                 try simp only [Act.put]
                 refine wpAnyH_ready (rs:=[4]) (by kernel_rfl) (by simp) ?_;refine AllReadyH.cons rfl (fun K hK=>?_) ?_
                 ·skip
                  go_simp;refine (ja8 q wd QS.out).mono ?_;rw [hA];rintro e w4 ⟨hg4,v,rfl,⟨yd,ydn,ydc⟩,rfl,hyo⟩;simp only;have hyh:∀ wx,w4.grownBy wx none→jiA wx ⟨vn,vt,⟨yd,ydn,ydc⟩⟩ vds:=fun wx hg=>(hyo.new hg).ints;have hyf:∀ b,jdD ⟨vn,vt,⟨yd,ydn,ydc⟩⟩ vds b→wd.heap.size≤b∧b<w4.heap.size:=fun b e=>hyo.lt b e;clear hyo;refine hK.out _ _ (by trivial) (fun hHeld=>?_);clear hK K
                  try simp only [Act.put]
                  refine wpAnyH_ready (rs:=[5]) (by kernel_rfl) (by simp) ?_;refine AllReadyH.cons rfl (fun K hK=>?_) ?_
                  ·skip
                   go_simp;refine hK.out _ _ (by trivial) (fun hHeld=>?_);clear hK K
                   try simp only [Act.put]
                   refine wpAnyH_ready (rs:=[6]) (by kernel_rfl) (by simp) ?_;refine AllReadyH.cons rfl (fun K hK=>?_) ?_
                   ·skip
                    have gn:wd.grownBy (w4.alloc (.cells #[.string vn,.int .i64 vt,.slice yd ydn ydc] 82)) none:=jaa hg4 (jab _ _);have s4:=hg4.size;have OW:=Td.out.oo.own.more gn;unfold OwnsL at OW;rw [List.length_map] at OW;refine step_append_lies _ (by rfl) (.tmp 52) (.tmp 56) 24 (by rfl) (B+1) 82 vl0 (.agg #[.string ⟨#[]⟩,.int .i64 0,.slice none 0 0]) 3 48 Tryz.underlying24 vl1 vl2 vl3 vl4 (by rfl) (by decide) (.slice oa os.length oc) os.length ((os.map (·.1)).flatMap ja5) (by rfl) (by exact OW) ⟨w4.heap.size,0,none⟩ 1 1 (ja5 (Val.mk vn vt ⟨yd,ydn,ydc⟩)) (by rfl) (by rfl) (by exact jbV w4 _ _ _ rfl) (jbF _) (by decide) (by simp only [maxLen];omega) (by omega) (by simp;omega) (w4.heap.size+1) (by simp) ?_;intro g cap w8 hown' hgrow hat hlt;have K8:=jac (jbb (fun g e=>(World.ownsRow.lt Td.out.oo.own g e).1) hgrow (HCd.out.more gn) (jaa HGd.out gn) HB.out);have N8:=jac ((K8.out.1 bG (by have:=BT.out;omega)).trans ((gn.block bG (by have:=BT.out;omega) (by simp)).trans Nd.out));have hown2:OwnsL 82 3 ja5 w8 (B+1) (.slice (some ⟨g,0,none⟩) (os.length+1) cap) (os.map (·.1)++[(Val.mk vn vt ⟨yd,ydn,ydc⟩)]):=by unfold OwnsL;rw [List.length_append,List.flatMap_append,List.length_map];simpa using hown'
                    have hat2:(Value.slice oa os.length oc).ownBlock=some g∨g=(w4.alloc (.cells #[.string vn,.int .i64 vt,.slice yd ydn ydc] 82)).heap.size:=hat.imp_right (fun e=>by rw [e];simp);have hal:=hyh (w4.alloc (.cells #[.string vn,.int .i64 vt,.slice yd ydn ydc] 82)) (jab _ _);have T8:=jac (Td.out.seto (y:=(Val.mk vn vt ⟨yd,ydn,ydc⟩)) (c:=vds) gn hgrow (OwnD.snoc jaL Td.out.oo (by omega) gn hgrow hat2 hown2 hal (fun b e=>⟨(hyf b e).1,by have:=(hyf b e).2;simp;omega⟩)) (jbv (hat2.imp_right (fun e=>by rw [e];exact gn.size))) (fun b e=>(hyf b e).1));obtain ⟨⟨p0,p1,p2,p3,p4⟩,qf0,qf1,qf2,qf3,qf4⟩:=jam N8.out;refine hK.out _ _ (by trivial) (fun hHeld=>?_);clear hK K
                    try simp only [Act.put]
                    refine tkA 7 ?_
                    try simp only [Act.put]
                    refine wpAnyH_ready (rs:=[8]) (by kernel_rfl) (by simp) ?_;refine AllReadyH.cons rfl (fun K hK=>?_) ?_
                    ·skip
                     go_simp;refine hK.out _ _ (by trivial) (fun hHeld=>?_);clear hK K
                     try simp only [Act.put]
                     refine wpAnyH_done (by kernel_rfl) ?_ _;have R8:=jac ((K8.out.1 bR (by have:=BT.out;omega)).trans ((gn.block bR (by have:=BT.out;omega) (by simp)).trans Rd.out));have K9:=jac (jbo (j:=3) (.slice (some ⟨g,0,none⟩) (os.length+1) cap) K8.out.2.1 K8.out.2.2 T8.out BL.out.1 BL.out.2.1 BL.out.2.2);have N9:=jac ((jfi N8.out (.slice (some ⟨g,0,none⟩) (os.length+1) cap)).2.2.2.1);have R9:=jac ((K9.out.1 bR BN.out (by have:=K8.out.2.1.lt;have:=BT.out;omega)).trans R8.out);have ES9:=jac (show jaF jav g0 l=jaF jav ⟨nm,ns.map jc8,is.map jbp,(os++[((Val.mk vn vt ⟨yd,ydn,ydc⟩),vds)]).map jbp,ts.map jc2⟩ r by rw [List.map_append,ES.out];rfl);clear hown' hown2 hgrow hat hlt p0 p1 p2 p3 p4 qf0 qf1 qf2 qf3 qf4 gn a0 a1 a2 a3 hyh hyf hat2 hal s4 OW;go_wp2_with fail;go_roundg r.length
                     case measure=>simp
                     case rel=>exact ⟨y,r,nm,ns,is,os++[((Val.mk vn vt ⟨yd,ydn,ydc⟩),vds)],ts,⟨na,ns.length,nc⟩,⟨ia,is.length,ic⟩,⟨some ⟨g,0,none⟩,os.length+1,cap⟩,⟨ta,ts.length,tc⟩,rfl,R9.out,N9.out,K9.out.2.2.2,K9.out.2.1,K9.out.2.2.1,ES9.out,⟨(by have:=HI.out.1;simp at this ⊢;omega),(by have:=HI.out.2.1;simp at this ⊢;omega),(by have:=HI.out.2.2.1;simp at this ⊢;omega),(by have:=HI.out.2.2.2.1;simp at this ⊢;omega),fun z hz=>HI.out.2.2.2.2 z (List.mem_cons_of_mem _ hz)⟩⟩
                    exact AllReadyH.nil
                   exact AllReadyH.nil
                  exact AllReadyH.nil
                 exact AllReadyH.nil
                exact AllReadyH.nil
               refine AllReadyH.cons rfl (fun K hK=>?_) ?_
               ·skip
                go_simp;refine (jaA B y wd a1 a3).mono ?_;rw [hx];rintro e w' ⟨-,v,rfl,rfl,rfl⟩;refine hK.out _ _ (by trivial) (fun hHeld=>?_);clear hK K
                try simp only [Act.put]
                refine wpAnyH_ready (rs:=[1,4]) (by kernel_rfl) (by simp) ?_;refine AllReadyH.cons rfl (fun K hK=>?_) ?_
                ·skip
                 have n4:=LD.out wd (by exact jae _);go_simp;clear n4;refine hK.out _ _ (by trivial) (fun hHeld=>?_);clear hK K
                 try simp only [Act.put]
                 refine wpAnyH_ready (rs:=[4]) (by kernel_rfl) (by simp) ?_;refine AllReadyH.cons rfl (fun K hK=>?_) ?_
                 ·skip
                  go_simp;refine (ja8 q wd QS.out).mono ?_;rw [hA];rintro e w4 ⟨hg4,v,rfl,⟨yd,ydn,ydc⟩,rfl,hyo⟩;simp only;have hyh:∀ wx,w4.grownBy wx none→jiA wx ⟨vn,vt,⟨yd,ydn,ydc⟩⟩ vds:=fun wx hg=>(hyo.new hg).ints;have hyf:∀ b,jdD ⟨vn,vt,⟨yd,ydn,ydc⟩⟩ vds b→wd.heap.size≤b∧b<w4.heap.size:=fun b e=>hyo.lt b e;clear hyo;refine hK.out _ _ (by trivial) (fun hHeld=>?_);clear hK K
                  try simp only [Act.put]
                  refine wpAnyH_ready (rs:=[5]) (by kernel_rfl) (by simp) ?_;refine AllReadyH.cons rfl (fun K hK=>?_) ?_
                  ·skip
                   go_simp;refine hK.out _ _ (by trivial) (fun hHeld=>?_);clear hK K
                   try simp only [Act.put]
                   refine wpAnyH_ready (rs:=[6]) (by kernel_rfl) (by simp) ?_;refine AllReadyH.cons rfl (fun K hK=>?_) ?_
                   ·skip
                    have gn:wd.grownBy (w4.alloc (.cells #[.string vn,.int .i64 vt,.slice yd ydn ydc] 82)) none:=jaa hg4 (jab _ _);have s4:=hg4.size;have OW:=Td.out.oo.own.more gn;unfold OwnsL at OW;rw [List.length_map] at OW;refine step_append_lies _ (by rfl) (.tmp 52) (.tmp 56) 24 (by rfl) (B+1) 82 vl0 (.agg #[.string ⟨#[]⟩,.int .i64 0,.slice none 0 0]) 3 48 Tryz.underlying24 vl1 vl2 vl3 vl4 (by rfl) (by decide) (.slice oa os.length oc) os.length ((os.map (·.1)).flatMap ja5) (by rfl) (by exact OW) ⟨w4.heap.size,0,none⟩ 1 1 (ja5 (Val.mk vn vt ⟨yd,ydn,ydc⟩)) (by rfl) (by rfl) (by exact jbV w4 _ _ _ rfl) (jbF _) (by decide) (by simp only [maxLen];omega) (by omega) (by simp;omega) (w4.heap.size+1) (by simp) ?_;intro g cap w8 hown' hgrow hat hlt;have K8:=jac (jbb (fun g e=>(World.ownsRow.lt Td.out.oo.own g e).1) hgrow (HCd.out.more gn) (jaa HGd.out gn) HB.out);have N8:=jac ((K8.out.1 bG (by have:=BT.out;omega)).trans ((gn.block bG (by have:=BT.out;omega) (by simp)).trans Nd.out));have hown2:OwnsL 82 3 ja5 w8 (B+1) (.slice (some ⟨g,0,none⟩) (os.length+1) cap) (os.map (·.1)++[(Val.mk vn vt ⟨yd,ydn,ydc⟩)]):=by unfold OwnsL;rw [List.length_append,List.flatMap_append,List.length_map];simpa using hown'
                    have hat2:(Value.slice oa os.length oc).ownBlock=some g∨g=(w4.alloc (.cells #[.string vn,.int .i64 vt,.slice yd ydn ydc] 82)).heap.size:=hat.imp_right (fun e=>by rw [e];simp);have hal:=hyh (w4.alloc (.cells #[.string vn,.int .i64 vt,.slice yd ydn ydc] 82)) (jab _ _);have T8:=jac (Td.out.seto (y:=(Val.mk vn vt ⟨yd,ydn,ydc⟩)) (c:=vds) gn hgrow (OwnD.snoc jaL Td.out.oo (by omega) gn hgrow hat2 hown2 hal (fun b e=>⟨(hyf b e).1,by have:=(hyf b e).2;simp;omega⟩)) (jbv (hat2.imp_right (fun e=>by rw [e];exact gn.size))) (fun b e=>(hyf b e).1));obtain ⟨⟨p0,p1,p2,p3,p4⟩,qf0,qf1,qf2,qf3,qf4⟩:=jam N8.out;refine hK.out _ _ (by trivial) (fun hHeld=>?_);clear hK K
                    try simp only [Act.put]
                    refine tkA 7 ?_
                    try simp only [Act.put]
                    refine wpAnyH_ready (rs:=[8]) (by kernel_rfl) (by simp) ?_;refine AllReadyH.cons rfl (fun K hK=>?_) ?_
                    ·skip
                     go_simp;refine hK.out _ _ (by trivial) (fun hHeld=>?_);clear hK K
                     try simp only [Act.put]
                     refine wpAnyH_done (by kernel_rfl) ?_ _;have R8:=jac ((K8.out.1 bR (by have:=BT.out;omega)).trans ((gn.block bR (by have:=BT.out;omega) (by simp)).trans Rd.out));have K9:=jac (jbo (j:=3) (.slice (some ⟨g,0,none⟩) (os.length+1) cap) K8.out.2.1 K8.out.2.2 T8.out BL.out.1 BL.out.2.1 BL.out.2.2);have N9:=jac ((jfi N8.out (.slice (some ⟨g,0,none⟩) (os.length+1) cap)).2.2.2.1);have R9:=jac ((K9.out.1 bR BN.out (by have:=K8.out.2.1.lt;have:=BT.out;omega)).trans R8.out);have ES9:=jac (show jaF jav g0 l=jaF jav ⟨nm,ns.map jc8,is.map jbp,(os++[((Val.mk vn vt ⟨yd,ydn,ydc⟩),vds)]).map jbp,ts.map jc2⟩ r by rw [List.map_append,ES.out];rfl);clear hown' hown2 hgrow hat hlt p0 p1 p2 p3 p4 qf0 qf1 qf2 qf3 qf4 gn a0 a1 a2 a3 hyh hyf hat2 hal s4 OW;go_wp2_with fail;go_roundg r.length
                     case measure=>simp
                     case rel=>exact ⟨y,r,nm,ns,is,os++[((Val.mk vn vt ⟨yd,ydn,ydc⟩),vds)],ts,⟨na,ns.length,nc⟩,⟨ia,is.length,ic⟩,⟨some ⟨g,0,none⟩,os.length+1,cap⟩,⟨ta,ts.length,tc⟩,rfl,R9.out,N9.out,K9.out.2.2.2,K9.out.2.1,K9.out.2.2.1,ES9.out,⟨(by have:=HI.out.1;simp at this ⊢;omega),(by have:=HI.out.2.1;simp at this ⊢;omega),(by have:=HI.out.2.2.1;simp at this ⊢;omega),(by have:=HI.out.2.2.2.1;simp at this ⊢;omega),fun z hz=>HI.out.2.2.2.2 z (List.mem_cons_of_mem _ hz)⟩⟩
                    exact AllReadyH.nil
                   exact AllReadyH.nil
                  exact AllReadyH.nil
                 exact AllReadyH.nil
                refine AllReadyH.cons rfl (fun K hK=>?_) ?_
                ·skip
                 go_simp;refine (ja8 q wd QS.out).mono ?_;rw [hA];rintro e w4 ⟨hg4,v,rfl,⟨yd,ydn,ydc⟩,rfl,hyo⟩;simp only;have hyh:∀ wx,w4.grownBy wx none→jiA wx ⟨vn,vt,⟨yd,ydn,ydc⟩⟩ vds:=fun wx hg=>(hyo.new hg).ints;have hyf:∀ b,jdD ⟨vn,vt,⟨yd,ydn,ydc⟩⟩ vds b→wd.heap.size≤b∧b<w4.heap.size:=fun b e=>hyo.lt b e;clear hyo;refine hK.out _ _ (by trivial) (fun hHeld=>?_);clear hK K
                 try simp only [Act.put]
                 refine wpAnyH_ready (rs:=[1,5]) (by kernel_rfl) (by simp) ?_;refine AllReadyH.cons rfl (fun K hK=>?_) ?_
                 ·skip
                  have n4:=LD.out w4 (by exact hg4);go_simp;clear n4;refine hK.out _ _ (by trivial) (fun hHeld=>?_);clear hK K
                  try simp only [Act.put]
                  refine wpAnyH_ready (rs:=[5]) (by kernel_rfl) (by simp) ?_;refine AllReadyH.cons rfl (fun K hK=>?_) ?_
                  ·skip
                   go_simp;refine hK.out _ _ (by trivial) (fun hHeld=>?_);clear hK K
                   try simp only [Act.put]
                   refine wpAnyH_ready (rs:=[6]) (by kernel_rfl) (by simp) ?_;refine AllReadyH.cons rfl (fun K hK=>?_) ?_
                   ·skip
                    have gn:wd.grownBy (w4.alloc (.cells #[.string vn,.int .i64 vt,.slice yd ydn ydc] 82)) none:=jaa hg4 (jab _ _);have s4:=hg4.size;have OW:=Td.out.oo.own.more gn;unfold OwnsL at OW;rw [List.length_map] at OW;refine step_append_lies _ (by rfl) (.tmp 52) (.tmp 56) 24 (by rfl) (B+1) 82 vl0 (.agg #[.string ⟨#[]⟩,.int .i64 0,.slice none 0 0]) 3 48 Tryz.underlying24 vl1 vl2 vl3 vl4 (by rfl) (by decide) (.slice oa os.length oc) os.length ((os.map (·.1)).flatMap ja5) (by rfl) (by exact OW) ⟨w4.heap.size,0,none⟩ 1 1 (ja5 (Val.mk vn vt ⟨yd,ydn,ydc⟩)) (by rfl) (by rfl) (by exact jbV w4 _ _ _ rfl) (jbF _) (by decide) (by simp only [maxLen];omega) (by omega) (by simp;omega) (w4.heap.size+1) (by simp) ?_;intro g cap w8 hown' hgrow hat hlt;have K8:=jac (jbb (fun g e=>(World.ownsRow.lt Td.out.oo.own g e).1) hgrow (HCd.out.more gn) (jaa HGd.out gn) HB.out);have N8:=jac ((K8.out.1 bG (by have:=BT.out;omega)).trans ((gn.block bG (by have:=BT.out;omega) (by simp)).trans Nd.out));have hown2:OwnsL 82 3 ja5 w8 (B+1) (.slice (some ⟨g,0,none⟩) (os.length+1) cap) (os.map (·.1)++[(Val.mk vn vt ⟨yd,ydn,ydc⟩)]):=by unfold OwnsL;rw [List.length_append,List.flatMap_append,List.length_map];simpa using hown'
                    have hat2:(Value.slice oa os.length oc).ownBlock=some g∨g=(w4.alloc (.cells #[.string vn,.int .i64 vt,.slice yd ydn ydc] 82)).heap.size:=hat.imp_right (fun e=>by rw [e];simp);have hal:=hyh (w4.alloc (.cells #[.string vn,.int .i64 vt,.slice yd ydn ydc] 82)) (jab _ _);have T8:=jac (Td.out.seto (y:=(Val.mk vn vt ⟨yd,ydn,ydc⟩)) (c:=vds) gn hgrow (OwnD.snoc jaL Td.out.oo (by omega) gn hgrow hat2 hown2 hal (fun b e=>⟨(hyf b e).1,by have:=(hyf b e).2;simp;omega⟩)) (jbv (hat2.imp_right (fun e=>by rw [e];exact gn.size))) (fun b e=>(hyf b e).1));obtain ⟨⟨p0,p1,p2,p3,p4⟩,qf0,qf1,qf2,qf3,qf4⟩:=jam N8.out;refine hK.out _ _ (by trivial) (fun hHeld=>?_);clear hK K
                    try simp only [Act.put]
                    refine tkA 7 ?_
                    try simp only [Act.put]
                    refine wpAnyH_ready (rs:=[8]) (by kernel_rfl) (by simp) ?_;refine AllReadyH.cons rfl (fun K hK=>?_) ?_
                    ·skip
                     go_simp;refine hK.out _ _ (by trivial) (fun hHeld=>?_);clear hK K
                     try simp only [Act.put]
                     refine wpAnyH_done (by kernel_rfl) ?_ _;have R8:=jac ((K8.out.1 bR (by have:=BT.out;omega)).trans ((gn.block bR (by have:=BT.out;omega) (by simp)).trans Rd.out));have K9:=jac (jbo (j:=3) (.slice (some ⟨g,0,none⟩) (os.length+1) cap) K8.out.2.1 K8.out.2.2 T8.out BL.out.1 BL.out.2.1 BL.out.2.2);have N9:=jac ((jfi N8.out (.slice (some ⟨g,0,none⟩) (os.length+1) cap)).2.2.2.1);have R9:=jac ((K9.out.1 bR BN.out (by have:=K8.out.2.1.lt;have:=BT.out;omega)).trans R8.out);have ES9:=jac (show jaF jav g0 l=jaF jav ⟨nm,ns.map jc8,is.map jbp,(os++[((Val.mk vn vt ⟨yd,ydn,ydc⟩),vds)]).map jbp,ts.map jc2⟩ r by rw [List.map_append,ES.out];rfl);clear hown' hown2 hgrow hat hlt p0 p1 p2 p3 p4 qf0 qf1 qf2 qf3 qf4 gn a0 a1 a2 a3 hyh hyf hat2 hal s4 OW;go_wp2_with fail;go_roundg r.length
                     case measure=>simp
                     case rel=>exact ⟨y,r,nm,ns,is,os++[((Val.mk vn vt ⟨yd,ydn,ydc⟩),vds)],ts,⟨na,ns.length,nc⟩,⟨ia,is.length,ic⟩,⟨some ⟨g,0,none⟩,os.length+1,cap⟩,⟨ta,ts.length,tc⟩,rfl,R9.out,N9.out,K9.out.2.2.2,K9.out.2.1,K9.out.2.2.1,ES9.out,⟨(by have:=HI.out.1;simp at this ⊢;omega),(by have:=HI.out.2.1;simp at this ⊢;omega),(by have:=HI.out.2.2.1;simp at this ⊢;omega),(by have:=HI.out.2.2.2.1;simp at this ⊢;omega),fun z hz=>HI.out.2.2.2.2 z (List.mem_cons_of_mem _ hz)⟩⟩
                    exact AllReadyH.nil
                   exact AllReadyH.nil
                  exact AllReadyH.nil
                 refine AllReadyH.cons rfl (fun K hK=>?_) ?_
                 ·skip
                  go_simp;refine hK.out _ _ (by trivial) (fun hHeld=>?_);clear hK K
                  try simp only [Act.put]
                  refine wpAnyH_ready (rs:=[1]) (by kernel_rfl) (by simp) ?_;refine AllReadyH.cons rfl (fun K hK=>?_) ?_
                  ·skip
                   have n4:=LD.out _ (by exact jaa hg4 (jab w4 (.cells #[.string vn,.int .i64 vt,.slice yd ydn ydc] 82)));go_simp;clear n4;refine hK.out _ _ (by trivial) (fun hHeld=>?_);clear hK K
                   try simp only [Act.put]
                   refine wpAnyH_ready (rs:=[6]) (by kernel_rfl) (by simp) ?_;refine AllReadyH.cons rfl (fun K hK=>?_) ?_
                   ·skip
                    have gn:wd.grownBy (w4.alloc (.cells #[.string vn,.int .i64 vt,.slice yd ydn ydc] 82)) none:=jaa hg4 (jab _ _);have s4:=hg4.size;have OW:=Td.out.oo.own.more gn;unfold OwnsL at OW;rw [List.length_map] at OW;refine step_append_lies _ (by rfl) (.tmp 52) (.tmp 56) 24 (by rfl) (B+1) 82 vl0 (.agg #[.string ⟨#[]⟩,.int .i64 0,.slice none 0 0]) 3 48 Tryz.underlying24 vl1 vl2 vl3 vl4 (by rfl) (by decide) (.slice oa os.length oc) os.length ((os.map (·.1)).flatMap ja5) (by rfl) (by exact OW) ⟨w4.heap.size,0,none⟩ 1 1 (ja5 (Val.mk vn vt ⟨yd,ydn,ydc⟩)) (by rfl) (by rfl) (by exact jbV w4 _ _ _ rfl) (jbF _) (by decide) (by simp only [maxLen];omega) (by omega) (by simp;omega) (w4.heap.size+1) (by simp) ?_;intro g cap w8 hown' hgrow hat hlt;have K8:=jac (jbb (fun g e=>(World.ownsRow.lt Td.out.oo.own g e).1) hgrow (HCd.out.more gn) (jaa HGd.out gn) HB.out);have N8:=jac ((K8.out.1 bG (by have:=BT.out;omega)).trans ((gn.block bG (by have:=BT.out;omega) (by simp)).trans Nd.out));have hown2:OwnsL 82 3 ja5 w8 (B+1) (.slice (some ⟨g,0,none⟩) (os.length+1) cap) (os.map (·.1)++[(Val.mk vn vt ⟨yd,ydn,ydc⟩)]):=by unfold OwnsL;rw [List.length_append,List.flatMap_append,List.length_map];simpa using hown'
                    have hat2:(Value.slice oa os.length oc).ownBlock=some g∨g=(w4.alloc (.cells #[.string vn,.int .i64 vt,.slice yd ydn ydc] 82)).heap.size:=hat.imp_right (fun e=>by rw [e];simp);have hal:=hyh (w4.alloc (.cells #[.string vn,.int .i64 vt,.slice yd ydn ydc] 82)) (jab _ _);have T8:=jac (Td.out.seto (y:=(Val.mk vn vt ⟨yd,ydn,ydc⟩)) (c:=vds) gn hgrow (OwnD.snoc jaL Td.out.oo (by omega) gn hgrow hat2 hown2 hal (fun b e=>⟨(hyf b e).1,by have:=(hyf b e).2;simp;omega⟩)) (jbv (hat2.imp_right (fun e=>by rw [e];exact gn.size))) (fun b e=>(hyf b e).1));obtain ⟨⟨p0,p1,p2,p3,p4⟩,qf0,qf1,qf2,qf3,qf4⟩:=jam N8.out;refine hK.out _ _ (by trivial) (fun hHeld=>?_);clear hK K
                    try simp only [Act.put]
                    refine tkA 7 ?_
                    try simp only [Act.put]
                    refine wpAnyH_ready (rs:=[8]) (by kernel_rfl) (by simp) ?_;refine AllReadyH.cons rfl (fun K hK=>?_) ?_
                    ·skip
                     go_simp;refine hK.out _ _ (by trivial) (fun hHeld=>?_);clear hK K
                     try simp only [Act.put]
                     refine wpAnyH_done (by kernel_rfl) ?_ _;have R8:=jac ((K8.out.1 bR (by have:=BT.out;omega)).trans ((gn.block bR (by have:=BT.out;omega) (by simp)).trans Rd.out));have K9:=jac (jbo (j:=3) (.slice (some ⟨g,0,none⟩) (os.length+1) cap) K8.out.2.1 K8.out.2.2 T8.out BL.out.1 BL.out.2.1 BL.out.2.2);have N9:=jac ((jfi N8.out (.slice (some ⟨g,0,none⟩) (os.length+1) cap)).2.2.2.1);have R9:=jac ((K9.out.1 bR BN.out (by have:=K8.out.2.1.lt;have:=BT.out;omega)).trans R8.out);have ES9:=jac (show jaF jav g0 l=jaF jav ⟨nm,ns.map jc8,is.map jbp,(os++[((Val.mk vn vt ⟨yd,ydn,ydc⟩),vds)]).map jbp,ts.map jc2⟩ r by rw [List.map_append,ES.out];rfl);clear hown' hown2 hgrow hat hlt p0 p1 p2 p3 p4 qf0 qf1 qf2 qf3 qf4 gn a0 a1 a2 a3 hyh hyf hat2 hal s4 OW;go_wp2_with fail;go_roundg r.length
                     case measure=>simp
                     case rel=>exact ⟨y,r,nm,ns,is,os++[((Val.mk vn vt ⟨yd,ydn,ydc⟩),vds)],ts,⟨na,ns.length,nc⟩,⟨ia,is.length,ic⟩,⟨some ⟨g,0,none⟩,os.length+1,cap⟩,⟨ta,ts.length,tc⟩,rfl,R9.out,N9.out,K9.out.2.2.2,K9.out.2.1,K9.out.2.2.1,ES9.out,⟨(by have:=HI.out.1;simp at this ⊢;omega),(by have:=HI.out.2.1;simp at this ⊢;omega),(by have:=HI.out.2.2.1;simp at this ⊢;omega),(by have:=HI.out.2.2.2.1;simp at this ⊢;omega),fun z hz=>HI.out.2.2.2.2 z (List.mem_cons_of_mem _ hz)⟩⟩
                    exact AllReadyH.nil
                   exact AllReadyH.nil
                  exact AllReadyH.nil
                 exact AllReadyH.nil
                exact AllReadyH.nil
               exact AllReadyH.nil
             ·skip
              have E:Hid (jaK s=.error 3):=by show _=_;rw [E0.out,HF.out,jaJ (f:=jav) (c:=3) (by unfold jav;rw [if_neg H1.out];rw [if_neg H2.out];rw [if_neg H5.out];rw [if_neg H11.out];rw [if_pos H12.out];rw [hx];rfl)];rfl
              refine wp_region_held_drew (S:=fun _=>True) (by kernel_rfl) trivial (fun hHeld=>?_);rw [← hwd];clear hwd;refine tkA 0 ?_
              try simp only [Act.put]
              refine tkA 2 ?_
              try simp only [Act.put]
              refine wpAnyH_ready (rs:=[1,3]) (by kernel_rfl) (by simp) ?_;refine AllReadyH.cons rfl (fun K hK=>?_) ?_
              ·skip
               have n4:=LD.out wd (by exact jae _);go_simp;clear n4;refine hK.out _ _ (by trivial) (fun hHeld=>?_);clear hK K
               try simp only [Act.put]
               refine wpAnyH_ready (rs:=[3]) (by kernel_rfl) (by simp) ?_;refine AllReadyH.cons rfl (fun K hK=>?_) ?_
               ·skip
                go_simp;refine (jaA B y wd a1 a3).mono ?_;rw [hx];rintro e w' ⟨hg,rfl⟩;exact ⟨rfl,jad E.out (jaa HGd.out hg)⟩
               exact AllReadyH.nil
              refine AllReadyH.cons rfl (fun K hK=>?_) ?_
              ·skip
               go_simp;refine (jaA B y wd a1 a3).mono ?_;rw [hx];rintro e w' ⟨hg,rfl⟩;exact ⟨rfl,jad E.out (jaa HGd.out hg)⟩
              exact AllReadyH.nil
            ·have b12:(y.num==12)=false:=by simpa using h12
             have H12:=jac h12;clear h12;have ES:=jac (HF.out.trans (jay (f:=jav) (b:=⟨nm,ns.map jc8,is.map jbp,os.map jbp,ts.map jc2⟩) (by unfold jav;rw [if_neg H1.out];rw [if_neg H2.out];rw [if_neg H5.out];rw [if_neg H11.out];rw [if_neg H12.out])));clear a1 a2 a3;go_wp2_with fail;clear a0;go_roundg r.length
             case measure=>simp
             case rel=>exact ⟨y,r,nm,ns,is,os,ts,⟨na,ns.length,nc⟩,⟨ia,is.length,ic⟩,⟨oa,os.length,oc⟩,⟨ta,ts.length,tc⟩,rfl,R2.out,N2.out,T2.out,HC2.out,HG2.out,ES.out,⟨(by have:=HI.out.1;simp at this ⊢;omega),(by have:=HI.out.2.1;simp at this ⊢;omega),(by have:=HI.out.2.2.1;simp at this ⊢;omega),(by have:=HI.out.2.2.2.1;simp at this ⊢;omega),fun z hz=>HI.out.2.2.2.2 z (List.mem_cons_of_mem _ hz)⟩⟩
     ·rw [hc] at O;have E:Hid (jaK s=.error c):=by show _=_;unfold jaK;rw [hc];rfl
      clear hc;go_enter Tryz.func54,Tryz.ntmps54;go_wp2_with fail;rw [← hw0];refine (O.out w0).mono ?_;rintro e w1 ⟨hg1,rfl⟩;exact ⟨rfl,jad E.out (jaa gw0 hg1)⟩
end Go.Proofs.YtbgbpfbjeleooaaGreat.Pd
