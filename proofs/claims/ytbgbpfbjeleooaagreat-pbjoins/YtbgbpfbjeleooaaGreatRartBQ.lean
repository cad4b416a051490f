/- A part. -/
import Derived.Test.YtbgbpfbjeleooaaGreatMRart
import Derived.Test.YtbgbpfbjeleooaaGreatRartBN
import Derived.Deep.RegionHeld3
import Derived.Deep.AppendLies
import Derived.Test.YtbgbpfbjeleooaaGreatRartAH
set_option maxHeartbeats 6400000
set_option maxRecDepth 100000
namespace Go.Proofs.YtbgbpfbjeleooaaGreat
open Go.RowKit
theorem jff (v:Value) (ps:List (Val×List Int)) (w:World) (hv:jex w v (ps.map (·.1))) (hd:∀ p∈ps,jaj w p.1.dv.v p.2) :
    Calls Tryz.prog 32 #[v] w fun e w'=>∃ (u:Sl) (qs:List (Val×List Int)),e=.returned u.v∧jcZ w' w.heap.size w'.heap.size u.v qs∧qs.map jfh=ps.map jfh∧w.grownBy w' none:=by
     obtain ⟨i0,hi,hz0,hz1,hz2⟩:=info_parts jnk;have H:=jac hv;have HD:=jac hd;obtain ⟨xa,xc,e1,p1,p2,p3⟩:=hv.form;rw [List.length_map] at e1 p1 p3;subst e1;clear hv hd;go_enter Tryz.func32,Tryz.ntmps32;go_wp2_with fail;go_loopw [3,4] (fun l i wr=>w.grownBy wr none∧∃ (k:Nat) (ua:Option Addr) (uc:Nat) (qs:List (Val×List Int)),k≤ps.length∧i=.int .i64 k∧l=.slice ua k uc∧jcZ wr w.heap.size wr.heap.size (.slice ua k uc) qs∧qs.map jfh=(ps.take k).map jfh) (fun _ i _=>ps.length - (intOf i).toNat)
     case atStart=>exact ⟨jae _,0,none,0,[],Nat.zero_le _,rfl,rfl,OwnD.nil (Nat.le_refl _),rfl⟩
     case round =>
      obtain ⟨hg,k,ua,uc,qs,hk,rfl,rfl,hown,hkey⟩:=hrel;have HO:=jac hown;have HKY:=jac hkey;have QL:Hid ((qs.map (·.1)).length=k):=by show _=_;have h:=congrArg List.length hkey;simp only [List.length_map,List.length_take] at h;rw [List.length_map];omega
      clear hown hkey
      by_cases hlt:k<ps.length
      ·have HLk:=H.out.more hg;have hlt':k<(ps.map (·.1)).length:=by rw [List.length_map];exact hlt
       obtain ⟨b,off,rfl⟩:=HLk.addr hlt';obtain ⟨a0,a1,a2⟩:=HLk.val k hlt';obtain ⟨A,ds,hA⟩ : ∃ A ds,ps[k]=(A,ds):=⟨_,_,rfl⟩
       have HA:Hid (ps[k]?=some (A,ds)):=by show _=_;rw [List.getElem?_eq_getElem hlt,hA]
       have eA:(ps.map (·.1))[k]=A:=by rw [List.getElem_map,hA]
       rw [eA] at a0 a1 a2;have HDS:Hid (jaj wr A.dv.v ds):=(HD.out (A,ds) (by rw [← hA];exact List.getElem_mem hlt)).more hg;have CI:=jac (fun (wx:World) (hx:wr.grownBy wx none)=>jfC A.dv.v ds wx (HDS.out.more hx));have CX:=jac (fun (wx:World) (hx:wx.heap[b]?=wr.heap[b]?)=>And.intro ((World.cell?_of_block hx).trans a0) (And.intro ((World.cell?_of_block hx).trans a1) ((World.cell?_of_block hx).trans a2)));have hbw:b<w.heap.size:=World.block_lt_of_cell? w _ (H.out.val k hlt').1;have NB:Hid (some b≠(Value.slice ua k uc).ownBlock):=fun e=>by have:=World.ownsRow.lt HO.out.own b e.symm;omega
       have hsz:=hg.size;have gd:=jaz (jae wr);clear HLk eA hA;go_wp2_with fail;go_region_held3 (fun w'=>w'.cell? ⟨b,off+k*3,none⟩=some (.string A.name)∧w'.cell? ⟨b,off+k*3+1,none⟩=some (.int .i64 A.ty)∧w'.cell? ⟨b,off+k*3+2,none⟩=some (.slice A.dv.a A.dv.n A.dv.c)) (go_keep) (first | (go_at_call 64;refine (CI.out _ (by exact gd)).mono ?_;rintro e w3 ⟨u,rfl,hu,nu,hg3⟩;have g3:wr.grownBy w3 none:=jaa gd hg3;have B3:Hid (w3.heap[b]?=wr.heap[b]?∧b<w3.heap.size):=(And.intro (g3.block b (by omega) (by simp)) (by have:=g3.size;omega));obtain ⟨a0,a1,a2⟩:=CX.out w3 B3.out.1;have OW:Hid (∀ o,(w3.alloc o).ownsRow w.heap.size 82 3 (.slice ua k uc) k ((qs.map (·.1)).flatMap ja5)):=(fun o=>jdF ((HO.out.own.more g3).more (jab _ _)) QL.out)) | (refine step_append_lies _ (by rfl) (.tmp 11) (.tmp 29) 24 (by rfl) w.heap.size 82 i0 (.agg #[.string ⟨#[]⟩,.int .i64 0,.slice none 0 0]) 3 48 Tryz.underlying24 hi hz0 hz1 hz2 (by rfl) (by decide) (.slice ua k uc) k ((qs.map (·.1)).flatMap ja5) (by rfl) (by exact OW.out _) ⟨w3.heap.size,0,none⟩ 1 1 (ja5 ⟨A.name,A.ty,u⟩) (by rfl) (by rfl) (by exact World.news_of_block (heap_alloc_new w3 _)) (jkB _) (by omega) (by simp only [maxLen];omega) (by omega) (by have:=g3.size;simp;omega) (w3.heap.size+1) (by simp) ?_;intro gg cap w8 hown8 hgrow hat hlt8;obtain ⟨a0,a1,a2⟩:=CX.out w8 ((hgrow.block b (by have:=B3.out.2;simp;omega) NB.out).trans (((jab w3 _).block b B3.out.2 (by simp)).trans B3.out.1))) | fail)
       have ST:Hid (w.grownBy w8 none∧jcZ w8 w.heap.size w8.heap.size (.slice (some ⟨gg,0,none⟩) (k+1) cap) (qs++[(⟨A.name,A.ty,u⟩,ds)])∧(qs++[((⟨A.name,A.ty,u⟩ : Val),ds)]).map jfh=(ps.take (k+1)).map jfh):=by
        have gn:=jab w3 (.cells #[.string A.name,.int .i64 A.ty,.slice u.a u.n u.c] 82);refine ⟨jah (jaa (jaa hg g3) gn) hgrow (fun r e=>(World.ownsRow.lt HO.out.own r e).1),?_,?_⟩
        ·refine HO.out.snoc jaL hsz (jaa g3 gn) hgrow (by simpa using hat) (jeH QL.out hown8) (hu.more gn) (fun b e=>?_);have:=nu b e;have:=gn.size;simp at *;omega
        ·rw [jdV jfh HA.out,List.map_append,HKY.out]
         rfl
       clear hown8 hgrow hat hlt8 a0 a1 a2 hu nu hg3;go_wp2_with fail;go_roundw
       case rel=>exact ⟨ST.out.1,k+1,_,_,_,by omega,by go_num,rfl,ST.out.2.1,ST.out.2.2⟩
       case measure=>simp [intOf];omega
      ·obtain rfl:k=ps.length:=by omega
       rw [List.take_of_length_le (Nat.le_refl _)] at HKY;go_wp2;go_ret;exact ⟨⟨ua,ps.length,uc⟩,qs,rfl,HO.out,HKY.out,hg⟩
theorem jdR (w:World) (row:Option Nat):w.grownBy w row:=⟨rfl,rfl,rfl,Nat.le_refl _,fun _ _ _=>rfl⟩
theorem jeC (g:Gra) (cs:List Nc) (vin vout:List (Val×List Int)) (its:List (Nam×List Int×List Int)) (w:World) (hin:GraphIn0 w g cs vin vout its) :
    Calls Tryz.prog 13 #[jcM g] w fun e w'=>∃ (h:Gra) (ms:List (Nod×Ni)) (vi vo:List (Val×List Int)) (ts:List (Nam×List Int×List Int)) (i0 i1 o0 o1 n0 n1 t0 t1:Nat),e=.returned (jcM h)∧CopiedG0 w w' g cs vin vout its h ms vi vo ts i0 i1 o0 o1 n0 n1 t0 t1:=by
     have HG:=jac hin;obtain ⟨nam,⟨na0,nn0,nc0⟩,⟨ia,iN,ic⟩,⟨oa,oN,oc⟩,⟨ta,tN,tc⟩⟩:=g;obtain ⟨xa,xc,e1,p1,p2,p3⟩:=hin.nodes.form;rw [List.length_map] at e1 p1 p3;obtain ⟨rfl,rfl,rfl⟩ : na0=xa∧nn0=cs.length∧nc0=xc:=by simpa [Sl.v] using e1
     obtain ⟨ya,yc,e2,p4,p5,p6⟩:=hin.ins.form;rw [List.length_map] at e2 p4 p6;obtain ⟨rfl,rfl,rfl⟩ : ia=ya∧iN=vin.length∧ic=yc:=by simpa [Sl.v] using e2
     obtain ⟨za,zc,e3,p7,p8,p9⟩:=hin.outs.form;rw [List.length_map] at e3 p7 p9;obtain ⟨rfl,rfl,rfl⟩ : oa=za∧oN=vout.length∧oc=zc:=by simpa [Sl.v] using e3
     obtain ⟨qa,qc,e4,p10,p11,p12⟩:=hin.inits.form;rw [List.length_map] at e4 p10 p12;obtain ⟨rfl,rfl,rfl⟩ : ta=qa∧tN=its.length∧tc=qc:=by simpa [Sl.v] using e4
     clear hin e1 e2 e3 e4;unfold jcM;simp only;obtain ⟨w0,hw0⟩ : ∃ w0,w0=(w.alloc (.cells #[.string nam,.slice na0 cs.length nc0,.slice ia vin.length ic,.slice oa vout.length oc,.slice ta its.length tc] 27)).alloc (.cells #[.string ⟨#[]⟩,.slice none 0 0,.slice none 0 0,.slice none 0 0,.slice none 0 0] 27):=⟨_,rfl⟩
     have g0:w.grownBy w0 none:=by rw [hw0];exact jaa (jab _ _) (jab _ _)
     have hbx:w0.heap[w.heap.size]?=some (.cells #[.string nam,.slice na0 cs.length nc0,.slice ia vin.length ic,.slice oa vout.length oc,.slice ta its.length tc] 27 (0,0))∧w0.heap[w.heap.size+1]?=some (.cells #[.string ⟨#[]⟩,.slice none 0 0,.slice none 0 0,.slice none 0 0,.slice none 0 0] 27 (0,0)):=by
      rw [hw0];exact jbl w _ _
     have hs0:w0.heap.size=w.heap.size+1+1:=by rw [hw0];simp
     have BX:Hid (∀ wx:World,wx.heap[w.heap.size]?=w0.heap[w.heap.size]?→wx.heap[w.heap.size]?=some (.cells #[.string nam,.slice na0 cs.length nc0,.slice ia vin.length ic,.slice oa vout.length oc,.slice ta its.length tc] 27 (0,0))):=fun wx hx=>hx.trans hbx.1;have BR:Hid (∀ wx:World,wx.heap[w.heap.size+1]?=w0.heap[w.heap.size+1]?→wx.heap[w.heap.size+1]?=some (.cells #[.string ⟨#[]⟩,.slice none 0 0,.slice none 0 0,.slice none 0 0,.slice none 0 0] 27 (0,0))):=fun wx hx=>hx.trans hbx.2;have S0:=jac hs0;have KW:Hid (∀ wx,w0.grownBy wx none→wx.heap[w.heap.size]?=w0.heap[w.heap.size]?):=fun wx hx=>hx.block _ (by have:=S0.out;omega) (by simp);obtain ⟨r0,r1,r2,r3,r4⟩:=jaY (g:=⟨nam,⟨na0,cs.length,nc0⟩,⟨ia,vin.length,ic⟩,⟨oa,vout.length,oc⟩,⟨ta,its.length,tc⟩⟩) hbx.1;clear hbx hs0;go_enter Tryz.func13,Tryz.ntmps13;go_wp2_with fail;rw [← hw0];clear hw0;go_cut [3] from 7 to 15 (fun p wx=>CutP w0 nam vin vout p wx)
     case first =>
      have gd:=jaz (jae w0);have ga:=jaz (jab w0 (.cells #[.string ⟨#[]⟩,.slice none 0 0,.slice none 0 0,.slice none 0 0,.slice none 0 0] 27));have CI:=jac (fun (wx:World) (hx:w0.grownBy wx none)=>jff (.slice ia vin.length ic) vin wx (HG.out.ins.more (jaa g0 hx)) (fun p hp=>(HG.out.din p hp).more (jaa g0 hx)));have CO:=jac (fun (wx:World) (hx:w0.grownBy wx none)=>jff (.slice oa vout.length oc) vout wx (HG.out.outs.more (jaa g0 hx)) (fun p hp=>(HG.out.dout p hp).more (jaa g0 hx)));have y1:w.heap.size≠w0.heap.size:=by have:=S0.out;omega
      have y1':=y1.symm;go_region_held3 (fun w'=>w'.cell? ⟨w.heap.size,0,none⟩=some (.string nam)∧w'.cell? ⟨w.heap.size,2,none⟩=some (.slice ia vin.length ic)∧w'.cell? ⟨w.heap.size,3,none⟩=some (.slice oa vout.length oc)) (go_keep) (first | (go_at_call_of 32 ia;have gp:=gd;refine (CI.out _ (by first | exact gd | exact ga | exact gO | exact jaa gO (jab _ _))).mono ?_;rintro e wi ⟨ui,vi,rfl,hvi,kvi,hgi⟩;have gI:w0.grownBy wi none:=(by first | exact jaa gd hgi | exact jaa ga hgi | exact jaa gO hgi | exact jaa (jaa gO (jab _ _)) hgi);obtain ⟨r0,r1,r2,r3,r4⟩:=jaY (g:=⟨nam,⟨na0,cs.length,nc0⟩,⟨ia,vin.length,ic⟩,⟨oa,vout.length,oc⟩,⟨ta,its.length,tc⟩⟩) (BX.out wi (KW.out wi gI));have y2:w.heap.size≠wi.heap.size:=(by have:=gI.size;have:=S0.out;omega);have y2':=y2.symm;first | (have kz:wi.heap[w0.heap.size]?=some (.cells #[.string ⟨#[]⟩,.slice none 0 0,.slice none 0 0,.slice none 0 0,.slice none 0 0] 27 (0,0)):=jag (show ((w0.alloc (.cells #[.string ⟨#[]⟩,.slice none 0 0,.slice none 0 0,.slice none 0 0,.slice none 0 0] 27)).drew).heap[w0.heap.size]?=_ from heap_alloc_new w0 _) hgi;obtain ⟨f0,f1,f2,f3,f4⟩:=jbG kz;obtain ⟨k0,k1,k2,k3,k4⟩:=jc7 kz) | (have kz:wi.heap[w0.heap.size]?=some (.cells #[.string ⟨#[]⟩,.slice none 0 0,.slice none 0 0,.slice none 0 0,.slice none 0 0] 27 (0,0)):=jag kz hgi;obtain ⟨f0,f1,f2,f3,f4⟩:=jbG kz;obtain ⟨k0,k1,k2,k3,k4⟩:=jc7 kz) | (have kz:wi.heap[wo.heap.size]?=some (.cells #[.string ⟨#[]⟩,.slice none 0 0,.slice none 0 0,.slice none 0 0,.slice none 0 0] 27 (0,0)):=jag (heap_alloc_new wo _) hgi;obtain ⟨f0,f1,f2,f3,f4⟩:=jbG kz;obtain ⟨k0,k1,k2,k3,k4⟩:=jc7 kz) | skip) | (go_at_call_of 32 oa;refine (CO.out _ (by first | exact gd | exact ga | exact gI | exact jaa gI (jab _ _))).mono ?_;rintro e wo ⟨uo,vo,rfl,hvo,kvo,hgo⟩;have gO:w0.grownBy wo none:=(by first | exact jaa gd hgo | exact jaa ga hgo | exact jaa gI hgo | exact jaa (jaa gI (jab _ _)) hgo);obtain ⟨r0,r1,r2,r3,r4⟩:=jaY (g:=⟨nam,⟨na0,cs.length,nc0⟩,⟨ia,vin.length,ic⟩,⟨oa,vout.length,oc⟩,⟨ta,its.length,tc⟩⟩) (BX.out wo (KW.out wo gO));have y3:w.heap.size≠wo.heap.size:=(by have:=gO.size;have:=S0.out;omega);have y3':=y3.symm;first | (have kz:wo.heap[w0.heap.size]?=some (.cells #[.string ⟨#[]⟩,.slice none 0 0,.slice none 0 0,.slice none 0 0,.slice none 0 0] 27 (0,0)):=jag (show ((w0.alloc (.cells #[.string ⟨#[]⟩,.slice none 0 0,.slice none 0 0,.slice none 0 0,.slice none 0 0] 27)).drew).heap[w0.heap.size]?=_ from heap_alloc_new w0 _) hgo;obtain ⟨f0,f1,f2,f3,f4⟩:=jbG kz;obtain ⟨k0,k1,k2,k3,k4⟩:=jc7 kz) | (have kz:wo.heap[w0.heap.size]?=some (.cells #[.string ⟨#[]⟩,.slice none 0 0,.slice none 0 0,.slice none 0 0,.slice none 0 0] 27 (0,0)):=jag kz hgo;obtain ⟨f0,f1,f2,f3,f4⟩:=jbG kz;obtain ⟨k0,k1,k2,k3,k4⟩:=jc7 kz) | (have kz:wo.heap[wi.heap.size]?=some (.cells #[.string ⟨#[]⟩,.slice none 0 0,.slice none 0 0,.slice none 0 0,.slice none 0 0] 27 (0,0)):=jag (heap_alloc_new wi _) hgo;obtain ⟨f0,f1,f2,f3,f4⟩:=jbG kz;obtain ⟨k0,k1,k2,k3,k4⟩:=jc7 kz) | skip) | fail)
      all_goals (go_wp2_with fail;go_meet)
      ·refine ⟨wo.heap.size,ui,uo,vi,vo,w0.heap.size,wi.heap.size,wi.heap.size,wo.heap.size,rfl,⟨heap_alloc_new wo _,(OwnD.more jaL hvi hgo).more jaL (jab _ _),hvo.more jaL (jab _ _),kvi,kvo,Nat.le_refl _,gI.size,gO.size,Or.inl (Nat.le_refl _),Or.inr hgo.size,Or.inr (Nat.le_refl _),jaa gO (jab _ _)⟩⟩
      ·obtain ⟨hX,gX⟩:=ji2 (.string nam) (.slice none 0 0) (.slice ui.a ui.n ui.c) (.slice uo.a uo.n uo.c) (.slice none 0 0) kz;have hvo':jcZ wo (wi.heap.size+1) wo.heap.size uo.v vo:=by simpa using hvo
       have sgo:wi.heap.size+1≤wo.heap.size:=by have:=hgo.size;simpa using this
       refine ⟨wi.heap.size,ui,uo,vi,vo,w0.heap.size,wi.heap.size,wi.heap.size+1,wo.heap.size,rfl,⟨hX,(OwnD.more jaL hvi (jaa (jab _ _) hgo)).past jaL gX (fun g e=>by cases e;exact Or.inr (Nat.le_refl _)),hvo'.past jaL gX (fun g e=>by cases e;exact Or.inl (Nat.lt_succ_self _)),kvi,kvo,Nat.le_refl _,by have:=gI.size;omega,gI.size,Or.inl (by omega),Or.inr (Nat.le_refl _),Or.inl (by omega),jah gO gX (fun r e=>by cases e;exact gI.size)⟩⟩
      ·obtain ⟨hX,gX⟩:=ji2 (.string nam) (.slice none 0 0) (.slice ui.a ui.n ui.c) (.slice uo.a uo.n uo.c) (.slice none 0 0) kz;have hvi':jcZ wi (w0.heap.size+1) wi.heap.size ui.v vi:=by simpa using hvi
       have sgi:w0.heap.size+1≤wi.heap.size:=by have:=hgi.size;simpa using this
       refine ⟨w0.heap.size,ui,uo,vi,vo,w0.heap.size+1,wi.heap.size,wi.heap.size,wo.heap.size,rfl,⟨hX,(OwnD.more jaL hvi' hgo).past jaL gX (fun g e=>by cases e;exact Or.inl (Nat.lt_succ_self _)),hvo.past jaL gX (fun g e=>by cases e;exact Or.inl (by omega)),kvi,kvo,by omega,by omega,Nat.le_refl _,Or.inl (Nat.le_refl _),Or.inl (by omega),Or.inl (by omega),jah gO gX (fun r e=>by cases e;exact Nat.le_refl _)⟩⟩
     case rest =>
      obtain ⟨B,ui,uo,vi,vo,i0,i1,o0,o1,rfl,hcg⟩:=hcut;have HC:=jac hcg;have BN:Hid (w0.heap.size≤B∧B<wc.heap.size):=⟨hcg.lb,(Array.getElem?_eq_some_iff.1 hcg.box).1⟩
      have KO:Hid (∀ wx,wc.grownBy wx (some B)→∀ b,b<w0.heap.size→wx.heap[b]?=w0.heap[b]?):=fun wx hx b hb=>(hx.block b (by have:=hcg.grown.size;omega) (fun e=>by have:=Option.some.inj e;have:=hcg.lb;omega)).trans (hcg.grown.block b hb (by simp));clear hcg r0 r1 r2 r3 r4;have KG:Hid (∀ wx,wc.grownBy wx (some B)→wx.heap[w.heap.size]?=some (.cells #[.string nam,.slice na0 cs.length nc0,.slice ia vin.length ic,.slice oa vout.length oc,.slice ta its.length tc] 27 (0,0))):=fun wx hx=>BX.out wx (KO.out wx hx _ (by have:=S0.out;omega));have KI:Hid (∀ wx,wc.grownBy wx (some B)→∀ b,b<w.heap.size→wx.heap[b]?=w.heap[b]?):=fun wx hx b hb=>(KO.out wx hx b (by have:=S0.out;omega)).trans (g0.block b hb (by simp));obtain ⟨j0,hj,jz0,jz1,jz2⟩:=info_parts jlp;obtain ⟨m0,hm,mz0,mz1,mz2⟩:=info_parts jnF;go_wp2_with fail;go_loopw [4] (fun i wr=>∃ (k:Nat) (v:Sl) (ms:List (Nod×Ni)),k≤cs.length∧i=.int .i64 k∧NInv0 wc B nam ui uo cs k wr v ms) (fun i _=>cs.length - (intOf i).toNat)
      case atStart=>exact ⟨0,⟨none,0,0⟩,[],Nat.zero_le _,rfl,⟨HC.out.box,OwnD.nil (Nat.le_refl _),rfl,rfl,jdR _ _⟩⟩
      case round =>
       obtain ⟨k,⟨va,vn,vc⟩,ms,hk,rfl,hinv⟩:=hrel;have CI:=jac hinv
       have hvn:vn=k:=by
        obtain ⟨pa,pc,e⟩:=OwnsL.form hinv.own.own;simp only [Sl.v,Value.slice.injEq] at e;exact e.2.1.trans hinv.len
       subst hvn;clear hinv;obtain ⟨r0,r1,r2,r3,r4⟩:=jaY (g:=⟨nam,⟨na0,cs.length,nc0⟩,⟨ia,vin.length,ic⟩,⟨oa,vout.length,oc⟩,⟨ta,its.length,tc⟩⟩) (KG.out wr CI.out.grown);clear r0 r2 r3 r4;simp only at r1
       by_cases hlt:vn<cs.length
       ·have HLk:jje wr (.slice na0 cs.length nc0) (cs.map (·.n)):=HG.out.nodes.kept fun b hb _=>KI.out wr CI.out.grown b hb;have hlt':vn<(cs.map (·.n)).length:=by rw [List.length_map];exact hlt
        obtain ⟨b,off,rfl⟩:=HLk.addr hlt';obtain ⟨a0,a1,a2,a3,a4⟩:=HLk.nod vn hlt';rw [List.getElem_map] at a0 a1 a2 a3 a4;have hin:NodeIn0 wr cs[vn].n cs[vn].ins cs[vn].xs cs[vn].cs:=(HG.out.node cs[vn] (List.getElem_mem hlt)).kept (KI.out wr CI.out.grown);obtain ⟨A,hA⟩ : ∃ A,A=cs[vn]:=⟨_,rfl⟩
        have HA:Hid (cs[vn]?=some A):=by show _=_;rw [List.getElem?_eq_getElem hlt,hA]
        rw [← hA] at a0 a1 a2 a3 a4 hin;have HIN:=jac hin;have CN:=jac (jhc A.n A.ins A.xs A.cs wr hin.ins hin.av hin.has);unfold jgJ at CN;clear HLk hA hin;go_wp2_with fail;refine CN.out.mono ?_;rintro e w3 ⟨iv,av,ys,rfl,hcp⟩;have HCP:=jac hcp;have hg3:=hcp.grown;have B3:Hid (w3.heap[B]?=some (.cells #[.string nam,.slice va vn vc,.slice ui.a ui.n ui.c,.slice uo.a uo.n uo.c,.slice none 0 0] 27 (0,0))):=jag CI.out.box hg3;have hBl:B<w3.heap.size:=(Array.getElem?_eq_some_iff.1 B3.out).1;obtain ⟨c0,c1,c2,c3,c4⟩:=jaY (g:=⟨nam,⟨va,vn,vc⟩,ui,uo,⟨none,0,0⟩⟩) B3.out;obtain ⟨f0,f1,f2,f3,f4⟩:=jbG B3.out;have y1:B≠w3.heap.size:=by omega
        have y1':=y1.symm;clear hcp c0 c2 c3 c4 f0 f2 f3 f4;simp only at c1;have OW:Hid (∀ o o',((w3.alloc o).alloc o').ownsRow wc.heap.size 35 5 (.slice va vn vc) vn ((ms.map (·.1)).flatMap ncells)):=fun o o'=>jdF (((CI.out.own.own.more hg3).more (jab _ _)).more (jab _ _)) CI.out.len;have NB:Hid (some B≠(Value.slice va vn vc).ownBlock):=fun e=>by have:=World.ownsRow.lt CI.out.own.own B e.symm;have:=BN.out.2;omega
        have hcw:wc.heap.size≤w3.heap.size:=Nat.le_trans CI.out.grown.size hg3.size;go_wp2_with (at_builtin;refine wpList_append_lies _ rfl (.tmp 30) (.tmp 32) 23 rfl wc.heap.size 35 j0 (.agg #[.string ⟨#[]⟩,.string ⟨#[]⟩,.slice none 0 0,.string ⟨#[]⟩,.slice none 0 0]) 5 96 Tryz.underlying23 hj jz0 jz1 jz2 rfl (by decide) (.slice va vn vc) vn ((ms.map (·.1)).flatMap ncells) rfl (by exact OW.out _ _) ⟨w3.heap.size+1,0,none⟩ 1 1 (ncells ⟨A.n.op,A.n.name,iv,A.n.out,av⟩) rfl rfl (by exact World.news_of_block (by have h:=heap_alloc_new (w3.alloc (.cells #[.string A.n.op,.string A.n.name,.slice iv.a iv.n iv.c,.string A.n.out,.slice av.a av.n av.c] 35)) (.cells #[.string A.n.op,.string A.n.name,.slice iv.a iv.n iv.c,.string A.n.out,.slice av.a av.n av.c] 35);simpa using h)) (jlq _) (by omega) (by simp only [maxLen];omega) (by omega) (by simp;omega) (w3.heap.size+1+1) (by simp) ?_;intro gg cap w8 hown8 hgrow hat hlt8;have B8:Hid (w8.heap[B]?=some (.cells #[.string nam,.slice va vn vc,.slice ui.a ui.n ui.c,.slice uo.a uo.n uo.c,.slice none 0 0] 27 (0,0))):=((hgrow.block B (by simp;omega) NB.out).trans (jag (jag B3.out (jab _ _)) (jab _ _)));clear c1 f1;obtain ⟨f0,f1,f2,f3,f4⟩:=jbG B8.out;obtain ⟨c0,c1,c2,c3,c4⟩:=jaY (g:=⟨nam,⟨va,vn,vc⟩,ui,uo,⟨none,0,0⟩⟩) B8.out);obtain ⟨q1,q2,q3⟩:=jit (j:=1) (.slice (some ⟨gg,0,none⟩) (vn+1) cap) B8.out
        have ST:Hid (NInv0 wc B nam ui uo cs (vn+1) (w8.setCell ⟨B,1,none⟩ (.slice (some ⟨gg,0,none⟩) (vn+1) cap)) ⟨some ⟨gg,0,none⟩,vn+1,cap⟩ (ms++[(⟨A.n.op,A.n.name,iv,A.n.out,av⟩,⟨A.ins,ys,A.cs⟩)])):=by
         have gn:=jaa (jab w3 (.cells #[.string A.n.op,.string A.n.name,.slice iv.a iv.n iv.c,.string A.n.out,.slice av.a av.n av.c] 35)) (jab _ (.cells #[.string A.n.op,.string A.n.name,.slice iv.a iv.n iv.c,.string A.n.out,.slice av.a av.n av.c] 35));have hsz:=CI.out.grown.size;have hbc:=BN.out.2;have hy:jmx _ ⟨A.n.op,A.n.name,iv,A.n.out,av⟩ ⟨A.ins,ys,A.cs⟩:=(HCP.out.node0 HIN.out).more gn;have sn:=CI.out.own.snoc jcz hsz (jaa hg3 gn) hgrow (by simpa using hat) (jeH CI.out.len hown8) (y:=⟨A.n.op,A.n.name,iv,A.n.out,av⟩) (c:=⟨A.ins,ys,A.cs⟩) hy (fun b e=>by have:=HCP.out.feet b e;have:=gn.size;omega);refine ⟨by simpa using q1,(sn.past jcz q2 (fun g e=>by cases e;exact Or.inl hbc)).wide (Nat.le_refl _) (Nat.le_of_eq q3.symm) (Nat.le_refl _),by rw [List.map_append,List.length_append,CI.out.len];rfl,?_,?_⟩
         ·rw [jdV jg3 HA.out,List.map_append,List.map_append,CI.out.key];simp only [List.map_cons,List.map_nil,jgA,jg3,HCP.out.eq]
         ·exact ja1 (jcG (jcG CI.out.grown (jaa hg3 gn) (by simp)) hgrow (fun g e=>(World.ownsRow.lt CI.out.own.own g e).1)) q2
        clear hown8 hgrow hat hlt8 q1 q2 q3 c0 c1 c2 c3 c4 f0 f1 f2 f3 f4;go_roundw
        case rel=>exact ⟨vn+1,_,_,by omega,by go_num,ST.out⟩
        case measure=>simp [intOf];omega
       ·obtain rfl:vn=cs.length:=by omega
        obtain ⟨W2,hW2⟩ : ∃ W2,W2=wr:=⟨_,rfl⟩
        rw [← hW2] at CI r1;have KG2:Hid (∀ wx,W2.grownBy wx (some B)→wx.heap[w.heap.size]?=some (.cells #[.string nam,.slice na0 cs.length nc0,.slice ia vin.length ic,.slice oa vout.length oc,.slice ta its.length tc] 27 (0,0))):=fun wx hx=>KG.out wx (ja1 CI.out.grown hx);have KI2:Hid (∀ wx,W2.grownBy wx (some B)→∀ b,b<w.heap.size→wx.heap[b]?=w.heap[b]?):=fun wx hx=>KI.out wx (ja1 CI.out.grown hx);have KO2:Hid (∀ wx,W2.grownBy wx (some B)→∀ b,b<w0.heap.size→wx.heap[b]?=w0.heap[b]?):=fun wx hx=>KO.out wx (ja1 CI.out.grown hx);have B2:Hid (B<W2.heap.size∧wc.heap.size≤W2.heap.size):=⟨(Array.getElem?_eq_some_iff.1 CI.out.box).1,CI.out.grown.size⟩
        rw [← hW2];clear hW2;go_wp2_with fail;clear r1;go_loopw [6] (fun i wr=>∃ (k:Nat) (v:Sl) (ts:List (Nam×List Int×List Int)),k≤its.length∧i=.int .i64 k∧InitInv W2 B nam ⟨va,cs.length,vc⟩ ui uo its k wr v ts) (fun i _=>its.length - (intOf i).toNat)
        case atStart=>exact ⟨0,⟨none,0,0⟩,[],Nat.zero_le _,rfl,⟨CI.out.box,OwnD.nil (Nat.le_refl _),rfl,rfl,jdR _ _⟩⟩
        case round =>
         obtain ⟨k,⟨ea,en,ec⟩,ts,hk,rfl,hinv⟩:=hrel;have TI:=jac hinv
         have hvn:en=k:=by
          obtain ⟨pa,pc,e⟩:=OwnsL.form hinv.own.own;simp only [Sl.v,Value.slice.injEq] at e;exact e.2.1.trans hinv.len
         subst hvn;clear hinv;obtain ⟨r0,r1,r2,r3,r4⟩:=jaY (g:=⟨nam,⟨na0,cs.length,nc0⟩,⟨ia,vin.length,ic⟩,⟨oa,vout.length,oc⟩,⟨ta,its.length,tc⟩⟩) (KG2.out wr TI.out.grown);clear r0 r1 r2 r3;simp only at r4
         by_cases hlt:en<its.length
         ·have HLk:jjd wr (.slice ta its.length tc) (its.map (·.1)):=HG.out.inits.kept fun b hb _=>KI2.out wr TI.out.grown b hb;have hlt':en<(its.map (·.1)).length:=by rw [List.length_map];exact hlt
          obtain ⟨b,off,rfl⟩:=HLk.addr hlt';obtain ⟨a0,a1,a2,a3⟩:=HLk.nam en hlt';rw [List.getElem_map] at a0 a1 a2 a3;obtain ⟨A,ds,es,hA⟩ : ∃ A ds es,its[en]=(A,ds,es):=⟨_,_,_,rfl⟩
          have HA:Hid (its[en]?=some (A,ds,es)):=by show _=_;rw [List.getElem?_eq_getElem hlt,hA]
          have hdi:=HG.out.dinit its[en] (List.getElem_mem hlt);rw [hA] at a0 a1 a2 a3 hdi;simp only at a0 a1 a2 a3 hdi;have hbw:b<w.heap.size:=World.block_lt_of_cell? w _ (HG.out.inits.nam en hlt').1;have HDI:Hid (jaj wr A.dv.v ds∧jaj wr A.tv.v es):=⟨hdi.1.kept fun b hb _=>KI2.out wr TI.out.grown b hb,hdi.2.kept fun b hb _=>KI2.out wr TI.out.grown b hb⟩
          have gd:=jaz (jae wr);have CT:=jac (jf8 A.ty A.dv.v A.tv.v ds es wr.drew (HDI.out.1.more gd) (HDI.out.2.more gd));have CX:=jac (fun (wx:World) (hx:wx.heap[b]?=wr.heap[b]?)=>And.intro ((World.cell?_of_block hx).trans a0) (And.intro ((World.cell?_of_block hx).trans a1) (And.intro ((World.cell?_of_block hx).trans a2) ((World.cell?_of_block hx).trans a3))));have CR:=jac (fun (wx:World) (hx:wx.heap[w.heap.size]?=wr.heap[w.heap.size]?)=>(World.cell?_of_block hx).trans r4);have hsr:=TI.out.grown.size;have hB2:=B2.out;have hww:w.heap.size<w0.heap.size∧w0.heap.size≤B:=⟨by have:=S0.out;omega,BN.out.1⟩
          have NR:Hid (∀ x,x<W2.heap.size→some x≠(Value.slice ea en ec).ownBlock):=fun x hx e=>by have:=World.ownsRow.lt TI.out.own.own x e.symm;omega
          have y0:w.heap.size≠B:=by omega
          have y0':=y0.symm;have y3:b≠B:=by omega
          have y3':=y3.symm;obtain ⟨-,-,-,-,c4⟩:=jaY (g:=⟨nam,⟨va,cs.length,vc⟩,ui,uo,⟨ea,en,ec⟩⟩) TI.out.box;simp only at c4;clear HLk hA hdi;go_wp2_with fail;refine wp_region_held_drew (S:=(fun w'=>w'.cell? ⟨w.heap.size,4,none⟩=some (.slice (some ⟨b,off,none⟩) its.length tc)∧w'.cell? ⟨b,off+en*4,none⟩=some (.string A.name)∧w'.cell? ⟨b,off+en*4+1,none⟩=some (.int .i64 A.ty)∧w'.cell? ⟨b,off+en*4+1+1,none⟩=some (.slice A.dv.a A.dv.n A.dv.c)∧w'.cell? ⟨b,off+en*4+1+2,none⟩=some (.slice A.tv.a A.tv.n A.tv.c))) (by kernel_rfl) (by go_keep) (fun hHeld=>?_);refine tkA 0 ?_
          try simp only [Act.put]
          refine tkA 2 ?_
          try simp only [Act.put]
          refine tkA 4 ?_
          try simp only [Act.put]
          refine tkA 8 ?_
          try simp only [Act.put]
          refine tkA 10 ?_
          try simp only [Act.put]
          refine tkA 3 ?_
          try simp only [Act.put]
          refine tkA 9 ?_
          try simp only [Act.put]
          refine tkA 5 ?_
          try simp only [Act.put]
          refine tkA 11 ?_
          try simp only [Act.put]
          refine tkA 6 ?_
          try simp only [Act.put]
          refine tkA 12 ?_
          try simp only [Act.put]
          refine tkA 7 ?_
          try simp only [Act.put]
          refine tkA 13 ?_
          try simp only [Act.put]
          refine wpAnyH_ready (rs:=[1,14]) (by kernel_rfl) (by simp) ?_;refine AllReadyH.cons rfl (fun K hK=>?_) ?_
          ·skip
           go_simp;refine hK.out _ _ (by first | assumption | go_keep) (fun hHeld=>?_);clear hK K
           try simp only [Act.put]
           refine wpAnyH_ready (rs:=[14]) (by kernel_rfl) (by simp) ?_;refine AllReadyH.cons rfl (fun K hK=>?_) ?_
           ·skip
            go_simp;refine CT.out.mono ?_;rintro e w3 ⟨d,t,rfl,hd,ht,nd,nt,hg3⟩;have g3:wr.grownBy w3 none:=jaa gd hg3;have s3:=g3.size;have B3:Hid (∀ x,x<wr.heap.size→w3.heap[x]?=wr.heap[x]?):=(fun x hx=>g3.block x hx (by simp))
            obtain ⟨a0,a1,a2,a3⟩:=CX.out w3 (B3.out b (by omega));have r4:=CR.out w3 (B3.out _ (by omega));have BX3:=jac ((B3.out B (by omega)).trans TI.out.box);obtain ⟨-,-,-,-,c4⟩:=jaY (g:=⟨nam,⟨va,cs.length,vc⟩,ui,uo,⟨ea,en,ec⟩⟩) BX3.out;simp only at c4;have y5:B≠w3.heap.size:=(by omega)
            have y5':=y5.symm;have OW:Hid (∀ o,(w3.alloc o).ownsRow W2.heap.size 67 4 (.slice ea en ec) en ((ts.map (·.1)).flatMap jbm)):=(fun o=>jdF ((TI.out.own.own.more g3).more (jab _ _)) TI.out.len)
            try dsimp only
            refine hK.out _ _ (by first | assumption | go_keep) (fun hHeld=>?_);clear hK K
            try simp only [Act.put]
            refine tkA 15 ?_
            try simp only [Act.put]
            refine wpAnyH_ready (rs:=[16]) (by kernel_rfl) (by simp) ?_;refine AllReadyH.cons rfl (fun K hK=>?_) ?_
            ·skip
             go_simp;refine hK.out _ _ (by first | assumption | go_keep) (fun hHeld=>?_);clear hK K
             try simp only [Act.put]
             refine wpAnyH_ready (rs:=[17]) (by kernel_rfl) (by simp) ?_;refine AllReadyH.cons rfl (fun K hK=>?_) ?_
             ·skip
              refine step_append_lies _ (by rfl) (.tmp 43) (.tmp 58) 25 (by rfl) W2.heap.size 67 m0 (.agg #[.string ⟨#[]⟩,.int .i64 0,.slice none 0 0,.slice none 0 0]) 4 72 Tryz.underlying25 hm mz0 mz1 mz2 (by rfl) (by decide) (.slice ea en ec) en ((ts.map (·.1)).flatMap jbm) (by rfl) (by exact OW.out _) ⟨w3.heap.size,0,none⟩ 1 1 (jbm ⟨A.name,A.ty,d,t⟩) (by rfl) (by rfl) (by exact World.news_of_block (heap_alloc_new w3 _)) (jgs _) (by omega) (by simp only [maxLen];omega) (by omega) (by simp;omega) (w3.heap.size+1) (by simp) ?_;intro gg cap w8 hown8 hgrow hat hlt8;have B8:Hid (∀ x,x<W2.heap.size→w8.heap[x]?=wr.heap[x]?):=(fun x hx=>(hgrow.block x (by simp;omega) (NR.out x hx)).trans (((jab w3 _).block x (by omega) (by simp)).trans (B3.out x (by omega))))
              obtain ⟨a0,a1,a2,a3⟩:=CX.out w8 (B8.out b (by omega));have r4:=CR.out w8 (B8.out _ (by omega));have BX8:=jac ((B8.out B (by omega)).trans TI.out.box);obtain ⟨-,-,-,-,c4⟩:=jaY (g:=⟨nam,⟨va,cs.length,vc⟩,ui,uo,⟨ea,en,ec⟩⟩) BX8.out;simp only at c4;obtain ⟨f0,f1,f2,f3,f4⟩:=jbG BX8.out;refine hK.out _ _ (by first | assumption | go_keep) (fun hHeld=>?_);clear hK K
              try simp only [Act.put]
              refine tkA 18 ?_
              try simp only [Act.put]
              refine wpAnyH_ready (rs:=[19]) (by kernel_rfl) (by simp) ?_;refine AllReadyH.cons rfl (fun K hK=>?_) ?_
              ·skip
               go_simp;refine hK.out _ _ (by first | assumption | go_keep) (fun hHeld=>?_);clear hK K
               try simp only [Act.put]
               refine wpAnyH_done (by kernel_rfl) ?_ _;obtain ⟨q1,q2,q3⟩:=jit (j:=4) (.slice (some ⟨gg,0,none⟩) (en+1) cap) BX8.out;have ST:=jac (InitInv.step TI.out HA.out hB2.1 hsr g3 hd ht nd nt hown8 hgrow hat (by simpa using q1) q2 q3);clear hown8 hgrow hat hlt8 q1 q2 q3;go_wp2_with fail;obtain ⟨v',ts',hst⟩:=ST.out;go_roundw
               case rel=>exact ⟨en+1,_,_,by omega,by go_num,hst⟩
               case measure=>simp [intOf];omega
              exact AllReadyH.nil
             exact AllReadyH.nil
            exact AllReadyH.nil
           exact AllReadyH.nil
          refine AllReadyH.cons rfl (fun K hK=>?_) ?_
          ·skip
           go_simp;refine CT.out.mono ?_;rintro e w3 ⟨d,t,rfl,hd,ht,nd,nt,hg3⟩;have g3:wr.grownBy w3 none:=jaa gd hg3;have s3:=g3.size;have B3:Hid (∀ x,x<wr.heap.size→w3.heap[x]?=wr.heap[x]?):=(fun x hx=>g3.block x hx (by simp))
           obtain ⟨a0,a1,a2,a3⟩:=CX.out w3 (B3.out b (by omega));have r4:=CR.out w3 (B3.out _ (by omega));have BX3:=jac ((B3.out B (by omega)).trans TI.out.box);obtain ⟨-,-,-,-,c4⟩:=jaY (g:=⟨nam,⟨va,cs.length,vc⟩,ui,uo,⟨ea,en,ec⟩⟩) BX3.out;simp only at c4;have y5:B≠w3.heap.size:=(by omega)
           have y5':=y5.symm;have OW:Hid (∀ o,(w3.alloc o).ownsRow W2.heap.size 67 4 (.slice ea en ec) en ((ts.map (·.1)).flatMap jbm)):=(fun o=>jdF ((TI.out.own.own.more g3).more (jab _ _)) TI.out.len)
           try dsimp only
           refine hK.out _ _ (by first | assumption | go_keep) (fun hHeld=>?_);clear hK K
           try simp only [Act.put]
           refine tkA 15 ?_
           try simp only [Act.put]
           refine wpAnyH_ready (rs:=[1,16]) (by kernel_rfl) (by simp) ?_;refine AllReadyH.cons rfl (fun K hK=>?_) ?_
           ·skip
            go_simp;refine hK.out _ _ (by first | assumption | go_keep) (fun hHeld=>?_);clear hK K
            try simp only [Act.put]
            refine wpAnyH_ready (rs:=[16]) (by kernel_rfl) (by simp) ?_;refine AllReadyH.cons rfl (fun K hK=>?_) ?_
            ·skip
             go_simp;refine hK.out _ _ (by first | assumption | go_keep) (fun hHeld=>?_);clear hK K
             try simp only [Act.put]
             refine wpAnyH_ready (rs:=[17]) (by kernel_rfl) (by simp) ?_;refine AllReadyH.cons rfl (fun K hK=>?_) ?_
             ·skip
              refine step_append_lies _ (by rfl) (.tmp 43) (.tmp 58) 25 (by rfl) W2.heap.size 67 m0 (.agg #[.string ⟨#[]⟩,.int .i64 0,.slice none 0 0,.slice none 0 0]) 4 72 Tryz.underlying25 hm mz0 mz1 mz2 (by rfl) (by decide) (.slice ea en ec) en ((ts.map (·.1)).flatMap jbm) (by rfl) (by exact OW.out _) ⟨w3.heap.size,0,none⟩ 1 1 (jbm ⟨A.name,A.ty,d,t⟩) (by rfl) (by rfl) (by exact World.news_of_block (heap_alloc_new w3 _)) (jgs _) (by omega) (by simp only [maxLen];omega) (by omega) (by simp;omega) (w3.heap.size+1) (by simp) ?_;intro gg cap w8 hown8 hgrow hat hlt8;have B8:Hid (∀ x,x<W2.heap.size→w8.heap[x]?=wr.heap[x]?):=(fun x hx=>(hgrow.block x (by simp;omega) (NR.out x hx)).trans (((jab w3 _).block x (by omega) (by simp)).trans (B3.out x (by omega))))
              obtain ⟨a0,a1,a2,a3⟩:=CX.out w8 (B8.out b (by omega));have r4:=CR.out w8 (B8.out _ (by omega));have BX8:=jac ((B8.out B (by omega)).trans TI.out.box);obtain ⟨-,-,-,-,c4⟩:=jaY (g:=⟨nam,⟨va,cs.length,vc⟩,ui,uo,⟨ea,en,ec⟩⟩) BX8.out;simp only at c4;obtain ⟨f0,f1,f2,f3,f4⟩:=jbG BX8.out;refine hK.out _ _ (by first | assumption | go_keep) (fun hHeld=>?_);clear hK K
              try simp only [Act.put]
              refine tkA 18 ?_
              try simp only [Act.put]
              refine wpAnyH_ready (rs:=[19]) (by kernel_rfl) (by simp) ?_;refine AllReadyH.cons rfl (fun K hK=>?_) ?_
              ·skip
               go_simp;refine hK.out _ _ (by first | assumption | go_keep) (fun hHeld=>?_);clear hK K
               try simp only [Act.put]
               refine wpAnyH_done (by kernel_rfl) ?_ _;obtain ⟨q1,q2,q3⟩:=jit (j:=4) (.slice (some ⟨gg,0,none⟩) (en+1) cap) BX8.out;have ST:=jac (InitInv.step TI.out HA.out hB2.1 hsr g3 hd ht nd nt hown8 hgrow hat (by simpa using q1) q2 q3);clear hown8 hgrow hat hlt8 q1 q2 q3;go_wp2_with fail;obtain ⟨v',ts',hst⟩:=ST.out;go_roundw
               case rel=>exact ⟨en+1,_,_,by omega,by go_num,hst⟩
               case measure=>simp [intOf];omega
              exact AllReadyH.nil
             exact AllReadyH.nil
            exact AllReadyH.nil
           refine AllReadyH.cons rfl (fun K hK=>?_) ?_
           ·skip
            go_simp;refine hK.out _ _ (by first | assumption | go_keep) (fun hHeld=>?_);clear hK K
            try simp only [Act.put]
            have c4:=jai c4 (jab w3 (.cells #[.string A.name,.int .i64 A.ty,d.v,t.v] 67));refine wpAnyH_ready (rs:=[1]) (by kernel_rfl) (by simp) ?_;refine AllReadyH.cons rfl (fun K hK=>?_) ?_
            ·skip
             go_simp;refine hK.out _ _ (by first | assumption | go_keep) (fun hHeld=>?_);clear hK K
             try simp only [Act.put]
             refine wpAnyH_ready (rs:=[17]) (by kernel_rfl) (by simp) ?_;refine AllReadyH.cons rfl (fun K hK=>?_) ?_
             ·skip
              refine step_append_lies _ (by rfl) (.tmp 43) (.tmp 58) 25 (by rfl) W2.heap.size 67 m0 (.agg #[.string ⟨#[]⟩,.int .i64 0,.slice none 0 0,.slice none 0 0]) 4 72 Tryz.underlying25 hm mz0 mz1 mz2 (by rfl) (by decide) (.slice ea en ec) en ((ts.map (·.1)).flatMap jbm) (by rfl) (by exact OW.out _) ⟨w3.heap.size,0,none⟩ 1 1 (jbm ⟨A.name,A.ty,d,t⟩) (by rfl) (by rfl) (by exact World.news_of_block (heap_alloc_new w3 _)) (jgs _) (by omega) (by simp only [maxLen];omega) (by omega) (by simp;omega) (w3.heap.size+1) (by simp) ?_;intro gg cap w8 hown8 hgrow hat hlt8;have B8:Hid (∀ x,x<W2.heap.size→w8.heap[x]?=wr.heap[x]?):=(fun x hx=>(hgrow.block x (by simp;omega) (NR.out x hx)).trans (((jab w3 _).block x (by omega) (by simp)).trans (B3.out x (by omega))))
              obtain ⟨a0,a1,a2,a3⟩:=CX.out w8 (B8.out b (by omega));have r4:=CR.out w8 (B8.out _ (by omega));have BX8:=jac ((B8.out B (by omega)).trans TI.out.box);obtain ⟨-,-,-,-,c4⟩:=jaY (g:=⟨nam,⟨va,cs.length,vc⟩,ui,uo,⟨ea,en,ec⟩⟩) BX8.out;simp only at c4;obtain ⟨f0,f1,f2,f3,f4⟩:=jbG BX8.out;refine hK.out _ _ (by first | assumption | go_keep) (fun hHeld=>?_);clear hK K
              try simp only [Act.put]
              refine tkA 18 ?_
              try simp only [Act.put]
              refine wpAnyH_ready (rs:=[19]) (by kernel_rfl) (by simp) ?_;refine AllReadyH.cons rfl (fun K hK=>?_) ?_
              ·skip
               go_simp;refine hK.out _ _ (by first | assumption | go_keep) (fun hHeld=>?_);clear hK K
               try simp only [Act.put]
               refine wpAnyH_done (by kernel_rfl) ?_ _;obtain ⟨q1,q2,q3⟩:=jit (j:=4) (.slice (some ⟨gg,0,none⟩) (en+1) cap) BX8.out;have ST:=jac (InitInv.step TI.out HA.out hB2.1 hsr g3 hd ht nd nt hown8 hgrow hat (by simpa using q1) q2 q3);clear hown8 hgrow hat hlt8 q1 q2 q3;go_wp2_with fail;obtain ⟨v',ts',hst⟩:=ST.out;go_roundw
               case rel=>exact ⟨en+1,_,_,by omega,by go_num,hst⟩
               case measure=>simp [intOf];omega
              exact AllReadyH.nil
             exact AllReadyH.nil
            exact AllReadyH.nil
           exact AllReadyH.nil
          exact AllReadyH.nil
         ·obtain rfl:en=its.length:=by omega
          have R1:=jac (BR.out wr (KO2.out wr TI.out.grown _ (by have:=S0.out;omega)));obtain ⟨f0,f1,f2,f3,f4⟩:=jbG R1.out;obtain ⟨k0,k1,k2,k3,k4⟩:=jc7 R1.out;obtain ⟨c0,c1,c2,c3,c4⟩:=jaY (g:=⟨nam,⟨va,cs.length,vc⟩,ui,uo,⟨ea,its.length,ec⟩⟩) TI.out.box;simp only at c0 c1 c2 c3 c4;go_wp2_with fail;obtain ⟨hX,gX⟩:=ji2 (.string nam) (.slice va cs.length vc) (.slice ui.a ui.n ui.c) (.slice uo.a uo.n uo.c) (.slice ea its.length ec) R1.out;refine bodyPost_ret (jfq rfl _ _ (w.heap.size+1) rfl hX) rfl ?_;have s0:=S0.out;have hcg:=HC.out;have hB:=BN.out;have hB2:=B2.out;have k1':=CI.out.key;have k2':=TI.out.key;rw [List.take_of_length_le (Nat.le_refl _)] at k1' k2';have gr1:=ja1 CI.out.grown TI.out.grown;have s1:=hcg.grown.size;have s2:=TI.out.grown.size;refine ⟨⟨nam,⟨va,cs.length,vc⟩,ui,uo,⟨ea,its.length,ec⟩⟩,ms,vi,vo,ts,i0,i1,o0,o1,wc.heap.size,W2.heap.size,W2.heap.size,wr.heap.size,rfl,⟨rfl,?_,?_,?_,?_,hcg.ki,hcg.ko,k1',k2',⟨hcg.apt,hcg.ins.le,hcg.outs.le,Nat.le_refl _,hB2.2⟩,?_,?_⟩⟩
          ·exact (hcg.ins.past jaL gr1 (fun g e=>by cases e;exact hcg.bi)).past jaL gX (fun g e=>by cases e;have:=hcg.li;omega)
          ·exact (hcg.outs.past jaL gr1 (fun g e=>by cases e;exact hcg.bo)).past jaL gX (fun g e=>by cases e;have:=hcg.lo;omega)
          ·exact (CI.out.own.past jcz TI.out.grown (fun g e=>by cases e;omega)).past jcz gX (fun g e=>by cases e;omega)
          ·exact TI.out.own.past jbB gX (fun g e=>by cases e;omega)
          ·have:=hcg.li;have:=hcg.lo;omega
          ·exact jah (jah (jaa g0 hcg.grown) gr1 (fun r e=>by cases e;omega)) gX (fun r e=>by cases e;omega)
end Go.Proofs.YtbgbpfbjeleooaaGreat
namespace Go.Proofs.YtbgbpfbjeleooaaGreat.Pd
open Go.RowKit
theorem jlA {xs:List Int} {k:Nat} (h:k<xs.length):xs.getD k 0=xs[k]:=by simp [List.getD,h]
theorem jgx {xs ys:List Int} {k:Nat} (h1:k<xs.length) (h2:k<ys.length):decide (xs.drop k=ys.drop k)=(decide (xs.getD k 0=ys.getD k 0)&&decide (xs.drop (k+1)=ys.drop (k+1))):=by
 rw [List.drop_eq_getElem_cons h1,List.drop_eq_getElem_cons h2,jlA h1,jlA h2]
 by_cases e:xs[k]=ys[k]
 ·rw [e,decide_eq_true (rfl:ys[k]=ys[k]),Bool.true_and,decide_eq_decide];exact ⟨fun h=>(List.cons.inj h).2,fun h=>by rw [h]⟩
 ·rw [decide_eq_false e,Bool.false_and];exact decide_eq_false fun h=>e (List.cons.inj h).1
theorem jiq (u v:Value) (xs ys:List Int) (w:World) (hu:jaj w u xs) (hv:jaj w v ys) :
    Calls Tryz.prog 62 #[u,v] w fun e w'=>e=.returned (.bool (decide (xs=ys)))∧w.grownBy w' none:=by
     have HU:=jac hu;have HV:=jac hv;obtain ⟨ua,uc,rfl,h1,h2,h3,-⟩:=hu;obtain ⟨va,vc,rfl,k1,k2,k3,-⟩:=hv;obtain ⟨R0,hR0⟩ : ∃ r,r=decide (xs=ys):=⟨_,rfl⟩
     rw [← hR0]
     by_cases hl:xs.length=ys.length
     ·have E:Hid (R0=decide (xs.drop 0=ys.drop 0)):=jac hR0;have HL:=jac hl;clear k1 k2 k3;rw [← hl] at HV ⊢;obtain ⟨N,hN⟩ : ∃ N,xs.length=N:=⟨_,rfl⟩
      have HN:=jac hN;rw [hN] at HU HV HL h1 h3 ⊢;have HM:Hid (ys.length=N):=jac HL.out.symm;clear hR0 hl hN HL;go_enter Tryz.func62,Tryz.ntmps62;go_wp2_with fail;go_loopg [5] N (fun gh iv wr=>∃ k:Nat,gh=N - k∧k≤N∧iv=.int .i64 k∧w.grownBy wr none∧R0=decide (xs.drop k=ys.drop k))
      case atStart=>exact ⟨0,rfl,Nat.zero_le _,rfl,jae _,E.out⟩
      case round =>
       clear E;obtain ⟨k,rfl,hk,rfl,hg,he⟩:=hrel;have G:=jac hg;have E:=jac he;clear hg he
       by_cases hlt:k<N
       ·have l1:k<xs.length:=by rw [HN.out];exact hlt
        have l2:k<ys.length:=by rw [HM.out];exact hlt
        obtain ⟨ub,uo,rfl,a0⟩:=jbD (HU.out.more G.out) l1;obtain ⟨vb,vo,rfl,b0⟩:=jbD (HV.out.more G.out) l2;have DS:=jgx l1 l2;obtain ⟨X,hX⟩ : ∃ X,X=xs.getD k 0:=⟨_,rfl⟩
        obtain ⟨Y,hY⟩ : ∃ Y,Y=ys.getD k 0:=⟨_,rfl⟩
        rw [← hX] at a0 DS;rw [← hY] at b0 DS;clear hX hY l1 l2
        by_cases e:X=Y
        ·subst e;have E2:Hid (R0=decide (xs.drop (k+1)=ys.drop (k+1))):=by show _=_;rw [E.out,DS];simp
         clear E DS;go_wp2_with (go_region)
         all_goals
          go_wp2_with fail;go_roundg (N - (k+1))
          case measure=>omega
          case rel=>exact ⟨k+1,rfl,by omega,by go_num,jaz G.out,E2.out⟩
        ·have E2:Hid (R0=false):=by show _=_;rw [E.out,DS,decide_eq_false e];rfl
         have d:(X==Y)=false:=by simpa using e
         clear E DS e;go_wp2_with (go_region)
         all_goals
          go_wp2_with fail;go_ret;exact ⟨congrArg (fun b=>Ending.returned (Value.bool b)) E2.out.symm,jaz G.out⟩
       ·obtain rfl:k=N:=by omega
        have E2:Hid (R0=true):=by show _=_;rw [E.out,List.drop_eq_nil_of_le (Nat.le_of_eq HN.out),List.drop_eq_nil_of_le (Nat.le_of_eq HM.out)];rfl
        clear E;go_wp2_with fail;go_ret;exact ⟨congrArg (fun b=>Ending.returned (Value.bool b)) E2.out.symm,G.out⟩
     ·have E:Hid (R0=false):=by show _=_;rw [hR0];exact decide_eq_false fun e=>hl (by rw [e])
      have d:((xs.length:Int) != (ys.length:Int))=true:=by simp;omega
      clear hR0 hl;go_enter Tryz.func62,Tryz.ntmps62;go_wp2_with fail;go_ret;exact ⟨congrArg (fun b=>Ending.returned (Value.bool b)) E.out.symm,jae _⟩
theorem ji3 (ty ty2:Int) (d t d' t':Value) (ds ts es us:List Int) (w:World) (hd:jaj w d ds) (ht:jaj w t ts) (hd':jaj w d' es) (ht':jaj w t' us) :
    Calls Tryz.prog 31 #[.agg #[.int .i64 ty,d,t],.agg #[.int .i64 ty2,d',t']] w fun e w'=>e=.returned (.bool (decide (ty=ty2)&&(decide (ds=es)&&decide (ts=us))))∧w.grownBy w' none:=by
     have HD:=jac hd;have HD':=jac hd';have HT:=jac ht;have HT':=jac ht';obtain ⟨da,dc,rfl,-⟩:=hd;obtain ⟨ea,ec,rfl,-⟩:=hd';obtain ⟨ua,uc,rfl,h1,h2,h3,-⟩:=ht;obtain ⟨va,vc,rfl,-⟩:=ht';obtain ⟨R0,hR0⟩ : ∃ r,r=(decide (ty=ty2)&&(decide (ds=es)&&decide (ts=us))):=⟨_,rfl⟩
     rw [← hR0];have HR:=jac hR0;clear hR0;obtain ⟨w0,hw0⟩ : ∃ w0,w0=(w.alloc (.cells #[.int .i64 ty,.slice da ds.length dc,.slice ua ts.length uc] 44)).alloc (.cells #[.int .i64 ty2,.slice ea es.length ec,.slice va us.length vc] 44):=⟨_,rfl⟩
     have g0:w.grownBy w0 none:=by rw [hw0];exact jaa (jab _ _) (jab _ _)
     have hbx:=jbl w (.cells #[.int .i64 ty,.slice da ds.length dc,.slice ua ts.length uc] 44) (.cells #[.int .i64 ty2,.slice ea es.length ec,.slice va us.length vc] 44);have hbx0:=hbx;rw [← hw0] at hbx;have B1:Hid (∀ wx,w0.grownBy wx none→wx.heap[w.heap.size]?=some (.cells #[.int .i64 ty,.slice da ds.length dc,.slice ua ts.length uc] 44 (0,0))):=fun wx hg=>jag hbx.1 hg;have B2:Hid (∀ wx,w0.grownBy wx none→wx.heap[w.heap.size+1]?=some (.cells #[.int .i64 ty2,.slice ea es.length ec,.slice va us.length vc] 44 (0,0))):=fun wx hg=>jag hbx.2 hg;obtain ⟨a0,a1,a2⟩:=ja3 hbx0.1;obtain ⟨b0,b1,b2⟩:=ja3 hbx0.2;have G0:=jac g0;clear hbx hbx0 g0
     by_cases hty:ty=ty2
     ·subst hty;go_enter Tryz.func31,Tryz.ntmps31;go_wp2_with fail;rw [← hw0];clear hw0 a0 a1 a2 b0 b1 b2;refine (jiq _ _ ds es w0 (HD.out.more G0.out) (HD'.out.more G0.out)).mono ?_;rintro e w1 ⟨rfl,hg1⟩;have G1:=jac hg1;clear hg1;obtain ⟨a0,a1,a2⟩:=ja3 (B1.out w1 G1.out);obtain ⟨b0,b1,b2⟩:=ja3 (B2.out w1 G1.out)
      by_cases hds:ds=es
      ·rw [decide_eq_true hds]
       by_cases hl:ts.length=us.length
       ·have E:Hid (R0=decide (ts.drop 0=us.drop 0)):=by show _=_;rw [HR.out,decide_eq_true hds];simp
        have HL:=jac hl;obtain ⟨N,hN⟩ : ∃ N,us.length=N:=⟨_,rfl⟩
        have HM:=jac hN;have HN:Hid (ts.length=N):=by show _=_;rw [hl,hN]
        rw [HN.out] at a2 B1 HT;rw [hN] at b2 B2 HT';rw [HN.out] at h1 h3;clear HR hds hl hN HL HD HD';go_wp2_with fail;clear a0 a1 a2 b0 b1 b2;go_loopg [5] N (fun gh iv wr=>∃ k:Nat,gh=N - k∧k≤N∧iv=.int .i64 k∧w0.grownBy wr none∧R0=decide (ts.drop k=us.drop k))
        case atStart=>exact ⟨0,rfl,Nat.zero_le _,rfl,G1.out,E.out⟩
        case round =>
         clear E G1;obtain ⟨k,rfl,hk,rfl,hg,he⟩:=hrel;have G:=jac hg;have E:=jac he;clear hg he;obtain ⟨a0,a1,a2⟩:=ja3 (B1.out wr G.out);obtain ⟨b0,b1,b2⟩:=ja3 (B2.out wr G.out)
         by_cases hlt:k<N
         ·have l1:k<ts.length:=by rw [HN.out];exact hlt
          have l2:k<us.length:=by rw [HM.out];exact hlt
          obtain ⟨ub,uo,rfl,x0⟩:=jbD (HT.out.more (jaa G0.out G.out)) l1;obtain ⟨vb,vo,rfl,y0⟩:=jbD (HT'.out.more (jaa G0.out G.out)) l2;have DS:=jgx l1 l2;obtain ⟨X,hX⟩ : ∃ X,X=ts.getD k 0:=⟨_,rfl⟩
          obtain ⟨Y,hY⟩ : ∃ Y,Y=us.getD k 0:=⟨_,rfl⟩
          rw [← hX] at x0 DS;rw [← hY] at y0 DS;clear hX hY l1 l2
          by_cases e:X=Y
          ·subst e;have E2:Hid (R0=decide (ts.drop (k+1)=us.drop (k+1))):=by show _=_;rw [E.out,DS];simp
           clear E DS;go_wp2_with (go_region)
           all_goals
            go_wp2_with fail;go_roundg (N - (k+1))
            case measure=>omega
            case rel=>exact ⟨k+1,rfl,by omega,by go_num,jaz G.out,E2.out⟩
          ·have E2:Hid (R0=false):=by show _=_;rw [E.out,DS,decide_eq_false e];rfl
           have d:(X==Y)=false:=by simpa using e
           clear E DS e;go_wp2_with (go_region)
           all_goals
            go_wp2_with fail;go_ret;exact ⟨congrArg (fun b=>Ending.returned (Value.bool b)) E2.out.symm,jaa G0.out (jaz G.out)⟩
         ·obtain rfl:k=N:=by omega
          have E2:Hid (R0=true):=by show _=_;rw [E.out,List.drop_eq_nil_of_le (Nat.le_of_eq HN.out),List.drop_eq_nil_of_le (Nat.le_of_eq HM.out)];rfl
          clear E;go_wp2_with fail;go_ret;exact ⟨congrArg (fun b=>Ending.returned (Value.bool b)) E2.out.symm,jaa G0.out G.out⟩
       ·have E2:Hid (R0=false):=by show _=_;rw [HR.out,decide_eq_false (fun e=>hl (by rw [e]):¬ ts=us)];simp
        have dl:((ts.length:Int) != (us.length:Int))=true:=by simp;omega
        clear HR hds hl;go_wp2_with fail;go_ret;exact ⟨congrArg (fun b=>Ending.returned (Value.bool b)) E2.out.symm,jaa G0.out G1.out⟩
      ·have E2:Hid (R0=false):=by show _=_;rw [HR.out,decide_eq_false hds];simp
       rw [decide_eq_false hds];clear HR hds;go_wp2_with fail;go_ret;exact ⟨congrArg (fun b=>Ending.returned (Value.bool b)) E2.out.symm,jaa G0.out G1.out⟩
     ·have E2:Hid (R0=false):=by show _=_;rw [HR.out,decide_eq_false hty];rfl
      have d:(ty==ty2)=false:=by simpa using hty
      have d2:(ty != ty2)=true:=by simpa using hty
      clear HR hty;rw [hw0] at G0;go_enter Tryz.func31,Tryz.ntmps31;go_wp2_with fail;go_ret;exact ⟨congrArg (fun b=>Ending.returned (Value.bool b)) E2.out.symm,G0.out⟩
end Go.Proofs.YtbgbpfbjeleooaaGreat.Pd
