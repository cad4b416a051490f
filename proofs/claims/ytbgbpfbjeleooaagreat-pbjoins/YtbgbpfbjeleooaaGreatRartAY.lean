/- A part. -/
import Derived.Test.YtbgbpfbjeleooaaGreatRartAX
import Derived.Defers
import Derived.Recover
import Derived.Test.YtbgbpfbjeleooaaGreatRartAR
set_option maxHeartbeats 6400000
set_option maxRecDepth 100000
namespace Go.Proofs.YtbgbpfbjeleooaaGreat.Pd
open Go.RowKit
open Wr (Fld)
def jdj (st:List ByteArray) (x:Fld):R (List ByteArray):=if x.num=7 then (jbZ x).bind fun t=>.ok (st++[t]) else .ok st
def jaP (s:ByteArray):R NGra:=(jaX s).bind fun l=>(jaF jdj [] l).bind fun t=>(jal (t.length==0) 4).bind fun _=>jaK (jbR t)
def GraQ (n:Nat) (G:NGra) (v:Value) (w':World):Prop:=∃ (g:Gra) (ns:List (Nod×Ni)) (is os:List (Val×List Int)) (ts:List (Nam×List Int×List Int)) (lo:Nat),v=jcM g∧G=⟨g.name,ns.map jc8,is.map jbp,os.map jbp,ts.map jc2⟩∧n≤lo∧Quad w' lo g.nv.v g.iv.v g.ov.v g.tv.v ns is os ts
theorem jhr (s:ByteArray) (w:World) (hs:s.size≤9223372036854775807) :
    Calls Tryz.prog 23 #[.string s] w (jbU w (jaP s) (GraQ w.heap.size)):=by
     obtain ⟨is0,hs0,hs1,hs2,hs3⟩:=info_parts jej;have O:=jac (fun wx=>jcI s wx hs);obtain ⟨w0,hw0⟩ : ∃ w0,w0=w.alloc (.cells #[.string ⟨#[]⟩,.slice none 0 0,.slice none 0 0,.slice none 0 0,.slice none 0 0] 27):=⟨_,rfl⟩
     have gw0:w.grownBy w0 none:=by rw [hw0];exact jab _ _
     have hbR:w0.heap[w.heap.size]?=some (.cells #[.string ⟨#[]⟩,.slice none 0 0,.slice none 0 0,.slice none 0 0,.slice none 0 0] 27 (0,0)):=by rw [hw0];exact heap_alloc_new w _
     have S0:w0.heap.size=w.heap.size+1:=by rw [hw0,jar]
     rcases jbd s with ⟨l,hl⟩ | ⟨c,hc,-⟩
     ·rw [hl] at O;have FL:=jac hl;have E0:Hid (jaP s=(jaF jdj [] l).bind fun t=>(jal (t.length==0) 4).bind fun _=>jaK (jbR t)):=by show _=_;unfold jaP;rw [hl];rfl
      clear hl;go_enter Tryz.func23,Tryz.ntmps23;go_wp2_with fail;rw [← hw0];refine (O.out w0).mono ?_;rintro e w1 ⟨hg1,v,rfl,B,rfl,hcur⟩;obtain ⟨lo,hlo⟩ : ∃ lo,lo=w0.heap.size:=⟨_,rfl⟩
      rw [← hlo] at hcur S0;have LB:lo≤B:=by obtain ⟨_,_,_,_,h⟩:=hcur;exact h
      obtain ⟨bR,hR⟩ : ∃ b,b=w.heap.size:=⟨_,rfl⟩
      rw [← hR] at hbR ⊢;have BR:Hid (bR<B):=by show bR<B;omega
      have HB:Hid (w.heap.size≤B):=by show w.heap.size≤B;omega
      have RI:Hid (bR=w.heap.size):=hR;have R1:w1.heap[bR]?=some (.cells #[.string ⟨#[]⟩,.slice none 0 0,.slice none 0 0,.slice none 0 0,.slice none 0 0] 27 (0,0)):=(hg1.block bR (by omega) (by simp)).trans hbR;have G1:=jaa gw0 hg1;clear hbR gw0 hg1 hw0 S0 hlo LB hR;go_wp2_with fail;go_loopg [3] l.length (fun gh sv wr=>∃ (x:Fld) (r:List Fld) (st:List ByteArray),gh=r.length∧wr.heap[bR]?=some (.cells #[.string ⟨#[]⟩,.slice none 0 0,.slice none 0 0,.slice none 0 0,.slice none 0 0] 27 (0,0))∧jdo wr lo B x r∧w.grownBy wr none∧jaF jdj [] l=jaF jdj st r∧jew wr (B+1) sv st∧st.length+r.length≤16777216∧tot st+tot (r.map (·.b))≤16777216)
      case atStart=>exact ⟨_,l,[],rfl,R1,hcur,G1,rfl,OwnsL.nil ..,by have:=jbq FL.out;simpa using this,by have:=jcD FL.out;simpa [tot] using this⟩
      case round =>
       obtain ⟨x,r,ss,rfl,hR,hc,hg,hf,hi0,hi1,hi2⟩:=hrel;have HR:=jac hR;have HF:=jac hf;have HC:=jac hc;have HG:=jac hg;have I0:=jac hi0;have I1:=jac hi1;have I2:=jac hi2;clear hf hc hg hcur hi0 hi1 hi2 hR R1 G1;obtain ⟨va,vc,rfl⟩:=OwnsL.form I0.out
       cases r with
       | nil =>
        have NX:=jac (jbX _ B x wr HC.out);have E1:Hid (jaP s=(jal (ss.length==0) 4).bind fun _=>jaK (jbR ss)):=by show _=_;rw [E0.out,HF.out];rfl
        by_cases h0:ss.length=0
        ·have b0:((ss.length:Int)==0)=true:=by simp [h0]
         have E2:Hid (jaP s=.error 4):=by show _=_;rw [E1.out];simp [h0,jal];rfl
         clear h0;go_wp2_with (first | (go_at_call 51;refine NX.out.mono ?_;rintro e w' ⟨rfl,rfl⟩) | (go_at_call 53;refine (jaD _ _).mono ?_;rintro e w' ⟨rfl,rfl⟩));exact ⟨rfl,jad E2.out HG.out⟩
        ·have b0:((ss.length:Int)==0)=false:=beq_eq_false_iff_ne.2 (by omega);have E2:Hid (jaP s=jaK (jbR ss)):=by show _=_;rw [E1.out];simp [h0,jal];rfl
         have TL:Hid (ss.length≤16777216∧tot ss≤16777216):=by
          have h1:=I1.out;have h2:=I2.out;exact ⟨by simpa using h1,by simp [tot] at h2 ⊢;omega⟩
         have JN:=jac (jeX (B+1) _ ss wr I0.out TL.out.1 TL.out.2);clear h0;go_wp2_with (first | (go_at_call 51;refine NX.out.mono ?_;rintro e w' ⟨rfl,rfl⟩) | (go_at_call 53;refine (jaM _ _).mono ?_;rintro e w' ⟨rfl,rfl⟩) | (go_at_call 55;refine JN.out.mono ?_;rintro e w3 ⟨rfl,hg3⟩) | fail);have SB:=jac (jhq (jbR ss) w3 (by rw [jds];have:=TL.out.2;omega));have G3:=jac (jaa HG.out hg3);have R3:=jac ((hg3.block bR (by have:=HC.out.lt;have:=BR.out;omega) (by simp)).trans HR.out);have S3:Hid (bR<w3.heap.size∧w.heap.size≤w3.heap.size):=by have:=HC.out.lt;have:=BR.out;have:=hg3.size;have:=HB.out;exact ⟨by omega,by omega⟩
         obtain ⟨jx,hjx⟩ : ∃ jx,jx=jbR ss:=⟨_,rfl⟩
         rw [← hjx] at SB E2 ⊢;clear hjx
         cases hd:jaK jx with
         | error c =>
          have E3:Hid (jaP s=.error c):=by show _=_;rw [E2.out,hd]
          rw [hd] at SB;clear hd;refine SB.out.mono ?_;rintro e w4 ⟨hg4,rfl⟩;exact ⟨rfl,jad E3.out (jaa G3.out hg4)⟩
         | ok res =>
          have E3:Hid (jaP s=.ok res):=by show _=_;rw [E2.out,hd]
          rw [hd] at SB;clear hd E2;refine SB.out.mono ?_;rintro e w4 ⟨hg4,v,rfl,⟨gn,⟨na,nn,nc⟩,⟨ia,iN,ic⟩,⟨oa,oN,oc⟩,⟨ta,tN,tc⟩⟩,ns,is,os,ts,lo2,rfl,hG,hlo2,hq⟩;unfold jcM;simp only [Sl.v] at hq ⊢;have R4:=jac ((hg4.block bR S3.out.1 (by simp)).trans R3.out);have X9:=jac (jh6 (cs:=#[.string gn,.slice na nn nc,.slice ia iN ic,.slice oa oN oc,.slice ta tN tc]) R4.out);have GX:=jac (jaf (row:=none) (jaa G3.out hg4) X9.out.2 (fun g e=>by cases e;exact .inr (by have:=RI.out;omega)));have TX:=jac (hq.box X9.out.2 (by have:=S3.out;omega));have HG9:=jac hG;have L9:Hid (w.heap.size≤lo2):=by have:=S3.out;show _≤_;omega
          clear hq hg4 hg3 SB hG hlo2 R3;go_wp2_with (refine wpList_store_row rfl 27 (.tmp 2) (.tmp 26) rfl bR #[.string gn,.slice na nn nc,.slice ia iN ic,.slice oa oN oc,.slice ta tN tc] rfl rfl 27 _ R4.out jdg rfl (by simp [Value.oneCell']) ?_);refine bodyPost_ret (jfq rfl _ _ bR rfl X9.out.1) rfl ?_;exact jaI E3.out GX.out ⟨⟨gn,⟨na,nn,nc⟩,⟨ia,iN,ic⟩,⟨oa,oN,oc⟩,⟨ta,tN,tc⟩⟩,ns,is,os,ts,lo2,rfl,HG9.out,L9.out,TX.out⟩
       | cons y r =>
        have NX:=jac (jbY _ B x y r wr HC.out);go_wp2_with fail;refine NX.out.mono ?_;rintro e w2 ⟨rfl,hc2,hg2⟩;have HC2:=jac hc2;have HG2:=jac (jah HG.out hg2 (fun g e=>by cases e;exact HB.out));obtain ⟨a0,a1,a2,a3⟩:=hc2.cells;have HGB:=jac hg2;have hlt:=HC.out.lt;have R2:=jac ((hg2.block bR (by have:=BR.out;omega) (fun e=>by have e2:=Option.some.inj e;have:=BR.out;omega)).trans HR.out);clear hc2 hg2 NX HC HG HR hlt
        by_cases h1:y.num=7
        ·have b1:(y.num==7)=true:=by simp [h1]
         have H1:=jac h1;clear h1;go_wp2_with fail;have TX:=jac (jaA B y w2 a1 a3);clear a0 a1 a2 a3
         rcases jaU y with ⟨sx,hx⟩ | hx
         ·rw [hx] at TX;have TB:=jac (jdY hx (Nat.le_refl _));have ES:=jac (HF.out.trans (jay (f:=jdj) (b:=ss++[sx]) (by unfold jdj;rw [if_pos H1.out];rw [hx];rfl)));clear hx;refine TX.out.mono ?_;rintro e w3 ⟨-,v,rfl,rfl,rfl⟩;have OW:Hid (∀ o,jew (w2.alloc o) (B+1) (.slice va ss.length vc) ss):=fun o=>(I0.out.kept HGB.out (fun g e=>by cases e;omega)).more (jab _ _);have sz:B+1≤w2.heap.size:=HC2.out.lt;have hle:ss.length+1≤16777216:=by have:=I1.out;simp at this;omega
          go_wp2_with (at_builtin;refine Wr.wpList_push rfl (.tmp 15) (.tmp 18) 32 9 1 16 (.string ⟨#[]⟩) is0 jbg rfl Tryz.underlying32 hs0 hs1 hs2 hs3 rfl (by decide) (B+1) _ _ rfl (by exact OW.out _) w2.heap.size 1 sx #[.string sx] rfl (by exact heap_alloc_new w2 _) rfl rfl (jb7 sx) (by omega) (by simp only [maxLen];omega) (by simp;omega) ?_;intro v' w8 hown' hgrow)
          have ST:Hid (w.grownBy w8 none∧jew w8 (B+1) v' (ss++[sx])∧jdo w8 lo B y r):=by
           have og:=World.ownsRow.lt (OW.out (.cells #[.string sx] 9));exact ⟨jah (jaa HG2.out (jab w2 (.cells #[.string sx] 9))) hgrow (fun g e=>by have:=og g e;have:=HB.out;omega),hown',(HC2.out.more (jab w2 _)).kept hgrow (fun g e=>by have:=og g e;omega)⟩
          have R8:=jac ((hgrow.block bR (by have:=(jab w2 (.cells #[.string sx] 9)).size;have:=BR.out;omega) (fun e=>by have:=(World.ownsRow.lt (OW.out (.cells #[.string sx] 9)) bR e.symm).1;have:=BR.out;omega)).trans (((jab w2 (.cells #[.string sx] 9)).block bR (by have:=BR.out;omega) (by simp)).trans R2.out));clear hown' hgrow OW;go_roundg r.length
          case measure=>simp
          case rel=>exact ⟨y,r,ss++[sx],rfl,R8.out,ST.out.2.2,ST.out.1,ES.out,ST.out.2.1,by have:=I1.out;simp at this ⊢;omega,by have t1:=I2.out;have t2:=TB.out;simp only [List.map_cons,jbk] at t1;show tot (ss++[sx])+_≤_;rw [jge,jfs];omega⟩
         ·rw [hx] at TX;have E:Hid (jaP s=.error 3):=by show _=_;rw [E0.out,HF.out,jaJ (f:=jdj) (c:=3) (by unfold jdj;rw [if_pos H1.out];rw [hx];rfl)];rfl
          clear hx;refine TX.out.mono ?_;rintro e w3 ⟨hg3,rfl⟩;exact ⟨rfl,jad E.out (jaa HG2.out hg3)⟩
        ·have b1:(y.num==7)=false:=by simpa using h1
         have H1:=jac h1;clear h1;have ES:=jac (HF.out.trans (jay (f:=jdj) (b:=ss) (by unfold jdj;rw [if_neg H1.out])));clear a1 a2 a3;have OW2:=jac (I0.out.kept (row:=some B) HGB.out (fun g e=>by cases e;omega));go_wp2_with fail;clear a0;go_roundg r.length
         case measure=>simp
         case rel=>exact ⟨y,r,ss,rfl,R2.out,HC2.out,HG2.out,ES.out,OW2.out,by have:=I1.out;simp at this ⊢;omega,by have t1:=I2.out;simp only [List.map_cons,jbk] at t1;show tot ss+_≤_;omega⟩
     ·rw [hc] at O;have E:Hid (jaP s=.error c):=by show _=_;unfold jaP;rw [hc];rfl
      clear hc;go_enter Tryz.func23,Tryz.ntmps23;go_wp2_with fail;rw [← hw0];refine (O.out w0).mono ?_;rintro e w1 ⟨hg1,rfl⟩;exact ⟨rfl,jad E.out (jaa gw0 hg1)⟩
end Go.Proofs.YtbgbpfbjeleooaaGreat.Pd
namespace Go.Proofs.YtbgbpfbjeleooaaGreat.Pd
open Go.RowKit
open Wr (Fld)
def DecQ (n:Nat) (w:World) (r:R NGra) (e:Ending) (w':World):Prop:=w.grownBy w' none∧match r with
 | .ok G=>∃ v,e=.returned (.tuple #[v,.int .i64 0])∧GraQ n G v w'
 | .error c=>e=.returned (.tuple #[.agg #[.string ⟨#[]⟩,.slice none 0 0,.slice none 0 0,.slice none 0 0,.slice none 0 0],.int .i64 c])
theorem je4 (c:Int) (w:World):(Instr.typeAssert (.iface 28 (.int .i64 c)) 20 28 false).run Tryz.prog w=.ok (.int .i64 c) w:=by kernel_rfl
theorem jiN (p:Addr) (w:World) :
    CallsD Tryz.prog 49 #[.pointer (some p)] .returning w fun e u' w'=>e=.returned (.tuple #[])∧u'=.returning∧w'=w:=by
     refine callsD_of_wpS Tryz.func49 rfl fun c₀ cs hu=>?_;apply wpS_seq;apply wpS_region;simp [wpOpsS,go_sem,recoverD,hu,Tryz.ntmps49,Exit.thenS];apply wpS_seq;apply wpS_region;simp [wpOpsS,go_sem,Exit.thenS];refine wpS_cond (t:=false) (by simp [Act.eval,Array.replicate]) ?_;simp only [Bool.false_eq_true,if_false];refine wpS_of_wp (wp_skip ?_)
     cases c₀
     simp_all [bodyPostS,results,Tryz.results49]
theorem jfI (p:Addr) (x c:Int) (older:List PanicEntry) (w:World) (hc:w.cell? p=some (.int .i64 x)) (hz:w.frozen? p=false) :
    CallsD Tryz.prog 49 #[.pointer (some p)] (.panicking ({ v:=.iface 28 (.int .i64 c),recovered:=false }::older)) w fun e u' w'=>e=.returned (.tuple #[])∧u'=.panicking ({ v:=.iface 28 (.int .i64 c),recovered:=true }::older)∧w'=w.setCell p (.int .i64 c):=by
     refine callsD_of_wpS Tryz.func49 rfl fun c₀ cs hu=>?_;apply wpS_seq;apply wpS_region;simp [wpOpsS,go_sem,recoverD,hu,Tryz.ntmps49,Exit.thenS];apply wpS_seq;apply wpS_region;simp [wpOpsS,go_sem,Exit.thenS];refine wpS_cond (t:=true) (by simp [Act.eval,Array.replicate]) ?_;simp only [if_true];apply wpS_region;have ha:=je4 c w;simp [wpOpsS,go_sem,hc,hz,ha,bodyPostS,results,Tryz.results49]
theorem jc4 {w:World} {B:Nat} {t:TypeId} {v:Value} (h:w.heap[B]?=some (.cells #[v] t (0,0))):w.cell? ⟨B,0,none⟩=some v:=cell_of_row _ _ 0 _ _ (0,0) h
theorem jh7 (n:Nat) (r:R NGra) (w:World) (ps:Nat) (hn:n≤w.heap.size) (HC:∀ wx,w.grownBy wx none→Calls Tryz.prog 22 #[.pointer (some ⟨ps,0,none⟩)] wx (jbU wx r (GraQ wx.heap.size))) :
    Calls Tryz.prog 21 #[.func (.func 22) #[] #[.pointer (some ⟨ps,0,none⟩)]] w (DecQ n w r):=by
     have hmf:∀ (fn:Fn) (first cap:Array Value) (w:World),(Instr.makeFunc fn first cap).run Tryz.prog w=.ok (.func fn first cap) w:=fun _ _ _ _=>rfl;have H:=jac HC;have HN:=jac hn;clear HC hn
     go_enter_defers Tryz.func21,Tryz.ntmps21
     obtain ⟨w0,hw0⟩ : ∃ w0,w0=(w.alloc (.cells #[.string ⟨#[]⟩,.slice none 0 0,.slice none 0 0,.slice none 0 0,.slice none 0 0] 27)).alloc (.cells #[.int .i64 0] 28):=⟨_,rfl⟩
     have g0:Hid (w.grownBy w0 none):=by show w.grownBy w0 none;rw [hw0];exact jaa (jab _ _) (jab _ _)
     have hb1:w0.heap[w.heap.size]?=some (.cells #[.string ⟨#[]⟩,.slice none 0 0,.slice none 0 0,.slice none 0 0,.slice none 0 0] 27 (0,0)):=by rw [hw0];exact jbT _ _ _ _ _
     have hb2:w0.heap[w.heap.size+1]?=some (.cells #[.int .i64 0] 28 (0,0)):=by rw [hw0];exact jcO _ _ _ _ _
     have S0:Hid (w0.heap.size=w.heap.size+2):=by show w0.heap.size=_;rw [hw0,jar,jar]
     have BX:Hid (∀ wx,w0.grownBy wx none→wx.heap[w.heap.size]?=some (.cells #[.string ⟨#[]⟩,.slice none 0 0,.slice none 0 0,.slice none 0 0,.slice none 0 0] 27 (0,0))∧wx.heap[w.heap.size+1]?=some (.cells #[.int .i64 0] 28 (0,0))):=fun wx hg=>⟨(hg.block _ (by have:=S0.out;omega) (by simp)).trans hb1,(hg.block _ (by have:=S0.out;omega) (by simp)).trans hb2⟩
     clear hb1 hb2;go_wp2_with fail;rw [← hw0];clear hw0;have H1:=jac (H.out w0 g0.out);clear H
     cases r with
     | error c =>
      refine H1.out.mono ?_;rintro e w1 ⟨hg,rfl⟩;obtain ⟨B1,B2⟩:=BX.out w1 hg;refine leaves_cons (f:=49) (args:=#[.pointer (some ⟨w.heap.size+1,0,none⟩)]) (by simp) (by simp [go_sem]) ?_;refine (jfI ⟨w.heap.size+1,0,none⟩ 0 c [] w1 (jc4 B2) (frozen_of_row w1 _ 0 _ _ B2)).mono ?_;rintro e u' w'' ⟨rfl,rfl,rfl⟩;have h2:=heap_setCell_same w1 (w.heap.size+1) 0 _ _ (.int .i64 c) B2;have gp:=jak w1 (w.heap.size+1) 0 (.int .i64 c);have h1:(w1.setCell ⟨w.heap.size+1,0,none⟩ (.int .i64 c)).heap[w.heap.size]?=some (.cells #[.string ⟨#[]⟩,.slice none 0 0,.slice none 0 0,.slice none 0 0,.slice none 0 0] 27 (0,0)):=(gp.block _ (by have:=hg.size;have:=S0.out;omega) (by simp)).trans B1;obtain ⟨⟨k0,k1,k2,k3,k4⟩,-⟩:=jam h1;have k5:=(cell_of_row _ _ 0 _ _ (0,0) h2).trans rfl;have gf:w.grownBy (w1.setCell ⟨w.heap.size+1,0,none⟩ (.int .i64 c)) none:=jaf (row:=none) (jaa g0.out hg) gp (fun g e=>by cases e;exact .inr (by omega));obtain ⟨wf,hwf⟩ : ∃ wf,wf=w1.setCell ⟨w.heap.size+1,0,none⟩ (.int .i64 c):=⟨_,rfl⟩
      rw [← hwf] at k0 k1 k2 k3 k4 k5 gf ⊢;clear hwf h1 h2 B1 B2 gp;simp [Leaves,settle,results,Tryz.results21,go_sem,k0,k1,k2,k3,k4,k5];exact ⟨gf,rfl⟩
     | ok GG =>
      refine H1.out.mono ?_;rintro e w1 ⟨hg,v,rfl,⟨⟨gn,⟨na,nn,nc⟩,⟨ia,iN,ic⟩,⟨oa,oN,oc⟩,⟨ta,tN,tc⟩⟩,ns,is,os,ts,lo2,rfl,hG,hlo2,hq⟩⟩;unfold jcM;simp only [Sl.v] at hq ⊢;obtain ⟨B1,B2⟩:=BX.out w1 hg;have X9:=jh6 (cs:=#[.string gn,.slice na nn nc,.slice ia iN ic,.slice oa oN oc,.slice ta tN tc]) B1;have B3:=(X9.2.block (w.heap.size+1) (Array.getElem?_eq_some_iff.1 B2).1 (by simp)).trans B2;have e0x:=jc4 B3;have e1x:=frozen_of_row _ (w.heap.size+1) 0 _ _ B3;have h2:=heap_setCell_same _ (w.heap.size+1) 0 _ _ (.int .i64 0) B3;have gp:=jak (w1.setRow w.heap.size #[.string gn,.slice na nn nc,.slice ia iN ic,.slice oa oN oc,.slice ta tN tc]) (w.heap.size+1) 0 (.int .i64 0);have h1:=(gp.block w.heap.size (Array.getElem?_eq_some_iff.1 X9.1).1 (by simp)).trans X9.1;have gf:=jaf (row:=none) (jaf (row:=none) (jaa g0.out hg) X9.2 (fun g e=>by cases e;exact .inr (Nat.le_refl _))) gp (fun g e=>by cases e;exact .inr (by omega));have TX:=jac ((hq.box X9.2 (by have:=S0.out;omega)).box gp (by have:=S0.out;omega));have GF:=jac gf;have H1x:=jac h1;have H2x:=jac h2;have HG9:=jac hG;have L9:Hid (n≤lo2):=by have:=S0.out;have:=HN.out;show n≤lo2;omega
      clear gp h1 h2 gf X9 hq hlo2 hG;go_wp2_with (refine wpList_store_row rfl 27 (.tmp 2) (.tmp 6) rfl w.heap.size #[.string gn,.slice na nn nc,.slice ia iN ic,.slice oa oN oc,.slice ta tN tc] rfl rfl 27 _ B1 jdg rfl (by simp [Value.oneCell']) ?_);refine leaves_cons (f:=49) (args:=#[.pointer (some ⟨w.heap.size+1,0,none⟩)]) (by simp) (by simp [go_sem]) ?_;refine (jiN ⟨w.heap.size+1,0,none⟩ _).mono ?_;rintro e u' w'' ⟨rfl,rfl,rfl⟩;obtain ⟨⟨k0,k1,k2,k3,k4⟩,-⟩:=jam H1x.out;have k5:=(cell_of_row _ _ 0 _ _ (0,0) H2x.out).trans rfl;obtain ⟨wf,hwf⟩ : ∃ wf,wf=(w1.setRow w.heap.size #[.string gn,.slice na nn nc,.slice ia iN ic,.slice oa oN oc,.slice ta tN tc]).setCell ⟨w.heap.size+1,0,none⟩ (.int .i64 0):=⟨_,rfl⟩
      have hO:=TX.out;have hG:=GF.out;rw [← hwf] at k0 k1 k2 k3 k4 k5 hO hG ⊢;clear hwf H1x H2x B1 B2 B3 TX GF e0x e1x;simp [Leaves,settle,results,Tryz.results21,go_sem,k0,k1,k2,k3,k4,k5];exact ⟨hG,_,rfl,⟨gn,⟨na,nn,nc⟩,⟨ia,iN,ic⟩,⟨oa,oN,oc⟩,⟨ta,tN,tc⟩⟩,ns,is,os,ts,lo2,rfl,HG9.out,L9.out,hO⟩
theorem jiO (s:ByteArray) (ps:Nat) (w:World) (hs:s.size≤9223372036854775807) (hp:w.cell? ⟨ps,0,none⟩=some (.string s)) :
    Calls Tryz.prog 22 #[.pointer (some ⟨ps,0,none⟩)] w (jbU w (jaP s) (GraQ w.heap.size)):=by
     have RM:=jac (fun wx=>jhr s wx hs);have hp2:(w.alloc (.cells #[.string ⟨#[]⟩,.slice none 0 0,.slice none 0 0,.slice none 0 0,.slice none 0 0] 27)).cell? ⟨ps,0,none⟩=some (.string s):=by rw [World.cell?_alloc_some _ _ _ (by rw [hp];rfl)];exact hp
     obtain ⟨w0,hw0⟩ : ∃ w0,w0=w.alloc (.cells #[.string ⟨#[]⟩,.slice none 0 0,.slice none 0 0,.slice none 0 0,.slice none 0 0] 27):=⟨_,rfl⟩
     have g0:w.grownBy w0 none:=by rw [hw0];exact jab _ _
     have hb:w0.heap[w.heap.size]?=some (.cells #[.string ⟨#[]⟩,.slice none 0 0,.slice none 0 0,.slice none 0 0,.slice none 0 0] 27 (0,0)):=by rw [hw0];exact heap_alloc_new w _
     have S0:Hid (w0.heap.size=w.heap.size+1):=by show w0.heap.size=_;rw [hw0,jar]
     have G0:=jac g0;have HB:=jac hb;clear g0 hb hp
     cases hr:jaP s with
     | error c =>
      rw [hr] at RM;clear hr;go_enter Tryz.func22,Tryz.ntmps22;go_wp2_with fail;rw [← hw0];refine (RM.out w0).mono ?_;rintro e w1 ⟨hg1,rfl⟩;exact ⟨rfl,jad rfl (jaa G0.out hg1)⟩
     | ok GG =>
      rw [hr] at RM;clear hr;go_enter Tryz.func22,Tryz.ntmps22;go_wp2_with fail;rw [← hw0];refine (RM.out w0).mono ?_;rintro e w1 ⟨hg1,v,rfl,⟨⟨gn,⟨na,nn,nc⟩,⟨ia,iN,ic⟩,⟨oa,oN,oc⟩,⟨ta,tN,tc⟩⟩,ns,is,os,ts,lo2,rfl,hG,hlo2,hq⟩⟩;unfold jcM;simp only [Sl.v] at hq ⊢;have B1:=jac ((hg1.block w.heap.size (by have:=S0.out;omega) (by simp)).trans HB.out);have X9:=jac (jh6 (cs:=#[.string gn,.slice na nn nc,.slice ia iN ic,.slice oa oN oc,.slice ta tN tc]) B1.out);have GX:=jac (jaf (row:=none) (jaa G0.out hg1) X9.out.2 (fun g e=>by cases e;exact .inr (Nat.le_refl _)));have TX:=jac (hq.box X9.out.2 (by have:=S0.out;omega));have HG9:=jac hG;have L9:Hid (w.heap.size≤lo2):=by have:=S0.out;show _≤_;omega
      clear hq hlo2 hG hg1 hw0 hp2;go_wp2_with (refine wpList_store_row rfl 27 (.tmp 1) (.tmp 3) rfl w.heap.size #[.string gn,.slice na nn nc,.slice ia iN ic,.slice oa oN oc,.slice ta tN tc] rfl rfl 27 _ B1.out jdg rfl (by simp [Value.oneCell']) ?_);refine bodyPost_ret (jfq rfl _ _ w.heap.size rfl X9.out.1) rfl ?_;exact jaI rfl GX.out ⟨⟨gn,⟨na,nn,nc⟩,⟨ia,iN,ic⟩,⟨oa,oN,oc⟩,⟨ta,tN,tc⟩⟩,ns,is,os,ts,lo2,rfl,HG9.out,L9.out,TX.out⟩
theorem jjt {fn : Func} {p u : Tmp} (h : fn.results = #[.cell p 27, .tmp u]) (tmps : Array Value) (w : World) (B : Nat) (hp : tmps.getD p undef = .pointer (some ⟨B, 0, none⟩)) {a0 a1 a2 a3 a4 : Value}
    (hb:w.heap[B]?=some (.cells #[a0,a1,a2,a3,a4] 27 (0,0))):(results fn tmps).run Tryz.prog w=.ok (.tuple #[.agg #[a0,a1,a2,a3,a4],tmps.getD u undef]) w:=by
     have hl:=run_loadVar_row (P:=Tryz.prog) w B _ 27 #[a0,a1,a2,a3,a4] (0,0) _ hb Tryz.underlying27 rfl (by rw [jdg];rfl);rw [results_cell_tmp h,hp];simp [asAddr,hl,Result.andThen]
theorem jdv (s:ByteArray) (w:World) (hs:s.size≤9223372036854775807) :
    Calls Tryz.prog 10 #[.string s] w (DecQ w.heap.size w (jaP s)):=by
     have hmf:∀ (fn:Fn) (first cap:Array Value) (w:World),(Instr.makeFunc fn first cap).run Tryz.prog w=.ok (.func fn first cap) w:=fun _ _ _ _=>rfl;obtain ⟨w0,hw0⟩ : ∃ w0,w0=(w.alloc (.cells #[.string s] 9)).alloc (.cells #[.string ⟨#[]⟩,.slice none 0 0,.slice none 0 0,.slice none 0 0,.slice none 0 0] 27):=⟨_,rfl⟩
     have g0:w.grownBy w0 none:=by rw [hw0];exact jaa (jab _ _) (jab _ _)
     have hb1:w0.heap[w.heap.size]?=some (.cells #[.string s] 9 (0,0)):=by rw [hw0];exact jbT _ _ _ _ _
     have hb2:w0.heap[w.heap.size+1]?=some (.cells #[.string ⟨#[]⟩,.slice none 0 0,.slice none 0 0,.slice none 0 0,.slice none 0 0] 27 (0,0)):=by rw [hw0];exact jcO _ _ _ _ _
     have S0:Hid (w0.heap.size=w.heap.size+2):=by show w0.heap.size=_;rw [hw0,jar,jar]
     have AT:=jac (jh7 (w.heap.size+2) (jaP s) w0 w.heap.size (Nat.le_of_eq S0.out.symm) (fun wx hg=>jiO s w.heap.size wx hs (jc4 ((hg.block _ (by have:=S0.out;omega) (by simp)).trans hb1))));have G0:=jac g0;have HB:=jac hb2;clear g0 hb1 hb2
     cases hr:jaP s with
     | error c =>
      rw [hr] at AT;clear hr;go_enter Tryz.func10,Tryz.ntmps10;go_wp2_with fail;rw [← hw0];refine AT.out.mono ?_;rintro e w1 ⟨hg1,rfl⟩;have B1:=jac ((hg1.block (w.heap.size+1) (by have:=S0.out;omega) (by simp)).trans HB.out);have X9:=jac (jh6 (cs:=#[.string ⟨#[]⟩,.slice none 0 0,.slice none 0 0,.slice none 0 0,.slice none 0 0]) B1.out);have GX:=jac (jaf (row:=none) (jaa G0.out hg1) X9.out.2 (fun g e=>by cases e;exact .inr (by omega)));clear hg1 hw0;go_wp2_with (refine wpList_store_row rfl 27 (.tmp 2) (.tmp 6) rfl (w.heap.size+1) #[.string ⟨#[]⟩,.slice none 0 0,.slice none 0 0,.slice none 0 0,.slice none 0 0] rfl rfl 27 _ B1.out jdg rfl (by simp [Value.oneCell']) ?_);refine bodyPost_ret (jjt rfl _ _ (w.heap.size+1) rfl X9.out.1) rfl ?_;exact ⟨GX.out,rfl⟩
     | ok GG =>
      rw [hr] at AT;clear hr;go_enter Tryz.func10,Tryz.ntmps10;go_wp2_with fail;rw [← hw0];refine AT.out.mono ?_;rintro e w1 ⟨hg1,v,rfl,⟨⟨gn,⟨na,nn,nc⟩,⟨ia,iN,ic⟩,⟨oa,oN,oc⟩,⟨ta,tN,tc⟩⟩,ns,is,os,ts,lo2,rfl,hG,hlo2,hq⟩⟩;unfold jcM;simp only [Sl.v] at hq ⊢;have B1:=jac ((hg1.block (w.heap.size+1) (by have:=S0.out;omega) (by simp)).trans HB.out);have X9:=jac (jh6 (cs:=#[.string gn,.slice na nn nc,.slice ia iN ic,.slice oa oN oc,.slice ta tN tc]) B1.out);have GX:=jac (jaf (row:=none) (jaa G0.out hg1) X9.out.2 (fun g e=>by cases e;exact .inr (by omega)));have TX:=jac (hq.box X9.out.2 (by omega));have HG9:=jac hG;have L9:Hid (w.heap.size≤lo2):=by show _≤_;omega
      clear hq hlo2 hG hg1 hw0;go_wp2_with (refine wpList_store_row rfl 27 (.tmp 2) (.tmp 6) rfl (w.heap.size+1) #[.string gn,.slice na nn nc,.slice ia iN ic,.slice oa oN oc,.slice ta tN tc] rfl rfl 27 _ B1.out jdg rfl (by simp [Value.oneCell']) ?_);refine bodyPost_ret (jjt rfl _ _ (w.heap.size+1) rfl X9.out.1) rfl ?_;exact ⟨GX.out,_,rfl,⟨gn,⟨na,nn,nc⟩,⟨ia,iN,ic⟩,⟨oa,oN,oc⟩,⟨ta,tN,tc⟩⟩,ns,is,os,ts,lo2,rfl,HG9.out,L9.out,TX.out⟩
end Go.Proofs.YtbgbpfbjeleooaaGreat.Pd
namespace Go.Proofs.YtbgbpfbjeleooaaGreat.Pd
open Go.RowKit
open Wr (Fld)
theorem jmi (n:Nat) (hn:n≤100000000):∃ M:Array Value,(∀ W:World,(Instr.makeSlice 42 (.int .i64 (n:Int)) (.int .i64 (n:Int))).run Tryz.prog W=.ok (.slice (some ⟨W.heap.size,0,none⟩) n n) (W.alloc (.cells M 2))) ∧
    ∀ (W:World) (base:Nat),base≤W.heap.size→O64 (W.alloc (.cells M 2)) base (.slice (some ⟨W.heap.size,0,none⟩) n n) (List.replicate n 0):=by
     obtain ⟨j0,hj,jz0,jz1,jz2⟩:=info_parts jhi;obtain ⟨M1,hM1⟩ : ∃ M,M=madeCells (Value.int .i64 0).cells (((n:Nat):Int).toNat*j0.size):=⟨_,rfl⟩
     have E1:M1.toList=List.replicate n (.int .i64 0):=by rw [hM1,jz1,Nat.mul_one,show (Value.int .i64 0).cells=#[Value.int .i64 0] from rfl,toList_madeCells_one];simp
     refine ⟨M1,fun W=>?_,fun W base hb=>?_⟩
     ·have h:=Go.run_make (P:=Tryz.prog) W 42 2 j0 (.int .i64 0) Tryz.underlying42 hj jz0 .i64 .i64 (n:Int) (n:Int) (by omega) (by omega) (by rw [jz2];omega) (by omega);rw [← hM1] at h;simpa using h
     ·unfold O64;rw [List.length_replicate,List.map_replicate];refine ⟨⟨by simp,Or.inr ⟨W.heap.size,n,M1,rfl,hb,heap_alloc_new W _,Nat.le_refl _,by simp only [maxLen];omega,?_,?_⟩⟩,by omega,fun z hz=>?_⟩
      ·rw [← Array.length_toList,E1,List.length_replicate,Nat.mul_one]
      ·rw [E1,List.take_of_length_le (by simp)]
      ·rw [(List.mem_replicate.1 hz).2]
       decide
theorem jj6 {w:World} {base g n c:Nat} {zs:List Int} (h:O64 w base (.slice (some ⟨g,0,none⟩) n c) zs) (hn:zs.length=n) {k:Nat} (hk:k<n) (z:Int) (hz : -9223372036854775808≤z∧z≤9223372036854775807) :
    w.cell? ⟨g,k,none⟩=some (.int .i64 (zs.getD k 0))∧w.frozen? ⟨g,k,none⟩=false∧O64 (w.setCell ⟨g,k,none⟩ (.int .i64 z)) base (.slice (some ⟨g,0,none⟩) n c) (zs.set k z)∧w.grownBy (w.setCell ⟨g,k,none⟩ (.int .i64 z)) (some g):=by
     subst hn;have hr:=h.1;obtain ⟨s1,s2⟩:=hr.stored k (.int .i64 z);refine ⟨?_,hr.frozenAt k,⟨?_,by rw [List.length_set];exact h.2.1,fun y hy=>?_⟩,s2⟩
     ·rw [hr.cellAt k (by omega)];simp [List.getD,hk]
     ·rw [List.length_set,List.map_set];exact s1
     ·rcases List.mem_or_eq_of_mem_set hy with hy | rfl
      ·exact h.2.2 y hy
      ·exact hz
theorem jh8 (v:Value) (l:List Int) (w:World) (hv:jaj w v l) (hl:l.length≤100000000) :
    Calls Tryz.prog 125 #[v] w fun e w'=>w.grownBy w' none∧∃ u:Sl,e=.returned u.v∧O64 w' w.heap.size u.v l:=by
     have HV:=jac hv;obtain ⟨ao,cap,rfl,c1,c2,c3,c4,c5,c6⟩:=hv;obtain ⟨M,mk0,mk1⟩:=jmi l.length hl;have GM:=jac (jab w (.cells M 2));have MK1:=jac (mk1 w w.heap.size (Nat.le_refl _));rw [← jgP] at MK1
     have C5:Hid (∀ wx,w.grownBy wx none→0<l.length→∃ b off,ao=some ⟨b,off,none⟩∧∀ t,t<l.length→wx.cell? ⟨b,off+t,none⟩=some (.int .i64 (l.getD t 0))):=fun wx hx hp=>by
      obtain ⟨ao',cap',e,-,-,-,-,h5,-⟩:=HV.out.more hx
      cases e
      exact h5 hp
     have C6:=jac c6;obtain ⟨n,hn⟩ : ∃ n,n=l.length:=⟨_,rfl⟩
     have HN:=jac hn;rw [← hn] at c1 c3 hl mk0 MK1 ⊢;clear mk1 c4 c5 c6 hn HV;go_enter Tryz.func125,Tryz.ntmps125;go_wp2;go_loopw [11] (fun iv wr=>∃ k:Nat,k≤n∧iv=.int .i64 k∧O64 wr w.heap.size (.slice (some ⟨w.heap.size,0,none⟩) n n) (jgh l k)∧w.grownBy wr none) (fun iv _=>n - (intOf iv).toNat)
     case atStart=>exact ⟨0,Nat.zero_le _,rfl,MK1.out,GM.out⟩
     case round =>
      obtain ⟨k,hk,rfl,hown,hg⟩:=hrel;rename_i wr;have HO:=jac hown;have HG:=jac hg
      by_cases hlt:k<n
      ·obtain ⟨b,off,rfl,hc⟩:=C5.out wr hg (by have:=HN.out;omega);have a0:wr.cell? ⟨b,off+k,none⟩=some (.int .i64 (l.getD k 0)):=hc k (by have:=HN.out;omega)
       have HK:Hid (l.getD k 0∈l):=by
        show l.getD k 0∈l;have:=HN.out;rw [List.getD,List.getElem?_eq_getElem (by omega)];exact List.getElem_mem _
       have RX:=jac (C6.out _ HK.out);have SET:=jac (jhZ l k (by have:=HN.out;omega));have LF:=jac (jhX l k (by have:=HN.out;omega));obtain ⟨x,hx⟩ : ∃ x,x=l.getD k 0:=⟨_,rfl⟩
       rw [← hx] at a0 RX SET;obtain ⟨q0,q1,q2,q3⟩:=jj6 hown (by rw [LF.out,HN.out]) hlt x RX.out;have Q2:=jac q2;have Q3:=jac q3;clear hown hg hc hx q2 q3;go_wp2;have GW:=jac (jaf (row:=none) HG.out Q3.out (fun g e=>by cases e;exact .inr (Nat.le_refl _)));go_roundw
       case rel=>exact ⟨k+1,by omega,by go_num,by rw [← SET.out];exact Q2.out,GW.out⟩
       case measure=>simp [intOf];omega
      ·obtain rfl:k=n:=by omega
       rw [HN.out,jhY,← HN.out] at HO;clear hown hg;go_wp2;go_ret;exact ⟨HG.out,⟨some ⟨w.heap.size,0,none⟩,k,k⟩,rfl,HO.out⟩
end Go.Proofs.YtbgbpfbjeleooaaGreat.Pd
