/- A part. -/
import Derived.Test.YtbgbpfbjeleooaaGreatMRart
import Derived.Test.YtbgbpfbjeleooaaGreatRartAU
set_option maxHeartbeats 12800000
set_option maxRecDepth 100000
namespace Go.Proofs.YtbgbpfbjeleooaaGreat.Pd
open Go.RowKit
open Wr (Fld)
theorem jnu (w:World) (q:ByteArray):∀ (j:Nat) (u:Value),(jbg q)[j]?=some u→(w.alloc (.cells #[.string q] 9)).cell? (Addr.add ⟨w.heap.size,0,none⟩ j)=some u:=by
 intro j u hu
 cases j with
 | zero=>cases hu;exact cell_of_row _ _ 0 _ _ (0,0) (heap_alloc_new w _)
 | succ j=>simp [jbg] at hu
theorem jho (w:World) (y:Atr):∀ (j:Nat) (u:Value),(jbw y)[j]?=some u→(w.alloc (.cells #[.string y.name,.int .i64 y.kind,.int .i64 y.f,.int .i64 y.i,.string y.s,.int .i64 y.ty,.slice y.dv.a y.dv.n y.dv.c,.slice y.tv.a y.tv.n y.tv.c,.slice y.iv.a y.iv.n y.iv.c] 78)).cell? (Addr.add ⟨w.heap.size,0,none⟩ j)=some u:=by
 intro j u hu;have k:=cell_of_row _ w.heap.size j _ _ (0,0) (heap_alloc_new w (.cells #[.string y.name,.int .i64 y.kind,.int .i64 y.f,.int .i64 y.i,.string y.s,.int .i64 y.ty,.slice y.dv.a y.dv.n y.dv.c,.slice y.tv.a y.tv.n y.tv.c,.slice y.iv.a y.iv.n y.iv.c] 78));have e:(#[.string y.name,.int .i64 y.kind,.int .i64 y.f,.int .i64 y.i,.string y.s,.int .i64 y.ty,.slice y.dv.a y.dv.n y.dv.c,.slice y.tv.a y.tv.n y.tv.c,.slice y.iv.a y.iv.n y.iv.c]:Array Value)[j]?=some u:=by rw [← Array.getElem?_toList];exact hu
 rw [e] at k
 by_cases hj:j=0
 ·subst hj;simpa [Addr.add] using k
 ·simpa [Addr.add,hj] using k
theorem jh6 {w:World} {B:Nat} {cs0 cs:Array Value} {t:TypeId} (hb:w.heap[B]?=some (.cells cs0 t (0,0))):(w.setRow B cs).heap[B]?=some (.cells cs t (0,0))∧w.grownBy (w.setRow B cs) (some B):=jk0 hb
theorem jjq:(Tryz.prog.info? 35).map (·.size)=some 5:=by kernel_rfl
theorem jk1 {d e:ByteArray} (h:d≠e):(d.toList==e.toList)=false:=by
 simp only [beq_eq_false_iff_ne,ne_eq];intro k;apply h;rw [ByteArray.toList_eq,ByteArray.toList_eq] at k
 cases d;cases e
 simp only at k;rw [Array.toList_inj.1 k]
theorem jnv {d:ByteArray} (h:d≠⟨#[]⟩):d.toList.isEmpty=false:=jem (by
 rcases Nat.eq_zero_or_pos d.size with h0 | h0
 ·exact absurd (by cases d;rename_i a;have:a=#[]:=Array.eq_empty_of_size_eq_zero h0;rw [this]) h
 ·exact h0)
theorem jk2:jj4.toList=[97,105,46,111,110,110,120]:=by rw [ByteArray.toList_eq];rfl
theorem jct (s:ByteArray) (w:World) (hs:s.size≤9223372036854775807) :
    Calls Tryz.prog 81 #[.string s] w (jbU w (jaC s) fun N v w'=>∃ (n:Nod) (q:Ni),v=jgJ n∧N=jdO n q∧jmQ w' n q∧∀ b,jdS n q b→w.heap.size≤b∧b<w'.heap.size):=by
     obtain ⟨is0,hs0,hs1,hs2,hs3⟩:=info_parts jej;obtain ⟨ia0,ha0,ha1,ha2,ha3⟩:=info_parts jmg;have O:=jac (fun wx=>jcI s wx hs);obtain ⟨w0,hw0⟩ : ∃ w0,w0=(w.alloc (.cells #[.string ⟨#[]⟩,.string ⟨#[]⟩,.slice none 0 0,.string ⟨#[]⟩,.slice none 0 0] 35)).alloc (.cells #[.string ⟨#[]⟩,.string ⟨#[]⟩,.slice none 0 0,.string ⟨#[]⟩,.slice none 0 0] 35):=⟨_,rfl⟩
     have g0:w.grownBy w0 none:=by rw [hw0];exact jaa (jab _ _) (jab _ _)
     have hbR:w0.heap[w.heap.size]?=some (.cells #[.string ⟨#[]⟩,.string ⟨#[]⟩,.slice none 0 0,.string ⟨#[]⟩,.slice none 0 0] 35 (0,0)):=by rw [hw0];exact jbT _ _ _ _ _
     have hbN:w0.heap[w.heap.size+1]?=some (.cells #[.string ⟨#[]⟩,.string ⟨#[]⟩,.slice none 0 0,.string ⟨#[]⟩,.slice none 0 0] 35 (0,0)):=by rw [hw0];exact jcO _ _ _ _ _
     have S0:w0.heap.size=w.heap.size+2:=by rw [hw0,jar,jar]
     rcases jbd s with ⟨l,hl⟩ | ⟨c,hc,-⟩
     ·rw [hl] at O;have FL:=jac hl;have E0:Hid (jaC s=(jaF jaO n0 l).bind jh4):=by show _=_;unfold jaC;rw [hl];rfl
      clear hl;go_enter Tryz.func81,Tryz.ntmps81;go_wp2_with fail;rw [← hw0];refine (O.out w0).mono ?_;rintro e w1 ⟨hg1,v,rfl,B,rfl,hcur⟩;obtain ⟨lo,hlo⟩ : ∃ lo,lo=w0.heap.size:=⟨_,rfl⟩
      rw [← hlo] at hcur S0;have LB:lo≤B:=by obtain ⟨_,_,_,_,h⟩:=hcur;exact h
      obtain ⟨bR,hR⟩ : ∃ b,b=w.heap.size:=⟨_,rfl⟩
      obtain ⟨bN,hN⟩ : ∃ b,b=w.heap.size+1:=⟨_,rfl⟩
      rw [← hR] at hbR;rw [← hN] at hbN ⊢;rw [← hR];have BT:Hid (bN<B∧bR<B):=⟨by omega,by omega⟩
      have BL:Hid (bN<lo∧w.heap.size≤bN∧lo≤B+1):=⟨by omega,by omega,by omega⟩
      have BN:Hid (bR≠bN):=by show bR≠bN;omega
      have HB:Hid (w.heap.size≤B):=by show w.heap.size≤B;omega
      have RI:Hid (bR=w.heap.size):=hR;have R1:w1.heap[bR]?=some (.cells #[.string ⟨#[]⟩,.string ⟨#[]⟩,.slice none 0 0,.string ⟨#[]⟩,.slice none 0 0] 35 (0,0)):=(hg1.block bR (by omega) (by simp)).trans hbR;have N1:w1.heap[bN]?=some (.cells #[.string ⟨#[]⟩,.string ⟨#[]⟩,.slice none 0 0,.string ⟨#[]⟩,.slice none 0 0] 35 (0,0)):=(hg1.block bN (by omega) (by simp)).trans hbN;have IN:NInv [] [] [] l:=⟨by have:=jbq FL.out;simpa using this,by have:=jbq FL.out;simpa using this,by have:=jbq FL.out;simpa using this,(fun p hp=>by cases hp),fun y hy=>jdX FL.out y hy⟩
      have G1:=jaa g0 hg1;clear hbR hbN g0 hg1 hw0 S0 hlo LB hR hN;go_wp2_with fail;go_loopg [4,5] l.length (fun gh sv dv wr=>∃ (x:Fld) (r:List Fld) (ins outs:List ByteArray) (nam op dom:ByteArray) (ps:List (Atr×Cont)) (iv av:Sl),gh=r.length∧dv=.string dom∧wr.heap[bR]?=some (.cells #[.string ⟨#[]⟩,.string ⟨#[]⟩,.slice none 0 0,.string ⟨#[]⟩,.slice none 0 0] 35 (0,0))∧wr.heap[bN]?=some (.cells #[.string op,.string nam,.slice iv.a iv.n iv.c,.string ⟨#[]⟩,.slice av.a av.n av.c] 35 (0,0))∧Tri wr (B+1) iv.v sv av.v ins outs ps∧jdo wr lo B x r∧w.grownBy wr none∧jaF jaO n0 l=jaF jaO ⟨ins,outs,nam,op,ps.map jgT,dom⟩ r∧NInv ins outs ps r)
      case atStart=>exact ⟨_,l,[],[],⟨#[]⟩,⟨#[]⟩,⟨#[]⟩,[],⟨none,0,0⟩,⟨none,0,0⟩,rfl,rfl,R1,N1,Tri.nil _ _,hcur,G1,rfl,IN⟩
      case round =>
       obtain ⟨x,r,ins,outs,nam,op,dom,ps,⟨ia,iln,ic⟩,⟨aa,aln,ac⟩,rfl,rfl,hR,hN,ht,hcu,hg,hf,hin⟩:=hrel;simp only [Sl.v] at hR hN ht;obtain ⟨ia',ic',e9⟩:=ht.oi.form;simp only [Value.slice.injEq] at e9;obtain ⟨rfl,rfl,rfl⟩:=e9;obtain ⟨aa',ac',e9⟩:=ht.oa.own.form;simp only [Value.slice.injEq,List.length_map] at e9;obtain ⟨rfl,rfl,rfl⟩:=e9;have HF:=jac hf;have HC:=jac hcu;have HG:=jac hg;have HI:Hid (ins.length+r.length≤16777216∧outs.length+r.length≤16777216∧ps.length+r.length≤16777216∧(∀ p∈ps,p.1.s.size≤100)∧∀ y∈r,y.b.size≤16777216):=hin;have H3:=jac ht;have HR:=jac hR;have HN:=jac hN;clear hf hcu hg hin ht hR hN hcur R1 N1 IN G1;obtain ⟨va,vc,rfl⟩:=OwnsL.form H3.out.os
       cases r with
       | nil =>
        have NX:=jac (jbX _ B x wr HC.out);have E1:Hid (jaC s=jh4 ⟨ins,outs,nam,op,ps.map jgT,dom⟩):=by show _=_;rw [E0.out,HF.out];rfl
        have S1:Hid (bN<wr.heap.size∧bR<wr.heap.size):=by have:=HC.out.lt;have:=BT.out;exact ⟨by omega,by omega⟩
        by_cases hd:dom≠⟨#[]⟩∧dom≠jj4
        ·have E2:Hid (jaC s=.error 5):=by show _=_;rw [E1.out];unfold jh4;simp only;rw [decide_eq_true hd];rfl
         have d1:dom.toList.isEmpty=false:=jnv hd.1;have d2:(dom.toList==[97,105,46,111,110,110,120])=false:=by rw [← jk2];exact jk1 hd.2
         clear hd;go_wp2_with (first | (go_at_call 51;refine NX.out.mono ?_;rintro e w' ⟨rfl,rfl⟩) | (go_at_call 53;refine (jaD _ _).mono ?_;rintro e w' ⟨rfl,rfl⟩));exact ⟨rfl,jad E2.out HG.out⟩
        ·have hd2 : dom = ⟨#[]⟩ ∨ dom = jj4 := by
           by_cases h1:dom=⟨#[]⟩
           ·exact .inl h1
           ·by_cases h2:dom=jj4
            ·exact .inr h2
            ·exact absurd ⟨h1,h2⟩ hd
         have E2:Hid (jaC s=(jal (decide (outs.length≠1)) 5).bind fun _=>(jal (jas ins||jas [outs.headD ⟨#[]⟩,nam,op]) 6).bind fun _=>(jal (decide (20<ins.length)||decide (20<ps.length)) 6).bind fun _=>.ok ⟨op,nam,ins,outs.headD ⟨#[]⟩,ps.map jgT⟩):=by show _=_;rw [E1.out];unfold jh4;simp only;rw [decide_eq_false hd,List.length_map];rfl
         clear hd E1
         rcases hd2 with rfl | rfl
         ·skip
          by_cases ho:outs.length=1
          ·obtain ⟨o1,rfl⟩ : ∃ o1,outs=[o1]:=List.length_eq_one_iff.1 ho;have E3:Hid (jaC s=(jal (jas ins||jas [o1,nam,op]) 6).bind fun _=>(jal (decide (20<ins.length)||decide (20<ps.length)) 6).bind fun _=>.ok ⟨op,nam,ins,o1,ps.map jgT⟩):=by show _=_;rw [E2.out];rfl
           have ISO:=H3.out.os.isL (bytes:=16) jcr (by simp);obtain ⟨vb,vo,rfl⟩:=ISO.addr (k:=0) (by simp);have v0:=ISO.at 0 (by simp) 0 (by omega);simp only [List.getElem_cons_zero,Nat.zero_mul,Nat.add_zero,jbg,List.getElem?_cons_zero,List.length_cons,List.length_nil,Nat.zero_add] at v0 ⊢;have HV:=jac ISO;have IS:=jac (show IsL 16 1 jbg wr (.slice ia ins.length ic) ins from H3.out.oi.isL (bytes:=16) jcr (by have:=HI.out.1;omega));obtain ⟨⟨n0,n1,n2,n3,n4⟩,nf0,nf1,nf2,nf3,nf4⟩:=jam HN.out;have K3:=jac (jak wr bN 3 (.string o1));have N3:=jac ((jfi HN.out (.string o1)).2.2.2.1);have T3:=jac (H3.out.box K3.out (by have:=BT.out;omega));have R3:=jac ((K3.out.block bR S1.out.2 (fun e=>BN.out (Option.some.inj e))).trans HR.out);have G3:=jac (jaf (row:=none) HG.out K3.out (fun g e=>by cases e;exact .inr BL.out.2.1));have S3:Hid (bN<(wr.setCell ⟨bN,3,none⟩ (.string o1)).heap.size∧bR<(wr.setCell ⟨bN,3,none⟩ (.string o1)).heap.size):=by have:=S1.out;have:=K3.out.size;exact ⟨by omega,by omega⟩
           clear ho ISO E2 HV IS;go_wp2_with (first | (go_at_call 51;refine NX.out.mono ?_;rintro e w' ⟨rfl,rfl⟩) | (go_at_call 53;refine (jaM _ _).mono ?_;rintro e w' ⟨rfl,rfl⟩) | fail);obtain ⟨w3,hw3⟩ : ∃ w3,w3=wr.setCell ⟨bN,3,none⟩ (.string o1):=⟨_,rfl⟩
           rw [← hw3] at N3 T3 R3 G3 S3 ⊢;clear hw3 v0 n0 n1 n2 n3 n4 nf0 nf1 nf2 nf3 nf4 K3 HR HN H3;have IS:=jac (show IsL 16 1 jbg w3 (.slice ia ins.length ic) ins from T3.out.oi.isL (bytes:=16) jcr (by have:=HI.out.1;omega));refine (jaN _ ins w3 IS.out).mono ?_;rintro e w' ⟨rfl,rfl⟩;obtain ⟨⟨n0,n1,n2,n3,n4⟩,-⟩:=jam N3.out
           cases hl1:jas ins with
           | true =>
            have E4:Hid (jaC s=.error 6):=by show _=_;rw [E3.out,hl1];rfl
            clear hl1;go_wp2_with (go_at_call 53;refine (jaD _ _).mono ?_;rintro e w' ⟨rfl,rfl⟩);exact ⟨rfl,jad E4.out G3.out⟩
           | false =>
            have g8:=jab w3 (.cells #[.string o1,.string nam,.string op] 9);have G8:=jac (jaa G3.out g8);have T8:=jac (T3.out.new g8);have R8:=jac ((g8.block bR S3.out.2 (by simp)).trans R3.out);have N8:=jac ((g8.block bN S3.out.1 (by simp)).trans N3.out);have S8:Hid (bN<(w3.alloc (.cells #[.string o1,.string nam,.string op] 9)).heap.size∧bR<(w3.alloc (.cells #[.string o1,.string nam,.string op] 9)).heap.size):=by have:=S3.out;have:=g8.size;exact ⟨by omega,by omega⟩
            have LG:=jac (jaN (.slice (some ⟨w3.heap.size,0,none⟩) 3 3) [o1,nam,op] (w3.alloc (.cells #[.string o1,.string nam,.string op] 9)) (jfv (heap_alloc_new w3 _)));clear g8;go_wp2_with fail;refine LG.out.mono ?_;obtain ⟨w8,hw8⟩ : ∃ w8,w8=w3.alloc (.cells #[.string o1,.string nam,.string op] 9):=⟨_,rfl⟩
            rw [← hw8] at G8 T8 R8 N8 S8 ⊢;clear hw8 LG n0 n1 n2 n3 n4;rintro e w9 ⟨rfl,rfl⟩;obtain ⟨⟨n0,n1,n2,n3,n4⟩,-⟩:=jam N8.out
            cases hl2:jas [o1,nam,op] with
            | true =>
             have E4:Hid (jaC s=.error 6):=by show _=_;rw [E3.out,hl1,hl2];rfl
             clear hl1 hl2;go_wp2_with (go_at_call 53;refine (jaD _ _).mono ?_;rintro e w' ⟨rfl,rfl⟩);exact ⟨rfl,jad E4.out G8.out⟩
            | false =>
             have E5:Hid (jaC s=(jal (decide (20<ins.length)||decide (20<ps.length)) 6).bind fun _=>.ok ⟨op,nam,ins,o1,ps.map jgT⟩):=by show _=_;rw [E3.out,hl1,hl2];rfl
             clear hl1 hl2 E3
             by_cases hi:20<ins.length
             ·have E4:Hid (jaC s=.error 6):=by show _=_;rw [E5.out,decide_eq_true hi];rfl
              have d1:decide ((20:Int)<(ins.length:Int))=true:=by simp;omega
              clear hi;go_wp2_with fail;refine (jaM _ _).mono ?_;rintro e w' ⟨rfl,rfl⟩;go_wp2_with (go_at_call 53;refine (jaD _ _).mono ?_;rintro e w' ⟨rfl,rfl⟩);exact ⟨rfl,jad E4.out G8.out⟩
             ·skip
              have d1:decide ((20:Int)<(ins.length:Int))=false:=by simp;omega
              have I20:Hid (ins.length≤20):=by show _≤_;omega
              by_cases hp:20<ps.length
              ·have E4:Hid (jaC s=.error 6):=by show _=_;rw [E5.out,decide_eq_false hi,decide_eq_true hp];rfl
               have d2:decide ((20:Int)<(ps.length:Int))=true:=by simp;omega
               clear hi hp;go_wp2_with fail;refine (jaM _ _).mono ?_;rintro e w' ⟨rfl,rfl⟩;go_wp2_with (go_at_call 53;refine (jaD _ _).mono ?_;rintro e w' ⟨rfl,rfl⟩);exact ⟨rfl,jad E4.out G8.out⟩
              ·skip
               have d2:decide ((20:Int)<(ps.length:Int))=false:=by simp;omega
               have P20:Hid (ps.length≤20):=by show _≤_;omega
               have E4:Hid (jaC s=.ok (jdO ⟨op,nam,⟨ia,ins.length,ic⟩,o1,⟨aa,ps.length,ac⟩⟩ ⟨ins,ps.map (·.1),ps.map (·.2)⟩)):=by show _=_;rw [E5.out,decide_eq_false hi,decide_eq_false hp];unfold jdO;simp only;rw [jhn];rfl
               clear hi hp E5;obtain ⟨⟨r0,r1,r2,r3,r4⟩,rf0,rf1,rf2,rf3,rf4⟩:=jam R8.out;have n34:bR≠bN:=BN.out;have n43:bN≠bR:=BN.out.symm;have X9:=jac (jh6 (cs:=#[.string op,.string nam,.slice ia ins.length ic,.string o1,.slice aa ps.length ac]) R8.out);have GX:=jac (jaf (row:=none) G8.out X9.out.2 (fun g e=>by cases e;exact .inr (by have:=RI.out;omega)));have TX:=jac (T8.out.box X9.out.2 (by have:=BT.out;omega));have FX:=jac (jgi (iv:=⟨ia,ins.length,ic⟩) (sv:=⟨some ⟨vb,vo,none⟩,1,vc⟩) (av:=⟨aa,ps.length,ac⟩) (op:=op) (nam:=nam) (out:=o1) TX.out I20.out P20.out HI.out.2.2.2.1);go_wp2_with (first | (go_at_call 53;refine (jaM _ _).mono ?_;rintro e w' ⟨rfl,rfl⟩) | (refine wpList_store_row rfl 35 (.tmp 2) (.tmp 96) rfl bR #[.string op,.string nam,.slice ia ins.length ic,.string o1,.slice aa ps.length ac] rfl rfl 35 _ R8.out jjq rfl (by simp [Value.oneCell']) ?_));refine bodyPost_ret (jiz rfl _ _ bR rfl X9.out.1) rfl ?_;exact jaI E4.out GX.out ⟨⟨op,nam,⟨ia,ins.length,ic⟩,o1,⟨aa,ps.length,ac⟩⟩,⟨ins,ps.map (·.1),ps.map (·.2)⟩,rfl,rfl,FX.out.1,fun b e=>⟨by have:=(FX.out.2 b e).1;have:=HB.out;omega,(FX.out.2 b e).2⟩⟩
          ·have E3:Hid (jaC s=.error 5):=by show _=_;rw [E2.out];rw [decide_eq_true ho];rfl
           have d5:((outs.length:Int) != 1)=true:=by simp;omega
           clear ho E2;go_wp2_with (first | (go_at_call 51;refine NX.out.mono ?_;rintro e w' ⟨rfl,rfl⟩) | fail);refine (jaM _ _).mono ?_;rintro e w' ⟨rfl,rfl⟩;go_wp2_with (go_at_call 53;refine (jaD _ _).mono ?_;rintro e w' ⟨rfl,rfl⟩);exact ⟨rfl,jad E3.out HG.out⟩
         ·unfold jj4
          by_cases ho:outs.length=1
          ·obtain ⟨o1,rfl⟩ : ∃ o1,outs=[o1]:=List.length_eq_one_iff.1 ho;have E3:Hid (jaC s=(jal (jas ins||jas [o1,nam,op]) 6).bind fun _=>(jal (decide (20<ins.length)||decide (20<ps.length)) 6).bind fun _=>.ok ⟨op,nam,ins,o1,ps.map jgT⟩):=by show _=_;rw [E2.out];rfl
           have ISO:=H3.out.os.isL (bytes:=16) jcr (by simp);obtain ⟨vb,vo,rfl⟩:=ISO.addr (k:=0) (by simp);have v0:=ISO.at 0 (by simp) 0 (by omega);simp only [List.getElem_cons_zero,Nat.zero_mul,Nat.add_zero,jbg,List.getElem?_cons_zero,List.length_cons,List.length_nil,Nat.zero_add] at v0 ⊢;have HV:=jac ISO;have IS:=jac (show IsL 16 1 jbg wr (.slice ia ins.length ic) ins from H3.out.oi.isL (bytes:=16) jcr (by have:=HI.out.1;omega));obtain ⟨⟨n0,n1,n2,n3,n4⟩,nf0,nf1,nf2,nf3,nf4⟩:=jam HN.out;have K3:=jac (jak wr bN 3 (.string o1));have N3:=jac ((jfi HN.out (.string o1)).2.2.2.1);have T3:=jac (H3.out.box K3.out (by have:=BT.out;omega));have R3:=jac ((K3.out.block bR S1.out.2 (fun e=>BN.out (Option.some.inj e))).trans HR.out);have G3:=jac (jaf (row:=none) HG.out K3.out (fun g e=>by cases e;exact .inr BL.out.2.1));have S3:Hid (bN<(wr.setCell ⟨bN,3,none⟩ (.string o1)).heap.size∧bR<(wr.setCell ⟨bN,3,none⟩ (.string o1)).heap.size):=by have:=S1.out;have:=K3.out.size;exact ⟨by omega,by omega⟩
           clear ho ISO E2 HV IS;go_wp2_with (first | (go_at_call 51;refine NX.out.mono ?_;rintro e w' ⟨rfl,rfl⟩) | (go_at_call 53;refine (jaM _ _).mono ?_;rintro e w' ⟨rfl,rfl⟩) | fail);obtain ⟨w3,hw3⟩ : ∃ w3,w3=wr.setCell ⟨bN,3,none⟩ (.string o1):=⟨_,rfl⟩
           rw [← hw3] at N3 T3 R3 G3 S3 ⊢;clear hw3 v0 n0 n1 n2 n3 n4 nf0 nf1 nf2 nf3 nf4 K3 HR HN H3;have IS:=jac (show IsL 16 1 jbg w3 (.slice ia ins.length ic) ins from T3.out.oi.isL (bytes:=16) jcr (by have:=HI.out.1;omega));refine (jaN _ ins w3 IS.out).mono ?_;rintro e w' ⟨rfl,rfl⟩;obtain ⟨⟨n0,n1,n2,n3,n4⟩,-⟩:=jam N3.out
           cases hl1:jas ins with
           | true =>
            have E4:Hid (jaC s=.error 6):=by show _=_;rw [E3.out,hl1];rfl
            clear hl1;go_wp2_with (go_at_call 53;refine (jaD _ _).mono ?_;rintro e w' ⟨rfl,rfl⟩);exact ⟨rfl,jad E4.out G3.out⟩
           | false =>
            have g8:=jab w3 (.cells #[.string o1,.string nam,.string op] 9);have G8:=jac (jaa G3.out g8);have T8:=jac (T3.out.new g8);have R8:=jac ((g8.block bR S3.out.2 (by simp)).trans R3.out);have N8:=jac ((g8.block bN S3.out.1 (by simp)).trans N3.out);have S8:Hid (bN<(w3.alloc (.cells #[.string o1,.string nam,.string op] 9)).heap.size∧bR<(w3.alloc (.cells #[.string o1,.string nam,.string op] 9)).heap.size):=by have:=S3.out;have:=g8.size;exact ⟨by omega,by omega⟩
            have LG:=jac (jaN (.slice (some ⟨w3.heap.size,0,none⟩) 3 3) [o1,nam,op] (w3.alloc (.cells #[.string o1,.string nam,.string op] 9)) (jfv (heap_alloc_new w3 _)));clear g8;go_wp2_with fail;refine LG.out.mono ?_;obtain ⟨w8,hw8⟩ : ∃ w8,w8=w3.alloc (.cells #[.string o1,.string nam,.string op] 9):=⟨_,rfl⟩
            rw [← hw8] at G8 T8 R8 N8 S8 ⊢;clear hw8 LG n0 n1 n2 n3 n4;rintro e w9 ⟨rfl,rfl⟩;obtain ⟨⟨n0,n1,n2,n3,n4⟩,-⟩:=jam N8.out
            cases hl2:jas [o1,nam,op] with
            | true =>
             have E4:Hid (jaC s=.error 6):=by show _=_;rw [E3.out,hl1,hl2];rfl
             clear hl1 hl2;go_wp2_with (go_at_call 53;refine (jaD _ _).mono ?_;rintro e w' ⟨rfl,rfl⟩);exact ⟨rfl,jad E4.out G8.out⟩
            | false =>
             have E5:Hid (jaC s=(jal (decide (20<ins.length)||decide (20<ps.length)) 6).bind fun _=>.ok ⟨op,nam,ins,o1,ps.map jgT⟩):=by show _=_;rw [E3.out,hl1,hl2];rfl
             clear hl1 hl2 E3
             by_cases hi:20<ins.length
             ·have E4:Hid (jaC s=.error 6):=by show _=_;rw [E5.out,decide_eq_true hi];rfl
              have d1:decide ((20:Int)<(ins.length:Int))=true:=by simp;omega
              clear hi;go_wp2_with fail;refine (jaM _ _).mono ?_;rintro e w' ⟨rfl,rfl⟩;go_wp2_with (go_at_call 53;refine (jaD _ _).mono ?_;rintro e w' ⟨rfl,rfl⟩);exact ⟨rfl,jad E4.out G8.out⟩
             ·skip
              have d1:decide ((20:Int)<(ins.length:Int))=false:=by simp;omega
              have I20:Hid (ins.length≤20):=by show _≤_;omega
              by_cases hp:20<ps.length
              ·have E4:Hid (jaC s=.error 6):=by show _=_;rw [E5.out,decide_eq_false hi,decide_eq_true hp];rfl
               have d2:decide ((20:Int)<(ps.length:Int))=true:=by simp;omega
               clear hi hp;go_wp2_with fail;refine (jaM _ _).mono ?_;rintro e w' ⟨rfl,rfl⟩;go_wp2_with (go_at_call 53;refine (jaD _ _).mono ?_;rintro e w' ⟨rfl,rfl⟩);exact ⟨rfl,jad E4.out G8.out⟩
              ·skip
               have d2:decide ((20:Int)<(ps.length:Int))=false:=by simp;omega
               have P20:Hid (ps.length≤20):=by show _≤_;omega
               have E4:Hid (jaC s=.ok (jdO ⟨op,nam,⟨ia,ins.length,ic⟩,o1,⟨aa,ps.length,ac⟩⟩ ⟨ins,ps.map (·.1),ps.map (·.2)⟩)):=by show _=_;rw [E5.out,decide_eq_false hi,decide_eq_false hp];unfold jdO;simp only;rw [jhn];rfl
               clear hi hp E5;obtain ⟨⟨r0,r1,r2,r3,r4⟩,rf0,rf1,rf2,rf3,rf4⟩:=jam R8.out;have n34:bR≠bN:=BN.out;have n43:bN≠bR:=BN.out.symm;have X9:=jac (jh6 (cs:=#[.string op,.string nam,.slice ia ins.length ic,.string o1,.slice aa ps.length ac]) R8.out);have GX:=jac (jaf (row:=none) G8.out X9.out.2 (fun g e=>by cases e;exact .inr (by have:=RI.out;omega)));have TX:=jac (T8.out.box X9.out.2 (by have:=BT.out;omega));have FX:=jac (jgi (iv:=⟨ia,ins.length,ic⟩) (sv:=⟨some ⟨vb,vo,none⟩,1,vc⟩) (av:=⟨aa,ps.length,ac⟩) (op:=op) (nam:=nam) (out:=o1) TX.out I20.out P20.out HI.out.2.2.2.1);go_wp2_with (first | (go_at_call 53;refine (jaM _ _).mono ?_;rintro e w' ⟨rfl,rfl⟩) | (refine wpList_store_row rfl 35 (.tmp 2) (.tmp 96) rfl bR #[.string op,.string nam,.slice ia ins.length ic,.string o1,.slice aa ps.length ac] rfl rfl 35 _ R8.out jjq rfl (by simp [Value.oneCell']) ?_));refine bodyPost_ret (jiz rfl _ _ bR rfl X9.out.1) rfl ?_;exact jaI E4.out GX.out ⟨⟨op,nam,⟨ia,ins.length,ic⟩,o1,⟨aa,ps.length,ac⟩⟩,⟨ins,ps.map (·.1),ps.map (·.2)⟩,rfl,rfl,FX.out.1,fun b e=>⟨by have:=(FX.out.2 b e).1;have:=HB.out;omega,(FX.out.2 b e).2⟩⟩
          ·have E3:Hid (jaC s=.error 5):=by show _=_;rw [E2.out];rw [decide_eq_true ho];rfl
           have d5:((outs.length:Int) != 1)=true:=by simp;omega
           clear ho E2;go_wp2_with (first | (go_at_call 51;refine NX.out.mono ?_;rintro e w' ⟨rfl,rfl⟩) | fail);refine (jaM _ _).mono ?_;rintro e w' ⟨rfl,rfl⟩;go_wp2_with (go_at_call 53;refine (jaD _ _).mono ?_;rintro e w' ⟨rfl,rfl⟩);exact ⟨rfl,jad E3.out HG.out⟩
       | cons y r =>
        have NX:=jac (jbY _ B x y r wr HC.out);have YB:=jac (HI.out.2.2.2.2 y (List.mem_cons_self ..));go_wp2_with fail;refine NX.out.mono ?_;rintro e w2 ⟨rfl,hc2,hg2⟩;have hlt:=HC.out.lt;have HC2:=jac hc2;have HG2:=jac (jah HG.out hg2 (fun g e=>by cases e;exact HB.out));have T2:=jac (H3.out.box hg2 (Nat.lt_succ_self B));have N2:=jac ((hg2.block bN (by have:=BT.out;omega) (fun e=>by have e2:=Option.some.inj e;have:=BT.out;omega)).trans HN.out);have R2:=jac ((hg2.block bR (by have:=BT.out;omega) (fun e=>by have e2:=Option.some.inj e;have:=BT.out;omega)).trans HR.out);obtain ⟨a0,a1,a2,a3⟩:=hc2.cells;clear hc2 hg2 NX HC HG HN HR hlt H3
        by_cases h1:y.num=1
        ·have b1:(y.num==1)=true:=by simp [h1]
         have H1:=jac h1;clear h1;go_wp2_with fail;obtain ⟨wd,hwd⟩ : ∃ wd,wd=w2.drew:=⟨_,rfl⟩
         have gd:w2.grownBy wd none:=by rw [hwd];exact ⟨rfl,rfl,rfl,Nat.le_refl _,fun _ _ _=>rfl⟩
         have HCd:=jac (HC2.out.more gd);have HGd:=jac (jaa HG2.out gd);have Td:=jac (T2.out.new gd);have Nd:=jac ((gd.block bN (by have:=HC2.out.lt;have:=BT.out;omega) (by simp)).trans N2.out);have Rd:=jac ((gd.block bR (by have:=HC2.out.lt;have:=BT.out;omega) (by simp)).trans R2.out);clear a0 a1 a2 a3 gd N2 R2 T2 HC2 HG2;obtain ⟨a0,a1,a2,a3⟩:=HCd.out.cells;have LD:Hid (∀ wx,wd.grownBy wx none→wx.cell? ⟨bN,2,none⟩=some (.slice ia ins.length ic)):=fun wx hg=>(jam ((hg.block bN (by have:=HCd.out.lt;have:=BT.out;show bN<_;omega) (by simp)).trans Nd.out)).1.2.2.1
         rcases jaU y with ⟨q,hx⟩ | hx
         ·have OW:Hid (∀ o,(wd.alloc o).ownsRow (B+1) 9 1 (.slice ia ins.length ic) ins.length (ins.flatMap jbg)):=fun o=>Td.out.oi.more (jab _ _);have sz:B+1≤wd.heap.size:=HCd.out.lt;have hle:ins.length+1≤16777216:=by have:=HI.out.1;simp at this;omega
          have WN:Hid (∀ (j:Nat) (u:Value),(jbg q)[j]?=some u→(wd.alloc (.cells #[.string q] 9)).cell? (Addr.add ⟨wd.heap.size,0,none⟩ j)=some u):=jnu wd q;have gn:=jab wd (.cells #[.string q] 9);have ES:=jac (HF.out.trans (jay (f:=jaO) (b:=⟨ins++[q],outs,nam,op,ps.map jgT,dom⟩) (by unfold jaO;rw [if_pos H1.out];rw [hx];rfl)));refine wp_region_held_drew (S:=fun _=>True) (by kernel_rfl) trivial (fun hHeld=>?_);rw [← hwd];clear hwd;refine tkA 0 ?_
          try simp only [Act.put]
          refine tkA 2 ?_
          try simp only [Act.put]
          refine wpAnyH_ready (rs:=[1,3]) (by kernel_rfl) (by simp) ?_;refine AllReadyH.cons rfl (fun K hK=>?_) ?_
          ·skip
           have n2:=LD.out wd (by exact jae _);go_simp;clear n2;refine hK.out _ _ (by trivial) (fun hHeld=>?_);clear hK K
           try simp only [Act.put]
           refine wpAnyH_ready (rs:=[3]) (by kernel_rfl) (by simp) ?_;refine AllReadyH.cons rfl (fun K hK=>?_) ?_
           ·skip
            go_simp;refine (jaA B y wd a1 a3).mono ?_;rw [hx];rintro e w' ⟨-,v,rfl,rfl,rfl⟩;refine hK.out _ _ (by trivial) (fun hHeld=>?_);clear hK K
            try simp only [Act.put]
            refine wpAnyH_ready (rs:=[4]) (by kernel_rfl) (by simp) ?_;refine AllReadyH.cons rfl (fun K hK=>?_) ?_
            ·skip
             go_simp;refine hK.out _ _ (by trivial) (fun hHeld=>?_);clear hK K
             try simp only [Act.put]
             refine wpAnyH_ready (rs:=[5]) (by kernel_rfl) (by simp) ?_;refine AllReadyH.cons rfl (fun K hK=>?_) ?_
             ·skip
              refine step_append_lies _ (by rfl) (.tmp 19) (.tmp 22) 32 (by rfl) (B+1) 9 is0 (.string ⟨#[]⟩) 1 16 Tryz.underlying32 hs0 hs1 hs2 hs3 (by rfl) (by decide) (.slice ia ins.length ic) ins.length (ins.flatMap jbg) (by rfl) (by exact OW.out _) ⟨wd.heap.size,0,none⟩ 1 1 (jbg q) (by rfl) (by rfl) (by exact WN.out) (jb7 q) (by decide) (by simp only [maxLen];omega) (by omega) (by simp;omega) wd.heap.size.succ (by simp) ?_;intro g cap w8 hown' hgrow hat hlt;have K8:=jac (jbb (fun g e=>(World.ownsRow.lt Td.out.oi g e).1) hgrow (HCd.out.more gn) (jaa HGd.out gn) HB.out);have N8:=jac ((K8.out.1 bN (by have:=BT.out;omega)).trans ((gn.block bN (by have:=BT.out;omega) (by simp)).trans Nd.out));have hown2:jew w8 (B+1) (.slice (some ⟨g,0,none⟩) (ins.length+1) cap) (ins++[q]):=by unfold jew OwnsL;rw [List.length_append,List.flatMap_append];simpa using hown'
              have T8:=jac (Td.out.seti gn hgrow hown2 (jbv (hat.imp_right (fun e=>by rw [e];exact Nat.le_succ _))));obtain ⟨⟨p0,p1,p2,p3,p4⟩,qf0,qf1,qf2,qf3,qf4⟩:=jam N8.out;refine hK.out _ _ (by trivial) (fun hHeld=>?_);clear hK K
              try simp only [Act.put]
              refine tkA 6 ?_
              try simp only [Act.put]
              refine wpAnyH_ready (rs:=[7]) (by kernel_rfl) (by simp) ?_;refine AllReadyH.cons rfl (fun K hK=>?_) ?_
              ·skip
               go_simp;refine hK.out _ _ (by trivial) (fun hHeld=>?_);clear hK K
               try simp only [Act.put]
               refine wpAnyH_done (by kernel_rfl) ?_ _;have R8:=jac ((K8.out.1 bR (by have:=BT.out;omega)).trans ((gn.block bR (by have:=BT.out;omega) (by simp)).trans Rd.out));have K9:=jac (jcx (j:=2) (.slice (some ⟨g,0,none⟩) (ins.length+1) cap) K8.out.2.1 K8.out.2.2 T8.out BL.out.1 BL.out.2.1 BL.out.2.2);have N9:=jac ((jfi N8.out (.slice (some ⟨g,0,none⟩) (ins.length+1) cap)).2.2.1);have R9:=jac ((K9.out.1 bR BN.out (by have:=K8.out.2.1.lt;have:=BT.out;omega)).trans R8.out);clear hown' hown2 hgrow hat hlt p0 p1 p2 p3 p4 qf0 qf1 qf2 qf3 qf4 gn a0 a1 a2 a3;go_wp2_with fail;go_roundg r.length
               case measure=>simp
               case rel=>exact ⟨y,r,ins++[q],outs,nam,op,dom,ps,⟨some ⟨g,0,none⟩,ins.length+1,cap⟩,⟨aa,ps.length,ac⟩,rfl,rfl,R9.out,N9.out,K9.out.2.2.2,K9.out.2.1,K9.out.2.2.1,ES.out,⟨(by have:=HI.out.1;simp at this ⊢;omega),(by have:=HI.out.2.1;simp at this ⊢;omega),(by have:=HI.out.2.2.1;simp at this ⊢;omega),(HI.out.2.2.2.1),(fun z hz=>HI.out.2.2.2.2 z (List.mem_cons_of_mem _ hz))⟩⟩
              exact AllReadyH.nil
             exact AllReadyH.nil
            exact AllReadyH.nil
           exact AllReadyH.nil
          refine AllReadyH.cons rfl (fun K hK=>?_) ?_
          ·skip
           go_simp;refine (jaA B y wd a1 a3).mono ?_;rw [hx];rintro e w' ⟨-,v,rfl,rfl,rfl⟩;refine hK.out _ _ (by trivial) (fun hHeld=>?_);clear hK K
           try simp only [Act.put]
           refine wpAnyH_ready (rs:=[1,4]) (by kernel_rfl) (by simp) ?_;refine AllReadyH.cons rfl (fun K hK=>?_) ?_
           ·skip
            have n2:=LD.out wd (by exact jae _);go_simp;clear n2;refine hK.out _ _ (by trivial) (fun hHeld=>?_);clear hK K
            try simp only [Act.put]
            refine wpAnyH_ready (rs:=[4]) (by kernel_rfl) (by simp) ?_;refine AllReadyH.cons rfl (fun K hK=>?_) ?_
            ·skip
             go_simp;refine hK.out _ _ (by trivial) (fun hHeld=>?_);clear hK K
             try simp only [Act.put]
             refine wpAnyH_ready (rs:=[5]) (by kernel_rfl) (by simp) ?_;refine AllReadyH.cons rfl (fun K hK=>?_) ?_
             ·skip
              refine step_append_lies _ (by rfl) (.tmp 19) (.tmp 22) 32 (by rfl) (B+1) 9 is0 (.string ⟨#[]⟩) 1 16 Tryz.underlying32 hs0 hs1 hs2 hs3 (by rfl) (by decide) (.slice ia ins.length ic) ins.length (ins.flatMap jbg) (by rfl) (by exact OW.out _) ⟨wd.heap.size,0,none⟩ 1 1 (jbg q) (by rfl) (by rfl) (by exact WN.out) (jb7 q) (by decide) (by simp only [maxLen];omega) (by omega) (by simp;omega) wd.heap.size.succ (by simp) ?_;intro g cap w8 hown' hgrow hat hlt;have K8:=jac (jbb (fun g e=>(World.ownsRow.lt Td.out.oi g e).1) hgrow (HCd.out.more gn) (jaa HGd.out gn) HB.out);have N8:=jac ((K8.out.1 bN (by have:=BT.out;omega)).trans ((gn.block bN (by have:=BT.out;omega) (by simp)).trans Nd.out));have hown2:jew w8 (B+1) (.slice (some ⟨g,0,none⟩) (ins.length+1) cap) (ins++[q]):=by unfold jew OwnsL;rw [List.length_append,List.flatMap_append];simpa using hown'
              have T8:=jac (Td.out.seti gn hgrow hown2 (jbv (hat.imp_right (fun e=>by rw [e];exact Nat.le_succ _))));obtain ⟨⟨p0,p1,p2,p3,p4⟩,qf0,qf1,qf2,qf3,qf4⟩:=jam N8.out;refine hK.out _ _ (by trivial) (fun hHeld=>?_);clear hK K
              try simp only [Act.put]
              refine tkA 6 ?_
              try simp only [Act.put]
              refine wpAnyH_ready (rs:=[7]) (by kernel_rfl) (by simp) ?_;refine AllReadyH.cons rfl (fun K hK=>?_) ?_
              ·skip
               go_simp;refine hK.out _ _ (by trivial) (fun hHeld=>?_);clear hK K
               try simp only [Act.put]
               refine wpAnyH_done (by kernel_rfl) ?_ _;have R8:=jac ((K8.out.1 bR (by have:=BT.out;omega)).trans ((gn.block bR (by have:=BT.out;omega) (by simp)).trans Rd.out));have K9:=jac (jcx (j:=2) (.slice (some ⟨g,0,none⟩) (ins.length+1) cap) K8.out.2.1 K8.out.2.2 T8.out BL.out.1 BL.out.2.1 BL.out.2.2);have N9:=jac ((jfi N8.out (.slice (some ⟨g,0,none⟩) (ins.length+1) cap)).2.2.1);have R9:=jac ((K9.out.1 bR BN.out (by have:=K8.out.2.1.lt;have:=BT.out;omega)).trans R8.out);clear hown' hown2 hgrow hat hlt p0 p1 p2 p3 p4 qf0 qf1 qf2 qf3 qf4 gn a0 a1 a2 a3;go_wp2_with fail;go_roundg r.length
               case measure=>simp
               case rel=>exact ⟨y,r,ins++[q],outs,nam,op,dom,ps,⟨some ⟨g,0,none⟩,ins.length+1,cap⟩,⟨aa,ps.length,ac⟩,rfl,rfl,R9.out,N9.out,K9.out.2.2.2,K9.out.2.1,K9.out.2.2.1,ES.out,⟨(by have:=HI.out.1;simp at this ⊢;omega),(by have:=HI.out.2.1;simp at this ⊢;omega),(by have:=HI.out.2.2.1;simp at this ⊢;omega),(HI.out.2.2.2.1),(fun z hz=>HI.out.2.2.2.2 z (List.mem_cons_of_mem _ hz))⟩⟩
              exact AllReadyH.nil
             exact AllReadyH.nil
            exact AllReadyH.nil
           refine AllReadyH.cons rfl (fun K hK=>?_) ?_
           ·skip
            go_simp;refine hK.out _ _ (by trivial) (fun hHeld=>?_);clear hK K
            try simp only [Act.put]
            refine wpAnyH_ready (rs:=[1]) (by kernel_rfl) (by simp) ?_;refine AllReadyH.cons rfl (fun K hK=>?_) ?_
            ·skip
             have n2:=LD.out _ (by exact jab wd (.cells #[.string q] 9));go_simp;clear n2;refine hK.out _ _ (by trivial) (fun hHeld=>?_);clear hK K
             try simp only [Act.put]
             refine wpAnyH_ready (rs:=[5]) (by kernel_rfl) (by simp) ?_;refine AllReadyH.cons rfl (fun K hK=>?_) ?_
             ·skip
              refine step_append_lies _ (by rfl) (.tmp 19) (.tmp 22) 32 (by rfl) (B+1) 9 is0 (.string ⟨#[]⟩) 1 16 Tryz.underlying32 hs0 hs1 hs2 hs3 (by rfl) (by decide) (.slice ia ins.length ic) ins.length (ins.flatMap jbg) (by rfl) (by exact OW.out _) ⟨wd.heap.size,0,none⟩ 1 1 (jbg q) (by rfl) (by rfl) (by exact WN.out) (jb7 q) (by decide) (by simp only [maxLen];omega) (by omega) (by simp;omega) wd.heap.size.succ (by simp) ?_;intro g cap w8 hown' hgrow hat hlt;have K8:=jac (jbb (fun g e=>(World.ownsRow.lt Td.out.oi g e).1) hgrow (HCd.out.more gn) (jaa HGd.out gn) HB.out);have N8:=jac ((K8.out.1 bN (by have:=BT.out;omega)).trans ((gn.block bN (by have:=BT.out;omega) (by simp)).trans Nd.out));have hown2:jew w8 (B+1) (.slice (some ⟨g,0,none⟩) (ins.length+1) cap) (ins++[q]):=by unfold jew OwnsL;rw [List.length_append,List.flatMap_append];simpa using hown'
              have T8:=jac (Td.out.seti gn hgrow hown2 (jbv (hat.imp_right (fun e=>by rw [e];exact Nat.le_succ _))));obtain ⟨⟨p0,p1,p2,p3,p4⟩,qf0,qf1,qf2,qf3,qf4⟩:=jam N8.out;refine hK.out _ _ (by trivial) (fun hHeld=>?_);clear hK K
              try simp only [Act.put]
              refine tkA 6 ?_
              try simp only [Act.put]
              refine wpAnyH_ready (rs:=[7]) (by kernel_rfl) (by simp) ?_;refine AllReadyH.cons rfl (fun K hK=>?_) ?_
              ·skip
               go_simp;refine hK.out _ _ (by trivial) (fun hHeld=>?_);clear hK K
               try simp only [Act.put]
               refine wpAnyH_done (by kernel_rfl) ?_ _;have R8:=jac ((K8.out.1 bR (by have:=BT.out;omega)).trans ((gn.block bR (by have:=BT.out;omega) (by simp)).trans Rd.out));have K9:=jac (jcx (j:=2) (.slice (some ⟨g,0,none⟩) (ins.length+1) cap) K8.out.2.1 K8.out.2.2 T8.out BL.out.1 BL.out.2.1 BL.out.2.2);have N9:=jac ((jfi N8.out (.slice (some ⟨g,0,none⟩) (ins.length+1) cap)).2.2.1);have R9:=jac ((K9.out.1 bR BN.out (by have:=K8.out.2.1.lt;have:=BT.out;omega)).trans R8.out);clear hown' hown2 hgrow hat hlt p0 p1 p2 p3 p4 qf0 qf1 qf2 qf3 qf4 gn a0 a1 a2 a3;go_wp2_with fail;go_roundg r.length
               case measure=>simp
               case rel=>exact ⟨y,r,ins++[q],outs,nam,op,dom,ps,⟨some ⟨g,0,none⟩,ins.length+1,cap⟩,⟨aa,ps.length,ac⟩,rfl,rfl,R9.out,N9.out,K9.out.2.2.2,K9.out.2.1,K9.out.2.2.1,ES.out,⟨(by have:=HI.out.1;simp at this ⊢;omega),(by have:=HI.out.2.1;simp at this ⊢;omega),(by have:=HI.out.2.2.1;simp at this ⊢;omega),(HI.out.2.2.2.1),(fun z hz=>HI.out.2.2.2.2 z (List.mem_cons_of_mem _ hz))⟩⟩
              exact AllReadyH.nil
             exact AllReadyH.nil
            exact AllReadyH.nil
           exact AllReadyH.nil
          exact AllReadyH.nil
         ·skip
          have E:Hid (jaC s=.error 3):=by show _=_;rw [E0.out,HF.out,jaJ (f:=jaO) (c:=3) (by unfold jaO;rw [if_pos H1.out];rw [hx];rfl)];rfl
          refine wp_region_held_drew (S:=fun _=>True) (by kernel_rfl) trivial (fun hHeld=>?_);rw [← hwd];clear hwd;refine tkA 0 ?_
          try simp only [Act.put]
          refine tkA 2 ?_
          try simp only [Act.put]
          refine wpAnyH_ready (rs:=[1,3]) (by kernel_rfl) (by simp) ?_;refine AllReadyH.cons rfl (fun K hK=>?_) ?_
          ·skip
           have n2:=LD.out wd (by exact jae _);go_simp;clear n2;refine hK.out _ _ (by trivial) (fun hHeld=>?_);clear hK K
           try simp only [Act.put]
           refine wpAnyH_ready (rs:=[3]) (by kernel_rfl) (by simp) ?_;refine AllReadyH.cons rfl (fun K hK=>?_) ?_
           ·skip
            go_simp;refine (jaA B y wd a1 a3).mono ?_;rw [hx];rintro e w' ⟨hg,rfl⟩;exact ⟨rfl,jad E.out (jaa HGd.out hg)⟩
           exact AllReadyH.nil
          refine AllReadyH.cons rfl (fun K hK=>?_) ?_
          ·skip
           go_simp;refine (jaA B y wd a1 a3).mono ?_;rw [hx];rintro e w' ⟨hg,rfl⟩;exact ⟨rfl,jad E.out (jaa HGd.out hg)⟩
          exact AllReadyH.nil
        ·have b1:(y.num==1)=false:=by simpa using h1
         have H1:=jac h1;clear h1
         by_cases h2:y.num=2
         ·have b2:(y.num==2)=true:=by simp [h2]
          have H2:=jac h2;clear h2;go_wp2_with fail;have TX:=jac (jaA B y w2 a1 a3);clear a0 a1 a2 a3
          rcases jaU y with ⟨q,hx⟩ | hx
          ·rw [hx] at TX;have ES:=jac (HF.out.trans (jay (f:=jaO) (b:=⟨ins,outs++[q],nam,op,ps.map jgT,dom⟩) (by unfold jaO;rw [if_neg H1.out];rw [if_pos H2.out];rw [hx];rfl)));clear hx;refine TX.out.mono ?_;rintro e w3 ⟨hg3,v,rfl,rfl,rfl⟩;have OW:Hid (∀ o,jew (w2.alloc o) (B+1) (.slice va outs.length vc) outs):=fun o=>T2.out.os.more (jab _ _);have sz:B+1≤w2.heap.size:=HC2.out.lt;have hle:outs.length+1≤16777216:=by have:=HI.out.2.1;simp at this;omega
           go_wp2_with (at_builtin;refine jkW rfl (.tmp 27) (.tmp 30) 32 9 1 16 (.string ⟨#[]⟩) is0 jbg rfl Tryz.underlying32 hs0 hs1 hs2 hs3 rfl (by decide) (B+1) _ _ rfl (by exact OW.out _) w2.heap.size 1 q #[.string q] rfl (by exact heap_alloc_new w2 _) rfl rfl (jb7 q) (by omega) (by simp only [maxLen];omega) (by simp;omega) ?_;intro g cap w8 hown' hgrow hat);have gn:=jab w2 (.cells #[.string q] 9);have K8:=jac (jbb (fun g e=>(World.ownsRow.lt T2.out.os g e).1) hgrow (HC2.out.more gn) (jaa HG2.out gn) HB.out);have T8:=jac (T2.out.sets gn hgrow hown' (jbv (hat.imp_right (fun e=>by rw [e];exact gn.size))));have N8:=jac ((K8.out.1 bN (by have:=BT.out;omega)).trans ((gn.block bN (by have:=BT.out;omega) (by simp)).trans N2.out));have R8:=jac ((K8.out.1 bR (by have:=BT.out;omega)).trans ((gn.block bR (by have:=BT.out;omega) (by simp)).trans R2.out));clear hown' hgrow hat OW gn;go_roundg r.length
           case measure=>simp
           case rel=>exact ⟨y,r,ins,outs++[q],nam,op,dom,ps,⟨ia,ins.length,ic⟩,⟨aa,ps.length,ac⟩,rfl,rfl,R8.out,N8.out,T8.out,K8.out.2.1,K8.out.2.2,ES.out,⟨(by have:=HI.out.1;simp at this ⊢;omega),(by have:=HI.out.2.1;simp at this ⊢;omega),(by have:=HI.out.2.2.1;simp at this ⊢;omega),(HI.out.2.2.2.1),(fun z hz=>HI.out.2.2.2.2 z (List.mem_cons_of_mem _ hz))⟩⟩
          ·rw [hx] at TX;have E:Hid (jaC s=.error 3):=by show _=_;rw [E0.out,HF.out,jaJ (f:=jaO) (c:=3) (by unfold jaO;rw [if_neg H1.out];rw [if_pos H2.out];rw [hx];rfl)];rfl
           clear hx;refine TX.out.mono ?_;rintro e w3 ⟨hg3,rfl⟩;exact ⟨rfl,jad E.out (jaa HG2.out hg3)⟩
         ·have b2:(y.num==2)=false:=by simpa using h2
          have H2:=jac h2;clear h2
          by_cases h3:y.num=3
          ·have b3:(y.num==3)=true:=by simp [h3]
           have H3:=jac h3;clear h3;go_wp2_with fail;have TX:=jac (jaA B y w2 a1 a3);clear a0 a1 a2 a3
           rcases jaU y with ⟨q,hx⟩ | hx
           ·rw [hx] at TX;have ES:=jac (HF.out.trans (jay (f:=jaO) (b:=⟨ins,outs,q,op,ps.map jgT,dom⟩) (by unfold jaO;rw [if_neg H1.out];rw [if_neg H2.out];rw [if_pos H3.out];rw [hx];rfl)));clear hx;refine TX.out.mono ?_;rintro e w3 ⟨hg3,v,rfl,rfl,rfl⟩;obtain ⟨⟨q0,q1,q2,q3,q4⟩,qf0,qf1,qf2,qf3,qf4⟩:=jam N2.out;go_wp2_with fail;have K4:=jac (jcx (j:=1) (.string q) HC2.out HG2.out T2.out BL.out.1 BL.out.2.1 BL.out.2.2);have N4:=jac ((jfi N2.out (.string q)).2.1);have R4:=jac ((K4.out.1 bR BN.out (by have:=HC2.out.lt;have:=BT.out;omega)).trans R2.out);clear q0 q1 q2 q3 q4 qf0 qf1 qf2 qf3 qf4;go_roundg r.length
            case measure=>simp
            case rel=>exact ⟨y,r,ins,outs,q,op,dom,ps,⟨ia,ins.length,ic⟩,⟨aa,ps.length,ac⟩,rfl,rfl,R4.out,N4.out,K4.out.2.2.2,K4.out.2.1,K4.out.2.2.1,ES.out,⟨(by have:=HI.out.1;simp at this ⊢;omega),(by have:=HI.out.2.1;simp at this ⊢;omega),(by have:=HI.out.2.2.1;simp at this ⊢;omega),(HI.out.2.2.2.1),(fun z hz=>HI.out.2.2.2.2 z (List.mem_cons_of_mem _ hz))⟩⟩
           ·rw [hx] at TX;have E:Hid (jaC s=.error 3):=by show _=_;rw [E0.out,HF.out,jaJ (f:=jaO) (c:=3) (by unfold jaO;rw [if_neg H1.out];rw [if_neg H2.out];rw [if_pos H3.out];rw [hx];rfl)];rfl
            clear hx;refine TX.out.mono ?_;rintro e w3 ⟨hg3,rfl⟩;exact ⟨rfl,jad E.out (jaa HG2.out hg3)⟩
          ·have b3:(y.num==3)=false:=by simpa using h3
           have H3:=jac h3;clear h3
           by_cases h4:y.num=4
           ·have b4:(y.num==4)=true:=by simp [h4]
            have H4:=jac h4;clear h4;go_wp2_with fail;have TX:=jac (jaA B y w2 a1 a3);clear a0 a1 a2 a3
            rcases jaU y with ⟨q,hx⟩ | hx
            ·rw [hx] at TX;have ES:=jac (HF.out.trans (jay (f:=jaO) (b:=⟨ins,outs,nam,q,ps.map jgT,dom⟩) (by unfold jaO;rw [if_neg H1.out];rw [if_neg H2.out];rw [if_neg H3.out];rw [if_pos H4.out];rw [hx];rfl)));clear hx;refine TX.out.mono ?_;rintro e w3 ⟨hg3,v,rfl,rfl,rfl⟩;obtain ⟨⟨q0,q1,q2,q3,q4⟩,qf0,qf1,qf2,qf3,qf4⟩:=jam N2.out;go_wp2_with fail;have K4:=jac (jcx (j:=0) (.string q) HC2.out HG2.out T2.out BL.out.1 BL.out.2.1 BL.out.2.2);have N4:=jac ((jfi N2.out (.string q)).1);have R4:=jac ((K4.out.1 bR BN.out (by have:=HC2.out.lt;have:=BT.out;omega)).trans R2.out);clear q0 q1 q2 q3 q4 qf0 qf1 qf2 qf3 qf4;go_roundg r.length
             case measure=>simp
             case rel=>exact ⟨y,r,ins,outs,nam,q,dom,ps,⟨ia,ins.length,ic⟩,⟨aa,ps.length,ac⟩,rfl,rfl,R4.out,N4.out,K4.out.2.2.2,K4.out.2.1,K4.out.2.2.1,ES.out,⟨(by have:=HI.out.1;simp at this ⊢;omega),(by have:=HI.out.2.1;simp at this ⊢;omega),(by have:=HI.out.2.2.1;simp at this ⊢;omega),(HI.out.2.2.2.1),(fun z hz=>HI.out.2.2.2.2 z (List.mem_cons_of_mem _ hz))⟩⟩
            ·rw [hx] at TX;have E:Hid (jaC s=.error 3):=by show _=_;rw [E0.out,HF.out,jaJ (f:=jaO) (c:=3) (by unfold jaO;rw [if_neg H1.out];rw [if_neg H2.out];rw [if_neg H3.out];rw [if_pos H4.out];rw [hx];rfl)];rfl
             clear hx;refine TX.out.mono ?_;rintro e w3 ⟨hg3,rfl⟩;exact ⟨rfl,jad E.out (jaa HG2.out hg3)⟩
           ·have b4:(y.num==4)=false:=by simpa using h4
            have H4:=jac h4;clear h4
            by_cases h5:y.num=5
            ·have b5:(y.num==5)=true:=by simp [h5]
             have H5:=jac h5;clear h5;go_wp2_with fail;obtain ⟨wd,hwd⟩ : ∃ wd,wd=w2.drew:=⟨_,rfl⟩
             have gd:w2.grownBy wd none:=by rw [hwd];exact ⟨rfl,rfl,rfl,Nat.le_refl _,fun _ _ _=>rfl⟩
             have HCd:=jac (HC2.out.more gd);have HGd:=jac (jaa HG2.out gd);have Td:=jac (T2.out.new gd);have Nd:=jac ((gd.block bN (by have:=HC2.out.lt;have:=BT.out;omega) (by simp)).trans N2.out);have Rd:=jac ((gd.block bR (by have:=HC2.out.lt;have:=BT.out;omega) (by simp)).trans R2.out);clear a0 a1 a2 a3 gd N2 R2 T2 HC2 HG2;obtain ⟨a0,a1,a2,a3⟩:=HCd.out.cells;have LD:Hid (∀ wx,wd.grownBy wx none→wx.cell? ⟨bN,4,none⟩=some (.slice aa ps.length ac)):=fun wx hg=>(jam ((hg.block bN (by have:=HCd.out.lt;have:=BT.out;show bN<_;omega) (by simp)).trans Nd.out)).1.2.2.2.2
             rcases jaU y with ⟨q,hx⟩ | hx
             ·have QS:Hid (q.size≤9223372036854775807):=by have:=jdY hx YB.out;show q.size≤_;omega
              cases hA:jaw q with
              | error c =>
               have E:Hid (jaC s=.error c):=by show _=_;rw [E0.out,HF.out,jaJ (f:=jaO) (c:=c) (by unfold jaO;rw [if_neg H1.out];rw [if_neg H2.out];rw [if_neg H3.out];rw [if_neg H4.out];rw [if_pos H5.out];rw [hx];show (jaw q).bind _=_;rw [hA];rfl)];rfl
               refine wp_region_held_drew (S:=fun _=>True) (by kernel_rfl) trivial (fun hHeld=>?_);rw [← hwd];clear hwd;refine tkA 0 ?_
               try simp only [Act.put]
               refine tkA 2 ?_
               try simp only [Act.put]
               refine wpAnyH_ready (rs:=[1,3]) (by kernel_rfl) (by simp) ?_;refine AllReadyH.cons rfl (fun K hK=>?_) ?_
               ·skip
                have n4:=LD.out wd (by exact jae _);go_simp;clear n4;refine hK.out _ _ (by trivial) (fun hHeld=>?_);clear hK K
                try simp only [Act.put]
                refine wpAnyH_ready (rs:=[3]) (by kernel_rfl) (by simp) ?_;refine AllReadyH.cons rfl (fun K hK=>?_) ?_
                ·skip
                 go_simp;refine (jaA B y wd a1 a3).mono ?_;rw [hx];rintro e w' ⟨-,v,rfl,rfl,rfl⟩;refine hK.out _ _ (by trivial) (fun hHeld=>?_);clear hK K
                 try simp only [Act.put]
                 refine wpAnyH_ready (rs:=[4]) (by kernel_rfl) (by simp) ?_;refine AllReadyH.cons rfl (fun K hK=>?_) ?_
                 ·skip
                  go_simp;refine (jcs q wd QS.out).mono ?_;rw [hA];rintro e w' ⟨hg,rfl⟩;exact ⟨rfl,jad E.out (jaa HGd.out hg)⟩
                 exact AllReadyH.nil
                exact AllReadyH.nil
               refine AllReadyH.cons rfl (fun K hK=>?_) ?_
               ·skip
                go_simp;refine (jaA B y wd a1 a3).mono ?_;rw [hx];rintro e w' ⟨-,v,rfl,rfl,rfl⟩;refine hK.out _ _ (by trivial) (fun hHeld=>?_);clear hK K
                try simp only [Act.put]
                refine wpAnyH_ready (rs:=[1,4]) (by kernel_rfl) (by simp) ?_;refine AllReadyH.cons rfl (fun K hK=>?_) ?_
                ·skip
                 have n4:=LD.out wd (by exact jae _);go_simp;clear n4;refine hK.out _ _ (by trivial) (fun hHeld=>?_);clear hK K
                 try simp only [Act.put]
                 refine wpAnyH_ready (rs:=[4]) (by kernel_rfl) (by simp) ?_;refine AllReadyH.cons rfl (fun K hK=>?_) ?_
                 ·skip
                  go_simp;refine (jcs q wd QS.out).mono ?_;rw [hA];rintro e w' ⟨hg,rfl⟩;exact ⟨rfl,jad E.out (jaa HGd.out hg)⟩
                 exact AllReadyH.nil
                refine AllReadyH.cons rfl (fun K hK=>?_) ?_
                ·skip
                 go_simp;refine (jcs q wd QS.out).mono ?_;rw [hA];rintro e w' ⟨hg,rfl⟩;exact ⟨rfl,jad E.out (jaa HGd.out hg)⟩
                exact AllReadyH.nil
               exact AllReadyH.nil
              | ok A =>
               have sz:B+1≤wd.heap.size:=HCd.out.lt;have hle:ps.length+1≤16777216:=by have:=HI.out.2.2.1;simp at this;omega
               have hpl:(ps.map (·.1)).length=ps.length:=List.length_map ..;have SZ:=jac (jh5 hA);have ES:=jac (HF.out.trans (jay (f:=jaO) (b:=⟨ins,outs,nam,op,ps.map jgT++[A],dom⟩) (by unfold jaO;rw [if_neg H1.out];rw [if_neg H2.out];rw [if_neg H3.out];rw [if_neg H4.out];rw [if_pos H5.out];rw [hx];show (jaw q).bind _=_;rw [hA];rfl)));refine wp_region_held_drew (S:=fun _=>True) (by kernel_rfl) trivial (fun hHeld=>?_);rw [← hwd];clear hwd;refine tkA 0 ?_
               try simp only [Act.put]
               refine tkA 2 ?_
               try simp only [Act.put]
               refine wpAnyH_ready (rs:=[1,3]) (by kernel_rfl) (by simp) ?_;refine AllReadyH.cons rfl (fun K hK=>?_) ?_
               ·skip
                have n4:=LD.out wd (by exact jae _);go_simp;clear n4;refine hK.out _ _ (by trivial) (fun hHeld=>?_);clear hK K
                try simp only [Act.put]
                refine wpAnyH_ready (rs:=[3]) (by kernel_rfl) (by simp) ?_;refine AllReadyH.cons rfl (fun K hK=>?_) ?_
                ·skip
                 go_simp;refine (jaA B y wd a1 a3).mono ?_;rw [hx];rintro e w' ⟨-,v,rfl,rfl,rfl⟩;refine hK.out _ _ (by trivial) (fun hHeld=>?_);clear hK K
                 try simp only [Act.put]
                 refine wpAnyH_ready (rs:=[4]) (by kernel_rfl) (by simp) ?_;refine AllReadyH.cons rfl (fun K hK=>?_) ?_
                 ·skip
                  go_simp;refine (jcs q wd QS.out).mono ?_;rw [hA];rintro e w4 ⟨hg4,v,rfl,⟨yn,yk,yf,yi,ys,yt,⟨yd,ydn,ydc⟩,⟨yu,yun,yuc⟩,⟨yv,yvn,yvc⟩⟩,yc,rfl,rfl,hyh,hyf⟩;unfold jb8;simp only;refine hK.out _ _ (by trivial) (fun hHeld=>?_);clear hK K
                  try simp only [Act.put]
                  refine wpAnyH_ready (rs:=[5]) (by kernel_rfl) (by simp) ?_;refine AllReadyH.cons rfl (fun K hK=>?_) ?_
                  ·skip
                   go_simp;refine hK.out _ _ (by trivial) (fun hHeld=>?_);clear hK K
                   try simp only [Act.put]
                   refine wpAnyH_ready (rs:=[6]) (by kernel_rfl) (by simp) ?_;refine AllReadyH.cons rfl (fun K hK=>?_) ?_
                   ·skip
                    have gn:wd.grownBy (w4.alloc (.cells #[.string yn,.int .i64 yk,.int .i64 yf,.int .i64 yi,.string ys,.int .i64 yt,.slice yd ydn ydc,.slice yu yun yuc,.slice yv yvn yvc] 78)) none:=jaa hg4 (jab _ _);have s4:=hg4.size;have OW:=Td.out.oa.own.more gn;unfold OwnsL at OW;rw [List.length_map] at OW;refine step_append_lies _ (by rfl) (.tmp 45) (.tmp 49) 33 (by rfl) (B+1) 78 ia0 (.agg #[.string ⟨#[]⟩,.int .i64 0,.int .i64 0,.int .i64 0,.string ⟨#[]⟩,.int .i64 0,.slice none 0 0,.slice none 0 0,.slice none 0 0]) 9 136 Tryz.underlying33 ha0 ha1 ha2 ha3 (by rfl) (by decide) (.slice aa ps.length ac) ps.length ((ps.map (·.1)).flatMap jbw) (by rfl) (by exact OW) ⟨w4.heap.size,0,none⟩ 1 1 (jbw ⟨yn,yk,yf,yi,ys,yt,⟨yd,ydn,ydc⟩,⟨yu,yun,yuc⟩,⟨yv,yvn,yvc⟩⟩) (by rfl) (by rfl) (by exact jho w4 ⟨yn,yk,yf,yi,ys,yt,⟨yd,ydn,ydc⟩,⟨yu,yun,yuc⟩,⟨yv,yvn,yvc⟩⟩) (jen _) (by decide) (by simp only [maxLen];omega) (by omega) (by simp;omega) (w4.heap.size+1) (by simp) ?_;intro g cap w8 hown' hgrow hat hlt;have K8:=jac (jbb (fun g e=>(World.ownsRow.lt Td.out.oa.own g e).1) hgrow (HCd.out.more gn) (jaa HGd.out gn) HB.out);have N8:=jac ((K8.out.1 bN (by have:=BT.out;omega)).trans ((gn.block bN (by have:=BT.out;omega) (by simp)).trans Nd.out));have hown2:OwnsL 78 9 jbw w8 (B+1) (.slice (some ⟨g,0,none⟩) (ps.length+1) cap) (ps.map (·.1)++[⟨yn,yk,yf,yi,ys,yt,⟨yd,ydn,ydc⟩,⟨yu,yun,yuc⟩,⟨yv,yvn,yvc⟩⟩]):=by unfold OwnsL;rw [List.length_append,List.flatMap_append,List.length_map];simpa using hown'
                    have hat2:(Value.slice aa ps.length ac).ownBlock=some g∨g=(w4.alloc (.cells #[.string yn,.int .i64 yk,.int .i64 yf,.int .i64 yi,.string ys,.int .i64 yt,.slice yd ydn ydc,.slice yu yun yuc,.slice yv yvn yvc] 78)).heap.size:=hat.imp_right (fun e=>by rw [e];simp);have hal:Has (w4.alloc (.cells #[.string yn,.int .i64 yk,.int .i64 yf,.int .i64 yi,.string ys,.int .i64 yt,.slice yd ydn ydc,.slice yu yun yuc,.slice yv yvn yvc] 78)) ⟨yn,yk,yf,yi,ys,yt,⟨yd,ydn,ydc⟩,⟨yu,yun,yuc⟩,⟨yv,yvn,yvc⟩⟩ yc:=hyh.more (jab _ _);have T8:=jac (Td.out.seta gn hgrow (OwnD.snoc jde Td.out.oa (by omega) gn hgrow hat2 hown2 hal (fun b e=>⟨(hyf yc b e).1,by have:=(hyf yc b e).2;simp;omega⟩)) (jbv (hat2.imp_right (fun e=>by rw [e];exact gn.size))) (fun b e=>(hyf yc b e).1));obtain ⟨⟨p0,p1,p2,p3,p4⟩,qf0,qf1,qf2,qf3,qf4⟩:=jam N8.out;refine hK.out _ _ (by trivial) (fun hHeld=>?_);clear hK K
                    try simp only [Act.put]
                    refine tkA 7 ?_
                    try simp only [Act.put]
                    refine wpAnyH_ready (rs:=[8]) (by kernel_rfl) (by simp) ?_;refine AllReadyH.cons rfl (fun K hK=>?_) ?_
                    ·skip
                     go_simp;refine hK.out _ _ (by trivial) (fun hHeld=>?_);clear hK K
                     try simp only [Act.put]
                     refine wpAnyH_done (by kernel_rfl) ?_ _;have SH:Hid ((Atr.s ⟨yn,yk,yf,yi,ys,yt,⟨yd,ydn,ydc⟩,⟨yu,yun,yuc⟩,⟨yv,yvn,yvc⟩⟩).size≤100):=SZ.out;obtain ⟨ya,hya⟩ : ∃ ya:Atr,ya=⟨yn,yk,yf,yi,ys,yt,⟨yd,ydn,ydc⟩,⟨yu,yun,yuc⟩,⟨yv,yvn,yvc⟩⟩:=⟨_,rfl⟩
                     rw [← hya] at T8 SH ES;have R8:=jac ((K8.out.1 bR (by have:=BT.out;omega)).trans ((gn.block bR (by have:=BT.out;omega) (by simp)).trans Rd.out));have K9:=jac (jcx (j:=4) (.slice (some ⟨g,0,none⟩) (ps.length+1) cap) K8.out.2.1 K8.out.2.2 T8.out BL.out.1 BL.out.2.1 BL.out.2.2);have N9:=jac ((jfi N8.out (.slice (some ⟨g,0,none⟩) (ps.length+1) cap)).2.2.2.2);have R9:=jac ((K9.out.1 bR BN.out (by have:=K8.out.2.1.lt;have:=BT.out;omega)).trans R8.out);have ES9:=jac (show jaF jaO n0 l=jaF jaO ⟨ins,outs,nam,op,(ps++[(ya,yc)]).map jgT,dom⟩ r by rw [List.map_append,ES.out,hya];rfl);clear hown' hown2 hgrow hat hlt p0 p1 p2 p3 p4 qf0 qf1 qf2 qf3 qf4 gn a0 a1 a2 a3 hyh hyf hat2 hal s4 OW hya;go_wp2_with fail;go_roundg r.length
                     case measure=>simp
                     case rel => exact ⟨y, r, ins, outs, nam, op, dom, ps ++ [(ya, yc)], ⟨ia, ins.length, ic⟩, ⟨some ⟨g, 0, none⟩, ps.length + 1, cap⟩, rfl, rfl, R9.out, N9.out, K9.out.2.2.2, K9.out.2.1, K9.out.2.2.1, ES9.out, ⟨(by have := HI.out.1; simp at this ⊢; omega), (by have := HI.out.2.1; simp at this ⊢; omega), (by have := HI.out.2.2.1; simp at this ⊢; omega), (by
                               intro p hp
                               rcases List.mem_append.1 hp with hp | hp
                               ·exact HI.out.2.2.2.1 p hp
                               ·obtain rfl:p=(ya,yc):=by simpa using hp
                                exact SH.out),(fun z hz=>HI.out.2.2.2.2 z (List.mem_cons_of_mem _ hz))⟩⟩
                    exact AllReadyH.nil
                   exact AllReadyH.nil
                  exact AllReadyH.nil
                 exact AllReadyH.nil
                exact AllReadyH.nil
               refine AllReadyH.cons rfl (fun K hK=>?_) ?_
               ·skip
                go_simp;refine (jaA B y wd a1 a3).mono ?_;rw [hx];rintro e w' ⟨-,v,rfl,rfl,rfl⟩;refine hK.out _ _ (by trivial) (fun hHeld=>?_);clear hK K
                try simp only [Act.put]
                refine wpAnyH_ready (rs:=[1,4]) (by kernel_rfl) (by simp) ?_;refine AllReadyH.cons rfl (fun K hK=>?_) ?_
                ·skip
                 have n4:=LD.out wd (by exact jae _);go_simp;clear n4;refine hK.out _ _ (by trivial) (fun hHeld=>?_);clear hK K
                 try simp only [Act.put]
                 refine wpAnyH_ready (rs:=[4]) (by kernel_rfl) (by simp) ?_;refine AllReadyH.cons rfl (fun K hK=>?_) ?_
                 ·skip
                  go_simp;refine (jcs q wd QS.out).mono ?_;rw [hA];rintro e w4 ⟨hg4,v,rfl,⟨yn,yk,yf,yi,ys,yt,⟨yd,ydn,ydc⟩,⟨yu,yun,yuc⟩,⟨yv,yvn,yvc⟩⟩,yc,rfl,rfl,hyh,hyf⟩;unfold jb8;simp only;refine hK.out _ _ (by trivial) (fun hHeld=>?_);clear hK K
                  try simp only [Act.put]
                  refine wpAnyH_ready (rs:=[5]) (by kernel_rfl) (by simp) ?_;refine AllReadyH.cons rfl (fun K hK=>?_) ?_
                  ·skip
                   go_simp;refine hK.out _ _ (by trivial) (fun hHeld=>?_);clear hK K
                   try simp only [Act.put]
                   refine wpAnyH_ready (rs:=[6]) (by kernel_rfl) (by simp) ?_;refine AllReadyH.cons rfl (fun K hK=>?_) ?_
                   ·skip
                    have gn:wd.grownBy (w4.alloc (.cells #[.string yn,.int .i64 yk,.int .i64 yf,.int .i64 yi,.string ys,.int .i64 yt,.slice yd ydn ydc,.slice yu yun yuc,.slice yv yvn yvc] 78)) none:=jaa hg4 (jab _ _);have s4:=hg4.size;have OW:=Td.out.oa.own.more gn;unfold OwnsL at OW;rw [List.length_map] at OW;refine step_append_lies _ (by rfl) (.tmp 45) (.tmp 49) 33 (by rfl) (B+1) 78 ia0 (.agg #[.string ⟨#[]⟩,.int .i64 0,.int .i64 0,.int .i64 0,.string ⟨#[]⟩,.int .i64 0,.slice none 0 0,.slice none 0 0,.slice none 0 0]) 9 136 Tryz.underlying33 ha0 ha1 ha2 ha3 (by rfl) (by decide) (.slice aa ps.length ac) ps.length ((ps.map (·.1)).flatMap jbw) (by rfl) (by exact OW) ⟨w4.heap.size,0,none⟩ 1 1 (jbw ⟨yn,yk,yf,yi,ys,yt,⟨yd,ydn,ydc⟩,⟨yu,yun,yuc⟩,⟨yv,yvn,yvc⟩⟩) (by rfl) (by rfl) (by exact jho w4 ⟨yn,yk,yf,yi,ys,yt,⟨yd,ydn,ydc⟩,⟨yu,yun,yuc⟩,⟨yv,yvn,yvc⟩⟩) (jen _) (by decide) (by simp only [maxLen];omega) (by omega) (by simp;omega) (w4.heap.size+1) (by simp) ?_;intro g cap w8 hown' hgrow hat hlt;have K8:=jac (jbb (fun g e=>(World.ownsRow.lt Td.out.oa.own g e).1) hgrow (HCd.out.more gn) (jaa HGd.out gn) HB.out);have N8:=jac ((K8.out.1 bN (by have:=BT.out;omega)).trans ((gn.block bN (by have:=BT.out;omega) (by simp)).trans Nd.out));have hown2:OwnsL 78 9 jbw w8 (B+1) (.slice (some ⟨g,0,none⟩) (ps.length+1) cap) (ps.map (·.1)++[⟨yn,yk,yf,yi,ys,yt,⟨yd,ydn,ydc⟩,⟨yu,yun,yuc⟩,⟨yv,yvn,yvc⟩⟩]):=by unfold OwnsL;rw [List.length_append,List.flatMap_append,List.length_map];simpa using hown'
                    have hat2:(Value.slice aa ps.length ac).ownBlock=some g∨g=(w4.alloc (.cells #[.string yn,.int .i64 yk,.int .i64 yf,.int .i64 yi,.string ys,.int .i64 yt,.slice yd ydn ydc,.slice yu yun yuc,.slice yv yvn yvc] 78)).heap.size:=hat.imp_right (fun e=>by rw [e];simp);have hal:Has (w4.alloc (.cells #[.string yn,.int .i64 yk,.int .i64 yf,.int .i64 yi,.string ys,.int .i64 yt,.slice yd ydn ydc,.slice yu yun yuc,.slice yv yvn yvc] 78)) ⟨yn,yk,yf,yi,ys,yt,⟨yd,ydn,ydc⟩,⟨yu,yun,yuc⟩,⟨yv,yvn,yvc⟩⟩ yc:=hyh.more (jab _ _);have T8:=jac (Td.out.seta gn hgrow (OwnD.snoc jde Td.out.oa (by omega) gn hgrow hat2 hown2 hal (fun b e=>⟨(hyf yc b e).1,by have:=(hyf yc b e).2;simp;omega⟩)) (jbv (hat2.imp_right (fun e=>by rw [e];exact gn.size))) (fun b e=>(hyf yc b e).1));obtain ⟨⟨p0,p1,p2,p3,p4⟩,qf0,qf1,qf2,qf3,qf4⟩:=jam N8.out;refine hK.out _ _ (by trivial) (fun hHeld=>?_);clear hK K
                    try simp only [Act.put]
                    refine tkA 7 ?_
                    try simp only [Act.put]
                    refine wpAnyH_ready (rs:=[8]) (by kernel_rfl) (by simp) ?_;refine AllReadyH.cons rfl (fun K hK=>?_) ?_
                    ·skip
                     go_simp;refine hK.out _ _ (by trivial) (fun hHeld=>?_);clear hK K
                     try simp only [Act.put]
                     refine wpAnyH_done (by kernel_rfl) ?_ _;have SH:Hid ((Atr.s ⟨yn,yk,yf,yi,ys,yt,⟨yd,ydn,ydc⟩,⟨yu,yun,yuc⟩,⟨yv,yvn,yvc⟩⟩).size≤100):=SZ.out;obtain ⟨ya,hya⟩ : ∃ ya:Atr,ya=⟨yn,yk,yf,yi,ys,yt,⟨yd,ydn,ydc⟩,⟨yu,yun,yuc⟩,⟨yv,yvn,yvc⟩⟩:=⟨_,rfl⟩
                     rw [← hya] at T8 SH ES;have R8:=jac ((K8.out.1 bR (by have:=BT.out;omega)).trans ((gn.block bR (by have:=BT.out;omega) (by simp)).trans Rd.out));have K9:=jac (jcx (j:=4) (.slice (some ⟨g,0,none⟩) (ps.length+1) cap) K8.out.2.1 K8.out.2.2 T8.out BL.out.1 BL.out.2.1 BL.out.2.2);have N9:=jac ((jfi N8.out (.slice (some ⟨g,0,none⟩) (ps.length+1) cap)).2.2.2.2);have R9:=jac ((K9.out.1 bR BN.out (by have:=K8.out.2.1.lt;have:=BT.out;omega)).trans R8.out);have ES9:=jac (show jaF jaO n0 l=jaF jaO ⟨ins,outs,nam,op,(ps++[(ya,yc)]).map jgT,dom⟩ r by rw [List.map_append,ES.out,hya];rfl);clear hown' hown2 hgrow hat hlt p0 p1 p2 p3 p4 qf0 qf1 qf2 qf3 qf4 gn a0 a1 a2 a3 hyh hyf hat2 hal s4 OW hya;go_wp2_with fail;go_roundg r.length
                     case measure=>simp
                     case rel => exact ⟨y, r, ins, outs, nam, op, dom, ps ++ [(ya, yc)], ⟨ia, ins.length, ic⟩, ⟨some ⟨g, 0, none⟩, ps.length + 1, cap⟩, rfl, rfl, R9.out, N9.out, K9.out.2.2.2, K9.out.2.1, K9.out.2.2.1, ES9.out, ⟨(by have := HI.out.1; simp at this ⊢; omega), (by have := HI.out.2.1; simp at this ⊢; omega), (by have := HI.out.2.2.1; simp at this ⊢; omega), (by
                               intro p hp
                               rcases List.mem_append.1 hp with hp | hp
                               ·exact HI.out.2.2.2.1 p hp
                               ·obtain rfl:p=(ya,yc):=by simpa using hp
                                exact SH.out),(fun z hz=>HI.out.2.2.2.2 z (List.mem_cons_of_mem _ hz))⟩⟩
                    exact AllReadyH.nil
                   exact AllReadyH.nil
                  exact AllReadyH.nil
                 exact AllReadyH.nil
                refine AllReadyH.cons rfl (fun K hK=>?_) ?_
                ·skip
                 go_simp;refine (jcs q wd QS.out).mono ?_;rw [hA];rintro e w4 ⟨hg4,v,rfl,⟨yn,yk,yf,yi,ys,yt,⟨yd,ydn,ydc⟩,⟨yu,yun,yuc⟩,⟨yv,yvn,yvc⟩⟩,yc,rfl,rfl,hyh,hyf⟩;unfold jb8;simp only;refine hK.out _ _ (by trivial) (fun hHeld=>?_);clear hK K
                 try simp only [Act.put]
                 refine wpAnyH_ready (rs:=[1,5]) (by kernel_rfl) (by simp) ?_;refine AllReadyH.cons rfl (fun K hK=>?_) ?_
                 ·skip
                  have n4:=LD.out w4 (by exact hg4);go_simp;clear n4;refine hK.out _ _ (by trivial) (fun hHeld=>?_);clear hK K
                  try simp only [Act.put]
                  refine wpAnyH_ready (rs:=[5]) (by kernel_rfl) (by simp) ?_;refine AllReadyH.cons rfl (fun K hK=>?_) ?_
                  ·skip
                   go_simp;refine hK.out _ _ (by trivial) (fun hHeld=>?_);clear hK K
                   try simp only [Act.put]
                   refine wpAnyH_ready (rs:=[6]) (by kernel_rfl) (by simp) ?_;refine AllReadyH.cons rfl (fun K hK=>?_) ?_
                   ·skip
                    have gn:wd.grownBy (w4.alloc (.cells #[.string yn,.int .i64 yk,.int .i64 yf,.int .i64 yi,.string ys,.int .i64 yt,.slice yd ydn ydc,.slice yu yun yuc,.slice yv yvn yvc] 78)) none:=jaa hg4 (jab _ _);have s4:=hg4.size;have OW:=Td.out.oa.own.more gn;unfold OwnsL at OW;rw [List.length_map] at OW;refine step_append_lies _ (by rfl) (.tmp 45) (.tmp 49) 33 (by rfl) (B+1) 78 ia0 (.agg #[.string ⟨#[]⟩,.int .i64 0,.int .i64 0,.int .i64 0,.string ⟨#[]⟩,.int .i64 0,.slice none 0 0,.slice none 0 0,.slice none 0 0]) 9 136 Tryz.underlying33 ha0 ha1 ha2 ha3 (by rfl) (by decide) (.slice aa ps.length ac) ps.length ((ps.map (·.1)).flatMap jbw) (by rfl) (by exact OW) ⟨w4.heap.size,0,none⟩ 1 1 (jbw ⟨yn,yk,yf,yi,ys,yt,⟨yd,ydn,ydc⟩,⟨yu,yun,yuc⟩,⟨yv,yvn,yvc⟩⟩) (by rfl) (by rfl) (by exact jho w4 ⟨yn,yk,yf,yi,ys,yt,⟨yd,ydn,ydc⟩,⟨yu,yun,yuc⟩,⟨yv,yvn,yvc⟩⟩) (jen _) (by decide) (by simp only [maxLen];omega) (by omega) (by simp;omega) (w4.heap.size+1) (by simp) ?_;intro g cap w8 hown' hgrow hat hlt;have K8:=jac (jbb (fun g e=>(World.ownsRow.lt Td.out.oa.own g e).1) hgrow (HCd.out.more gn) (jaa HGd.out gn) HB.out);have N8:=jac ((K8.out.1 bN (by have:=BT.out;omega)).trans ((gn.block bN (by have:=BT.out;omega) (by simp)).trans Nd.out));have hown2:OwnsL 78 9 jbw w8 (B+1) (.slice (some ⟨g,0,none⟩) (ps.length+1) cap) (ps.map (·.1)++[⟨yn,yk,yf,yi,ys,yt,⟨yd,ydn,ydc⟩,⟨yu,yun,yuc⟩,⟨yv,yvn,yvc⟩⟩]):=by unfold OwnsL;rw [List.length_append,List.flatMap_append,List.length_map];simpa using hown'
                    have hat2:(Value.slice aa ps.length ac).ownBlock=some g∨g=(w4.alloc (.cells #[.string yn,.int .i64 yk,.int .i64 yf,.int .i64 yi,.string ys,.int .i64 yt,.slice yd ydn ydc,.slice yu yun yuc,.slice yv yvn yvc] 78)).heap.size:=hat.imp_right (fun e=>by rw [e];simp);have hal:Has (w4.alloc (.cells #[.string yn,.int .i64 yk,.int .i64 yf,.int .i64 yi,.string ys,.int .i64 yt,.slice yd ydn ydc,.slice yu yun yuc,.slice yv yvn yvc] 78)) ⟨yn,yk,yf,yi,ys,yt,⟨yd,ydn,ydc⟩,⟨yu,yun,yuc⟩,⟨yv,yvn,yvc⟩⟩ yc:=hyh.more (jab _ _);have T8:=jac (Td.out.seta gn hgrow (OwnD.snoc jde Td.out.oa (by omega) gn hgrow hat2 hown2 hal (fun b e=>⟨(hyf yc b e).1,by have:=(hyf yc b e).2;simp;omega⟩)) (jbv (hat2.imp_right (fun e=>by rw [e];exact gn.size))) (fun b e=>(hyf yc b e).1));obtain ⟨⟨p0,p1,p2,p3,p4⟩,qf0,qf1,qf2,qf3,qf4⟩:=jam N8.out;refine hK.out _ _ (by trivial) (fun hHeld=>?_);clear hK K
                    try simp only [Act.put]
                    refine tkA 7 ?_
                    try simp only [Act.put]
                    refine wpAnyH_ready (rs:=[8]) (by kernel_rfl) (by simp) ?_;refine AllReadyH.cons rfl (fun K hK=>?_) ?_
                    ·skip
                     go_simp;refine hK.out _ _ (by trivial) (fun hHeld=>?_);clear hK K
                     try simp only [Act.put]
                     refine wpAnyH_done (by kernel_rfl) ?_ _;have SH:Hid ((Atr.s ⟨yn,yk,yf,yi,ys,yt,⟨yd,ydn,ydc⟩,⟨yu,yun,yuc⟩,⟨yv,yvn,yvc⟩⟩).size≤100):=SZ.out;obtain ⟨ya,hya⟩ : ∃ ya:Atr,ya=⟨yn,yk,yf,yi,ys,yt,⟨yd,ydn,ydc⟩,⟨yu,yun,yuc⟩,⟨yv,yvn,yvc⟩⟩:=⟨_,rfl⟩
                     rw [← hya] at T8 SH ES;have R8:=jac ((K8.out.1 bR (by have:=BT.out;omega)).trans ((gn.block bR (by have:=BT.out;omega) (by simp)).trans Rd.out));have K9:=jac (jcx (j:=4) (.slice (some ⟨g,0,none⟩) (ps.length+1) cap) K8.out.2.1 K8.out.2.2 T8.out BL.out.1 BL.out.2.1 BL.out.2.2);have N9:=jac ((jfi N8.out (.slice (some ⟨g,0,none⟩) (ps.length+1) cap)).2.2.2.2);have R9:=jac ((K9.out.1 bR BN.out (by have:=K8.out.2.1.lt;have:=BT.out;omega)).trans R8.out);have ES9:=jac (show jaF jaO n0 l=jaF jaO ⟨ins,outs,nam,op,(ps++[(ya,yc)]).map jgT,dom⟩ r by rw [List.map_append,ES.out,hya];rfl);clear hown' hown2 hgrow hat hlt p0 p1 p2 p3 p4 qf0 qf1 qf2 qf3 qf4 gn a0 a1 a2 a3 hyh hyf hat2 hal s4 OW hya;go_wp2_with fail;go_roundg r.length
                     case measure=>simp
                     case rel => exact ⟨y, r, ins, outs, nam, op, dom, ps ++ [(ya, yc)], ⟨ia, ins.length, ic⟩, ⟨some ⟨g, 0, none⟩, ps.length + 1, cap⟩, rfl, rfl, R9.out, N9.out, K9.out.2.2.2, K9.out.2.1, K9.out.2.2.1, ES9.out, ⟨(by have := HI.out.1; simp at this ⊢; omega), (by have := HI.out.2.1; simp at this ⊢; omega), (by have := HI.out.2.2.1; simp at this ⊢; omega), (by
                               intro p hp
                               rcases List.mem_append.1 hp with hp | hp
                               ·exact HI.out.2.2.2.1 p hp
                               ·obtain rfl:p=(ya,yc):=by simpa using hp
                                exact SH.out),(fun z hz=>HI.out.2.2.2.2 z (List.mem_cons_of_mem _ hz))⟩⟩
                    exact AllReadyH.nil
                   exact AllReadyH.nil
                  exact AllReadyH.nil
                 refine AllReadyH.cons rfl (fun K hK=>?_) ?_
                 ·skip
                  go_simp;refine hK.out _ _ (by trivial) (fun hHeld=>?_);clear hK K
                  try simp only [Act.put]
                  refine wpAnyH_ready (rs:=[1]) (by kernel_rfl) (by simp) ?_;refine AllReadyH.cons rfl (fun K hK=>?_) ?_
                  ·skip
                   have n4:=LD.out _ (by exact jaa hg4 (jab w4 (.cells #[.string yn,.int .i64 yk,.int .i64 yf,.int .i64 yi,.string ys,.int .i64 yt,.slice yd ydn ydc,.slice yu yun yuc,.slice yv yvn yvc] 78)));go_simp;clear n4;refine hK.out _ _ (by trivial) (fun hHeld=>?_);clear hK K
                   try simp only [Act.put]
                   refine wpAnyH_ready (rs:=[6]) (by kernel_rfl) (by simp) ?_;refine AllReadyH.cons rfl (fun K hK=>?_) ?_
                   ·skip
                    have gn:wd.grownBy (w4.alloc (.cells #[.string yn,.int .i64 yk,.int .i64 yf,.int .i64 yi,.string ys,.int .i64 yt,.slice yd ydn ydc,.slice yu yun yuc,.slice yv yvn yvc] 78)) none:=jaa hg4 (jab _ _);have s4:=hg4.size;have OW:=Td.out.oa.own.more gn;unfold OwnsL at OW;rw [List.length_map] at OW;refine step_append_lies _ (by rfl) (.tmp 45) (.tmp 49) 33 (by rfl) (B+1) 78 ia0 (.agg #[.string ⟨#[]⟩,.int .i64 0,.int .i64 0,.int .i64 0,.string ⟨#[]⟩,.int .i64 0,.slice none 0 0,.slice none 0 0,.slice none 0 0]) 9 136 Tryz.underlying33 ha0 ha1 ha2 ha3 (by rfl) (by decide) (.slice aa ps.length ac) ps.length ((ps.map (·.1)).flatMap jbw) (by rfl) (by exact OW) ⟨w4.heap.size,0,none⟩ 1 1 (jbw ⟨yn,yk,yf,yi,ys,yt,⟨yd,ydn,ydc⟩,⟨yu,yun,yuc⟩,⟨yv,yvn,yvc⟩⟩) (by rfl) (by rfl) (by exact jho w4 ⟨yn,yk,yf,yi,ys,yt,⟨yd,ydn,ydc⟩,⟨yu,yun,yuc⟩,⟨yv,yvn,yvc⟩⟩) (jen _) (by decide) (by simp only [maxLen];omega) (by omega) (by simp;omega) (w4.heap.size+1) (by simp) ?_;intro g cap w8 hown' hgrow hat hlt;have K8:=jac (jbb (fun g e=>(World.ownsRow.lt Td.out.oa.own g e).1) hgrow (HCd.out.more gn) (jaa HGd.out gn) HB.out);have N8:=jac ((K8.out.1 bN (by have:=BT.out;omega)).trans ((gn.block bN (by have:=BT.out;omega) (by simp)).trans Nd.out));have hown2:OwnsL 78 9 jbw w8 (B+1) (.slice (some ⟨g,0,none⟩) (ps.length+1) cap) (ps.map (·.1)++[⟨yn,yk,yf,yi,ys,yt,⟨yd,ydn,ydc⟩,⟨yu,yun,yuc⟩,⟨yv,yvn,yvc⟩⟩]):=by unfold OwnsL;rw [List.length_append,List.flatMap_append,List.length_map];simpa using hown'
                    have hat2:(Value.slice aa ps.length ac).ownBlock=some g∨g=(w4.alloc (.cells #[.string yn,.int .i64 yk,.int .i64 yf,.int .i64 yi,.string ys,.int .i64 yt,.slice yd ydn ydc,.slice yu yun yuc,.slice yv yvn yvc] 78)).heap.size:=hat.imp_right (fun e=>by rw [e];simp);have hal:Has (w4.alloc (.cells #[.string yn,.int .i64 yk,.int .i64 yf,.int .i64 yi,.string ys,.int .i64 yt,.slice yd ydn ydc,.slice yu yun yuc,.slice yv yvn yvc] 78)) ⟨yn,yk,yf,yi,ys,yt,⟨yd,ydn,ydc⟩,⟨yu,yun,yuc⟩,⟨yv,yvn,yvc⟩⟩ yc:=hyh.more (jab _ _);have T8:=jac (Td.out.seta gn hgrow (OwnD.snoc jde Td.out.oa (by omega) gn hgrow hat2 hown2 hal (fun b e=>⟨(hyf yc b e).1,by have:=(hyf yc b e).2;simp;omega⟩)) (jbv (hat2.imp_right (fun e=>by rw [e];exact gn.size))) (fun b e=>(hyf yc b e).1));obtain ⟨⟨p0,p1,p2,p3,p4⟩,qf0,qf1,qf2,qf3,qf4⟩:=jam N8.out;refine hK.out _ _ (by trivial) (fun hHeld=>?_);clear hK K
                    try simp only [Act.put]
                    refine tkA 7 ?_
                    try simp only [Act.put]
                    refine wpAnyH_ready (rs:=[8]) (by kernel_rfl) (by simp) ?_;refine AllReadyH.cons rfl (fun K hK=>?_) ?_
                    ·skip
                     go_simp;refine hK.out _ _ (by trivial) (fun hHeld=>?_);clear hK K
                     try simp only [Act.put]
                     refine wpAnyH_done (by kernel_rfl) ?_ _;have SH:Hid ((Atr.s ⟨yn,yk,yf,yi,ys,yt,⟨yd,ydn,ydc⟩,⟨yu,yun,yuc⟩,⟨yv,yvn,yvc⟩⟩).size≤100):=SZ.out;obtain ⟨ya,hya⟩ : ∃ ya:Atr,ya=⟨yn,yk,yf,yi,ys,yt,⟨yd,ydn,ydc⟩,⟨yu,yun,yuc⟩,⟨yv,yvn,yvc⟩⟩:=⟨_,rfl⟩
                     rw [← hya] at T8 SH ES;have R8:=jac ((K8.out.1 bR (by have:=BT.out;omega)).trans ((gn.block bR (by have:=BT.out;omega) (by simp)).trans Rd.out));have K9:=jac (jcx (j:=4) (.slice (some ⟨g,0,none⟩) (ps.length+1) cap) K8.out.2.1 K8.out.2.2 T8.out BL.out.1 BL.out.2.1 BL.out.2.2);have N9:=jac ((jfi N8.out (.slice (some ⟨g,0,none⟩) (ps.length+1) cap)).2.2.2.2);have R9:=jac ((K9.out.1 bR BN.out (by have:=K8.out.2.1.lt;have:=BT.out;omega)).trans R8.out);have ES9:=jac (show jaF jaO n0 l=jaF jaO ⟨ins,outs,nam,op,(ps++[(ya,yc)]).map jgT,dom⟩ r by rw [List.map_append,ES.out,hya];rfl);clear hown' hown2 hgrow hat hlt p0 p1 p2 p3 p4 qf0 qf1 qf2 qf3 qf4 gn a0 a1 a2 a3 hyh hyf hat2 hal s4 OW hya;go_wp2_with fail;go_roundg r.length
                     case measure=>simp
                     case rel => exact ⟨y, r, ins, outs, nam, op, dom, ps ++ [(ya, yc)], ⟨ia, ins.length, ic⟩, ⟨some ⟨g, 0, none⟩, ps.length + 1, cap⟩, rfl, rfl, R9.out, N9.out, K9.out.2.2.2, K9.out.2.1, K9.out.2.2.1, ES9.out, ⟨(by have := HI.out.1; simp at this ⊢; omega), (by have := HI.out.2.1; simp at this ⊢; omega), (by have := HI.out.2.2.1; simp at this ⊢; omega), (by
                               intro p hp
                               rcases List.mem_append.1 hp with hp | hp
                               ·exact HI.out.2.2.2.1 p hp
                               ·obtain rfl:p=(ya,yc):=by simpa using hp
                                exact SH.out),(fun z hz=>HI.out.2.2.2.2 z (List.mem_cons_of_mem _ hz))⟩⟩
                    exact AllReadyH.nil
                   exact AllReadyH.nil
                  exact AllReadyH.nil
                 exact AllReadyH.nil
                exact AllReadyH.nil
               exact AllReadyH.nil
             ·skip
              have E:Hid (jaC s=.error 3):=by show _=_;rw [E0.out,HF.out,jaJ (f:=jaO) (c:=3) (by unfold jaO;rw [if_neg H1.out];rw [if_neg H2.out];rw [if_neg H3.out];rw [if_neg H4.out];rw [if_pos H5.out];rw [hx];rfl)];rfl
              refine wp_region_held_drew (S:=fun _=>True) (by kernel_rfl) trivial (fun hHeld=>?_);rw [← hwd];clear hwd;refine tkA 0 ?_
              try simp only [Act.put]
              refine tkA 2 ?_
              try simp only [Act.put]
              refine wpAnyH_ready (rs:=[1,3]) (by kernel_rfl) (by simp) ?_;refine AllReadyH.cons rfl (fun K hK=>?_) ?_
              ·skip
               have n4:=LD.out wd (by exact jae _);go_simp;clear n4;refine hK.out _ _ (by trivial) (fun hHeld=>?_);clear hK K
               try simp only [Act.put]
               refine wpAnyH_ready (rs:=[3]) (by kernel_rfl) (by simp) ?_;refine AllReadyH.cons rfl (fun K hK=>?_) ?_
               ·skip
                go_simp;refine (jaA B y wd a1 a3).mono ?_;rw [hx];rintro e w' ⟨hg,rfl⟩;exact ⟨rfl,jad E.out (jaa HGd.out hg)⟩
               exact AllReadyH.nil
              refine AllReadyH.cons rfl (fun K hK=>?_) ?_
              ·skip
               go_simp;refine (jaA B y wd a1 a3).mono ?_;rw [hx];rintro e w' ⟨hg,rfl⟩;exact ⟨rfl,jad E.out (jaa HGd.out hg)⟩
              exact AllReadyH.nil
            ·have b5:(y.num==5)=false:=by simpa using h5
             have H5:=jac h5;clear h5
             by_cases h7:y.num=7
             ·have b7:(y.num==7)=true:=by simp [h7]
              have H7:=jac h7;clear h7;go_wp2_with fail;have TX:=jac (jaA B y w2 a1 a3);clear a0 a1 a2 a3
              rcases jaU y with ⟨q,hx⟩ | hx
              ·rw [hx] at TX;have ES:=jac (HF.out.trans (jay (f:=jaO) (b:=⟨ins,outs,nam,op,ps.map jgT,q⟩) (by unfold jaO;rw [if_neg H1.out];rw [if_neg H2.out];rw [if_neg H3.out];rw [if_neg H4.out];rw [if_neg H5.out];rw [if_pos H7.out];rw [hx];rfl)));clear hx;refine TX.out.mono ?_;rintro e w3 ⟨hg3,v,rfl,rfl,rfl⟩;go_wp2_with fail;go_roundg r.length
               case measure=>simp
               case rel=>exact ⟨y,r,ins,outs,nam,op,q,ps,⟨ia,ins.length,ic⟩,⟨aa,ps.length,ac⟩,rfl,rfl,R2.out,N2.out,T2.out,HC2.out,HG2.out,ES.out,⟨(by have:=HI.out.1;simp at this ⊢;omega),(by have:=HI.out.2.1;simp at this ⊢;omega),(by have:=HI.out.2.2.1;simp at this ⊢;omega),(HI.out.2.2.2.1),(fun z hz=>HI.out.2.2.2.2 z (List.mem_cons_of_mem _ hz))⟩⟩
              ·rw [hx] at TX;have E:Hid (jaC s=.error 3):=by show _=_;rw [E0.out,HF.out,jaJ (f:=jaO) (c:=3) (by unfold jaO;rw [if_neg H1.out];rw [if_neg H2.out];rw [if_neg H3.out];rw [if_neg H4.out];rw [if_neg H5.out];rw [if_pos H7.out];rw [hx];rfl)];rfl
               clear hx;refine TX.out.mono ?_;rintro e w3 ⟨hg3,rfl⟩;exact ⟨rfl,jad E.out (jaa HG2.out hg3)⟩
             ·have b7:(y.num==7)=false:=by simpa using h7
              have H7:=jac h7;clear h7;have ES:=jac (HF.out.trans (jay (f:=jaO) (b:=⟨ins,outs,nam,op,ps.map jgT,dom⟩) (by unfold jaO;rw [if_neg H1.out];rw [if_neg H2.out];rw [if_neg H3.out];rw [if_neg H4.out];rw [if_neg H5.out];rw [if_neg H7.out])));clear a1 a2 a3;go_wp2_with fail;clear a0;go_roundg r.length
              case measure=>simp
              case rel=>exact ⟨y,r,ins,outs,nam,op,dom,ps,⟨ia,ins.length,ic⟩,⟨aa,ps.length,ac⟩,rfl,rfl,R2.out,N2.out,T2.out,HC2.out,HG2.out,ES.out,⟨(by have:=HI.out.1;simp at this ⊢;omega),(by have:=HI.out.2.1;simp at this ⊢;omega),(by have:=HI.out.2.2.1;simp at this ⊢;omega),(HI.out.2.2.2.1),(fun z hz=>HI.out.2.2.2.2 z (List.mem_cons_of_mem _ hz))⟩⟩
     ·rw [hc] at O;have E:Hid (jaC s=.error c):=by show _=_;unfold jaC;rw [hc];rfl
      clear hc;go_enter Tryz.func81,Tryz.ntmps81;go_wp2_with fail;rw [← hw0];refine (O.out w0).mono ?_;rintro e w1 ⟨hg1,rfl⟩;exact ⟨rfl,jad E.out (jaa g0 hg1)⟩
end Go.Proofs.YtbgbpfbjeleooaaGreat.Pd
