/- A part. -/
import Derived.Test.YtbgbpfbjeleooaaGreatMRart
import Derived.Test.YtbgbpfbjeleooaaGreatRartBH
set_option maxHeartbeats 12800000
set_option maxRecDepth 100000
namespace Go.Proofs.YtbgbpfbjeleooaaGreat.Pd
open Go.RowKit
open Wr (Fld)
theorem jfa {w:World} {v:Value} {zs:List Int} (h:jaj w v zs):∃ a c,v=.slice a zs.length c∧zs.length≤c∧c≤9223372036854775807∧zs.length*8≤140737488351232:=by
 obtain ⟨ao,cap,rfl,h1,h2,h3,h4,h5,h6⟩:=h;exact ⟨ao,cap,rfl,h1,h2,h3⟩
theorem jid {w:World} {a:Option Addr} {n c:Nat} {zs:List Int} (h:jaj w (.slice a n c) zs) {k:Nat} (hk:k<zs.length):∃ b off,a=some ⟨b,off,none⟩∧∀ i,i<zs.length→w.cell? ⟨b,off+i,none⟩=some (.int .i64 (zs.getD i 0)):=by
 obtain ⟨ao,cap,e,h1,h2,h3,h4,h5,h6⟩:=h
 cases e
 obtain ⟨b,off,rfl,hc⟩:=h5 (by omega);exact ⟨b,off,rfl,hc⟩
def dfP (ty:Int) (l:List Int):R Fld :=
 if ty=6∨ty=9 then shP (jbS 5 l) (ja0 9 (jiU ty l))
 else if ty=7 then shP (jbS 7 l) (ja0 9 (jiU ty l))
 else if l.length=1 then .ok (jgz 4 (l.headD 0)) else .ok (ja0 9 (jiU ty l))
theorem jfb (ty:Int) (l:List Int):(jiU ty l).size=l.length*ja4 ty:=by
 unfold jiU;rw [Wr.sof_size,jjz]
theorem jlc (ty:Int) (l:List Int) (hl:l.length≤10000000):(jiU ty l).size≤80000000:=by
 rw [jfb];exact Nat.le_trans (Nat.mul_le_mul hl (show ja4 ty≤8 by rcases jfu ty with h | h | h <;> omega)) (by decide)
theorem jbM (num:Int) (s:ByteArray) (hn:0≤num∧num≤1000) (hs:s.size≤1000000000):Wr.FldIn (ja0 num s):=by
 unfold Wr.FldIn ja0;simp only;omega
theorem jiV (num x:Int) (hn:0≤num∧num≤1000):Wr.FldIn (jfy num x):=by
 unfold Wr.FldIn jfy;simp only;have h:ByteArray.size ⟨#[]⟩=0:=rfl;omega
theorem jiW (num x:Int) (hn:0≤num∧num≤1000):Wr.FldIn (jgz num x):=by
 unfold Wr.FldIn jgz;simp only;have h:ByteArray.size ⟨#[]⟩=0:=rfl;omega
theorem jeo (num:Int) (l:List Int) (hn:0≤num∧num≤1000) (hl:l.length≤10000000):Wr.FldIn (jbS num l):=by
 unfold jbS
 split
 ·exact jiV _ _ hn
 ·refine jbM _ _ hn ?_;have:=jd7 l;show (jcA l).toArray.size≤_;simp;omega
theorem jhx (ty:Int) (d:Sl) (t:Value) (l:List Int) (w:World) (hv:jaj w t l) (hl:l.length≤10000000) :
    Calls Tryz.prog 127 #[.agg #[.int .i64 ty,.slice d.a d.n d.c,t]] w (jbU w (dfP ty l) fun f v _=>v=jcH f):=by
     obtain ⟨da,dn,dc⟩:=d;obtain ⟨ta,tc,rfl,-⟩:=jfa hv;simp only;have HV:=jac hv;have HLB:=jac hl;have HL1:Hid (l.length≤100000000):=by show _≤_;omega
     obtain ⟨w0,hw0⟩ : ∃ w0,w0=(w.alloc (.cells #[.int .i64 ty,.slice da dn dc,.slice ta l.length tc] 44)).alloc (.cells #[.int .i64 0,.int .i64 0,.int .u64 0,.string ⟨#[]⟩] 49):=⟨_,rfl⟩
     have g0:w.grownBy w0 none:=by rw [hw0];exact jaa (jab _ _) (jab _ _)
     have h1:w0.heap[w.heap.size]?=some (.cells #[.int .i64 ty,.slice da dn dc,.slice ta l.length tc] 44 (0,0)):=by rw [hw0];exact jbT _ _ _ _ _
     have h2:w0.heap[w.heap.size+1]?=some (.cells #[.int .i64 0,.int .i64 0,.int .u64 0,.string ⟨#[]⟩] 49 (0,0)):=by rw [hw0];exact jcO _ _ _ _ _
     obtain ⟨bT,hT⟩ : ∃ b,b=w.heap.size:=⟨_,rfl⟩
     obtain ⟨bR,hR⟩ : ∃ b,b=w.heap.size+1:=⟨_,rfl⟩
     have RI:Hid (w.heap.size≤bR):=by show _≤_;omega
     have nTR:bT≠bR:=by omega
     rw [← hT] at h1;rw [← hR] at h2;have S0:=(Array.getElem?_eq_some_iff.1 h2).1;have R0:=jac (jnB ty ⟨da,dn,dc⟩ (.slice ta l.length tc) l w0 (HV.out.more g0) hl);obtain ⟨rw,hrw⟩ : ∃ rw,rw=jiU ty l:=⟨_,rfl⟩
     have RW:Hid (rw.size≤1000000000):=by show _≤_;rw [hrw];have:=jlc ty l hl;omega
     rw [← hrw] at R0;have HRW:=jac hrw;obtain ⟨⟨x0,x1,x2⟩,-⟩:=jbn h1;have H1:=jac h1;have H2:=jac h2;have G0:=jac g0
     replace hl:l.length≤100000000:=HL1.out
     clear hv h1 h2 g0 hrw;go_enter Tryz.func127,Tryz.ntmps127;go_wp2_with fail;rw [← hw0,← hR,← hT];clear hw0 hR hT;refine R0.out.mono ?_;rintro e w1 ⟨rfl,g1⟩;go_wp2_with fail;refine (jdk 9 rw w1).mono ?_;rintro e w2 ⟨rfl,g2⟩;unfold jcH ja0;simp only;have g02:=jaa g1 g2;have g3:=jab w2 (.cells #[.int .i64 9,.int .i64 2,.int .u64 0,.string rw] 49);have hB:=heap_alloc_new w2 (.cells #[.int .i64 9,.int .i64 2,.int .u64 0,.string rw] 49);have g03:=jaa g02 g3;have NT:Hid (bT≠bR∧w2.heap.size≠bR):=⟨nTR,by have:=g02.size;omega⟩
     have B3:Hid (∀ wx,(w2.alloc (.cells #[.int .i64 9,.int .i64 2,.int .u64 0,.string rw] 49)).grownBy wx none→wx.heap[bT]?=some (.cells #[.int .i64 ty,.slice da dn dc,.slice ta l.length tc] 44 (0,0))∧wx.heap[w2.heap.size]?=some (.cells #[.int .i64 9,.int .i64 2,.int .u64 0,.string rw] 49 (0,0))∧wx.heap[bR]?=some (.cells #[.int .i64 0,.int .i64 0,.int .u64 0,.string ⟨#[]⟩] 49 (0,0))):=fun wx hg=>⟨jag H1.out (jaa g03 hg),jag hB hg,jag H2.out (jaa g03 hg)⟩
     have G3:=jac (jaa G0.out g03);obtain ⟨⟨x0,x1,x2⟩,-⟩:=jbn (jag H1.out g03);clear g1 g2 g02 g3 g03 hB S0 nTR
     by_cases c6:ty=6
     ·have E:Hid (dfP ty l=shP (jbS 5 l) (ja0 9 rw)):=by show _=_;unfold dfP;rw [if_pos (.inl c6),HRW.out]
      have b6:(ty==6)=true:=by simp [c6]
      clear c6;go_wp2_with fail;obtain ⟨w3,hw3⟩ : ∃ w3,w3=w2.alloc (.cells #[.int .i64 9,.int .i64 2,.int .u64 0,.string rw] 49):=⟨_,rfl⟩
      obtain ⟨bB,hbB⟩ : ∃ b,b=w2.heap.size:=⟨_,rfl⟩
      rw [← hw3,← hbB] at B3;rw [← hw3] at G3 ⊢;rw [← hbB] at NT ⊢;clear hw3 hbB x0 x1 x2;obtain ⟨wd,hwd⟩ : ∃ wd,wd=w3.drew:=⟨_,rfl⟩
      have gd:w3.grownBy wd none:=by rw [hwd];exact ⟨rfl,rfl,rfl,Nat.le_refl _,fun _ _ _=>rfl⟩
      have Gd:=jac (jaa G3.out gd);have BX:=jac (fun wx (hg:wd.grownBy wx none)=>B3.out wx (jaa gd hg));clear gd;have NF:=jac (fun wx (hg:wd.grownBy wx none)=>jcl 5 (.slice ta l.length tc) l wx (HV.out.more (jaa Gd.out hg)) hl);have SH:=jac (fun wx=>jeL (jbS 5 l) (ja0 9 rw) wx (jeo 5 l (by decide) HLB.out) (jbM 9 rw (by decide) RW.out));obtain ⟨nf,hnf⟩ : ∃ nf,nf=jbS 5 l:=⟨_,rfl⟩
      rw [← hnf] at NF SH E
      cases hs:shP nf (ja0 9 rw) with
      | error c =>
       have E2:Hid (dfP ty l=.error c):=by show _=_;rw [E.out,hs]
       rw [hs] at SH;unfold jcH ja0 at SH;simp only at SH;clear hs;refine wp_region_held_drew (S:=(fun w'=>w'.heap[bT]?=some (.cells #[.int .i64 ty,.slice da dn dc,.slice ta l.length tc] 44 (0,0))∧w'.heap[bB]?=some (.cells #[.int .i64 9,.int .i64 2,.int .u64 0,.string rw] 49 (0,0)))) (by kernel_rfl) (by rw [← hwd];exact ⟨(BX.out wd (jae _)).1,(BX.out wd (jae _)).2.1⟩) (fun hHeld=>?_);rw [← hwd] at hHeld ⊢;clear hwd hnf;refine tkD 0 ?_ (hv:=by intro w hSw;(try dsimp only at hSw);obtain ⟨⟨y0,y1,y2⟩,-⟩:=jbn hSw.1;obtain ⟨⟨z0,z1,z2,z3⟩,-⟩:=jaZ hSw.2;go_simp;(try with_reducible rfl))
       try simp only [Act.put]
       refine tkD 1 ?_ (hv:=by intro w hSw;(try dsimp only at hSw);obtain ⟨⟨y0,y1,y2⟩,-⟩:=jbn hSw.1;obtain ⟨⟨z0,z1,z2,z3⟩,-⟩:=jaZ hSw.2;go_simp;(try with_reducible rfl))
       try simp only [Act.put]
       refine tkD 3 ?_ (hv:=by intro w hSw;(try dsimp only at hSw);obtain ⟨⟨y0,y1,y2⟩,-⟩:=jbn hSw.1;obtain ⟨⟨z0,z1,z2,z3⟩,-⟩:=jaZ hSw.2;go_simp;(try with_reducible rfl))
       try simp only [Act.put]
       refine rdA 2 fun K hK=>?_;go_simp;refine (NF.out wd (jae _)).mono ?_;rintro e w4 ⟨rfl,hg4⟩;refine hK.out _ _ (⟨(BX.out w4 hg4).1,(BX.out w4 hg4).2.1⟩) (fun hHeld=>?_);clear hK K
       try simp only [Act.put]
       refine rdA 4 fun K hK=>?_;go_simp;unfold jcH;refine (show Calls _ _ _ _ _ from SH.out w4).mono ?_;rintro e w5 ⟨hg5,rfl⟩;exact ⟨rfl,jad E2.out (jaa (jaa Gd.out hg4) hg5)⟩
      | ok ff =>
       have E2:Hid (dfP ty l=.ok ff):=by show _=_;rw [E.out,hs]
       rw [hs] at SH;unfold jcH ja0 at SH;simp only at SH;clear hs;refine wp_region_held_drew (S:=(fun w'=>w'.heap[bT]?=some (.cells #[.int .i64 ty,.slice da dn dc,.slice ta l.length tc] 44 (0,0))∧w'.heap[bB]?=some (.cells #[.int .i64 9,.int .i64 2,.int .u64 0,.string rw] 49 (0,0)))) (by kernel_rfl) (by rw [← hwd];exact ⟨(BX.out wd (jae _)).1,(BX.out wd (jae _)).2.1⟩) (fun hHeld=>?_);rw [← hwd] at hHeld ⊢;clear hwd hnf;refine tkD 0 ?_ (hv:=by intro w hSw;(try dsimp only at hSw);obtain ⟨⟨y0,y1,y2⟩,-⟩:=jbn hSw.1;obtain ⟨⟨z0,z1,z2,z3⟩,-⟩:=jaZ hSw.2;go_simp;(try with_reducible rfl))
       try simp only [Act.put]
       refine tkD 1 ?_ (hv:=by intro w hSw;(try dsimp only at hSw);obtain ⟨⟨y0,y1,y2⟩,-⟩:=jbn hSw.1;obtain ⟨⟨z0,z1,z2,z3⟩,-⟩:=jaZ hSw.2;go_simp;(try with_reducible rfl))
       try simp only [Act.put]
       refine tkD 3 ?_ (hv:=by intro w hSw;(try dsimp only at hSw);obtain ⟨⟨y0,y1,y2⟩,-⟩:=jbn hSw.1;obtain ⟨⟨z0,z1,z2,z3⟩,-⟩:=jaZ hSw.2;go_simp;(try with_reducible rfl))
       try simp only [Act.put]
       refine rdA 2 fun K hK=>?_;go_simp;refine (NF.out wd (jae _)).mono ?_;rintro e w4 ⟨rfl,hg4⟩;refine hK.out _ _ (⟨(BX.out w4 hg4).1,(BX.out w4 hg4).2.1⟩) (fun hHeld=>?_);clear hK K
       try simp only [Act.put]
       refine rdA 4 fun K hK=>?_;go_simp;unfold jcH;refine (show Calls _ _ _ _ _ from SH.out w4).mono ?_;rintro e w5 ⟨hg5,v,rfl,rfl⟩;simp only;refine hK.out _ _ (⟨(BX.out w5 (jaa hg4 hg5)).1,(BX.out w5 (jaa hg4 hg5)).2.1⟩) (fun hHeld=>?_);clear hK K
       try simp only [Act.put]
       refine rdA 5 fun K hK=>?_;have RR:=(BX.out w5 (jaa hg4 hg5)).2.2;obtain ⟨⟨r0,r1,r2,r3⟩,rf0,rf1,rf2,rf3⟩:=jaZ RR;go_simp;obtain ⟨hX,gX⟩:=jhk (.int .i64 ff.num) (.int .i64 ff.kind) (.int .u64 ff.u) (.string ff.b) RR;refine hK.out _ _ (⟨(gX.block bT (Array.getElem?_eq_some_iff.1 (BX.out w5 (jaa hg4 hg5)).1).1 (fun e=>NT.out.1 (Option.some.inj e))).trans (BX.out w5 (jaa hg4 hg5)).1,(gX.block bB (Array.getElem?_eq_some_iff.1 (BX.out w5 (jaa hg4 hg5)).2.1).1 (fun e=>NT.out.2 (Option.some.inj e))).trans (BX.out w5 (jaa hg4 hg5)).2.1⟩) (fun hHeld=>?_);clear hK K
       try simp only [Act.put]
       refine wpAnyH_done (by kernel_rfl) ?_ _;have HX:=jac hX;have GX:=jac (jaf (row:=none) (jaa (jaa Gd.out hg4) hg5) gX (fun g e=>by cases e;exact .inr RI.out));clear hX gX RR r0 r1 r2 r3 rf0 rf1 rf2 rf3 hg4 hg5 hHeld;go_wp2_with fail;refine bodyPost_ret (jck rfl _ _ bR rfl HX.out) rfl ?_;exact jaI E2.out GX.out rfl
     ·have b6:(ty==6)=false:=by simpa using c6
      by_cases c9:ty=9
      ·have E:Hid (dfP ty l=shP (jbS 5 l) (ja0 9 rw)):=by show _=_;unfold dfP;rw [if_pos (.inr c9),HRW.out]
       have b9:(ty==9)=true:=by simp [c9]
       clear c6 c9;go_wp2_with fail;obtain ⟨w3,hw3⟩ : ∃ w3,w3=w2.alloc (.cells #[.int .i64 9,.int .i64 2,.int .u64 0,.string rw] 49):=⟨_,rfl⟩
       obtain ⟨bB,hbB⟩ : ∃ b,b=w2.heap.size:=⟨_,rfl⟩
       rw [← hw3,← hbB] at B3;rw [← hw3] at G3 ⊢;rw [← hbB] at NT ⊢;clear hw3 hbB x0 x1 x2;obtain ⟨wd,hwd⟩ : ∃ wd,wd=w3.drew:=⟨_,rfl⟩
       have gd:w3.grownBy wd none:=by rw [hwd];exact ⟨rfl,rfl,rfl,Nat.le_refl _,fun _ _ _=>rfl⟩
       have Gd:=jac (jaa G3.out gd);have BX:=jac (fun wx (hg:wd.grownBy wx none)=>B3.out wx (jaa gd hg));clear gd;have NF:=jac (fun wx (hg:wd.grownBy wx none)=>jcl 5 (.slice ta l.length tc) l wx (HV.out.more (jaa Gd.out hg)) hl);have SH:=jac (fun wx=>jeL (jbS 5 l) (ja0 9 rw) wx (jeo 5 l (by decide) HLB.out) (jbM 9 rw (by decide) RW.out));obtain ⟨nf,hnf⟩ : ∃ nf,nf=jbS 5 l:=⟨_,rfl⟩
       rw [← hnf] at NF SH E
       cases hs:shP nf (ja0 9 rw) with
       | error c =>
        have E2:Hid (dfP ty l=.error c):=by show _=_;rw [E.out,hs]
        rw [hs] at SH;unfold jcH ja0 at SH;simp only at SH;clear hs;refine wp_region_held_drew (S:=(fun w'=>w'.heap[bT]?=some (.cells #[.int .i64 ty,.slice da dn dc,.slice ta l.length tc] 44 (0,0))∧w'.heap[bB]?=some (.cells #[.int .i64 9,.int .i64 2,.int .u64 0,.string rw] 49 (0,0)))) (by kernel_rfl) (by rw [← hwd];exact ⟨(BX.out wd (jae _)).1,(BX.out wd (jae _)).2.1⟩) (fun hHeld=>?_);rw [← hwd] at hHeld ⊢;clear hwd hnf;refine tkD 0 ?_ (hv:=by intro w hSw;(try dsimp only at hSw);obtain ⟨⟨y0,y1,y2⟩,-⟩:=jbn hSw.1;obtain ⟨⟨z0,z1,z2,z3⟩,-⟩:=jaZ hSw.2;go_simp;(try with_reducible rfl))
        try simp only [Act.put]
        refine tkD 1 ?_ (hv:=by intro w hSw;(try dsimp only at hSw);obtain ⟨⟨y0,y1,y2⟩,-⟩:=jbn hSw.1;obtain ⟨⟨z0,z1,z2,z3⟩,-⟩:=jaZ hSw.2;go_simp;(try with_reducible rfl))
        try simp only [Act.put]
        refine tkD 3 ?_ (hv:=by intro w hSw;(try dsimp only at hSw);obtain ⟨⟨y0,y1,y2⟩,-⟩:=jbn hSw.1;obtain ⟨⟨z0,z1,z2,z3⟩,-⟩:=jaZ hSw.2;go_simp;(try with_reducible rfl))
        try simp only [Act.put]
        refine rdA 2 fun K hK=>?_;go_simp;refine (NF.out wd (jae _)).mono ?_;rintro e w4 ⟨rfl,hg4⟩;refine hK.out _ _ (⟨(BX.out w4 hg4).1,(BX.out w4 hg4).2.1⟩) (fun hHeld=>?_);clear hK K
        try simp only [Act.put]
        refine rdA 4 fun K hK=>?_;go_simp;unfold jcH;refine (show Calls _ _ _ _ _ from SH.out w4).mono ?_;rintro e w5 ⟨hg5,rfl⟩;exact ⟨rfl,jad E2.out (jaa (jaa Gd.out hg4) hg5)⟩
       | ok ff =>
        have E2:Hid (dfP ty l=.ok ff):=by show _=_;rw [E.out,hs]
        rw [hs] at SH;unfold jcH ja0 at SH;simp only at SH;clear hs;refine wp_region_held_drew (S:=(fun w'=>w'.heap[bT]?=some (.cells #[.int .i64 ty,.slice da dn dc,.slice ta l.length tc] 44 (0,0))∧w'.heap[bB]?=some (.cells #[.int .i64 9,.int .i64 2,.int .u64 0,.string rw] 49 (0,0)))) (by kernel_rfl) (by rw [← hwd];exact ⟨(BX.out wd (jae _)).1,(BX.out wd (jae _)).2.1⟩) (fun hHeld=>?_);rw [← hwd] at hHeld ⊢;clear hwd hnf;refine tkD 0 ?_ (hv:=by intro w hSw;(try dsimp only at hSw);obtain ⟨⟨y0,y1,y2⟩,-⟩:=jbn hSw.1;obtain ⟨⟨z0,z1,z2,z3⟩,-⟩:=jaZ hSw.2;go_simp;(try with_reducible rfl))
        try simp only [Act.put]
        refine tkD 1 ?_ (hv:=by intro w hSw;(try dsimp only at hSw);obtain ⟨⟨y0,y1,y2⟩,-⟩:=jbn hSw.1;obtain ⟨⟨z0,z1,z2,z3⟩,-⟩:=jaZ hSw.2;go_simp;(try with_reducible rfl))
        try simp only [Act.put]
        refine tkD 3 ?_ (hv:=by intro w hSw;(try dsimp only at hSw);obtain ⟨⟨y0,y1,y2⟩,-⟩:=jbn hSw.1;obtain ⟨⟨z0,z1,z2,z3⟩,-⟩:=jaZ hSw.2;go_simp;(try with_reducible rfl))
        try simp only [Act.put]
        refine rdA 2 fun K hK=>?_;go_simp;refine (NF.out wd (jae _)).mono ?_;rintro e w4 ⟨rfl,hg4⟩;refine hK.out _ _ (⟨(BX.out w4 hg4).1,(BX.out w4 hg4).2.1⟩) (fun hHeld=>?_);clear hK K
        try simp only [Act.put]
        refine rdA 4 fun K hK=>?_;go_simp;unfold jcH;refine (show Calls _ _ _ _ _ from SH.out w4).mono ?_;rintro e w5 ⟨hg5,v,rfl,rfl⟩;simp only;refine hK.out _ _ (⟨(BX.out w5 (jaa hg4 hg5)).1,(BX.out w5 (jaa hg4 hg5)).2.1⟩) (fun hHeld=>?_);clear hK K
        try simp only [Act.put]
        refine rdA 5 fun K hK=>?_;have RR:=(BX.out w5 (jaa hg4 hg5)).2.2;obtain ⟨⟨r0,r1,r2,r3⟩,rf0,rf1,rf2,rf3⟩:=jaZ RR;go_simp;obtain ⟨hX,gX⟩:=jhk (.int .i64 ff.num) (.int .i64 ff.kind) (.int .u64 ff.u) (.string ff.b) RR;refine hK.out _ _ (⟨(gX.block bT (Array.getElem?_eq_some_iff.1 (BX.out w5 (jaa hg4 hg5)).1).1 (fun e=>NT.out.1 (Option.some.inj e))).trans (BX.out w5 (jaa hg4 hg5)).1,(gX.block bB (Array.getElem?_eq_some_iff.1 (BX.out w5 (jaa hg4 hg5)).2.1).1 (fun e=>NT.out.2 (Option.some.inj e))).trans (BX.out w5 (jaa hg4 hg5)).2.1⟩) (fun hHeld=>?_);clear hK K
        try simp only [Act.put]
        refine wpAnyH_done (by kernel_rfl) ?_ _;have HX:=jac hX;have GX:=jac (jaf (row:=none) (jaa (jaa Gd.out hg4) hg5) gX (fun g e=>by cases e;exact .inr RI.out));clear hX gX RR r0 r1 r2 r3 rf0 rf1 rf2 rf3 hg4 hg5 hHeld;go_wp2_with fail;refine bodyPost_ret (jck rfl _ _ bR rfl HX.out) rfl ?_;exact jaI E2.out GX.out rfl
      ·have b9:(ty==9)=false:=by simpa using c9
       have n69:¬ (ty=6∨ty=9):=by omega
       by_cases c7:ty=7
       ·have E:Hid (dfP ty l=shP (jbS 7 l) (ja0 9 rw)):=by show _=_;unfold dfP;rw [if_neg n69,if_pos c7,HRW.out]
        have b7:(ty==7)=true:=by simp [c7]
        clear c6 c9 c7 n69;go_wp2_with fail;obtain ⟨w3,hw3⟩ : ∃ w3,w3=w2.alloc (.cells #[.int .i64 9,.int .i64 2,.int .u64 0,.string rw] 49):=⟨_,rfl⟩
        obtain ⟨bB,hbB⟩ : ∃ b,b=w2.heap.size:=⟨_,rfl⟩
        rw [← hw3,← hbB] at B3;rw [← hw3] at G3 ⊢;rw [← hbB] at NT ⊢;clear hw3 hbB x0 x1 x2;obtain ⟨wd,hwd⟩ : ∃ wd,wd=w3.drew:=⟨_,rfl⟩
        have gd:w3.grownBy wd none:=by rw [hwd];exact ⟨rfl,rfl,rfl,Nat.le_refl _,fun _ _ _=>rfl⟩
        have Gd:=jac (jaa G3.out gd);have BX:=jac (fun wx (hg:wd.grownBy wx none)=>B3.out wx (jaa gd hg));clear gd;have NF:=jac (fun wx (hg:wd.grownBy wx none)=>jcl 7 (.slice ta l.length tc) l wx (HV.out.more (jaa Gd.out hg)) hl);have SH:=jac (fun wx=>jeL (jbS 7 l) (ja0 9 rw) wx (jeo 7 l (by decide) HLB.out) (jbM 9 rw (by decide) RW.out));obtain ⟨nf,hnf⟩ : ∃ nf,nf=jbS 7 l:=⟨_,rfl⟩
        rw [← hnf] at NF SH E
        cases hs:shP nf (ja0 9 rw) with
        | error c =>
         have E2:Hid (dfP ty l=.error c):=by show _=_;rw [E.out,hs]
         rw [hs] at SH;unfold jcH ja0 at SH;simp only at SH;clear hs;refine wp_region_held_drew (S:=(fun w'=>w'.heap[bT]?=some (.cells #[.int .i64 ty,.slice da dn dc,.slice ta l.length tc] 44 (0,0))∧w'.heap[bB]?=some (.cells #[.int .i64 9,.int .i64 2,.int .u64 0,.string rw] 49 (0,0)))) (by kernel_rfl) (by rw [← hwd];exact ⟨(BX.out wd (jae _)).1,(BX.out wd (jae _)).2.1⟩) (fun hHeld=>?_);rw [← hwd] at hHeld ⊢;clear hwd hnf;refine tkD 0 ?_ (hv:=by intro w hSw;(try dsimp only at hSw);obtain ⟨⟨y0,y1,y2⟩,-⟩:=jbn hSw.1;obtain ⟨⟨z0,z1,z2,z3⟩,-⟩:=jaZ hSw.2;go_simp;(try with_reducible rfl))
         try simp only [Act.put]
         refine tkD 1 ?_ (hv:=by intro w hSw;(try dsimp only at hSw);obtain ⟨⟨y0,y1,y2⟩,-⟩:=jbn hSw.1;obtain ⟨⟨z0,z1,z2,z3⟩,-⟩:=jaZ hSw.2;go_simp;(try with_reducible rfl))
         try simp only [Act.put]
         refine tkD 3 ?_ (hv:=by intro w hSw;(try dsimp only at hSw);obtain ⟨⟨y0,y1,y2⟩,-⟩:=jbn hSw.1;obtain ⟨⟨z0,z1,z2,z3⟩,-⟩:=jaZ hSw.2;go_simp;(try with_reducible rfl))
         try simp only [Act.put]
         refine rdA 2 fun K hK=>?_;go_simp;refine (NF.out wd (jae _)).mono ?_;rintro e w4 ⟨rfl,hg4⟩;refine hK.out _ _ (⟨(BX.out w4 hg4).1,(BX.out w4 hg4).2.1⟩) (fun hHeld=>?_);clear hK K
         try simp only [Act.put]
         refine rdA 4 fun K hK=>?_;go_simp;unfold jcH;refine (show Calls _ _ _ _ _ from SH.out w4).mono ?_;rintro e w5 ⟨hg5,rfl⟩;exact ⟨rfl,jad E2.out (jaa (jaa Gd.out hg4) hg5)⟩
        | ok ff =>
         have E2:Hid (dfP ty l=.ok ff):=by show _=_;rw [E.out,hs]
         rw [hs] at SH;unfold jcH ja0 at SH;simp only at SH;clear hs;refine wp_region_held_drew (S:=(fun w'=>w'.heap[bT]?=some (.cells #[.int .i64 ty,.slice da dn dc,.slice ta l.length tc] 44 (0,0))∧w'.heap[bB]?=some (.cells #[.int .i64 9,.int .i64 2,.int .u64 0,.string rw] 49 (0,0)))) (by kernel_rfl) (by rw [← hwd];exact ⟨(BX.out wd (jae _)).1,(BX.out wd (jae _)).2.1⟩) (fun hHeld=>?_);rw [← hwd] at hHeld ⊢;clear hwd hnf;refine tkD 0 ?_ (hv:=by intro w hSw;(try dsimp only at hSw);obtain ⟨⟨y0,y1,y2⟩,-⟩:=jbn hSw.1;obtain ⟨⟨z0,z1,z2,z3⟩,-⟩:=jaZ hSw.2;go_simp;(try with_reducible rfl))
         try simp only [Act.put]
         refine tkD 1 ?_ (hv:=by intro w hSw;(try dsimp only at hSw);obtain ⟨⟨y0,y1,y2⟩,-⟩:=jbn hSw.1;obtain ⟨⟨z0,z1,z2,z3⟩,-⟩:=jaZ hSw.2;go_simp;(try with_reducible rfl))
         try simp only [Act.put]
         refine tkD 3 ?_ (hv:=by intro w hSw;(try dsimp only at hSw);obtain ⟨⟨y0,y1,y2⟩,-⟩:=jbn hSw.1;obtain ⟨⟨z0,z1,z2,z3⟩,-⟩:=jaZ hSw.2;go_simp;(try with_reducible rfl))
         try simp only [Act.put]
         refine rdA 2 fun K hK=>?_;go_simp;refine (NF.out wd (jae _)).mono ?_;rintro e w4 ⟨rfl,hg4⟩;refine hK.out _ _ (⟨(BX.out w4 hg4).1,(BX.out w4 hg4).2.1⟩) (fun hHeld=>?_);clear hK K
         try simp only [Act.put]
         refine rdA 4 fun K hK=>?_;go_simp;unfold jcH;refine (show Calls _ _ _ _ _ from SH.out w4).mono ?_;rintro e w5 ⟨hg5,v,rfl,rfl⟩;simp only;refine hK.out _ _ (⟨(BX.out w5 (jaa hg4 hg5)).1,(BX.out w5 (jaa hg4 hg5)).2.1⟩) (fun hHeld=>?_);clear hK K
         try simp only [Act.put]
         refine rdA 5 fun K hK=>?_;have RR:=(BX.out w5 (jaa hg4 hg5)).2.2;obtain ⟨⟨r0,r1,r2,r3⟩,rf0,rf1,rf2,rf3⟩:=jaZ RR;go_simp;obtain ⟨hX,gX⟩:=jhk (.int .i64 ff.num) (.int .i64 ff.kind) (.int .u64 ff.u) (.string ff.b) RR;refine hK.out _ _ (⟨(gX.block bT (Array.getElem?_eq_some_iff.1 (BX.out w5 (jaa hg4 hg5)).1).1 (fun e=>NT.out.1 (Option.some.inj e))).trans (BX.out w5 (jaa hg4 hg5)).1,(gX.block bB (Array.getElem?_eq_some_iff.1 (BX.out w5 (jaa hg4 hg5)).2.1).1 (fun e=>NT.out.2 (Option.some.inj e))).trans (BX.out w5 (jaa hg4 hg5)).2.1⟩) (fun hHeld=>?_);clear hK K
         try simp only [Act.put]
         refine wpAnyH_done (by kernel_rfl) ?_ _;have HX:=jac hX;have GX:=jac (jaf (row:=none) (jaa (jaa Gd.out hg4) hg5) gX (fun g e=>by cases e;exact .inr RI.out));clear hX gX RR r0 r1 r2 r3 rf0 rf1 rf2 rf3 hg4 hg5 hHeld;go_wp2_with fail;refine bodyPost_ret (jck rfl _ _ bR rfl HX.out) rfl ?_;exact jaI E2.out GX.out rfl
       ·have b7:(ty==7)=false:=by simpa using c7
        have E:Hid (dfP ty l=if l.length=1 then .ok (jgz 4 (l.headD 0)) else .ok (ja0 9 rw)):=by show _=_;unfold dfP;rw [if_neg n69,if_neg c7,HRW.out]
        clear c6 c9 c7 n69
        by_cases h1:l.length=1
        ·obtain ⟨x,rfl⟩:=List.length_eq_one_iff.1 h1;have E2:Hid (dfP ty [x]=.ok (jgz 4 x)):=by show _=_;rw [E.out];rfl
         obtain ⟨xb,xo,e,hc⟩:=jid (k:=0) (HV.out.more G3.out) (by simp);subst e;have a0:=hc 0 (by simp);simp only [Nat.add_zero,List.getD_cons_zero,List.length_cons,List.length_nil,Nat.zero_add] at a0 x2 B3 ⊢;clear h1 hc E;go_wp2_with fail;obtain ⟨w3,hw3⟩ : ∃ w3,w3=w2.alloc (.cells #[.int .i64 9,.int .i64 2,.int .u64 0,.string rw] 49):=⟨_,rfl⟩
         obtain ⟨bB,hbB⟩ : ∃ b,b=w2.heap.size:=⟨_,rfl⟩
         rw [← hw3,← hbB] at B3;rw [← hw3] at G3 ⊢;rw [← hbB] at NT ⊢;clear hw3 hbB x0 x1 x2;clear a0;have RR:=(B3.out w3 (jae _)).2.2;refine (jeA 4 x w3).mono ?_;rintro e w4 ⟨rfl,g4⟩;unfold jcH jgz;simp only;have R4:=jag RR g4;have X:=jac (jhv (cs:=#[.int .i64 4,.int .i64 5,.int .u64 (x % 18446744073709551616),.string ⟨#[]⟩]) R4);have GX:=jac (jaf (row:=none) (jaa G3.out g4) X.out.2 (fun g e=>by cases e;exact .inr RI.out));clear g4;go_wp2_with (refine wpList_store_row rfl 49 (.tmp 2) (.tmp 32) rfl bR #[.int .i64 4,.int .i64 5,.int .u64 (x % 18446744073709551616),.string ⟨#[]⟩] rfl rfl 49 _ R4 jcJ rfl (by simp [Value.oneCell']) ?_);refine bodyPost_ret (jck rfl _ _ bR rfl X.out.1) rfl ?_;exact jaI E2.out GX.out rfl
        ·have E2:Hid (dfP ty l=.ok (ja0 9 rw)):=by show _=_;rw [E.out,if_neg h1]
         have n1:((l.length:Int)==1)=false:=beq_eq_false_iff_ne.2 (by omega);have RR:=(B3.out _ (jae _)).2.2;obtain ⟨⟨z0,z1,z2,z3⟩,-⟩:=jaZ (B3.out _ (jae _)).2.1;have X:=jac (jhv (cs:=#[.int .i64 9,.int .i64 2,.int .u64 0,.string rw]) RR);have GX:=jac (jaf (row:=none) G3.out X.out.2 (fun g e=>by cases e;exact .inr RI.out));clear h1 E;go_wp2_with (refine wpList_store_row rfl 49 (.tmp 2) (.tmp 33) rfl bR #[.int .i64 9,.int .i64 2,.int .u64 0,.string rw] rfl rfl 49 _ RR jcJ rfl (by simp [Value.oneCell']) ?_);refine bodyPost_ret (jck rfl _ _ bR rfl X.out.1) rfl ?_;exact jaI E2.out GX.out rfl
end Go.Proofs.YtbgbpfbjeleooaaGreat.Pd
namespace Go.Proofs.YtbgbpfbjeleooaaGreat.Pd
open Go.RowKit
open Wr (Fld)
def nsM (m:List Fld×Nat) (num:Int) (l:List Int):R (List Fld×Nat):=if l.length=0 then .ok m else jbf m (jbS num l)
theorem jd8 (lo B:Nat) (l:List Fld) (sz:Nat) (num:Int) (v:Value) (zs:List Int) (w:World) (hm:jda w lo B l sz) (hsz:sz≤16777216) (hl:l.length≤100000000) (hv:jaj w v zs) (hz:zs.length≤100000000) :
    Calls Tryz.prog 124 #[.pointer (some ⟨B,0,none⟩),.int .i64 num,v] w (jm0 lo w (nsM (l,sz) num zs) fun m v w'=>v=.tuple #[]∧jda w' lo B m.1 m.2):=by
     obtain ⟨va,vc,rfl,-⟩:=jfa hv
     by_cases h0:zs.length=0
     ·have E:Hid (nsM (l,sz) num zs=.ok (l,sz)):=by show _=_;unfold nsM;rw [if_pos h0]
      have HM:=jac hm;have n0:¬ 0<zs.length:=by omega
      rw [E.out];clear h0 hm hv;go_enter Tryz.func124,Tryz.ntmps124;go_wp2
      go_end0
      exact ⟨Abv.refl _ _,_,rfl,rfl,HM.out⟩
     ·have E:Hid (nsM (l,sz) num zs=jbf (l,sz) (jbS num zs)):=by show _=_;unfold nsM;rw [if_neg h0]
      have n0:0<zs.length:=by omega
      have BF:=jac (jcl num (.slice va zs.length vc) zs w hv hz);have NS:=jgU num zs;obtain ⟨F,hF⟩ : ∃ F,F=jbS num zs:=⟨_,rfl⟩
      rw [← hF] at BF NS E;have PT:=jac (fun wx (hg:w.grownBy wx none)=>jgn lo B l sz F wx (hm.more hg) (by omega) hsz hl);rw [E.out];clear hF h0 NS hm hv;go_enter Tryz.func124,Tryz.ntmps124;go_wp2_with fail;refine BF.out.mono ?_;rintro e w1 ⟨rfl,g1⟩;have P1:=jac (PT.out w1 g1);have A1:=jac (jdw (lo:=lo) g1 (by simp));unfold jcH
      cases hp:jbf (l,sz) F with
      | error c =>
       rw [hp] at P1;have HP:=jac hp;clear hp;go_wp2_with fail;refine P1.out.mono ?_;rintro e w2 ⟨ha,rfl⟩;exact ⟨rfl,jfY HP.out (A1.out.trans ha)⟩
      | ok m =>
       rw [hp] at P1;have HP:=jac hp;clear hp;go_wp2_with fail;refine P1.out.mono ?_;rintro e w2 ⟨ha,v,rfl,rfl,hq⟩;go_wp2
       go_end0
       exact jhu HP.out (A1.out.trans ha) ⟨rfl,hq⟩
def Gd (m:List Fld×Nat) (k:Nat):Prop:=m.2≤16777216∧m.1.length≤k∧∀ x∈m.1,Wr.FldIn x
theorem Gd.nil:Gd ([],0) 0:=⟨by decide,by simp,fun x hx=>by cases hx⟩
theorem Gd.le {m:List Fld×Nat} {j k:Nat} (h:Gd m j) (hk:j≤k):Gd m k:=⟨h.1,Nat.le_trans h.2.1 hk,h.2.2⟩
theorem jcC {m m':List Fld×Nat} {f:Fld} {k:Nat} (h:jbf m f=.ok m') (hg:Gd m k) (hf:Wr.FldIn f):Gd m' (k+1):=by
 unfold jbf at h
 split at h
 ·cases h
 ·cases h
  refine ⟨by simp only;omega,by simp only [List.length_append,List.length_singleton];have:=hg.2.1;omega,fun x hx=>?_⟩
  rcases List.mem_append.1 hx with h1 | h1
  ·exact hg.2.2 x h1
  ·rw [List.mem_singleton] at h1;rw [h1];exact hf
theorem jeM {m m':List Fld×Nat} {num:Int} {s:ByteArray} {k:Nat} (h:ja6 m num s=.ok m') (hg:Gd m k) (hn:0≤num∧num≤1000) (hs:s.size≤1000000000):Gd m' (k+1):=by
 unfold ja6 at h
 split at h
 ·cases h;exact hg.le (by omega)
 ·exact jcC h hg (jbM _ _ hn hs)
theorem jgV {m m':List Fld×Nat} {num x:Int} {k:Nat} (h:jdb m num x=.ok m') (hg:Gd m k) (hn:0≤num∧num≤1000):Gd m' (k+1):=by
 unfold jdb at h
 split at h
 ·cases h;exact hg.le (by omega)
 ·exact jcC h hg (jiV _ _ hn)
theorem joj {m m':List Fld×Nat} {num x:Int} {k:Nat} (h:jj7 m num x=.ok m') (hg:Gd m k) (hn:0≤num∧num≤1000):Gd m' (k+1):=by
 unfold jj7 at h
 split at h
 ·cases h;exact hg.le (by omega)
 ·exact jcC h hg (jiW _ _ hn)
theorem jnC {m m':List Fld×Nat} {num:Int} {l:List Int} {k:Nat} (h:nsM m num l=.ok m') (hg:Gd m k) (hn:0≤num∧num≤1000) (hl:l.length≤10000000):Gd m' (k+1):=by
 unfold nsM at h
 split at h
 ·cases h;exact hg.le (by omega)
 ·exact jcC h hg (jeo _ _ hn hl)
theorem jjA {a b f:Fld} (h:shP a b=.ok f) (ha:Wr.FldIn a) (hb:Wr.FldIn b):Wr.FldIn f:=by
 unfold shP at h;obtain ⟨s,-,h⟩:=jc1 h;obtain ⟨t,-,h⟩:=jc1 h
 cases h
 split
 ·exact ha
 ·exact hb
theorem jmn {ty:Int} {l:List Int} {f:Fld} (h:dfP ty l=.ok f) (hl:l.length≤10000000):Wr.FldIn f:=by
 have hr:Wr.FldIn (ja0 9 (jiU ty l)):=jbM _ _ (by decide) (by have:=jlc ty l hl;omega);unfold dfP at h
 split at h
 ·exact jjA h (jeo _ _ (by decide) hl) hr
 split at h
 ·exact jjA h (jeo _ _ (by decide) hl) hr
 split at h
 ·cases h;exact jiW _ _ (by decide)
 ·cases h;exact hr
theorem jcK (w:World):jda (w.alloc (.cells #[.slice none 0 0,.int .i64 0] 114)) w.heap.size w.heap.size [] 0:=⟨⟨none,0,0⟩,heap_alloc_new w _,Wr.OwnsL.nil ..,Nat.le_refl _⟩
theorem jep {l:List Fld} {s:ByteArray} (h:wrP l=.ok s):s.size≤16777216:=by
 unfold wrP at h
 split at h
 ·rename_i h0
  cases h
  unfold Wr.wrote at h0 ⊢
  split
  ·split
   ·rw [Wr.sof_size];assumption
   ·exact (by decide)
  ·exact (by decide)
 ·cases h
def jaH (name:ByteArray) (ty:Int) (ds dat:List Int):R ByteArray:=(nsM ([],0) 1 ds).bind fun m=>(jdb m 2 ty).bind fun m=>(dfP ty dat).bind fun f=>(jbf m f).bind fun m=>(ja6 m 8 name).bind fun m=>wrP m.1
theorem jd9 (name:ByteArray) (ty:Int) (d t:Value) (ds dat:List Int) (w:World) (hn:name.size≤1000000000) (hd:jaj w d ds) (ht:jaj w t dat) (hdl:ds.length≤10000000) (htl:dat.length≤10000000) :
    Calls Tryz.prog 101 #[.string name,.agg #[.int .i64 ty,d,t]] w (jbU w (jaH name ty ds dat) fun s v _=>v=.string s):=by
     obtain ⟨da,dc,rfl,-⟩:=jfa hd;obtain ⟨ta,tc,rfl,-⟩:=jfa ht;have HD:=jac hd;have HT:=jac ht;obtain ⟨wb,hwb⟩ : ∃ wb,wb=w.alloc (.cells #[.int .i64 ty,.slice da ds.length dc,.slice ta dat.length tc] 44):=⟨_,rfl⟩
     have GB:Hid (w.grownBy wb none):=by show w.grownBy wb none;rw [hwb];exact jab _ _
     have hb:wb.heap[w.heap.size]?=some (.cells #[.int .i64 ty,.slice da ds.length dc,.slice ta dat.length tc] 44 (0,0)):=by rw [hwb];exact heap_alloc_new w _
     have BX:Hid (∀ wx,wb.grownBy wx none→wx.heap[w.heap.size]?=some (.cells #[.int .i64 ty,.slice da ds.length dc,.slice ta dat.length tc] 44 (0,0))):=fun wx hg=>jag hb hg;have pm:=jcK wb;have g1:=jab wb (.cells #[.slice none 0 0,.int .i64 0] 114);obtain ⟨w1,hw1⟩ : ∃ w1,w1=wb.alloc (.cells #[.slice none 0 0,.int .i64 0] 114):=⟨_,rfl⟩
     have sB:wb.heap.size=w.heap.size+1:=by rw [hwb,jar]
     obtain ⟨B,hB⟩ : ∃ B,B=w.heap.size+1:=⟨_,rfl⟩
     obtain ⟨lo,hlo⟩ : ∃ lo,lo=B:=⟨_,rfl⟩
     rw [← hw1,sB,← hB] at pm;have PM:Hid (jda w1 lo B [] 0):=by show jda w1 lo B [] 0;rw [hlo];exact pm
     rw [← hw1] at g1;have G:=jac g1;have LO:Hid (wb.heap.size≤lo):=by show _≤_;omega
     have E:Hid (jaH name ty ds dat=(nsM (([]:List Fld),(0:Nat)) 1 ds).bind fun m=>(jdb m 2 ty).bind fun m=>(dfP ty dat).bind fun f=>(jbf m f).bind fun m=>(ja6 m 8 name).bind fun m=>wrP m.1):=rfl;obtain ⟨ll,hll⟩ : ∃ x:List Fld,x=[]:=⟨_,rfl⟩
     obtain ⟨sz,hsz⟩ : ∃ x:Nat,x=0:=⟨_,rfl⟩
     have GD:Hid (Gd (ll,sz) 0):=by rw [hll,hsz];exact Gd.nil
     rw [← hll,← hsz] at PM E;clear hll hsz hd ht hb pm g1 sB hlo;go_enter Tryz.func101,Tryz.ntmps101
     go_upto_region 2 with fail
     rw [← hwb,← hw1,← hB];clear hwb hw1 hB;obtain ⟨⟨x0,x1,x2⟩,-⟩:=jbn (BX.out w1 G.out);go_wp2_with fail;refine (jh8 (.slice da ds.length dc) ds w1 (HD.out.more (jaa GB.out G.out)) (by omega)).mono ?_;rintro e w1b ⟨hgf,⟨ua,un,uc⟩,rfl,hu⟩;have PM1:=jac (PM.out.more hgf);have IU:=jac hu;have G1:=jac (jaa G.out hgf);clear x0 x1 x2 hgf hu G;have G:=G1;clear G1;have C:=jac (jd8 lo B ll sz 1 (.slice ua un uc) ds w1b PM1.out (by have:=GD.out.1;exact this) (by have h:=GD.out.2.1;simp only at h;omega) IU.out.ints (by omega));go_wp2_with fail
     cases hp:nsM (ll,sz) 1 ds with
     | error c =>
      have E2:Hid (jaH name ty ds dat=.error c):=by show _=_;rw [E.out,hp];rfl
      rw [hp] at C;clear hp;refine C.out.mono ?_;rintro e w2 ⟨ha,rfl⟩;exact ⟨rfl,jad E2.out (jaa GB.out (Abv.grown G.out LO.out ha))⟩
     | ok m' =>
      obtain ⟨l2,s2⟩:=m';have E2:Hid (jaH name ty ds dat=(jdb (l2,s2) 2 ty).bind fun m=>(dfP ty dat).bind fun f=>(jbf m f).bind fun m=>(ja6 m 8 name).bind fun m=>wrP m.1):=by show _=_;rw [E.out,hp];rfl
      have GD2:=jac (jnC hp GD.out (by decide) (by omega));rw [hp] at C;clear hp;refine C.out.mono ?_;rintro e w2 ⟨ha,v,rfl,rfl,hq⟩;have PM2:=jac hq;have G2:=jac (Abv.grown G.out LO.out ha);clear ha hq C PM G E GD;obtain ⟨ll,hll⟩ : ∃ x,x=l2:=⟨_,rfl⟩
      obtain ⟨sz,hsz⟩ : ∃ x,x=s2:=⟨_,rfl⟩
      rw [← hll,← hsz] at PM2 E2 GD2;clear hll hsz l2 s2;have PM:=PM2;have G:=G2;have E:=E2;have GD:=GD2;clear PM2 G2 E2 GD2;obtain ⟨⟨x0,x1,x2⟩,-⟩:=jbn (BX.out w2 G.out);have C:=jac (jcF lo B ll sz 2 ty w2 PM.out GD.out.1 (by have h:=GD.out.2.1;simp only at h;omega));go_wp2_with fail
      cases hp:jdb (ll,sz) 2 ty with
      | error c =>
       have E2:Hid (jaH name ty ds dat=.error c):=by show _=_;rw [E.out,hp];rfl
       rw [hp] at C;clear hp;refine C.out.mono ?_;rintro e w3 ⟨ha,rfl⟩;exact ⟨rfl,jad E2.out (jaa GB.out (Abv.grown G.out LO.out ha))⟩
      | ok m' =>
       obtain ⟨l2,s2⟩:=m';have E2:Hid (jaH name ty ds dat=(dfP ty dat).bind fun f=>(jbf (l2,s2) f).bind fun m=>(ja6 m 8 name).bind fun m=>wrP m.1):=by show _=_;rw [E.out,hp];rfl
       have GD2:=jac (jgV hp GD.out (by decide));rw [hp] at C;clear hp;refine C.out.mono ?_;rintro e w3 ⟨ha,v,rfl,rfl,hq⟩;have PM2:=jac hq;have G2:=jac (Abv.grown G.out LO.out ha);clear ha hq C PM G E GD;obtain ⟨ll,hll⟩ : ∃ x,x=l2:=⟨_,rfl⟩
       obtain ⟨sz,hsz⟩ : ∃ x,x=s2:=⟨_,rfl⟩
       rw [← hll,← hsz] at PM2 E2 GD2;clear hll hsz l2 s2;have PM:=PM2;have G:=G2;have E:=E2;have GD:=GD2;clear PM2 G2 E2 GD2;clear x0 x1 x2;obtain ⟨⟨x0,x1,x2⟩,-⟩:=jbn (BX.out w3 G.out);go_wp2_with fail;have C0:=jac (jhx ty ⟨da,ds.length,dc⟩ (.slice ta dat.length tc) dat w3 (HT.out.more (jaa GB.out G.out)) (by omega))
       cases hf:dfP ty dat with
       | error c =>
        have E2:Hid (jaH name ty ds dat=.error c):=by show _=_;rw [E.out,hf];rfl
        rw [hf] at C0;clear hf;refine C0.out.mono ?_;rintro e wf ⟨hg,rfl⟩;exact ⟨rfl,jad E2.out (jaa GB.out (jaa G.out hg))⟩
       | ok f =>
        have E2:Hid (jaH name ty ds dat=(jbf (ll,sz) f).bind fun m=>(ja6 m 8 name).bind fun m=>wrP m.1):=by show _=_;rw [E.out,hf];rfl
        have FI:=jac (jmn hf (by omega));rw [hf] at C0;clear hf E;have E:=E2;clear E2;refine C0.out.mono ?_;rintro e wf ⟨hg,v,rfl,rfl⟩;have PM1:=jac (PM.out.more hg);have G1:=jac (jaa G.out hg);unfold jcH;simp only;clear hg C0 x0 x1 x2 PM G;have PM:=PM1;have G:=G1;clear PM1 G1;have C:=jac (jgn lo B ll sz f wf PM.out (by have:=FI.out.2.2.2.2.2.2;omega) GD.out.1 (by have h:=GD.out.2.1;simp only at h;omega));go_wp2_with fail
        cases hp:jbf (ll,sz) f with
        | error c =>
         have E2:Hid (jaH name ty ds dat=.error c):=by show _=_;rw [E.out,hp];rfl
         rw [hp] at C;clear hp;refine C.out.mono ?_;rintro e w4 ⟨ha,rfl⟩;exact ⟨rfl,jad E2.out (jaa GB.out (Abv.grown G.out LO.out ha))⟩
        | ok m' =>
         obtain ⟨l2,s2⟩:=m';have E2:Hid (jaH name ty ds dat=(ja6 (l2,s2) 8 name).bind fun m=>wrP m.1):=by show _=_;rw [E.out,hp];rfl
         have GD2:=jac (jcC hp GD.out FI.out);rw [hp] at C;clear hp;refine C.out.mono ?_;rintro e w4 ⟨ha,v,rfl,rfl,hq⟩;have PM2:=jac hq;have G2:=jac (Abv.grown G.out LO.out ha);clear ha hq C PM G E GD;obtain ⟨ll,hll⟩ : ∃ x,x=l2:=⟨_,rfl⟩
         obtain ⟨sz,hsz⟩ : ∃ x,x=s2:=⟨_,rfl⟩
         rw [← hll,← hsz] at PM2 E2 GD2;clear hll hsz l2 s2;have PM:=PM2;have G:=G2;have E:=E2;have GD:=GD2;clear PM2 G2 E2 GD2;have C:=jac (jc5 lo B ll sz 8 name w4 PM.out GD.out.1 (by have h:=GD.out.2.1;simp only at h;omega) (by omega));go_wp2_with fail
         cases hp:ja6 (ll,sz) 8 name with
         | error c =>
          have E2:Hid (jaH name ty ds dat=.error c):=by show _=_;rw [E.out,hp];rfl
          rw [hp] at C;clear hp;refine C.out.mono ?_;rintro e w5 ⟨ha,rfl⟩;exact ⟨rfl,jad E2.out (jaa GB.out (Abv.grown G.out LO.out ha))⟩
         | ok m' =>
          obtain ⟨l2,s2⟩:=m';have E2:Hid (jaH name ty ds dat=wrP (l2,s2).1):=by show _=_;rw [E.out,hp];rfl
          have GD2:=jac (jeM hp GD.out (by decide) (by omega));rw [hp] at C;clear hp;refine C.out.mono ?_;rintro e w5 ⟨ha,v,rfl,rfl,hq⟩;have PM2:=jac hq;have G2:=jac (Abv.grown G.out LO.out ha);clear ha hq C PM G E GD;obtain ⟨ll,hll⟩ : ∃ x,x=l2:=⟨_,rfl⟩
          obtain ⟨sz,hsz⟩ : ∃ x,x=s2:=⟨_,rfl⟩
          rw [← hll,← hsz] at PM2 E2 GD2;clear hll hsz l2 s2;have PM:=PM2;have G:=G2;have E:=E2;have GD:=GD2;clear PM2 G2 E2 GD2;have C:=jac (jbz lo B ll sz w5 PM.out (by have h:=GD.out.2.1;simp only at h;omega) GD.out.2.2);go_wp2_with fail
          cases hp:wrP ll with
          | error c =>
           have E2:Hid (jaH name ty ds dat=.error c):=by show _=_;rw [E.out,hp]
           rw [hp] at C;clear hp;refine C.out.mono ?_;rintro e wz ⟨hg,rfl⟩;exact ⟨rfl,jad E2.out (jaa GB.out (jaa G.out hg))⟩
          | ok s =>
           have E2:Hid (jaH name ty ds dat=.ok s):=by show _=_;rw [E.out,hp]
           rw [hp] at C;clear hp;refine C.out.mono ?_;rintro e wz ⟨hg,v,rfl,rfl⟩;have GZ:=jac (jaa GB.out (jaa G.out hg));clear hg;go_wp2;go_ret;exact jaI E2.out GZ.out rfl
end Go.Proofs.YtbgbpfbjeleooaaGreat.Pd
namespace Go.Proofs.YtbgbpfbjeleooaaGreat.Pd
open Go.RowKit
open Wr (Fld)
def jlM (m:List Fld×Nat) (k ty:Int) (ds dat:List Int):R (List Fld×Nat):=if k=4 then (jaH ⟨#[]⟩ ty ds dat).bind fun s=>jbf m (ja0 5 s) else .ok m
def jao (A:NAtr):R ByteArray:=(ja6 ([],0) 1 A.name).bind fun m=>(jj7 m 2 A.f).bind fun m=>(jdb m 3 A.i).bind fun m=>(ja6 m 4 A.s).bind fun m=>(jlM m A.kind A.ty A.dims A.data).bind fun m=>(nsM m 8 A.ints).bind fun m=>(jdb m 20 A.kind).bind fun m=>wrP m.1
def Sh (r:R ByteArray):Prop:=∀ s,r=.ok s→s.size≤16777216
theorem jld (m:List Fld):Sh (wrP m):=fun _ h=>jep h
theorem jba {α:Type} {r:R α} {f:α→R ByteArray} (h:∀ a,Sh (f a)):Sh (r.bind f):=fun s e=>by
 obtain ⟨a,-,e2⟩:=jc1 e;exact h a s e2
theorem jm1 (n:ByteArray) (ty:Int) (ds dat:List Int):Sh (jaH n ty ds dat):=jba fun _=>jba fun _=>jba fun _=>jba fun _=>jba fun _=>jld _
theorem jok (A:NAtr):Sh (jao A):=jba fun _=>jba fun _=>jba fun _=>jba fun _=>jba fun _=>jba fun _=>jba fun _=>jld _
theorem jhy (a:Atr) (c:Cont) (w:World) (ha:Has w a c) (hn:a.name.size≤1000000000) (hs:a.s.size≤1000000000) (hd:c.d.length≤10000000) (ht:c.t.length≤10000000) (hi:c.i.length≤10000000) :
    Calls Tryz.prog 123 #[jb8 a] w (jbU w (jao (jbC a c)) fun s v _=>v=.string s):=by
     have HA:=jac ha;unfold jb8;obtain ⟨wb,hwb⟩ : ∃ wb,wb=w.alloc (.cells #[.string a.name,.int .i64 a.kind,.int .i64 a.f,.int .i64 a.i,.string a.s,.int .i64 a.ty,.slice a.dv.a a.dv.n a.dv.c,.slice a.tv.a a.tv.n a.tv.c,.slice a.iv.a a.iv.n a.iv.c] 78):=⟨_,rfl⟩
     have GB:Hid (w.grownBy wb none):=by show w.grownBy wb none;rw [hwb];exact jab _ _
     have hb:wb.heap[w.heap.size]?=some (.cells #[.string a.name,.int .i64 a.kind,.int .i64 a.f,.int .i64 a.i,.string a.s,.int .i64 a.ty,.slice a.dv.a a.dv.n a.dv.c,.slice a.tv.a a.tv.n a.tv.c,.slice a.iv.a a.iv.n a.iv.c] 78 (0,0)):=by rw [hwb];exact heap_alloc_new w _
     have BX:Hid (∀ wx,wb.grownBy wx none→wx.heap[w.heap.size]?=some (.cells #[.string a.name,.int .i64 a.kind,.int .i64 a.f,.int .i64 a.i,.string a.s,.int .i64 a.ty,.slice a.dv.a a.dv.n a.dv.c,.slice a.tv.a a.tv.n a.tv.c,.slice a.iv.a a.iv.n a.iv.c] 78 (0,0))):=fun wx hg=>jag hb hg;have pm:=jcK wb;have g1:=jab wb (.cells #[.slice none 0 0,.int .i64 0] 114);obtain ⟨w1,hw1⟩ : ∃ w1,w1=wb.alloc (.cells #[.slice none 0 0,.int .i64 0] 114):=⟨_,rfl⟩
     have sB:wb.heap.size=w.heap.size+1:=by rw [hwb,jar]
     obtain ⟨B,hB⟩ : ∃ B,B=w.heap.size+1:=⟨_,rfl⟩
     obtain ⟨lo,hlo⟩ : ∃ lo,lo=B:=⟨_,rfl⟩
     rw [← hw1,sB,← hB] at pm;have PM:Hid (jda w1 lo B [] 0):=by show jda w1 lo B [] 0;rw [hlo];exact pm
     rw [← hw1] at g1;have G:=jac g1;have LO:Hid (wb.heap.size≤lo):=by show _≤_;omega
     have E:Hid (jao (jbC a c)=(ja6 (([]:List Fld),(0:Nat)) 1 a.name).bind fun m=>(jj7 m 2 a.f).bind fun m=>(jdb m 3 a.i).bind fun m=>(ja6 m 4 a.s).bind fun m=>(jlM m a.kind a.ty c.d c.t).bind fun m=>(nsM m 8 c.i).bind fun m=>(jdb m 20 a.kind).bind fun m=>wrP m.1):=rfl;obtain ⟨ll,hll⟩ : ∃ x:List Fld,x=[]:=⟨_,rfl⟩
     obtain ⟨sz,hsz⟩ : ∃ x:Nat,x=0:=⟨_,rfl⟩
     have GD:Hid (Gd (ll,sz) 0):=by rw [hll,hsz];exact Gd.nil
     rw [← hll,← hsz] at PM E;clear hll hsz hb pm g1 sB hlo ha;go_enter Tryz.func123,Tryz.ntmps123
     go_upto_region 2 with fail
     rw [← hwb,← hw1,← hB];clear hwb hw1 hB;obtain ⟨⟨x0,x1,x2,x3,x4,x5,x6,x7,x8⟩,-⟩:=jau (BX.out w1 G.out);have C:=jac (jc5 lo B ll sz 1 a.name w1 PM.out GD.out.1 (by have h:=GD.out.2.1;simp only at h;omega) (by omega));go_wp2_with fail
     cases hp:ja6 (ll,sz) 1 a.name with
     | error er =>
      have E2:Hid (jao (jbC a c)=.error er):=by show _=_;rw [E.out,hp];rfl
      rw [hp] at C;clear hp;refine C.out.mono ?_;rintro e w2 ⟨ha,rfl⟩;exact ⟨rfl,jad E2.out (jaa GB.out (Abv.grown G.out LO.out ha))⟩
     | ok m' =>
      obtain ⟨l2,s2⟩:=m';have E2:Hid (jao (jbC a c)=(jj7 (l2,s2) 2 a.f).bind fun m=>(jdb m 3 a.i).bind fun m=>(ja6 m 4 a.s).bind fun m=>(jlM m a.kind a.ty c.d c.t).bind fun m=>(nsM m 8 c.i).bind fun m=>(jdb m 20 a.kind).bind fun m=>wrP m.1):=by show _=_;rw [E.out,hp];rfl
      have GD2:=jac (jeM hp GD.out (by decide) (by omega));rw [hp] at C;clear hp;refine C.out.mono ?_;rintro e w2 ⟨ha,v,rfl,rfl,hq⟩;have PM2:=jac hq;have G2:=jac (Abv.grown G.out LO.out ha);clear ha hq C PM G E GD;obtain ⟨ll,hll⟩ : ∃ x,x=l2:=⟨_,rfl⟩
      obtain ⟨sz,hsz⟩ : ∃ x,x=s2:=⟨_,rfl⟩
      rw [← hll,← hsz] at PM2 E2 GD2;clear hll hsz l2 s2;have PM:=PM2;have G:=G2;have E:=E2;have GD:=GD2;clear PM2 G2 E2 GD2;clear x0 x1 x2 x3 x4 x5 x6 x7 x8;obtain ⟨⟨x0,x1,x2,x3,x4,x5,x6,x7,x8⟩,-⟩:=jau (BX.out w2 G.out);have C:=jac (jj8 lo B ll sz 2 a.f w2 PM.out GD.out.1 (by have h:=GD.out.2.1;simp only at h;omega));go_wp2_with fail
      cases hp:jj7 (ll,sz) 2 a.f with
      | error er =>
       have E2:Hid (jao (jbC a c)=.error er):=by show _=_;rw [E.out,hp];rfl
       rw [hp] at C;clear hp;refine C.out.mono ?_;rintro e w3 ⟨ha,rfl⟩;exact ⟨rfl,jad E2.out (jaa GB.out (Abv.grown G.out LO.out ha))⟩
      | ok m' =>
       obtain ⟨l2,s2⟩:=m';have E2:Hid (jao (jbC a c)=(jdb (l2,s2) 3 a.i).bind fun m=>(ja6 m 4 a.s).bind fun m=>(jlM m a.kind a.ty c.d c.t).bind fun m=>(nsM m 8 c.i).bind fun m=>(jdb m 20 a.kind).bind fun m=>wrP m.1):=by show _=_;rw [E.out,hp];rfl
       have GD2:=jac (joj hp GD.out (by decide));rw [hp] at C;clear hp;refine C.out.mono ?_;rintro e w3 ⟨ha,v,rfl,rfl,hq⟩;have PM2:=jac hq;have G2:=jac (Abv.grown G.out LO.out ha);clear ha hq C PM G E GD;obtain ⟨ll,hll⟩ : ∃ x,x=l2:=⟨_,rfl⟩
       obtain ⟨sz,hsz⟩ : ∃ x,x=s2:=⟨_,rfl⟩
       rw [← hll,← hsz] at PM2 E2 GD2;clear hll hsz l2 s2;have PM:=PM2;have G:=G2;have E:=E2;have GD:=GD2;clear PM2 G2 E2 GD2;clear x0 x1 x2 x3 x4 x5 x6 x7 x8;obtain ⟨⟨x0,x1,x2,x3,x4,x5,x6,x7,x8⟩,-⟩:=jau (BX.out w3 G.out);have C:=jac (jcF lo B ll sz 3 a.i w3 PM.out GD.out.1 (by have h:=GD.out.2.1;simp only at h;omega));go_wp2_with fail
       cases hp:jdb (ll,sz) 3 a.i with
       | error er =>
        have E2:Hid (jao (jbC a c)=.error er):=by show _=_;rw [E.out,hp];rfl
        rw [hp] at C;clear hp;refine C.out.mono ?_;rintro e w4 ⟨ha,rfl⟩;exact ⟨rfl,jad E2.out (jaa GB.out (Abv.grown G.out LO.out ha))⟩
       | ok m' =>
        obtain ⟨l2,s2⟩:=m';have E2:Hid (jao (jbC a c)=(ja6 (l2,s2) 4 a.s).bind fun m=>(jlM m a.kind a.ty c.d c.t).bind fun m=>(nsM m 8 c.i).bind fun m=>(jdb m 20 a.kind).bind fun m=>wrP m.1):=by show _=_;rw [E.out,hp];rfl
        have GD2:=jac (jgV hp GD.out (by decide));rw [hp] at C;clear hp;refine C.out.mono ?_;rintro e w4 ⟨ha,v,rfl,rfl,hq⟩;have PM2:=jac hq;have G2:=jac (Abv.grown G.out LO.out ha);clear ha hq C PM G E GD;obtain ⟨ll,hll⟩ : ∃ x,x=l2:=⟨_,rfl⟩
        obtain ⟨sz,hsz⟩ : ∃ x,x=s2:=⟨_,rfl⟩
        rw [← hll,← hsz] at PM2 E2 GD2;clear hll hsz l2 s2;have PM:=PM2;have G:=G2;have E:=E2;have GD:=GD2;clear PM2 G2 E2 GD2;clear x0 x1 x2 x3 x4 x5 x6 x7 x8;obtain ⟨⟨x0,x1,x2,x3,x4,x5,x6,x7,x8⟩,-⟩:=jau (BX.out w4 G.out);have C:=jac (jc5 lo B ll sz 4 a.s w4 PM.out GD.out.1 (by have h:=GD.out.2.1;simp only at h;omega) (by omega));go_wp2_with fail
        cases hp:ja6 (ll,sz) 4 a.s with
        | error er =>
         have E2:Hid (jao (jbC a c)=.error er):=by show _=_;rw [E.out,hp];rfl
         rw [hp] at C;clear hp;refine C.out.mono ?_;rintro e w5 ⟨ha,rfl⟩;exact ⟨rfl,jad E2.out (jaa GB.out (Abv.grown G.out LO.out ha))⟩
        | ok m' =>
         obtain ⟨l2,s2⟩:=m';have E2:Hid (jao (jbC a c)=(jlM (l2,s2) a.kind a.ty c.d c.t).bind fun m=>(nsM m 8 c.i).bind fun m=>(jdb m 20 a.kind).bind fun m=>wrP m.1):=by show _=_;rw [E.out,hp];rfl
         have GD2:=jac (jeM hp GD.out (by decide) (by omega));rw [hp] at C;clear hp;refine C.out.mono ?_;rintro e w5 ⟨ha,v,rfl,rfl,hq⟩;have PM2:=jac hq;have G2:=jac (Abv.grown G.out LO.out ha);clear ha hq C PM G E GD;obtain ⟨ll,hll⟩ : ∃ x,x=l2:=⟨_,rfl⟩
         obtain ⟨sz,hsz⟩ : ∃ x,x=s2:=⟨_,rfl⟩
         rw [← hll,← hsz] at PM2 E2 GD2;clear hll hsz l2 s2;have PM:=PM2;have G:=G2;have E:=E2;have GD:=GD2;clear PM2 G2 E2 GD2;clear x0 x1 x2 x3 x4 x5 x6 x7 x8
         by_cases hk:a.kind=4
         ·have E2:Hid (jao (jbC a c)=((jaH ⟨#[]⟩ a.ty c.d c.t).bind fun s=>jbf (ll,sz) (ja0 5 s)).bind fun m=>(nsM m 8 c.i).bind fun m=>(jdb m 20 a.kind).bind fun m=>wrP m.1):=by show _=_;rw [E.out];unfold jlM;rw [if_pos hk]
          have bk:(a.kind==4)=true:=by simp [hk]
          clear E hk;have E:=E2;clear E2;obtain ⟨⟨x0,x1,x2,x3,x4,x5,x6,x7,x8⟩,-⟩:=jau (BX.out w5 G.out);go_wp2_with fail;have C0:=jac (jd9 ⟨#[]⟩ a.ty (.slice a.dv.a a.dv.n a.dv.c) (.slice a.tv.a a.tv.n a.tv.c) c.d c.t w5 (by decide) (HA.out.d.more (jaa GB.out G.out)) (HA.out.t.more (jaa GB.out G.out)) (by omega) (by omega))
          cases hf:jaH ⟨#[]⟩ a.ty c.d c.t with
          | error er =>
           have E2:Hid (jao (jbC a c)=.error er):=by show _=_;rw [E.out,hf];rfl
           rw [hf] at C0;clear hf;refine C0.out.mono ?_;rintro e wf ⟨hg,rfl⟩;exact ⟨rfl,jad E2.out (jaa GB.out (jaa G.out hg))⟩
          | ok tx =>
           have E2:Hid (jao (jbC a c)=(jbf (ll,sz) (ja0 5 tx)).bind fun m=>(nsM m 8 c.i).bind fun m=>(jdb m 20 a.kind).bind fun m=>wrP m.1):=by show _=_;rw [E.out,hf];rfl
           have TS:=jac (jm1 _ _ _ _ _ hf);rw [hf] at C0;clear hf E;have E:=E2;clear E2;refine C0.out.mono ?_;rintro e wf ⟨hg,v,rfl,rfl⟩;have PM1:=jac (PM.out.more hg);have G1:=jac (jaa G.out hg);clear hg C0 PM G x0 x1 x2 x3 x4 x5 x6 x7 x8;have PM:=PM1;have G:=G1;clear PM1 G1;have C:=jac (jbs lo B ll sz 5 tx wf PM.out GD.out.1 (by have h:=GD.out.2.1;simp only at h;omega) (by have:=TS.out;omega));go_wp2_with fail
           cases hp:jbf (ll,sz) (ja0 5 tx) with
           | error er =>
            have E2:Hid (jao (jbC a c)=.error er):=by show _=_;rw [E.out,hp];rfl
            rw [hp] at C;clear hp;refine C.out.mono ?_;rintro e w6 ⟨ha,rfl⟩;exact ⟨rfl,jad E2.out (jaa GB.out (Abv.grown G.out LO.out ha))⟩
           | ok m' =>
            obtain ⟨l2,s2⟩:=m';have E2:Hid (jao (jbC a c)=(nsM (l2,s2) 8 c.i).bind fun m=>(jdb m 20 a.kind).bind fun m=>wrP m.1):=by show _=_;rw [E.out,hp];rfl
            have GD2:=jac (jcC hp GD.out (jbM _ _ (by decide) (by have:=TS.out;omega)));rw [hp] at C;clear hp;refine C.out.mono ?_;rintro e w6 ⟨ha,v,rfl,rfl,hq⟩;have PM2:=jac hq;have G2:=jac (Abv.grown G.out LO.out ha);clear ha hq C PM G E GD;obtain ⟨ll,hll⟩ : ∃ x,x=l2:=⟨_,rfl⟩
            obtain ⟨sz,hsz⟩ : ∃ x,x=s2:=⟨_,rfl⟩
            rw [← hll,← hsz] at PM2 E2 GD2;clear hll hsz l2 s2;have PM:=PM2;have G:=G2;have E:=E2;have GD:=GD2;clear PM2 G2 E2 GD2;obtain ⟨⟨x0,x1,x2,x3,x4,x5,x6,x7,x8⟩,-⟩:=jau (BX.out w6 G.out);have C:=jac (jd8 lo B ll sz 8 (.slice a.iv.a a.iv.n a.iv.c) c.i w6 PM.out GD.out.1 (by have h:=GD.out.2.1;simp only at h;omega) (HA.out.i.more (jaa GB.out G.out)) (by omega));go_wp2_with fail
            cases hp:nsM (ll,sz) 8 c.i with
            | error er =>
             have E2:Hid (jao (jbC a c)=.error er):=by show _=_;rw [E.out,hp];rfl
             rw [hp] at C;clear hp;refine C.out.mono ?_;rintro e w7 ⟨ha,rfl⟩;exact ⟨rfl,jad E2.out (jaa GB.out (Abv.grown G.out LO.out ha))⟩
            | ok m' =>
             obtain ⟨l2,s2⟩:=m';have E2:Hid (jao (jbC a c)=(jdb (l2,s2) 20 a.kind).bind fun m=>wrP m.1):=by show _=_;rw [E.out,hp];rfl
             have GD2:=jac (jnC hp GD.out (by decide) (by omega));rw [hp] at C;clear hp;refine C.out.mono ?_;rintro e w7 ⟨ha,v,rfl,rfl,hq⟩;have PM2:=jac hq;have G2:=jac (Abv.grown G.out LO.out ha);clear ha hq C PM G E GD;obtain ⟨ll,hll⟩ : ∃ x,x=l2:=⟨_,rfl⟩
             obtain ⟨sz,hsz⟩ : ∃ x,x=s2:=⟨_,rfl⟩
             rw [← hll,← hsz] at PM2 E2 GD2;clear hll hsz l2 s2;have PM:=PM2;have G:=G2;have E:=E2;have GD:=GD2;clear PM2 G2 E2 GD2;clear x0 x1 x2 x3 x4 x5 x6 x7 x8;obtain ⟨⟨x0,x1,x2,x3,x4,x5,x6,x7,x8⟩,-⟩:=jau (BX.out w7 G.out);have C:=jac (jcF lo B ll sz 20 a.kind w7 PM.out GD.out.1 (by have h:=GD.out.2.1;simp only at h;omega));go_wp2_with fail
             cases hp:jdb (ll,sz) 20 a.kind with
             | error er =>
              have E2:Hid (jao (jbC a c)=.error er):=by show _=_;rw [E.out,hp];rfl
              rw [hp] at C;clear hp;refine C.out.mono ?_;rintro e w8 ⟨ha,rfl⟩;exact ⟨rfl,jad E2.out (jaa GB.out (Abv.grown G.out LO.out ha))⟩
             | ok m' =>
              obtain ⟨l2,s2⟩:=m';have E2:Hid (jao (jbC a c)=wrP (l2,s2).1):=by show _=_;rw [E.out,hp];rfl
              have GD2:=jac (jgV hp GD.out (by decide));rw [hp] at C;clear hp;refine C.out.mono ?_;rintro e w8 ⟨ha,v,rfl,rfl,hq⟩;have PM2:=jac hq;have G2:=jac (Abv.grown G.out LO.out ha);clear ha hq C PM G E GD;obtain ⟨ll,hll⟩ : ∃ x,x=l2:=⟨_,rfl⟩
              obtain ⟨sz,hsz⟩ : ∃ x,x=s2:=⟨_,rfl⟩
              rw [← hll,← hsz] at PM2 E2 GD2;clear hll hsz l2 s2;have PM:=PM2;have G:=G2;have E:=E2;have GD:=GD2;clear PM2 G2 E2 GD2;clear x0 x1 x2 x3 x4 x5 x6 x7 x8;have C:=jac (jbz lo B ll sz w8 PM.out (by have h:=GD.out.2.1;simp only at h;omega) GD.out.2.2);go_wp2_with fail
              cases hp:wrP ll with
              | error er =>
               have E2:Hid (jao (jbC a c)=.error er):=by show _=_;rw [E.out,hp]
               rw [hp] at C;clear hp;refine C.out.mono ?_;rintro e wz ⟨hg,rfl⟩;exact ⟨rfl,jad E2.out (jaa GB.out (jaa G.out hg))⟩
              | ok s =>
               have E2:Hid (jao (jbC a c)=.ok s):=by show _=_;rw [E.out,hp]
               rw [hp] at C;clear hp;refine C.out.mono ?_;rintro e wz ⟨hg,v,rfl,rfl⟩;have GZ:=jac (jaa GB.out (jaa G.out hg));clear hg;go_wp2;go_ret;exact jaI E2.out GZ.out rfl
         ·have E2:Hid (jao (jbC a c)=(nsM (ll,sz) 8 c.i).bind fun m=>(jdb m 20 a.kind).bind fun m=>wrP m.1):=by show _=_;rw [E.out];unfold jlM;rw [if_neg hk];rfl
          have bk:(a.kind==4)=false:=by simpa using hk
          clear E hk;have E:=E2;clear E2;obtain ⟨⟨x0,x1,x2,x3,x4,x5,x6,x7,x8⟩,-⟩:=jau (BX.out w5 G.out);have C:=jac (jd8 lo B ll sz 8 (.slice a.iv.a a.iv.n a.iv.c) c.i w5 PM.out GD.out.1 (by have h:=GD.out.2.1;simp only at h;omega) (HA.out.i.more (jaa GB.out G.out)) (by omega));go_wp2_with fail
          cases hp:nsM (ll,sz) 8 c.i with
          | error er =>
           have E2:Hid (jao (jbC a c)=.error er):=by show _=_;rw [E.out,hp];rfl
           rw [hp] at C;clear hp;refine C.out.mono ?_;rintro e w6 ⟨ha,rfl⟩;exact ⟨rfl,jad E2.out (jaa GB.out (Abv.grown G.out LO.out ha))⟩
          | ok m' =>
           obtain ⟨l2,s2⟩:=m';have E2:Hid (jao (jbC a c)=(jdb (l2,s2) 20 a.kind).bind fun m=>wrP m.1):=by show _=_;rw [E.out,hp];rfl
           have GD2:=jac (jnC hp GD.out (by decide) (by omega));rw [hp] at C;clear hp;refine C.out.mono ?_;rintro e w6 ⟨ha,v,rfl,rfl,hq⟩;have PM2:=jac hq;have G2:=jac (Abv.grown G.out LO.out ha);clear ha hq C PM G E GD;obtain ⟨ll,hll⟩ : ∃ x,x=l2:=⟨_,rfl⟩
           obtain ⟨sz,hsz⟩ : ∃ x,x=s2:=⟨_,rfl⟩
           rw [← hll,← hsz] at PM2 E2 GD2;clear hll hsz l2 s2;have PM:=PM2;have G:=G2;have E:=E2;have GD:=GD2;clear PM2 G2 E2 GD2;clear x0 x1 x2 x3 x4 x5 x6 x7 x8;obtain ⟨⟨x0,x1,x2,x3,x4,x5,x6,x7,x8⟩,-⟩:=jau (BX.out w6 G.out);have C:=jac (jcF lo B ll sz 20 a.kind w6 PM.out GD.out.1 (by have h:=GD.out.2.1;simp only at h;omega));go_wp2_with fail
           cases hp:jdb (ll,sz) 20 a.kind with
           | error er =>
            have E2:Hid (jao (jbC a c)=.error er):=by show _=_;rw [E.out,hp];rfl
            rw [hp] at C;clear hp;refine C.out.mono ?_;rintro e w7 ⟨ha,rfl⟩;exact ⟨rfl,jad E2.out (jaa GB.out (Abv.grown G.out LO.out ha))⟩
           | ok m' =>
            obtain ⟨l2,s2⟩:=m';have E2:Hid (jao (jbC a c)=wrP (l2,s2).1):=by show _=_;rw [E.out,hp];rfl
            have GD2:=jac (jgV hp GD.out (by decide));rw [hp] at C;clear hp;refine C.out.mono ?_;rintro e w7 ⟨ha,v,rfl,rfl,hq⟩;have PM2:=jac hq;have G2:=jac (Abv.grown G.out LO.out ha);clear ha hq C PM G E GD;obtain ⟨ll,hll⟩ : ∃ x,x=l2:=⟨_,rfl⟩
            obtain ⟨sz,hsz⟩ : ∃ x,x=s2:=⟨_,rfl⟩
            rw [← hll,← hsz] at PM2 E2 GD2;clear hll hsz l2 s2;have PM:=PM2;have G:=G2;have E:=E2;have GD:=GD2;clear PM2 G2 E2 GD2;clear x0 x1 x2 x3 x4 x5 x6 x7 x8;have C:=jac (jbz lo B ll sz w7 PM.out (by have h:=GD.out.2.1;simp only at h;omega) GD.out.2.2);go_wp2_with fail
            cases hp:wrP ll with
            | error er =>
             have E2:Hid (jao (jbC a c)=.error er):=by show _=_;rw [E.out,hp]
             rw [hp] at C;clear hp;refine C.out.mono ?_;rintro e wz ⟨hg,rfl⟩;exact ⟨rfl,jad E2.out (jaa GB.out (jaa G.out hg))⟩
            | ok s =>
             have E2:Hid (jao (jbC a c)=.ok s):=by show _=_;rw [E.out,hp]
             rw [hp] at C;clear hp;refine C.out.mono ?_;rintro e wz ⟨hg,v,rfl,rfl⟩;have GZ:=jac (jaa GB.out (jaa G.out hg));clear hg;go_wp2;go_ret;exact jaI E2.out GZ.out rfl
end Go.Proofs.YtbgbpfbjeleooaaGreat.Pd
