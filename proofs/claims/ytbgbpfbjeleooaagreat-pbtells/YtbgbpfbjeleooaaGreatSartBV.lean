/- A part. -/
import Derived.Test.YtbgbpfbjeleooaaGreatSartBR
import Derived.Test.YtbgbpfbjeleooaaGreatSartBU
set_option maxHeartbeats 12800000
set_option maxRecDepth 100000
namespace Go.Proofs.YtbgbpfbjeleooaaGreat.Pd
open Go.RowKit
open Wr (Fld)
theorem jnI {w:World} {g:Gra} {ns:List (Nod×Ni)} {is os:List (Val×List Int)} {ts:List (Nam×List Int×List Int)} (hr:RdG w g ns is os ts) (hi:RI (jbK g ns is os ts)) :
    Calls Tryz.prog 14 #[jcM g] w (joh w (if jds g ns is os ts=true then jaF (jbK g ns is os ts) else .error 1)):=by
     by_cases h:jds g ns is os ts=true
     ·rw [if_pos h];exact jmo hr (jjB hr hi h)
     ·rw [if_neg h];have k:=jfs g ns is os ts w hr (fun k=>absurd k h);unfold jeH at k;rw [if_neg h] at k;exact k
def outS (r:R ByteArray):ByteArray×Int:=match r with
 | .ok s=>(s,0)
 | .error c=>(⟨#[]⟩,c)
theorem jnJ {w w':World} {r:R ByteArray} {e:Ending} (h:joh w r e w'):w.grownBy w' none∧e=.returned (.tuple #[.string (outS r).1,.int .i64 (outS r).2]):=by
 refine ⟨h.1,?_⟩;have k:=h.2
 cases r with
 | ok s=>exact k
 | error c=>exact k
theorem pbTells_walk (g:Gra) (ns:List (Nod×Ni)) (is os:List (Val×List Int)) (ts:List (Nam×List Int×List Int)) (w:World) (hr:RdG w g ns is os ts) (hi:∀ p∈ns,∀ a∈p.2.xs,R64 a.i) :
    Calls Tryz.prog 4 #[jcM g] w fun e w'=>e=.returned (.bool true)∧w.grownBy w' none:=by
     have LV:=jac jly;obtain ⟨gn,⟨g0,g1,g2⟩,⟨g3,g4,g5⟩,⟨g6,g7,g8⟩,⟨g9,g10,g11⟩⟩:=g;have hri:=rd_ri (g:=⟨gn,⟨g0,g1,g2⟩,⟨g3,g4,g5⟩,⟨g6,g7,g8⟩,⟨g9,g10,g11⟩⟩) (is:=is) (os:=os) (ts:=ts) hi;obtain ⟨GN,hGN⟩ : ∃ GN,GN=jbK ⟨gn,⟨g0,g1,g2⟩,⟨g3,g4,g5⟩,⟨g6,g7,g8⟩,⟨g9,g10,g11⟩⟩ ns is os ts:=⟨_,rfl⟩
     have EG:Hid (jbK ⟨gn,⟨g0,g1,g2⟩,⟨g3,g4,g5⟩,⟨g6,g7,g8⟩,⟨g9,g10,g11⟩⟩ ns is os ts=GN):=jac hGN.symm;rw [← hGN] at hri;have RI0:=jac hri;clear hri hi hGN;unfold jcM;simp only;obtain ⟨w0,hw0⟩ : ∃ y9,y9=w.alloc (.cells #[.string gn,.slice g0 g1 g2,.slice g3 g4 g5,.slice g6 g7 g8,.slice g9 g10 g11] 27):=⟨_,rfl⟩
     have G0:Hid (w.grownBy w0 none):=by show w.grownBy w0 none;rw [hw0];exact jab _ _
     have RD0:=jac (hr.more G0.out);have hb:w0.heap[w.heap.size]?=some (.cells #[.string gn,.slice g0 g1 g2,.slice g3 g4 g5,.slice g6 g7 g8,.slice g9 g10 g11] 27 (0,0)):=by rw [hw0];exact heap_alloc_new _ _
     have BG:=jac (fun wx (hg:w0.grownBy wx none)=>jaf hb hg);have CG:=jac (jgB ⟨gn,⟨g0,g1,g2⟩,⟨g3,g4,g5⟩,⟨g6,g7,g8⟩,⟨g9,g10,g11⟩⟩ (ns.map jgA) is os ts w0 RD0.out.inG);unfold jcM at CG;simp only at CG;obtain ⟨⟨x0,x1,x2,x3,x4⟩,-⟩:=jav hb;rw [hw0] at x0 x1 x2 x3 x4;clear hb hr;go_enter Tryz.func4,Tryz.ntmps4;go_wp2_with fail;rw [← hw0];clear hw0 x0 x1 x2 x3 x4;refine CG.out.mono ?_;clear CG;rintro e w1 ⟨⟨an,⟨a0,a1,a2⟩,⟨a3,a4,a5⟩,⟨a6,a7,a8⟩,⟨a9,a10,a11⟩⟩,ms,vi,vo,us,i0,i1,o0,o1,n0,n1,t0,t1,rfl,hc⟩;obtain ⟨rd1,eq1⟩:=jlv RD0.out hc;have G1:Hid (w0.grownBy w1 none):=jac hc.grown;have EA:Hid (jbK ⟨an,⟨a0,a1,a2⟩,⟨a3,a4,a5⟩,⟨a6,a7,a8⟩,⟨a9,a10,a11⟩⟩ ms vi vo us=GN):=by show _=_;rw [eq1];exact EG.out
     clear hc eq1;obtain ⟨wa,hwa⟩ : ∃ y9,y9=w1.alloc (.cells #[.string an,.slice a0 a1 a2,.slice a3 a4 a5,.slice a6 a7 a8,.slice a9 a10 a11] 27):=⟨_,rfl⟩
     have G2:Hid (w0.grownBy wa none):=by show w0.grownBy wa none;rw [hwa];exact jaa G1.out (jab _ _)
     have RA:Hid (RdG wa ⟨an,⟨a0,a1,a2⟩,⟨a3,a4,a5⟩,⟨a6,a7,a8⟩,⟨a9,a10,a11⟩⟩ ms vi vo us):=by show RdG _ _ _ _ _ _;rw [hwa];exact rd1.more (jab _ _)
     have hba:wa.heap[w1.heap.size]?=some (.cells #[.string an,.slice a0 a1 a2,.slice a3 a4 a5,.slice a6 a7 a8,.slice a9 a10 a11] 27 (0,0)):=by rw [hwa];exact heap_alloc_new _ _
     have BA:=jac (fun wx (hg:wa.grownBy wx none)=>jaf hba hg);have TS:=jac (jlu (RD0.out.more G2.out) RA.out (by rw [EG.out];exact RI0.out) (by rw [EA.out,EG.out]));have EN:=jac (jnI RA.out (by rw [EA.out];exact RI0.out));rw [EA.out,TS.out] at EN;have TG0:Hid (jds ⟨gn,⟨g0,g1,g2⟩,⟨g3,g4,g5⟩,⟨g6,g7,g8⟩,⟨g9,g10,g11⟩⟩ ns is os ts=true→TG GN):=jac fun h=>by have k:=jjB RD0.out (by rw [EG.out];exact RI0.out) h;rwa [EG.out] at k
     have TD:=jac (fun wx (hg:w0.grownBy wx none)=>jkc ⟨gn,⟨g0,g1,g2⟩,⟨g3,g4,g5⟩,⟨g6,g7,g8⟩,⟨g9,g10,g11⟩⟩ ns is os ts wx (RD0.out.more hg));unfold jcM at EN TD;simp only at EN TD;obtain ⟨bt,hbt⟩ : ∃ y9,y9=jds ⟨gn,⟨g0,g1,g2⟩,⟨g3,g4,g5⟩,⟨g6,g7,g8⟩,⟨g9,g10,g11⟩⟩ ns is os ts:=⟨_,rfl⟩
     rw [← hbt] at EN TD TG0;obtain ⟨⟨x0,x1,x2,x3,x4⟩,-⟩:=jav hba;rw [hwa] at x0 x1 x2 x3 x4;clear hba rd1 G1 TS hbt;simp only;go_wp2_with fail;rw [← hwa];clear hwa x0 x1 x2 x3 x4;obtain ⟨rz,hrz⟩ : ∃ y9,y9=(if bt=true then jaF GN else .error 1):=⟨_,rfl⟩
     rw [← hrz] at EN;have HZ:=jac hrz;clear hrz;have EN2:=jac (EN.out.mono fun e w' h=>jnJ h);obtain ⟨⟨so,eo⟩,hso⟩ : ∃ y9,y9=outS rz:=⟨_,rfl⟩
     rw [← hso] at EN2;simp only at EN2;have HSO:=jac hso;clear hso EN;refine EN2.out.mono ?_;clear EN2;rintro e w2 ⟨hg2,rfl⟩;have A2:=jac hg2;have G3:=jac (jaa G2.out hg2);clear hg2;obtain ⟨⟨x0,x1,x2,x3,x4⟩,-⟩:=jav (BG.out w2 G3.out);obtain ⟨⟨y0,y1,y2,y3,y4⟩,-⟩:=jav (BA.out w2 A2.out);have SA:=jac (jij ⟨an,⟨a0,a1,a2⟩,⟨a3,a4,a5⟩,⟨a6,a7,a8⟩,⟨a9,a10,a11⟩⟩ ⟨gn,⟨g0,g1,g2⟩,⟨g3,g4,g5⟩,⟨g6,g7,g8⟩,⟨g9,g10,g11⟩⟩ ms ns vi vo is os us ts w2 (RA.out.more A2.out) (RD0.out.more G3.out) GN EA.out EG.out);unfold jcM at SA;simp only at SA;clear RA A2 BA G2 EA;go_wp2_with (first | (go_at_call 12;refine SA.out.mono ?_;rintro e w3 ⟨rfl,hg3⟩;have G4:=jac (jaa G3.out hg3)) | (go_at_call 9;refine (LV.out _).mono ?_;rintro e w4 ⟨rfl,hg4⟩;have G5:=jac (jaa G4.out hg4);obtain ⟨⟨z0,z1,z2,z3,z4⟩,-⟩:=jav (BG.out w4 G5.out)) | fail);refine (TD.out w4 G5.out).mono ?_;clear TD SA;rintro e w5 ⟨rfl,hg5⟩;have G6:=jac (jaa G5.out hg5);clear hg5 G3 G4 G5 x0 x1 x2 x3 x4 y0 y1 y2 y3 y4 z0 z1 z2 z3 z4
     cases bt with
     | false =>
      obtain rfl:rz=.error 1:=HZ.out;obtain ⟨rfl,rfl⟩:=Prod.mk.inj HSO.out;clear HZ HSO TG0;go_wp2_with fail;go_ret;exact ⟨rfl,jaa G0.out G6.out⟩
     | true =>
      have T:=TG0.out rfl;obtain rfl:rz=jaF GN:=HZ.out;clear TG0 HZ;obtain ⟨rz,hrz⟩ : ∃ y9,y9=jaF GN:=⟨_,rfl⟩
      rw [← hrz] at HSO;have HW:=jac hrz;have TH:=jac T;clear hrz T
      cases rz with
      | error c =>
       obtain rfl:c=6:=jnH TH.out HW.out.symm;obtain ⟨rfl,rfl⟩:=Prod.mk.inj HSO.out;clear HSO HW TH;go_wp2_with fail;go_ret;exact ⟨rfl,jaa G0.out G6.out⟩
      | ok t =>
       obtain ⟨rfl,rfl⟩:=Prod.mk.inj HSO.out;have RB:Hid (jaO so=.ok GN):=jmC TH.out HW.out.symm;have TZ:Hid (so.size≤16777216):=jmE HW.out.symm;clear HSO HW;have DB:=jac (jdp so w5 (by have:=TZ.out;omega));rw [RB.out] at DB;clear RB TZ;go_wp2_with fail;refine DB.out.mono ?_;rintro e w6 ⟨hg6,v,rfl,⟨⟨bn,⟨b0,b1,b2⟩,⟨b3,b4,b5⟩,⟨b6,b7,b8⟩,⟨b9,b10,b11⟩⟩,bns,bis,bos,bts,lo,rfl,hG,hlo,hq⟩⟩;unfold jcM;simp only [Sl.v] at hq ⊢;have Lb:=jac (jow TH.out);rw [hG] at Lb;have RDb:=jac (hq.rd (g:=⟨bn,⟨b0,b1,b2⟩,⟨b3,b4,b5⟩,⟨b6,b7,b8⟩,⟨b9,b10,b11⟩⟩) (by have:=Lb.out.1;simp at this;omega) (by have:=Lb.out.2.1;simp at this;omega) (by have:=Lb.out.2.2.1;simp at this;omega) (by have:=Lb.out.2.2.2;simp at this;omega));have EB:Hid (jbK ⟨bn,⟨b0,b1,b2⟩,⟨b3,b4,b5⟩,⟨b6,b7,b8⟩,⟨b9,b10,b11⟩⟩ bns bis bos bts=GN):=by show _=_;exact hG.symm
       clear hq hG hlo Lb TH;have G7:=jac (jaa G6.out hg6);clear hg6 DB;obtain ⟨wb,hwb⟩ : ∃ y9,y9=w6.alloc (.cells #[.string bn,.slice b0 b1 b2,.slice b3 b4 b5,.slice b6 b7 b8,.slice b9 b10 b11] 27):=⟨_,rfl⟩
       have G8:Hid (w0.grownBy wb none):=by show w0.grownBy wb none;rw [hwb];exact jaa G7.out (jab _ _)
       have RDB:Hid (RdG wb ⟨bn,⟨b0,b1,b2⟩,⟨b3,b4,b5⟩,⟨b6,b7,b8⟩,⟨b9,b10,b11⟩⟩ bns bis bos bts):=by show RdG _ _ _ _ _ _;rw [hwb];exact RDb.out.more (jab _ _)
       have hbb:wb.heap[w6.heap.size]?=some (.cells #[.string bn,.slice b0 b1 b2,.slice b3 b4 b5,.slice b6 b7 b8,.slice b9 b10 b11] 27 (0,0)):=by rw [hwb];exact heap_alloc_new _ _
       have SB:=jac (jij ⟨bn,⟨b0,b1,b2⟩,⟨b3,b4,b5⟩,⟨b6,b7,b8⟩,⟨b9,b10,b11⟩⟩ ⟨gn,⟨g0,g1,g2⟩,⟨g3,g4,g5⟩,⟨g6,g7,g8⟩,⟨g9,g10,g11⟩⟩ bns ns bis bos is os bts ts wb RDB.out (RD0.out.more G8.out) GN EB.out EG.out);unfold jcM at SB;simp only at SB;obtain ⟨⟨x0,x1,x2,x3,x4⟩,-⟩:=jav (BG.out wb G8.out);obtain ⟨⟨y0,y1,y2,y3,y4⟩,-⟩:=jav hbb;rw [hwb] at x0 x1 x2 x3 x4 y0 y1 y2 y3 y4;clear hbb G7 RDb RDB EB;go_wp2_with fail;rw [← hwb];clear hwb x0 x1 x2 x3 x4 y0 y1 y2 y3 y4;refine SB.out.mono ?_;rintro e w7 ⟨rfl,hg7⟩;have G9:=jac (jaa G8.out hg7);clear hg7 SB;go_wp2_with fail;go_ret;exact ⟨rfl,jaa G0.out G9.out⟩
end Go.Proofs.YtbgbpfbjeleooaaGreat.Pd
