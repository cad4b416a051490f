/- A part. -/
import Derived.Test.YtbgbpfbjeleooaaGreatRartBJ
import Derived.Test.YtbgbpfbjeleooaaGreatRartAT
set_option maxHeartbeats 25600000
set_option maxRecDepth 100000
namespace Go.Proofs.YtbgbpfbjeleooaaGreat.Pd
open Go.RowKit
open Wr (Fld)
def jkb (T:NTen):R ByteArray:=jaH T.name T.ty T.dims T.data
def jdA (V:NVal):R ByteArray:=jan V.name V.ty V.dims
def jap (G:NGra):R ByteArray:=(jaS jaE 1 ([],0) G.nodes).bind fun m=>(ja6 m 2 G.name).bind fun m=>(jaS jkb 5 m G.inits).bind fun m=>(jaS jdA 11 m G.ins).bind fun m=>(jaS jdA 12 m G.outs).bind fun m=>wrP m.1
theorem jom (G:NGra):Sh (jap G):=jba fun _=>jba fun _=>jba fun _=>jba fun _=>jba fun _=>jld _
def jbi (g:Gra) (ns:List (Nod×Ni)) (is os:List (Val×List Int)) (ts:List (Nam×List Int×List Int)):NGra:=⟨g.name,ns.map jc8,is.map jbp,os.map jbp,ts.map jc2⟩
structure RdG (w:World) (g:Gra) (ns:List (Nod×Ni)) (is os:List (Val×List Int)) (ts:List (Nam×List Int×List Int)):Prop where
 nodes:jje w g.nv.v (ns.map (·.1))
 ins:jex w g.iv.v (is.map (·.1))
 outs:jex w g.ov.v (os.map (·.1))
 inits:jjd w g.tv.v (ts.map (·.1))
 node:∀ p∈ns,NodeIn0 w p.1 p.2.ins p.2.xs p.2.cs
 din:∀ p∈is,jiA w p.1 p.2
 dout:∀ p∈os,jiA w p.1 p.2
 dten:∀ p∈ts,jlW w p.1 p.2
theorem RdG.more {w w':World} {g:Gra} {ns:List (Nod×Ni)} {is os:List (Val×List Int)} {ts:List (Nam×List Int×List Int)} (h:RdG w g ns is os ts) (hg:w.grownBy w' none):RdG w' g ns is os ts :=
 ⟨h.nodes.more hg,h.ins.more hg,h.outs.more hg,h.inits.more hg,fun p hp=>NodeIn0.more (h.node p hp) hg,fun p hp=>jaj.more (h.din p hp) hg,fun p hp=>jaj.more (h.dout p hp) hg,fun p hp=>⟨jaj.more (h.dten p hp).1 hg,jaj.more (h.dten p hp).2 hg⟩⟩
structure SmallG (g:Gra) (ns:List (Nod×Ni)) (is os:List (Val×List Int)) (ts:List (Nam×List Int×List Int)):Prop where
 name:g.name.size≤1000000000
 nn:∀ p∈ns,SmallN p.1 p.2
 ii:∀ p∈is,p.1.name.size≤1000000000∧p.2.length≤10000000
 oo:∀ p∈os,p.1.name.size≤1000000000∧p.2.length≤10000000
 tt:∀ p∈ts,p.1.name.size≤1000000000∧p.2.1.length≤10000000∧p.2.2.length≤10000000
 ln:ns.length≤1000000
 li:is.length≤1000000
 lo:os.length≤1000000
 lt:ts.length≤1000000
theorem jf0 {α β:Type} (f:α→β) (l:List α) (k:Nat) (h:k<l.length):(l.map f).drop k=f l[k]::(l.map f).drop (k+1):=by
 have hl:k<(l.map f).length:=by rw [List.length_map];exact h
 rw [List.drop_eq_getElem_cons hl,List.getElem_map]
theorem jgE (g:Gra) (ns:List (Nod×Ni)) (is os:List (Val×List Int)) (ts:List (Nam×List Int×List Int)) (w:World) (hr:RdG w g ns is os ts) (hsm:SmallG g ns is os ts) :
    Calls Tryz.prog 71 #[jcM g] w (jbU w (jap (jbi g ns is os ts)) fun s v _=>v=.string s):=by
     obtain ⟨hn,hi,ho,ht,hN,hI,hO,hT⟩:=hr;obtain ⟨sg,sN,sI,sO,sT,ln,li,lo',lt⟩:=hsm;obtain ⟨na,nc,e1,-⟩:=hn.form;obtain ⟨ia,ic,e2,-⟩:=hi.form;obtain ⟨oa,oc,e3,-⟩:=ho.form;obtain ⟨ta,tc,e4,-⟩:=ht.form;have HN:=jac hn;have HI:=jac hi;have HO:=jac ho;have HT:=jac ht;unfold jcM;simp only [Sl.v,Value.slice.injEq,List.length_map] at e1 e2 e3 e4;obtain ⟨e1a,e1b,e1c⟩:=e1;obtain ⟨e2a,e2b,e2c⟩:=e2;obtain ⟨e3a,e3b,e3c⟩:=e3;obtain ⟨e4a,e4b,e4c⟩:=e4;simp only [Sl.v] at HN HI HO HT;rw [e1a,e1b,e1c] at HN ⊢;rw [e2a,e2b,e2c] at HI ⊢;rw [e3a,e3b,e3c] at HO ⊢;rw [e4a,e4b,e4c] at HT ⊢;clear e1a e1b e1c e2a e2b e2c e3a e3b e3c e4a e4b e4c hn hi ho ht;obtain ⟨wb,hwb⟩ : ∃ wb,wb=w.alloc (.cells #[.string g.name,.slice na ns.length nc,.slice ia is.length ic,.slice oa os.length oc,.slice ta ts.length tc] 27):=⟨_,rfl⟩
     have GB:Hid (w.grownBy wb none):=by show w.grownBy wb none;rw [hwb];exact jab _ _
     have hb:wb.heap[w.heap.size]?=some (.cells #[.string g.name,.slice na ns.length nc,.slice ia is.length ic,.slice oa os.length oc,.slice ta ts.length tc] 27 (0,0)):=by rw [hwb];exact heap_alloc_new w _
     have BX:Hid (∀ wx,wb.grownBy wx none→wx.heap[w.heap.size]?=some (.cells #[.string g.name,.slice na ns.length nc,.slice ia is.length ic,.slice oa os.length oc,.slice ta ts.length tc] 27 (0,0))):=fun wx hg=>jag hb hg;have pm:=jcK wb;have g1:=jab wb (.cells #[.slice none 0 0,.int .i64 0] 114);obtain ⟨w1,hw1⟩ : ∃ w1,w1=wb.alloc (.cells #[.slice none 0 0,.int .i64 0] 114):=⟨_,rfl⟩
     have sB:wb.heap.size=w.heap.size+1:=by rw [hwb,jar]
     obtain ⟨B,hB⟩ : ∃ B,B=w.heap.size+1:=⟨_,rfl⟩
     obtain ⟨lo,hlo⟩ : ∃ lo,lo=B:=⟨_,rfl⟩
     rw [← hw1,sB,← hB] at pm;have PM:Hid (jda w1 lo B [] 0):=by show jda w1 lo B [] 0;rw [hlo];exact pm
     rw [← hw1] at g1;have G:=jac g1;have LO:Hid (wb.heap.size≤lo):=by show _≤_;omega
     obtain ⟨ll,hll⟩ : ∃ x:List Fld,x=[]:=⟨_,rfl⟩
     obtain ⟨sz,hsz⟩ : ∃ x:Nat,x=0:=⟨_,rfl⟩
     have GD:Hid (Gd (ll,sz) 0):=by rw [hll,hsz];exact Gd.nil
     rw [← hll,← hsz] at PM;have E:Hid (jap (jbi g ns is os ts)=(jaS jaE 1 (ll,sz) (ns.map jc8)).bind fun m=>(ja6 m 2 g.name).bind fun m=>(jaS jkb 5 m (ts.map jc2)).bind fun m=>(jaS jdA 11 m (is.map jbp)).bind fun m=>(jaS jdA 12 m (os.map jbp)).bind fun m=>wrP m.1):=by show _=_;rw [hll,hsz];rfl
     clear hll hsz hb pm g1 sB hlo;go_enter Tryz.func71,Tryz.ntmps71
     go_upto_region 2 with fail
     rw [← hwb,← hw1,← hB];clear hwb hw1 hB;obtain ⟨⟨x0,x1,x2,x3,x4⟩,-⟩:=jam (BX.out w1 G.out);go_wp2;clear x0 x1 x2 x3 x4;go_loopg [15] ns.length (fun gh iv wr=>∃ (k:Nat) (ll:List Fld) (sz:Nat),gh=ns.length - k∧k≤ns.length∧iv=.int .i64 k∧jda wr lo B ll sz∧wb.grownBy wr none∧jap (jbi g ns is os ts)=((jaS jaE 1 (ll,sz) ((ns.map jc8).drop k)).bind fun m=>(ja6 m 2 g.name).bind fun m=>(jaS jkb 5 m (ts.map jc2)).bind fun m=>(jaS jdA 11 m (is.map jbp)).bind fun m=>(jaS jdA 12 m (os.map jbp)).bind fun m=>wrP m.1)∧Gd (ll,sz) (0+k))
     case atStart=>exact ⟨0,ll,sz,rfl,Nat.zero_le _,rfl,PM.out,G.out,by rw [List.drop_zero];exact E.out,GD.out.le (by omega)⟩
     case round =>
      clear PM G E GD;obtain ⟨k,ll,sz,rfl,hk,rfl,hpm,hg,he,hgd⟩:=hrel;have PM:=jac hpm;have G:=jac hg;have E:=jac he;have GD:=jac hgd;clear hpm hg he hgd
      by_cases hlt:k<ns.length
      ·skip
       obtain ⟨xb,xo,rfl⟩:=(HN.out.more (jaa GB.out G.out)).addr (k:=k) (by rw [List.length_map];exact hlt);have NC:=IsL.nod (HN.out.more (jaa GB.out G.out)) k (by rw [List.length_map];exact hlt);simp only [List.getElem_map] at NC;obtain ⟨e0,e1,e2,e3,e4⟩:=NC;have hx0:=hN ns[k] (List.getElem_mem hlt);have sx0:=sN ns[k] (List.getElem_mem hlt);have DS:=jf0 jc8 ns k hlt;obtain ⟨p,hp⟩ : ∃ p,p=ns[k]:=⟨_,rfl⟩
       rw [← hp] at e0 e1 e2 e3 e4 hx0 sx0 DS;obtain ⟨x,cx⟩:=p;simp only at e0 e1 e2 e3 e4 hx0 sx0;have HX:=jac (NodeIn0.more hx0 (jaa GB.out G.out));have SX:=jac sx0;clear hp hx0 sx0;have E1:Hid (jap (jbi g ns is os ts)=((jaE (jdO x cx)).bind fun s=>(jbf (ll,sz) (ja0 1 s)).bind fun m=>jaS jaE 1 m ((ns.map jc8).drop (k+1))).bind fun m=>(ja6 m 2 g.name).bind fun m=>(jaS jkb 5 m (ts.map jc2)).bind fun m=>(jaS jdA 11 m (is.map jbp)).bind fun m=>(jaS jdA 12 m (os.map jbp)).bind fun m=>wrP m.1):=by show _=_;rw [E.out,DS];rfl
       have gd:=jab wr (.cells #[.string x.op,.string x.name,.slice x.iv.a x.iv.n x.iv.c,.string x.out,.slice x.av.a x.av.n x.av.c] 35);obtain ⟨⟨y0,y1,y2,y3,y4⟩,-⟩:=jam (heap_alloc_new wr (.cells #[.string x.op,.string x.name,.slice x.iv.a x.iv.n x.iv.c,.string x.out,.slice x.av.a x.av.n x.av.c] 35));clear DS E;have E:=E1;clear E1;go_wp2_with fail;obtain ⟨wn,hwn⟩ : ∃ y9,y9=wr.alloc (.cells #[.string x.op,.string x.name,.slice x.iv.a x.iv.n x.iv.c,.string x.out,.slice x.av.a x.av.n x.av.c] 35):=⟨_,rfl⟩
       rw [← hwn] at gd ⊢;have gd2:=jac gd;have PM1:=jac (PM.out.more gd);have G1:=jac (jaa G.out gd);clear hwn gd PM G e0 e1 e2 e3 e4 y0 y1 y2 y3 y4;have PM:=PM1;have G:=G1;clear PM1 G1;have C0:=jac (jhz x cx wn (NodeIn0.more HX.out gd2.out) SX.out)
       cases hf:jaE (jdO x cx) with
       | error er =>
        have E2:Hid (jap (jbi g ns is os ts)=.error er):=by show _=_;rw [E.out,hf];rfl
        rw [hf] at C0;clear hf;refine C0.out.mono ?_;rintro e wf ⟨hg,rfl⟩;exact ⟨rfl,jad E2.out (jaa GB.out (jaa G.out hg))⟩
       | ok tx =>
        have E2:Hid (jap (jbi g ns is os ts)=((jbf (ll,sz) (ja0 1 tx)).bind fun m=>jaS jaE 1 m ((ns.map jc8).drop (k+1))).bind fun m=>(ja6 m 2 g.name).bind fun m=>(jaS jkb 5 m (ts.map jc2)).bind fun m=>(jaS jdA 11 m (is.map jbp)).bind fun m=>(jaS jdA 12 m (os.map jbp)).bind fun m=>wrP m.1):=by show _=_;rw [E.out,hf];rfl
        have TS:=jac (jol _ _ hf);rw [hf] at C0;clear hf E;have E:=E2;clear E2;refine C0.out.mono ?_;rintro e wf ⟨hg,v,rfl,rfl⟩;have PM1:=jac (PM.out.more hg);have G1:=jac (jaa G.out hg);clear hg C0 PM G;have PM:=PM1;have G:=G1;clear PM1 G1;have C:=jac (jbs lo B ll sz 1 tx wf PM.out GD.out.1 (by have h:=GD.out.2.1;simp only at h;omega) (by have:=TS.out;omega));go_wp2_with fail
        cases hp:jbf (ll,sz) (ja0 1 tx) with
        | error er =>
         have E2:Hid (jap (jbi g ns is os ts)=.error er):=by show _=_;rw [E.out,hp];rfl
         rw [hp] at C;clear hp;refine C.out.mono ?_;rintro e w4 ⟨ha,rfl⟩;exact ⟨rfl,jad E2.out (jaa GB.out (Abv.grown G.out LO.out ha))⟩
        | ok m' =>
         obtain ⟨l2,s2⟩:=m';have E2:Hid (jap (jbi g ns is os ts)=(jaS jaE 1 (l2,s2) ((ns.map jc8).drop (k+1))).bind fun m=>(ja6 m 2 g.name).bind fun m=>(jaS jkb 5 m (ts.map jc2)).bind fun m=>(jaS jdA 11 m (is.map jbp)).bind fun m=>(jaS jdA 12 m (os.map jbp)).bind fun m=>wrP m.1):=by show _=_;rw [E.out,hp];rfl
         have GD2:=jac (jcC hp GD.out (jbM _ _ (by decide) (by have:=TS.out;omega)));rw [hp] at C;clear hp;refine C.out.mono ?_;rintro e w4 ⟨ha,v,rfl,rfl,hq⟩;have PM2:=jac hq;have G2:=jac (Abv.grown G.out LO.out ha);clear ha hq C PM G E GD;obtain ⟨ll,hll⟩ : ∃ x,x=l2:=⟨_,rfl⟩
         obtain ⟨sz,hsz⟩ : ∃ x,x=s2:=⟨_,rfl⟩
         rw [← hll,← hsz] at PM2 E2 GD2;clear hll hsz l2 s2;have PM:=PM2;have G:=G2;have E:=E2;have GD:=GD2;clear PM2 G2 E2 GD2;go_wp2_with fail;go_roundg (ns.length - (k+1))
         case measure=>omega
         case rel=>exact ⟨k+1,ll,sz,rfl,by omega,by go_num,PM.out,G.out,E.out,GD.out⟩
      ·obtain hkN:k=ns.length:=by omega
       have E2:Hid (jap (jbi g ns is os ts)=(ja6 (ll,sz) 2 g.name).bind fun m=>(jaS jkb 5 m (ts.map jc2)).bind fun m=>(jaS jdA 11 m (is.map jbp)).bind fun m=>(jaS jdA 12 m (os.map jbp)).bind fun m=>wrP m.1):=by show _=_;rw [E.out,List.drop_eq_nil_of_le (by have:=hkN;simp only [List.length_map];omega)];rfl
       clear E;subst hkN;have E:=E2;clear E2;obtain ⟨⟨x0,x1,x2,x3,x4⟩,-⟩:=jam (BX.out wr G.out);have C:=jac (jc5 lo B ll sz 2 g.name wr PM.out GD.out.1 (by have h:=GD.out.2.1;simp only at h;omega) (by omega));go_wp2_with fail
       cases hp:ja6 (ll,sz) 2 g.name with
       | error er =>
        have E2:Hid (jap (jbi g ns is os ts)=.error er):=by show _=_;rw [E.out,hp];rfl
        rw [hp] at C;clear hp;refine C.out.mono ?_;rintro e w11 ⟨ha,rfl⟩;exact ⟨rfl,jad E2.out (jaa GB.out (Abv.grown G.out LO.out ha))⟩
       | ok m' =>
        obtain ⟨l2,s2⟩:=m';have E2:Hid (jap (jbi g ns is os ts)=(jaS jkb 5 (l2,s2) (ts.map jc2)).bind fun m=>(jaS jdA 11 m (is.map jbp)).bind fun m=>(jaS jdA 12 m (os.map jbp)).bind fun m=>wrP m.1):=by show _=_;rw [E.out,hp];rfl
        have GD2:=jac (jeM hp GD.out (by decide) (by omega));rw [hp] at C;clear hp;refine C.out.mono ?_;rintro e w11 ⟨ha,v,rfl,rfl,hq⟩;have PM2:=jac hq;have G2:=jac (Abv.grown G.out LO.out ha);clear ha hq C PM G E GD;obtain ⟨ll,hll⟩ : ∃ x,x=l2:=⟨_,rfl⟩
        obtain ⟨sz,hsz⟩ : ∃ x,x=s2:=⟨_,rfl⟩
        rw [← hll,← hsz] at PM2 E2 GD2;clear hll hsz l2 s2;have PM:=PM2;have G:=G2;have E:=E2;have GD:=GD2;clear PM2 G2 E2 GD2;clear x0 x1 x2 x3 x4;obtain ⟨⟨x0,x1,x2,x3,x4⟩,-⟩:=jam (BX.out w11 G.out);go_wp2;clear x0 x1 x2 x3 x4;go_loopg [29] ts.length (fun gh iv wr=>∃ (k:Nat) (ll:List Fld) (sz:Nat),gh=ts.length - k∧k≤ts.length∧iv=.int .i64 k∧jda wr lo B ll sz∧wb.grownBy wr none∧jap (jbi g ns is os ts)=((jaS jkb 5 (ll,sz) ((ts.map jc2).drop k)).bind fun m=>(jaS jdA 11 m (is.map jbp)).bind fun m=>(jaS jdA 12 m (os.map jbp)).bind fun m=>wrP m.1)∧Gd (ll,sz) (2000000+k))
        case atStart=>exact ⟨0,ll,sz,rfl,Nat.zero_le _,rfl,PM.out,G.out,by rw [List.drop_zero];exact E.out,GD.out.le (by omega)⟩
        case round =>
         clear PM G E GD;obtain ⟨k,ll,sz,rfl,hk,rfl,hpm,hg,he,hgd⟩:=hrel;have PM:=jac hpm;have G:=jac hg;have E:=jac he;have GD:=jac hgd;clear hpm hg he hgd
         by_cases hlt:k<ts.length
         ·skip
          obtain ⟨xb,xo,rfl⟩:=(HT.out.more (jaa GB.out G.out)).addr (k:=k) (by rw [List.length_map];exact hlt);have NC:=IsL.nam (HT.out.more (jaa GB.out G.out)) k (by rw [List.length_map];exact hlt);simp only [List.getElem_map] at NC;obtain ⟨e0,e1,e2,e3⟩:=NC;have hx0:=hT ts[k] (List.getElem_mem hlt);have sx0:=sT ts[k] (List.getElem_mem hlt);have DS:=jf0 jc2 ts k hlt;obtain ⟨p,hp⟩ : ∃ p,p=ts[k]:=⟨_,rfl⟩
          rw [← hp] at e0 e1 e2 e3 hx0 sx0 DS;obtain ⟨x,cx⟩:=p;simp only at e0 e1 e2 e3 hx0 sx0;have HX:=jac (And.intro (jaj.more hx0.1 (jaa GB.out G.out)) (jaj.more hx0.2 (jaa GB.out G.out)));have SX:=jac sx0;clear hp hx0 sx0;have E1:Hid (jap (jbi g ns is os ts)=((jaH x.name x.ty cx.1 cx.2).bind fun s=>(jbf (ll,sz) (ja0 5 s)).bind fun m=>jaS jkb 5 m ((ts.map jc2).drop (k+1))).bind fun m=>(jaS jdA 11 m (is.map jbp)).bind fun m=>(jaS jdA 12 m (os.map jbp)).bind fun m=>wrP m.1):=by show _=_;rw [E.out,DS];rfl
          have gd:=jab wr (.cells #[.string x.name,.int .i64 x.ty,.slice x.dv.a x.dv.n x.dv.c,.slice x.tv.a x.tv.n x.tv.c] 67);obtain ⟨⟨y0,y1,y2,y3⟩,-⟩:=jaZ (heap_alloc_new wr (.cells #[.string x.name,.int .i64 x.ty,.slice x.dv.a x.dv.n x.dv.c,.slice x.tv.a x.tv.n x.tv.c] 67));clear DS E;have E:=E1;clear E1;go_wp2_with fail;obtain ⟨wn,hwn⟩ : ∃ y9,y9=wr.alloc (.cells #[.string x.name,.int .i64 x.ty,.slice x.dv.a x.dv.n x.dv.c,.slice x.tv.a x.tv.n x.tv.c] 67):=⟨_,rfl⟩
          rw [← hwn] at gd ⊢;have gd2:=jac gd;have PM1:=jac (PM.out.more gd);have G1:=jac (jaa G.out gd);clear hwn gd PM G e0 e1 e2 e3 y0 y1 y2 y3;have PM:=PM1;have G:=G1;clear PM1 G1;have C0:=jac (jd9 x.name x.ty (.slice x.dv.a x.dv.n x.dv.c) (.slice x.tv.a x.tv.n x.tv.c) cx.1 cx.2 wn SX.out.1 (jaj.more HX.out.1 gd2.out) (jaj.more HX.out.2 gd2.out) SX.out.2.1 SX.out.2.2)
          cases hf:jaH x.name x.ty cx.1 cx.2 with
          | error er =>
           have E2:Hid (jap (jbi g ns is os ts)=.error er):=by show _=_;rw [E.out,hf];rfl
           rw [hf] at C0;clear hf;refine C0.out.mono ?_;rintro e wf ⟨hg,rfl⟩;exact ⟨rfl,jad E2.out (jaa GB.out (jaa G.out hg))⟩
          | ok tx =>
           have E2:Hid (jap (jbi g ns is os ts)=((jbf (ll,sz) (ja0 5 tx)).bind fun m=>jaS jkb 5 m ((ts.map jc2).drop (k+1))).bind fun m=>(jaS jdA 11 m (is.map jbp)).bind fun m=>(jaS jdA 12 m (os.map jbp)).bind fun m=>wrP m.1):=by show _=_;rw [E.out,hf];rfl
           have TS:=jac (jm1 _ _ _ _ _ hf);rw [hf] at C0;clear hf E;have E:=E2;clear E2;refine C0.out.mono ?_;rintro e wf ⟨hg,v,rfl,rfl⟩;have PM1:=jac (PM.out.more hg);have G1:=jac (jaa G.out hg);clear hg C0 PM G;have PM:=PM1;have G:=G1;clear PM1 G1;have C:=jac (jbs lo B ll sz 5 tx wf PM.out GD.out.1 (by have h:=GD.out.2.1;simp only at h;omega) (by have:=TS.out;omega));go_wp2_with fail
           cases hp:jbf (ll,sz) (ja0 5 tx) with
           | error er =>
            have E2:Hid (jap (jbi g ns is os ts)=.error er):=by show _=_;rw [E.out,hp];rfl
            rw [hp] at C;clear hp;refine C.out.mono ?_;rintro e w4 ⟨ha,rfl⟩;exact ⟨rfl,jad E2.out (jaa GB.out (Abv.grown G.out LO.out ha))⟩
           | ok m' =>
            obtain ⟨l2,s2⟩:=m';have E2:Hid (jap (jbi g ns is os ts)=(jaS jkb 5 (l2,s2) ((ts.map jc2).drop (k+1))).bind fun m=>(jaS jdA 11 m (is.map jbp)).bind fun m=>(jaS jdA 12 m (os.map jbp)).bind fun m=>wrP m.1):=by show _=_;rw [E.out,hp];rfl
            have GD2:=jac (jcC hp GD.out (jbM _ _ (by decide) (by have:=TS.out;omega)));rw [hp] at C;clear hp;refine C.out.mono ?_;rintro e w4 ⟨ha,v,rfl,rfl,hq⟩;have PM2:=jac hq;have G2:=jac (Abv.grown G.out LO.out ha);clear ha hq C PM G E GD;obtain ⟨ll,hll⟩ : ∃ x,x=l2:=⟨_,rfl⟩
            obtain ⟨sz,hsz⟩ : ∃ x,x=s2:=⟨_,rfl⟩
            rw [← hll,← hsz] at PM2 E2 GD2;clear hll hsz l2 s2;have PM:=PM2;have G:=G2;have E:=E2;have GD:=GD2;clear PM2 G2 E2 GD2;go_wp2_with fail;go_roundg (ts.length - (k+1))
            case measure=>omega
            case rel=>exact ⟨k+1,ll,sz,rfl,by omega,by go_num,PM.out,G.out,E.out,GD.out⟩
         ·obtain hkN:k=ts.length:=by omega
          have E2:Hid (jap (jbi g ns is os ts)=(jaS jdA 11 (ll,sz) (is.map jbp)).bind fun m=>(jaS jdA 12 m (os.map jbp)).bind fun m=>wrP m.1):=by show _=_;rw [E.out,List.drop_eq_nil_of_le (by have:=hkN;simp only [List.length_map];omega)];rfl
          clear E;subst hkN;have E:=E2;clear E2;obtain ⟨⟨x0,x1,x2,x3,x4⟩,-⟩:=jam (BX.out wr G.out);go_wp2;clear x0 x1 x2 x3 x4;go_loopg [43] is.length (fun gh iv wr=>∃ (k:Nat) (ll:List Fld) (sz:Nat),gh=is.length - k∧k≤is.length∧iv=.int .i64 k∧jda wr lo B ll sz∧wb.grownBy wr none∧jap (jbi g ns is os ts)=((jaS jdA 11 (ll,sz) ((is.map jbp).drop k)).bind fun m=>(jaS jdA 12 m (os.map jbp)).bind fun m=>wrP m.1)∧Gd (ll,sz) (4000000+k))
          case atStart=>exact ⟨0,ll,sz,rfl,Nat.zero_le _,rfl,PM.out,G.out,by rw [List.drop_zero];exact E.out,GD.out.le (by omega)⟩
          case round =>
           clear PM G E GD;obtain ⟨k,ll,sz,rfl,hk,rfl,hpm,hg,he,hgd⟩:=hrel;have PM:=jac hpm;have G:=jac hg;have E:=jac he;have GD:=jac hgd;clear hpm hg he hgd
           by_cases hlt:k<is.length
           ·skip
            obtain ⟨xb,xo,rfl⟩:=(HI.out.more (jaa GB.out G.out)).addr (k:=k) (by rw [List.length_map];exact hlt);have NC:=IsL.val (HI.out.more (jaa GB.out G.out)) k (by rw [List.length_map];exact hlt);simp only [List.getElem_map] at NC;obtain ⟨e0,e1,e2⟩:=NC;have hx0:=hI is[k] (List.getElem_mem hlt);have sx0:=sI is[k] (List.getElem_mem hlt);have DS:=jf0 jbp is k hlt;obtain ⟨p,hp⟩ : ∃ p,p=is[k]:=⟨_,rfl⟩
            rw [← hp] at e0 e1 e2 hx0 sx0 DS;obtain ⟨x,cx⟩:=p;simp only at e0 e1 e2 hx0 sx0;have HX:=jac (jaj.more hx0 (jaa GB.out G.out));have SX:=jac sx0;clear hp hx0 sx0;have E1:Hid (jap (jbi g ns is os ts)=((jan x.name x.ty cx).bind fun s=>(jbf (ll,sz) (ja0 11 s)).bind fun m=>jaS jdA 11 m ((is.map jbp).drop (k+1))).bind fun m=>(jaS jdA 12 m (os.map jbp)).bind fun m=>wrP m.1):=by show _=_;rw [E.out,DS];rfl
            have gd:=jab wr (.cells #[.string x.name,.int .i64 x.ty,.slice x.dv.a x.dv.n x.dv.c] 82);obtain ⟨⟨y0,y1,y2⟩,-⟩:=jbn (heap_alloc_new wr (.cells #[.string x.name,.int .i64 x.ty,.slice x.dv.a x.dv.n x.dv.c] 82));clear DS E;have E:=E1;clear E1;go_wp2_with fail;obtain ⟨wn,hwn⟩ : ∃ y9,y9=wr.alloc (.cells #[.string x.name,.int .i64 x.ty,.slice x.dv.a x.dv.n x.dv.c] 82):=⟨_,rfl⟩
            rw [← hwn] at gd ⊢;have gd2:=jac gd;have PM1:=jac (PM.out.more gd);have G1:=jac (jaa G.out gd);clear hwn gd PM G e0 e1 e2 y0 y1 y2;have PM:=PM1;have G:=G1;clear PM1 G1;have C0:=jac (jeB x.name x.ty (.slice x.dv.a x.dv.n x.dv.c) cx wn SX.out.1 (jaj.more HX.out gd2.out) SX.out.2)
            cases hf:jan x.name x.ty cx with
            | error er =>
             have E2:Hid (jap (jbi g ns is os ts)=.error er):=by show _=_;rw [E.out,hf];rfl
             rw [hf] at C0;clear hf;refine C0.out.mono ?_;rintro e wf ⟨hg,rfl⟩;exact ⟨rfl,jad E2.out (jaa GB.out (jaa G.out hg))⟩
            | ok tx =>
             have E2:Hid (jap (jbi g ns is os ts)=((jbf (ll,sz) (ja0 11 tx)).bind fun m=>jaS jdA 11 m ((is.map jbp).drop (k+1))).bind fun m=>(jaS jdA 12 m (os.map jbp)).bind fun m=>wrP m.1):=by show _=_;rw [E.out,hf];rfl
             have TS:=jac (jm3 _ _ _ _ hf);rw [hf] at C0;clear hf E;have E:=E2;clear E2;refine C0.out.mono ?_;rintro e wf ⟨hg,v,rfl,rfl⟩;have PM1:=jac (PM.out.more hg);have G1:=jac (jaa G.out hg);clear hg C0 PM G;have PM:=PM1;have G:=G1;clear PM1 G1;have C:=jac (jbs lo B ll sz 11 tx wf PM.out GD.out.1 (by have h:=GD.out.2.1;simp only at h;omega) (by have:=TS.out;omega));go_wp2_with fail
             cases hp:jbf (ll,sz) (ja0 11 tx) with
             | error er =>
              have E2:Hid (jap (jbi g ns is os ts)=.error er):=by show _=_;rw [E.out,hp];rfl
              rw [hp] at C;clear hp;refine C.out.mono ?_;rintro e w4 ⟨ha,rfl⟩;exact ⟨rfl,jad E2.out (jaa GB.out (Abv.grown G.out LO.out ha))⟩
             | ok m' =>
              obtain ⟨l2,s2⟩:=m';have E2:Hid (jap (jbi g ns is os ts)=(jaS jdA 11 (l2,s2) ((is.map jbp).drop (k+1))).bind fun m=>(jaS jdA 12 m (os.map jbp)).bind fun m=>wrP m.1):=by show _=_;rw [E.out,hp];rfl
              have GD2:=jac (jcC hp GD.out (jbM _ _ (by decide) (by have:=TS.out;omega)));rw [hp] at C;clear hp;refine C.out.mono ?_;rintro e w4 ⟨ha,v,rfl,rfl,hq⟩;have PM2:=jac hq;have G2:=jac (Abv.grown G.out LO.out ha);clear ha hq C PM G E GD;obtain ⟨ll,hll⟩ : ∃ x,x=l2:=⟨_,rfl⟩
              obtain ⟨sz,hsz⟩ : ∃ x,x=s2:=⟨_,rfl⟩
              rw [← hll,← hsz] at PM2 E2 GD2;clear hll hsz l2 s2;have PM:=PM2;have G:=G2;have E:=E2;have GD:=GD2;clear PM2 G2 E2 GD2;go_wp2_with fail;go_roundg (is.length - (k+1))
              case measure=>omega
              case rel=>exact ⟨k+1,ll,sz,rfl,by omega,by go_num,PM.out,G.out,E.out,GD.out⟩
           ·obtain hkN:k=is.length:=by omega
            have E2:Hid (jap (jbi g ns is os ts)=(jaS jdA 12 (ll,sz) (os.map jbp)).bind fun m=>wrP m.1):=by show _=_;rw [E.out,List.drop_eq_nil_of_le (by have:=hkN;simp only [List.length_map];omega)];rfl
            clear E;subst hkN;have E:=E2;clear E2;obtain ⟨⟨x0,x1,x2,x3,x4⟩,-⟩:=jam (BX.out wr G.out);go_wp2;clear x0 x1 x2 x3 x4;go_loopg [54] os.length (fun gh iv wr=>∃ (k:Nat) (ll:List Fld) (sz:Nat),gh=os.length - k∧k≤os.length∧iv=.int .i64 k∧jda wr lo B ll sz∧wb.grownBy wr none∧jap (jbi g ns is os ts)=((jaS jdA 12 (ll,sz) ((os.map jbp).drop k)).bind fun m=>wrP m.1)∧Gd (ll,sz) (6000000+k))
            case atStart=>exact ⟨0,ll,sz,rfl,Nat.zero_le _,rfl,PM.out,G.out,by rw [List.drop_zero];exact E.out,GD.out.le (by omega)⟩
            case round =>
             clear PM G E GD;obtain ⟨k,ll,sz,rfl,hk,rfl,hpm,hg,he,hgd⟩:=hrel;have PM:=jac hpm;have G:=jac hg;have E:=jac he;have GD:=jac hgd;clear hpm hg he hgd
             by_cases hlt:k<os.length
             ·skip
              obtain ⟨xb,xo,rfl⟩:=(HO.out.more (jaa GB.out G.out)).addr (k:=k) (by rw [List.length_map];exact hlt);have NC:=IsL.val (HO.out.more (jaa GB.out G.out)) k (by rw [List.length_map];exact hlt);simp only [List.getElem_map] at NC;obtain ⟨e0,e1,e2⟩:=NC;have hx0:=hO os[k] (List.getElem_mem hlt);have sx0:=sO os[k] (List.getElem_mem hlt);have DS:=jf0 jbp os k hlt;obtain ⟨p,hp⟩ : ∃ p,p=os[k]:=⟨_,rfl⟩
              rw [← hp] at e0 e1 e2 hx0 sx0 DS;obtain ⟨x,cx⟩:=p;simp only at e0 e1 e2 hx0 sx0;have HX:=jac (jaj.more hx0 (jaa GB.out G.out));have SX:=jac sx0;clear hp hx0 sx0;have E1:Hid (jap (jbi g ns is os ts)=((jan x.name x.ty cx).bind fun s=>(jbf (ll,sz) (ja0 12 s)).bind fun m=>jaS jdA 12 m ((os.map jbp).drop (k+1))).bind fun m=>wrP m.1):=by show _=_;rw [E.out,DS];rfl
              have gd:=jab wr (.cells #[.string x.name,.int .i64 x.ty,.slice x.dv.a x.dv.n x.dv.c] 82);obtain ⟨⟨y0,y1,y2⟩,-⟩:=jbn (heap_alloc_new wr (.cells #[.string x.name,.int .i64 x.ty,.slice x.dv.a x.dv.n x.dv.c] 82));clear DS E;have E:=E1;clear E1;go_wp2_with fail;obtain ⟨wn,hwn⟩ : ∃ y9,y9=wr.alloc (.cells #[.string x.name,.int .i64 x.ty,.slice x.dv.a x.dv.n x.dv.c] 82):=⟨_,rfl⟩
              rw [← hwn] at gd ⊢;have gd2:=jac gd;have PM1:=jac (PM.out.more gd);have G1:=jac (jaa G.out gd);clear hwn gd PM G e0 e1 e2 y0 y1 y2;have PM:=PM1;have G:=G1;clear PM1 G1;have C0:=jac (jeB x.name x.ty (.slice x.dv.a x.dv.n x.dv.c) cx wn SX.out.1 (jaj.more HX.out gd2.out) SX.out.2)
              cases hf:jan x.name x.ty cx with
              | error er =>
               have E2:Hid (jap (jbi g ns is os ts)=.error er):=by show _=_;rw [E.out,hf];rfl
               rw [hf] at C0;clear hf;refine C0.out.mono ?_;rintro e wf ⟨hg,rfl⟩;exact ⟨rfl,jad E2.out (jaa GB.out (jaa G.out hg))⟩
              | ok tx =>
               have E2:Hid (jap (jbi g ns is os ts)=((jbf (ll,sz) (ja0 12 tx)).bind fun m=>jaS jdA 12 m ((os.map jbp).drop (k+1))).bind fun m=>wrP m.1):=by show _=_;rw [E.out,hf];rfl
               have TS:=jac (jm3 _ _ _ _ hf);rw [hf] at C0;clear hf E;have E:=E2;clear E2;refine C0.out.mono ?_;rintro e wf ⟨hg,v,rfl,rfl⟩;have PM1:=jac (PM.out.more hg);have G1:=jac (jaa G.out hg);clear hg C0 PM G;have PM:=PM1;have G:=G1;clear PM1 G1;have C:=jac (jbs lo B ll sz 12 tx wf PM.out GD.out.1 (by have h:=GD.out.2.1;simp only at h;omega) (by have:=TS.out;omega));go_wp2_with fail
               cases hp:jbf (ll,sz) (ja0 12 tx) with
               | error er =>
                have E2:Hid (jap (jbi g ns is os ts)=.error er):=by show _=_;rw [E.out,hp];rfl
                rw [hp] at C;clear hp;refine C.out.mono ?_;rintro e w4 ⟨ha,rfl⟩;exact ⟨rfl,jad E2.out (jaa GB.out (Abv.grown G.out LO.out ha))⟩
               | ok m' =>
                obtain ⟨l2,s2⟩:=m';have E2:Hid (jap (jbi g ns is os ts)=(jaS jdA 12 (l2,s2) ((os.map jbp).drop (k+1))).bind fun m=>wrP m.1):=by show _=_;rw [E.out,hp];rfl
                have GD2:=jac (jcC hp GD.out (jbM _ _ (by decide) (by have:=TS.out;omega)));rw [hp] at C;clear hp;refine C.out.mono ?_;rintro e w4 ⟨ha,v,rfl,rfl,hq⟩;have PM2:=jac hq;have G2:=jac (Abv.grown G.out LO.out ha);clear ha hq C PM G E GD;obtain ⟨ll,hll⟩ : ∃ x,x=l2:=⟨_,rfl⟩
                obtain ⟨sz,hsz⟩ : ∃ x,x=s2:=⟨_,rfl⟩
                rw [← hll,← hsz] at PM2 E2 GD2;clear hll hsz l2 s2;have PM:=PM2;have G:=G2;have E:=E2;have GD:=GD2;clear PM2 G2 E2 GD2;go_wp2_with fail;go_roundg (os.length - (k+1))
                case measure=>omega
                case rel=>exact ⟨k+1,ll,sz,rfl,by omega,by go_num,PM.out,G.out,E.out,GD.out⟩
             ·obtain hkN:k=os.length:=by omega
              have E2:Hid (jap (jbi g ns is os ts)=wrP (ll,sz).1):=by show _=_;rw [E.out,List.drop_eq_nil_of_le (by have:=hkN;simp only [List.length_map];omega)];rfl
              clear E;subst hkN;have E:=E2;clear E2;have C:=jac (jbz lo B ll sz wr PM.out (by have h:=GD.out.2.1;simp only at h;omega) GD.out.2.2);go_wp2_with fail
              cases hp:wrP ll with
              | error er =>
               have E2:Hid (jap (jbi g ns is os ts)=.error er):=by show _=_;rw [E.out,hp]
               rw [hp] at C;clear hp;refine C.out.mono ?_;rintro e wz ⟨hg,rfl⟩;exact ⟨rfl,jad E2.out (jaa GB.out (jaa G.out hg))⟩
              | ok s =>
               have E2:Hid (jap (jbi g ns is os ts)=.ok s):=by show _=_;rw [E.out,hp]
               rw [hp] at C;clear hp;refine C.out.mono ?_;rintro e wz ⟨hg,v,rfl,rfl⟩;have GZ:=jac (jaa GB.out (jaa G.out hg));clear hg;go_wp2;go_ret;exact jaI E2.out GZ.out rfl
end Go.Proofs.YtbgbpfbjeleooaaGreat.Pd
namespace Go.Proofs.YtbgbpfbjeleooaaGreat.Pd
open Go.RowKit
open Wr (Fld)
def jax (G:NGra):R ByteArray:=(jap G).bind fun s=>(jbf ([],0) (ja0 7 s)).bind fun m=>wrP m.1
theorem jgF (g:Gra) (ns:List (Nod×Ni)) (is os:List (Val×List Int)) (ts:List (Nam×List Int×List Int)) (w:World) (hr:RdG w g ns is os ts) (hsm:SmallG g ns is os ts) :
    Calls Tryz.prog 38 #[jcM g] w (jbU w (jax (jbi g ns is os ts)) fun s v _=>v=.string s):=by
     have HR:=jac hr;have HS:=jac hsm;obtain ⟨na,nc,e1,-⟩:=hr.nodes.form;obtain ⟨ia,ic,e2,-⟩:=hr.ins.form;obtain ⟨oa,oc,e3,-⟩:=hr.outs.form;obtain ⟨ta,tc,e4,-⟩:=hr.inits.form;unfold jcM;simp only [Sl.v,Value.slice.injEq,List.length_map] at e1 e2 e3 e4;obtain ⟨z1a,z1b,z1c⟩:=e1;obtain ⟨z2a,z2b,z2c⟩:=e2;obtain ⟨z3a,z3b,z3c⟩:=e3;obtain ⟨z4a,z4b,z4c⟩:=e4;rw [z1a,z1b,z1c,z2a,z2b,z2c,z3a,z3b,z3c,z4a,z4b,z4c];clear hr hsm;obtain ⟨wb,hwb⟩ : ∃ wb,wb=w.alloc (.cells #[.string g.name,.slice na ns.length nc,.slice ia is.length ic,.slice oa os.length oc,.slice ta ts.length tc] 27):=⟨_,rfl⟩
     have GB:Hid (w.grownBy wb none):=by show w.grownBy wb none;rw [hwb];exact jab _ _
     have hb:wb.heap[w.heap.size]?=some (.cells #[.string g.name,.slice na ns.length nc,.slice ia is.length ic,.slice oa os.length oc,.slice ta ts.length tc] 27 (0,0)):=by rw [hwb];exact heap_alloc_new w _
     have BX:Hid (∀ wx,wb.grownBy wx none→wx.heap[w.heap.size]?=some (.cells #[.string g.name,.slice na ns.length nc,.slice ia is.length ic,.slice oa os.length oc,.slice ta ts.length tc] 27 (0,0))):=fun wx hg=>jag hb hg;have pm:=jcK wb;have g1:=jab wb (.cells #[.slice none 0 0,.int .i64 0] 114);obtain ⟨w1,hw1⟩ : ∃ w1,w1=wb.alloc (.cells #[.slice none 0 0,.int .i64 0] 114):=⟨_,rfl⟩
     have sB:wb.heap.size=w.heap.size+1:=by rw [hwb,jar]
     obtain ⟨B,hB⟩ : ∃ B,B=w.heap.size+1:=⟨_,rfl⟩
     obtain ⟨lo,hlo⟩ : ∃ lo,lo=B:=⟨_,rfl⟩
     rw [← hw1,sB,← hB] at pm;have PM:Hid (jda w1 lo B [] 0):=by show jda w1 lo B [] 0;rw [hlo];exact pm
     rw [← hw1] at g1;have G:=jac g1;have LO:Hid (wb.heap.size≤lo):=by show _≤_;omega
     obtain ⟨ll,hll⟩ : ∃ x:List Fld,x=[]:=⟨_,rfl⟩
     obtain ⟨sz,hsz⟩ : ∃ x:Nat,x=0:=⟨_,rfl⟩
     have GD:Hid (Gd (ll,sz) 0):=by rw [hll,hsz];exact Gd.nil
     rw [← hll,← hsz] at PM;have E:Hid (jax (jbi g ns is os ts)=(jap (jbi g ns is os ts)).bind fun s=>(jbf (ll,sz) (ja0 7 s)).bind fun m=>wrP m.1):=by show _=_;rw [hll,hsz];rfl
     clear hll hsz hb pm g1 sB hlo;go_enter Tryz.func38,Tryz.ntmps38
     go_upto_region 2 with fail
     rw [← hwb,← hw1,← hB];clear hwb hw1 hB;obtain ⟨⟨x0,x1,x2,x3,x4⟩,-⟩:=jam (BX.out w1 G.out);have C0:=jac (jgE g ns is os ts w1 (RdG.more HR.out (jaa GB.out G.out)) HS.out);unfold jcM at C0;rw [z1a,z1b,z1c,z2a,z2b,z2c,z3a,z3b,z3c,z4a,z4b,z4c] at C0;go_wp2_with fail;clear x0 x1 x2 x3 x4 z1a z1b z1c z2a z2b z2c z3a z3b z3c z4a z4b z4c
     cases hf:jap (jbi g ns is os ts) with
     | error er =>
      have E2:Hid (jax (jbi g ns is os ts)=.error er):=by show _=_;rw [E.out,hf];rfl
      rw [hf] at C0;clear hf;refine C0.out.mono ?_;rintro e wf ⟨hg,rfl⟩;exact ⟨rfl,jad E2.out (jaa GB.out (jaa G.out hg))⟩
     | ok tx =>
      have E2:Hid (jax (jbi g ns is os ts)=(jbf (ll,sz) (ja0 7 tx)).bind fun m=>wrP m.1):=by show _=_;rw [E.out,hf];rfl
      have TS:=jac (jom _ _ hf);rw [hf] at C0;clear hf E;have E:=E2;clear E2;refine C0.out.mono ?_;rintro e wf ⟨hg,v,rfl,rfl⟩;have PM1:=jac (PM.out.more hg);have G1:=jac (jaa G.out hg);clear hg C0 PM G;have PM:=PM1;have G:=G1;clear PM1 G1;have C:=jac (jbs lo B ll sz 7 tx wf PM.out GD.out.1 (by have h:=GD.out.2.1;simp only at h;omega) (by have:=TS.out;omega));go_wp2_with fail
      cases hp:jbf (ll,sz) (ja0 7 tx) with
      | error er =>
       have E2:Hid (jax (jbi g ns is os ts)=.error er):=by show _=_;rw [E.out,hp];rfl
       rw [hp] at C;clear hp;refine C.out.mono ?_;rintro e w4 ⟨ha,rfl⟩;exact ⟨rfl,jad E2.out (jaa GB.out (Abv.grown G.out LO.out ha))⟩
      | ok m' =>
       obtain ⟨l2,s2⟩:=m';have E2:Hid (jax (jbi g ns is os ts)=wrP (l2,s2).1):=by show _=_;rw [E.out,hp];rfl
       have GD2:=jac (jcC hp GD.out (jbM _ _ (by decide) (by have:=TS.out;omega)));rw [hp] at C;clear hp;refine C.out.mono ?_;rintro e w4 ⟨ha,v,rfl,rfl,hq⟩;have PM2:=jac hq;have G2:=jac (Abv.grown G.out LO.out ha);clear ha hq C PM G E GD;obtain ⟨ll,hll⟩ : ∃ x,x=l2:=⟨_,rfl⟩
       obtain ⟨sz,hsz⟩ : ∃ x,x=s2:=⟨_,rfl⟩
       rw [← hll,← hsz] at PM2 E2 GD2;clear hll hsz l2 s2;have PM:=PM2;have G:=G2;have E:=E2;have GD:=GD2;clear PM2 G2 E2 GD2;have C:=jac (jbz lo B ll sz w4 PM.out (by have h:=GD.out.2.1;simp only at h;omega) GD.out.2.2);go_wp2_with fail
       cases hp:wrP ll with
       | error er =>
        have E2:Hid (jax (jbi g ns is os ts)=.error er):=by show _=_;rw [E.out,hp]
        rw [hp] at C;clear hp;refine C.out.mono ?_;rintro e wz ⟨hg,rfl⟩;exact ⟨rfl,jad E2.out (jaa GB.out (jaa G.out hg))⟩
       | ok s =>
        have E2:Hid (jax (jbi g ns is os ts)=.ok s):=by show _=_;rw [E.out,hp]
        rw [hp] at C;clear hp;refine C.out.mono ?_;rintro e wz ⟨hg,v,rfl,rfl⟩;have GZ:=jac (jaa GB.out (jaa G.out hg));clear hg;go_wp2;go_ret;exact jaI E2.out GZ.out rfl
end Go.Proofs.YtbgbpfbjeleooaaGreat.Pd
namespace Go.Proofs.YtbgbpfbjeleooaaGreat.Pd
open Go.RowKit
open Wr (Fld)
def jcg (a:Atr):Bool:=decide (a.f=0)&&decide (a.i=0)&&decide (a.s.size=0)&&decide (a.iv.n=0)&&decide (a.ty=0)&&decide (a.dv.n=0)&&decide (a.tv.n=0)
theorem jfc (a:Atr) (w:World):Calls Tryz.prog 122 #[jb8 a] w fun e w'=>e=.returned (.bool (jcg a))∧w.grownBy w' none:=by
 obtain ⟨nm,kd,ff,ii,ss,ty,⟨da,dn,dc⟩,⟨ta,tn,tc⟩,⟨va,vn,vc⟩⟩:=a;unfold jb8;simp only at *;obtain ⟨R0,hR0⟩ : ∃ r,r=jcg ⟨nm,kd,ff,ii,ss,ty,⟨da,dn,dc⟩,⟨ta,tn,tc⟩,⟨va,vn,vc⟩⟩:=⟨_,rfl⟩
 rw [← hR0];have HR:=jac hR0;clear hR0;have hb:=heap_alloc_new w (.cells #[.string nm,.int .i64 kd,.int .i64 ff,.int .i64 ii,.string ss,.int .i64 ty,.slice da dn dc,.slice ta tn tc,.slice va vn vc] 78);have G0:=jac (jab w (.cells #[.string nm,.int .i64 kd,.int .i64 ff,.int .i64 ii,.string ss,.int .i64 ty,.slice da dn dc,.slice ta tn tc,.slice va vn vc] 78));obtain ⟨⟨x0,x1,x2,x3,x4,x5,x6,x7,x8⟩,-⟩:=jau hb;clear hb
 by_cases h0:ff=0
 ·skip
  subst h0
  by_cases h1:ii=0
  ·skip
   subst h1
   by_cases h2:ss.size=0
   ·skip
    have e2:ss.toList.isEmpty=true:=by rw [ByteArray.toList_eq,List.isEmpty_iff];exact List.length_eq_zero_iff.1 (by rw [Array.length_toList];exact h2)
    by_cases h3:vn=0
    ·skip
     subst h3
     by_cases h4:ty=0
     ·skip
      subst h4
      by_cases h5:dn=0
      ·skip
       subst h5
       by_cases h6:tn=0
       ·skip
        subst h6;have E:Hid (R0=true):=by show _=_;rw [HR.out];simp [jcg, *]
        rw [E.out];clear HR;go_enter Tryz.func122,Tryz.ntmps122;go_wp2;go_ret;exact ⟨rfl,G0.out⟩
       ·skip
        have E:Hid (R0=false):=by show _=_;rw [HR.out];simp [jcg, *]
        rw [E.out];have e6:((tn:Int)==0)=false:=by simp;omega
        clear HR h6;go_enter Tryz.func122,Tryz.ntmps122;go_wp2;go_ret;exact ⟨rfl,G0.out⟩
      ·skip
       have E:Hid (R0=false):=by show _=_;rw [HR.out];simp [jcg, *]
       rw [E.out];have e5:((dn:Int)==0)=false:=by simp;omega
       clear HR h5;go_enter Tryz.func122,Tryz.ntmps122;go_wp2;go_ret;exact ⟨rfl,G0.out⟩
     ·skip
      have E:Hid (R0=false):=by show _=_;rw [HR.out];simp [jcg, *]
      rw [E.out];have e4:(ty==0)=false:=by simp;omega
      clear HR h4;go_enter Tryz.func122,Tryz.ntmps122;go_wp2;go_ret;exact ⟨rfl,G0.out⟩
    ·skip
     have E:Hid (R0=false):=by show _=_;rw [HR.out];simp [jcg, *]
     rw [E.out];have e3:((vn:Int)==0)=false:=by simp;omega
     clear HR h3;go_enter Tryz.func122,Tryz.ntmps122;go_wp2;go_ret;exact ⟨rfl,G0.out⟩
   ·skip
    have E:Hid (R0=false):=by show _=_;rw [HR.out];simp [jcg, *]
    rw [E.out];have e2:ss.toList.isEmpty=false:=jem (by omega);clear HR h2;go_enter Tryz.func122,Tryz.ntmps122;go_wp2;go_ret;exact ⟨rfl,G0.out⟩
  ·skip
   have E:Hid (R0=false):=by show _=_;rw [HR.out];simp [jcg, *]
   rw [E.out];have e1:(ii==0)=false:=by simp;omega
   clear HR h1;go_enter Tryz.func122,Tryz.ntmps122;go_wp2;go_ret;exact ⟨rfl,G0.out⟩
 ·skip
  have E:Hid (R0=false):=by show _=_;rw [HR.out];simp [jcg, *]
  rw [E.out];have e0:(ff==0)=false:=by simp;omega
  clear HR h0;go_enter Tryz.func122,Tryz.ntmps122;go_wp2;go_ret;exact ⟨rfl,G0.out⟩
end Go.Proofs.YtbgbpfbjeleooaaGreat.Pd
namespace Go.Proofs.YtbgbpfbjeleooaaGreat.Pd
open Go.RowKit
open Wr (Fld)
def jcc (a:Atr) (c:Cont):Bool:=if a.kind=1 then chk 1 a.f else if a.kind=2 then true else if a.kind=3 then !jas [a.s] else if a.kind=4 then decide (pbE a.ty c.d c.t=0) else if a.kind=7 then decide (a.iv.n≤20) else false
def jb9 (a:Atr):Atr:=if a.kind=1 then ⟨a.name,a.kind,0,a.i,a.s,a.ty,a.dv,a.tv,a.iv⟩ else if a.kind=2 then ⟨a.name,a.kind,a.f,0,a.s,a.ty,a.dv,a.tv,a.iv⟩ else if a.kind=3 then ⟨a.name,a.kind,a.f,a.i,⟨#[]⟩,a.ty,a.dv,a.tv,a.iv⟩ else if a.kind=4 then ⟨a.name,a.kind,a.f,a.i,a.s,0,⟨none,0,0⟩,⟨none,0,0⟩,a.iv⟩ else ⟨a.name,a.kind,a.f,a.i,a.s,a.ty,a.dv,a.tv,⟨none,0,0⟩⟩
def ja7 (a:Atr) (c:Cont):Bool:=jcc a c&&!jas [a.name]&&jcg (jb9 a)
theorem jon (a:Atr) (c:Cont) (w:World) (ha:Has w a c) (h:a.kind=1):Calls Tryz.prog 96 #[jb8 a] w fun e w'=>e=.returned (.bool (ja7 a c))∧w.grownBy w' none:=by
 obtain ⟨nm,kd,ff,ii,ss,ty,⟨da,dn,dc⟩,⟨ta,tn,tc⟩,⟨va,vn,vc⟩⟩:=a;obtain ⟨cd,ct,ci⟩:=c;unfold jb8;obtain ⟨hd,ht,-⟩:=ha;simp only [Sl.v] at *;have HD:=jac hd;have HT:=jac ht;clear hd ht;obtain ⟨R0,hR0⟩ : ∃ r,r=ja7 ⟨nm,kd,ff,ii,ss,ty,⟨da,dn,dc⟩,⟨ta,tn,tc⟩,⟨va,vn,vc⟩⟩ ⟨cd,ct,ci⟩:=⟨_,rfl⟩
 rw [← hR0];have HR:=jac hR0;clear hR0;subst h;have hb:=heap_alloc_new w (.cells #[.string nm,.int .i64 1,.int .i64 ff,.int .i64 ii,.string ss,.int .i64 ty,.slice da dn dc,.slice ta tn tc,.slice va vn vc] 78);obtain ⟨⟨x0,x1,x2,x3,x4,x5,x6,x7,x8⟩,-⟩:=jau hb;go_enter Tryz.func96,Tryz.ntmps96;go_wp2_with fail;obtain ⟨wc,hwc⟩ : ∃ wc,wc=w.alloc (.cells #[.string nm,.int .i64 1,.int .i64 ff,.int .i64 ii,.string ss,.int .i64 ty,.slice da dn dc,.slice ta tn tc,.slice va vn vc] 78):=⟨_,rfl⟩
 have HB0:Hid (wc.heap[w.heap.size]?=some (.cells #[.string nm,.int .i64 1,.int .i64 ff,.int .i64 ii,.string ss,.int .i64 ty,.slice da dn dc,.slice ta tn tc,.slice va vn vc] 78 (0,0))):=by show _=_;rw [hwc];exact hb
 have G0:Hid (w.grownBy wc none):=by show w.grownBy wc none;rw [hwc];exact jab _ _
 rw [← hwc] at x0 x1 x2 x3 x4 x5 x6 x7 x8 ⊢;clear hwc hb;refine (jeU 1 ff wc).mono ?_;rintro e w1 ⟨rfl,rfl⟩
 cases hc:chk 1 ff with
 | true =>
  obtain ⟨-,f0,f1,f2,f3,f4,f5,f6,f7,f8⟩:=jau HB0.out;have V0:(w1.setCell ⟨w.heap.size,2,none⟩ (.int .i64 0)).heap[w.heap.size]?=some (.cells #[.string nm,.int .i64 1,.int .i64 0,.int .i64 ii,.string ss,.int .i64 ty,.slice da dn dc,.slice ta tn tc,.slice va vn vc] 78 (0,0)):=by simpa using heap_setCell_same w1 w.heap.size 2 _ _ (.int .i64 0) HB0.out
  have G1:=jac (jaf (row:=none) G0.out (jak w1 w.heap.size 2 (.int .i64 0)) (fun g e=>by cases e;exact .inr (Nat.le_refl _)));have HV:=jac V0;obtain ⟨⟨v0,-⟩,-⟩:=jau V0;clear V0;obtain ⟨ws,hws⟩ : ∃ ws,ws=(w1.setCell ⟨w.heap.size,2,none⟩ (.int .i64 0)):=⟨_,rfl⟩
  have SS:Hid (ws.heap.size=w1.heap.size):=by show _=_;rw [hws];exact World.size_setCell _ _ _
  have LG:=jac (jaN (.slice (some ⟨w1.heap.size,0,none⟩) 1 1) [nm] (ws.alloc (.cells #[.string nm] 9)) (by have h:=jci (heap_alloc_new ws (.cells #[.string nm] 9));rw [SS.out] at h;exact h));rw [← hws] at HV G1;have G2:=jac (jaa G1.out (jab ws (.cells #[.string nm] 9)));have H2:=jac (((jab ws (.cells #[.string nm] 9)).block w.heap.size (Array.getElem?_eq_some_iff.1 HV.out).1 (by simp)).trans HV.out);rw [hws] at LG G2 H2;clear hws;go_wp2_with fail;refine LG.out.mono ?_;rintro e w2 ⟨rfl,hw2⟩;rw [hw2] at G2 H2;clear hw2 LG v0 x0 x1 x2 x3 x4 x5 x6 x7 x8 f0 f1 f2 f3 f4 f5 f6 f7 f8 HB0 HV G1;obtain ⟨⟨x0,x1,x2,x3,x4,x5,x6,x7,x8⟩,-⟩:=jau H2.out
  cases hl:jas [nm] with
  | true =>
   have E:Hid (R0=false):=by show _=_;rw [HR.out];simp [ja7,jcc, *]
   clear HR hl;go_wp2;go_ret;exact ⟨congrArg (fun b=>Ending.returned (Value.bool b)) E.out.symm,G2.out⟩
  | false =>
   have E:Hid (R0=jcg ⟨nm,1,0,ii,ss,ty,⟨da,dn,dc⟩,⟨ta,tn,tc⟩,⟨va,vn,vc⟩⟩):=by show _=_;rw [HR.out];simp [ja7,jcc,jb9, *]
   have HO:=jac (jfc ⟨nm,1,0,ii,ss,ty,⟨da,dn,dc⟩,⟨ta,tn,tc⟩,⟨va,vn,vc⟩⟩ w2);unfold jb8 at HO;clear HR hl;go_wp2_with fail;refine HO.out.mono ?_;rintro e w3 ⟨rfl,hg⟩;have G3:=jac (jaa G2.out hg);clear hg;go_wp2;go_ret;exact ⟨congrArg (fun b=>Ending.returned (Value.bool b)) E.out.symm,G3.out⟩
 | false =>
  obtain ⟨-,f0,f1,f2,f3,f4,f5,f6,f7,f8⟩:=jau HB0.out;have V0:(w1.setCell ⟨w.heap.size,2,none⟩ (.int .i64 0)).heap[w.heap.size]?=some (.cells #[.string nm,.int .i64 1,.int .i64 0,.int .i64 ii,.string ss,.int .i64 ty,.slice da dn dc,.slice ta tn tc,.slice va vn vc] 78 (0,0)):=by simpa using heap_setCell_same w1 w.heap.size 2 _ _ (.int .i64 0) HB0.out
  have G1:=jac (jaf (row:=none) G0.out (jak w1 w.heap.size 2 (.int .i64 0)) (fun g e=>by cases e;exact .inr (Nat.le_refl _)));have HV:=jac V0;clear V0;have E:Hid (R0=false):=by show _=_;rw [HR.out];simp [ja7,jcc, *]
  clear HR;go_wp2;go_ret;exact ⟨congrArg (fun b=>Ending.returned (Value.bool b)) E.out.symm,G1.out⟩
theorem joo (a:Atr) (c:Cont) (w:World) (ha:Has w a c) (h:a.kind=2):Calls Tryz.prog 96 #[jb8 a] w fun e w'=>e=.returned (.bool (ja7 a c))∧w.grownBy w' none:=by
 obtain ⟨nm,kd,ff,ii,ss,ty,⟨da,dn,dc⟩,⟨ta,tn,tc⟩,⟨va,vn,vc⟩⟩:=a;obtain ⟨cd,ct,ci⟩:=c;unfold jb8;obtain ⟨hd,ht,-⟩:=ha;simp only [Sl.v] at *;have HD:=jac hd;have HT:=jac ht;clear hd ht;obtain ⟨R0,hR0⟩ : ∃ r,r=ja7 ⟨nm,kd,ff,ii,ss,ty,⟨da,dn,dc⟩,⟨ta,tn,tc⟩,⟨va,vn,vc⟩⟩ ⟨cd,ct,ci⟩:=⟨_,rfl⟩
 rw [← hR0];have HR:=jac hR0;clear hR0;subst h;have hb:=heap_alloc_new w (.cells #[.string nm,.int .i64 2,.int .i64 ff,.int .i64 ii,.string ss,.int .i64 ty,.slice da dn dc,.slice ta tn tc,.slice va vn vc] 78);obtain ⟨⟨x0,x1,x2,x3,x4,x5,x6,x7,x8⟩,-⟩:=jau hb;have HB0:=jac hb;have G0:=jac (jab w (.cells #[.string nm,.int .i64 2,.int .i64 ff,.int .i64 ii,.string ss,.int .i64 ty,.slice da dn dc,.slice ta tn tc,.slice va vn vc] 78));clear hb;obtain ⟨-,f0,f1,f2,f3,f4,f5,f6,f7,f8⟩:=jau HB0.out;have V0:=heap_alloc_new w (.cells #[.string nm,.int .i64 2,.int .i64 ff,.int .i64 0,.string ss,.int .i64 ty,.slice da dn dc,.slice ta tn tc,.slice va vn vc] 78);have G1:=jac (jab w (.cells #[.string nm,.int .i64 2,.int .i64 ff,.int .i64 0,.string ss,.int .i64 ty,.slice da dn dc,.slice ta tn tc,.slice va vn vc] 78));have HV:=jac V0;obtain ⟨⟨v0,-⟩,-⟩:=jau V0;clear V0;obtain ⟨ws,hws⟩ : ∃ ws,ws=(w.alloc (.cells #[.string nm,.int .i64 2,.int .i64 ff,.int .i64 0,.string ss,.int .i64 ty,.slice da dn dc,.slice ta tn tc,.slice va vn vc] 78)):=⟨_,rfl⟩
 have SS:Hid (ws.heap.size=w.heap.size+1):=by show _=_;rw [hws];exact jar _ _ _
 have LG:=jac (jaN (.slice (some ⟨w.heap.size+1,0,none⟩) 1 1) [nm] (ws.alloc (.cells #[.string nm] 9)) (by have h:=jci (heap_alloc_new ws (.cells #[.string nm] 9));rw [SS.out] at h;exact h));rw [← hws] at HV G1;have G2:=jac (jaa G1.out (jab ws (.cells #[.string nm] 9)));have H2:=jac (((jab ws (.cells #[.string nm] 9)).block w.heap.size (Array.getElem?_eq_some_iff.1 HV.out).1 (by simp)).trans HV.out);rw [hws] at LG G2 H2;clear hws;go_enter Tryz.func96,Tryz.ntmps96;go_wp2_with fail;refine LG.out.mono ?_;rintro e w2 ⟨rfl,hw2⟩;rw [hw2] at G2 H2;clear hw2 LG v0 x0 x1 x2 x3 x4 x5 x6 x7 x8 f0 f1 f2 f3 f4 f5 f6 f7 f8 HB0 HV G1;obtain ⟨⟨x0,x1,x2,x3,x4,x5,x6,x7,x8⟩,-⟩:=jau H2.out
 cases hl:jas [nm] with
 | true =>
  have E:Hid (R0=false):=by show _=_;rw [HR.out];simp [ja7,jcc, *]
  clear HR hl;go_wp2;go_ret;exact ⟨congrArg (fun b=>Ending.returned (Value.bool b)) E.out.symm,G2.out⟩
 | false =>
  have E:Hid (R0=jcg ⟨nm,2,ff,0,ss,ty,⟨da,dn,dc⟩,⟨ta,tn,tc⟩,⟨va,vn,vc⟩⟩):=by show _=_;rw [HR.out];simp [ja7,jcc,jb9, *]
  have HO:=jac (jfc ⟨nm,2,ff,0,ss,ty,⟨da,dn,dc⟩,⟨ta,tn,tc⟩,⟨va,vn,vc⟩⟩ w2);unfold jb8 at HO;clear HR hl;go_wp2_with fail;refine HO.out.mono ?_;rintro e w3 ⟨rfl,hg⟩;have G3:=jac (jaa G2.out hg);clear hg;go_wp2;go_ret;exact ⟨congrArg (fun b=>Ending.returned (Value.bool b)) E.out.symm,G3.out⟩
theorem jop (a:Atr) (c:Cont) (w:World) (ha:Has w a c) (h:a.kind=3):Calls Tryz.prog 96 #[jb8 a] w fun e w'=>e=.returned (.bool (ja7 a c))∧w.grownBy w' none:=by
 obtain ⟨nm,kd,ff,ii,ss,ty,⟨da,dn,dc⟩,⟨ta,tn,tc⟩,⟨va,vn,vc⟩⟩:=a;obtain ⟨cd,ct,ci⟩:=c;unfold jb8;obtain ⟨hd,ht,-⟩:=ha;simp only [Sl.v] at *;have HD:=jac hd;have HT:=jac ht;clear hd ht;obtain ⟨R0,hR0⟩ : ∃ r,r=ja7 ⟨nm,kd,ff,ii,ss,ty,⟨da,dn,dc⟩,⟨ta,tn,tc⟩,⟨va,vn,vc⟩⟩ ⟨cd,ct,ci⟩:=⟨_,rfl⟩
 rw [← hR0];have HR:=jac hR0;clear hR0;subst h;have hb:=heap_alloc_new w (.cells #[.string nm,.int .i64 3,.int .i64 ff,.int .i64 ii,.string ss,.int .i64 ty,.slice da dn dc,.slice ta tn tc,.slice va vn vc] 78);obtain ⟨⟨x0,x1,x2,x3,x4,x5,x6,x7,x8⟩,-⟩:=jau hb;have LS:=jac (jaN (.slice (some ⟨w.heap.size+1,0,none⟩) 1 1) [ss] ((w.alloc (.cells #[.string nm,.int .i64 3,.int .i64 ff,.int .i64 ii,.string ss,.int .i64 ty,.slice da dn dc,.slice ta tn tc,.slice va vn vc] 78)).alloc (.cells #[.string ss] 9)) (by have h:=jci (heap_alloc_new (w.alloc (.cells #[.string nm,.int .i64 3,.int .i64 ff,.int .i64 ii,.string ss,.int .i64 ty,.slice da dn dc,.slice ta tn tc,.slice va vn vc] 78)) (.cells #[.string ss] 9));rw [jar] at h;exact h));go_enter Tryz.func96,Tryz.ntmps96;go_wp2_with fail;refine LS.out.mono ?_;obtain ⟨wc,hwc⟩ : ∃ wc,wc=(w.alloc (.cells #[.string nm,.int .i64 3,.int .i64 ff,.int .i64 ii,.string ss,.int .i64 ty,.slice da dn dc,.slice ta tn tc,.slice va vn vc] 78)).alloc (.cells #[.string ss] 9):=⟨_,rfl⟩
 have HB0:Hid (wc.heap[w.heap.size]?=some (.cells #[.string nm,.int .i64 3,.int .i64 ff,.int .i64 ii,.string ss,.int .i64 ty,.slice da dn dc,.slice ta tn tc,.slice va vn vc] 78 (0,0))):=by show _=_;rw [hwc];exact jbT _ _ _ _ _
 have G0:Hid (w.grownBy wc none):=by show w.grownBy wc none;rw [hwc];exact jaa (jab _ _) (jab _ _)
 rw [← hwc];clear x0 x1 x2 x3 x4 x5 x6 x7 x8 LS hwc hb;rintro e w1 ⟨rfl,rfl⟩;obtain ⟨⟨x0,x1,x2,x3,x4,x5,x6,x7,x8⟩,-⟩:=jau HB0.out
 cases hc:jas [ss] with
 | false =>
  obtain ⟨-,f0,f1,f2,f3,f4,f5,f6,f7,f8⟩:=jau HB0.out;have V0:(wc.setCell ⟨w.heap.size,4,none⟩ (.string ⟨#[]⟩)).heap[w.heap.size]?=some (.cells #[.string nm,.int .i64 3,.int .i64 ff,.int .i64 ii,.string ⟨#[]⟩,.int .i64 ty,.slice da dn dc,.slice ta tn tc,.slice va vn vc] 78 (0,0)):=by simpa using heap_setCell_same wc w.heap.size 4 _ _ (.string ⟨#[]⟩) HB0.out
  have G1:=jac (jaf (row:=none) G0.out (jak wc w.heap.size 4 (.string ⟨#[]⟩)) (fun g e=>by cases e;exact .inr (Nat.le_refl _)));have HV:=jac V0;obtain ⟨⟨v0,-⟩,-⟩:=jau V0;clear V0;obtain ⟨ws,hws⟩ : ∃ ws,ws=(wc.setCell ⟨w.heap.size,4,none⟩ (.string ⟨#[]⟩)):=⟨_,rfl⟩
  have SS:Hid (ws.heap.size=wc.heap.size):=by show _=_;rw [hws];exact World.size_setCell _ _ _
  have LG:=jac (jaN (.slice (some ⟨wc.heap.size,0,none⟩) 1 1) [nm] (ws.alloc (.cells #[.string nm] 9)) (by have h:=jci (heap_alloc_new ws (.cells #[.string nm] 9));rw [SS.out] at h;exact h));rw [← hws] at HV G1;have G2:=jac (jaa G1.out (jab ws (.cells #[.string nm] 9)));have H2:=jac (((jab ws (.cells #[.string nm] 9)).block w.heap.size (Array.getElem?_eq_some_iff.1 HV.out).1 (by simp)).trans HV.out);rw [hws] at LG G2 H2;clear hws;go_wp2_with fail;refine LG.out.mono ?_;rintro e w2 ⟨rfl,hw2⟩;rw [hw2] at G2 H2;clear hw2 LG v0 x0 x1 x2 x3 x4 x5 x6 x7 x8 f0 f1 f2 f3 f4 f5 f6 f7 f8 HB0 HV G1;obtain ⟨⟨x0,x1,x2,x3,x4,x5,x6,x7,x8⟩,-⟩:=jau H2.out
  cases hl:jas [nm] with
  | true =>
   have E:Hid (R0=false):=by show _=_;rw [HR.out];simp [ja7,jcc, *]
   clear HR hl;go_wp2;go_ret;exact ⟨congrArg (fun b=>Ending.returned (Value.bool b)) E.out.symm,G2.out⟩
  | false =>
   have E:Hid (R0=jcg ⟨nm,3,ff,ii,⟨#[]⟩,ty,⟨da,dn,dc⟩,⟨ta,tn,tc⟩,⟨va,vn,vc⟩⟩):=by show _=_;rw [HR.out];simp [ja7,jcc,jb9, *]
   have HO:=jac (jfc ⟨nm,3,ff,ii,⟨#[]⟩,ty,⟨da,dn,dc⟩,⟨ta,tn,tc⟩,⟨va,vn,vc⟩⟩ w2);unfold jb8 at HO;clear HR hl;go_wp2_with fail;refine HO.out.mono ?_;rintro e w3 ⟨rfl,hg⟩;have G3:=jac (jaa G2.out hg);clear hg;go_wp2;go_ret;exact ⟨congrArg (fun b=>Ending.returned (Value.bool b)) E.out.symm,G3.out⟩
 | true =>
  obtain ⟨-,f0,f1,f2,f3,f4,f5,f6,f7,f8⟩:=jau HB0.out;have V0:(wc.setCell ⟨w.heap.size,4,none⟩ (.string ⟨#[]⟩)).heap[w.heap.size]?=some (.cells #[.string nm,.int .i64 3,.int .i64 ff,.int .i64 ii,.string ⟨#[]⟩,.int .i64 ty,.slice da dn dc,.slice ta tn tc,.slice va vn vc] 78 (0,0)):=by simpa using heap_setCell_same wc w.heap.size 4 _ _ (.string ⟨#[]⟩) HB0.out
  have G1:=jac (jaf (row:=none) G0.out (jak wc w.heap.size 4 (.string ⟨#[]⟩)) (fun g e=>by cases e;exact .inr (Nat.le_refl _)));have HV:=jac V0;clear V0;have E:Hid (R0=false):=by show _=_;rw [HR.out];simp [ja7,jcc, *]
  clear HR;go_wp2;go_ret;exact ⟨congrArg (fun b=>Ending.returned (Value.bool b)) E.out.symm,G1.out⟩
theorem joq (a:Atr) (c:Cont) (w:World) (ha:Has w a c) (h:a.kind=4):Calls Tryz.prog 96 #[jb8 a] w fun e w'=>e=.returned (.bool (ja7 a c))∧w.grownBy w' none:=by
 obtain ⟨nm,kd,ff,ii,ss,ty,⟨da,dn,dc⟩,⟨ta,tn,tc⟩,⟨va,vn,vc⟩⟩:=a;obtain ⟨cd,ct,ci⟩:=c;unfold jb8;obtain ⟨hd,ht,-⟩:=ha;simp only [Sl.v] at *;have HD:=jac hd;have HT:=jac ht;clear hd ht;obtain ⟨R0,hR0⟩ : ∃ r,r=ja7 ⟨nm,kd,ff,ii,ss,ty,⟨da,dn,dc⟩,⟨ta,tn,tc⟩,⟨va,vn,vc⟩⟩ ⟨cd,ct,ci⟩:=⟨_,rfl⟩
 rw [← hR0];have HR:=jac hR0;clear hR0;subst h;have hb:=heap_alloc_new w (.cells #[.string nm,.int .i64 4,.int .i64 ff,.int .i64 ii,.string ss,.int .i64 ty,.slice da dn dc,.slice ta tn tc,.slice va vn vc] 78);obtain ⟨⟨x0,x1,x2,x3,x4,x5,x6,x7,x8⟩,-⟩:=jau hb;go_enter Tryz.func96,Tryz.ntmps96;go_wp2_with fail;obtain ⟨wc,hwc⟩ : ∃ wc,wc=w.alloc (.cells #[.string nm,.int .i64 4,.int .i64 ff,.int .i64 ii,.string ss,.int .i64 ty,.slice da dn dc,.slice ta tn tc,.slice va vn vc] 78):=⟨_,rfl⟩
 have HB0:Hid (wc.heap[w.heap.size]?=some (.cells #[.string nm,.int .i64 4,.int .i64 ff,.int .i64 ii,.string ss,.int .i64 ty,.slice da dn dc,.slice ta tn tc,.slice va vn vc] 78 (0,0))):=by show _=_;rw [hwc];exact hb
 have G0:Hid (w.grownBy wc none):=by show w.grownBy wc none;rw [hwc];exact jab _ _
 rw [← hwc] at x0 x1 x2 x3 x4 x5 x6 x7 x8 ⊢;clear hwc hb;have PC:=jac (jeG ty (.slice da dn dc) (.slice ta tn tc) cd ct wc (jaj.more HD.out G0.out) (jaj.more HT.out G0.out));refine PC.out.mono ?_;rintro e w1 ⟨rfl,hg⟩;have HB1:=jac ((hg.block w.heap.size (Array.getElem?_eq_some_iff.1 HB0.out).1 (by simp)).trans HB0.out);have G01:=jac (jaa G0.out hg);clear hg PC x0 x1 x2 x3 x4 x5 x6 x7 x8 HB0 G0;have HB0:=HB1;have G0:=G01;clear HB1 G01;obtain ⟨⟨x0,x1,x2,x3,x4,x5,x6,x7,x8⟩,-⟩:=jau HB0.out;obtain ⟨pe,hpe⟩ : ∃ x,x=pbE ty cd ct:=⟨_,rfl⟩
 rw [← hpe]
 by_cases hc:pe=0
 ·skip
  have HC:Hid (pbE ty cd ct=0):=by show _=_;rw [← hpe,hc]
  have hc2:=HC.out;subst hc;clear hpe;obtain ⟨-,f0,f1,f2,f3,f4,f5,f6,f7,f8⟩:=jau HB0.out;have V0:(w1.setCell ⟨w.heap.size,5,none⟩ (.int .i64 0)).heap[w.heap.size]?=some (.cells #[.string nm,.int .i64 4,.int .i64 ff,.int .i64 ii,.string ss,.int .i64 0,.slice da dn dc,.slice ta tn tc,.slice va vn vc] 78 (0,0)):=by simpa using heap_setCell_same w1 w.heap.size 5 _ _ (.int .i64 0) HB0.out
  have V1:((w1.setCell ⟨w.heap.size,5,none⟩ (.int .i64 0)).setCell ⟨w.heap.size,6,none⟩ (.slice none 0 0)).heap[w.heap.size]?=some (.cells #[.string nm,.int .i64 4,.int .i64 ff,.int .i64 ii,.string ss,.int .i64 0,.slice none 0 0,.slice ta tn tc,.slice va vn vc] 78 (0,0)):=by simpa using heap_setCell_same (w1.setCell ⟨w.heap.size,5,none⟩ (.int .i64 0)) w.heap.size 6 _ _ (.slice none 0 0) V0
  have V2:(((w1.setCell ⟨w.heap.size,5,none⟩ (.int .i64 0)).setCell ⟨w.heap.size,6,none⟩ (.slice none 0 0)).setCell ⟨w.heap.size,7,none⟩ (.slice none 0 0)).heap[w.heap.size]?=some (.cells #[.string nm,.int .i64 4,.int .i64 ff,.int .i64 ii,.string ss,.int .i64 0,.slice none 0 0,.slice none 0 0,.slice va vn vc] 78 (0,0)):=by simpa using heap_setCell_same ((w1.setCell ⟨w.heap.size,5,none⟩ (.int .i64 0)).setCell ⟨w.heap.size,6,none⟩ (.slice none 0 0)) w.heap.size 7 _ _ (.slice none 0 0) V1
  have G1:=jac (jaf (row:=none) G0.out (Wr.row_trans (Wr.row_trans (jak w1 w.heap.size 5 (.int .i64 0)) (jak _ w.heap.size 6 (.slice none 0 0))) (jak _ w.heap.size 7 (.slice none 0 0))) (fun g e=>by cases e;exact .inr (Nat.le_refl _)));have HV:=jac V2;obtain ⟨⟨v0,-⟩,-⟩:=jau V2;clear V0 V1 V2 ;obtain ⟨ws,hws⟩ : ∃ ws,ws=(((w1.setCell ⟨w.heap.size,5,none⟩ (.int .i64 0)).setCell ⟨w.heap.size,6,none⟩ (.slice none 0 0)).setCell ⟨w.heap.size,7,none⟩ (.slice none 0 0)):=⟨_,rfl⟩
  have SS:Hid (ws.heap.size=w1.heap.size):=by show _=_;rw [hws];exact (World.size_setCell _ _ _).trans ((World.size_setCell _ _ _).trans (World.size_setCell _ _ _))
  have LG:=jac (jaN (.slice (some ⟨w1.heap.size,0,none⟩) 1 1) [nm] (ws.alloc (.cells #[.string nm] 9)) (by have h:=jci (heap_alloc_new ws (.cells #[.string nm] 9));rw [SS.out] at h;exact h));rw [← hws] at HV G1;have G2:=jac (jaa G1.out (jab ws (.cells #[.string nm] 9)));have H2:=jac (((jab ws (.cells #[.string nm] 9)).block w.heap.size (Array.getElem?_eq_some_iff.1 HV.out).1 (by simp)).trans HV.out);rw [hws] at LG G2 H2;clear hws;go_wp2_with fail;refine LG.out.mono ?_;rintro e w2 ⟨rfl,hw2⟩;rw [hw2] at G2 H2;clear hw2 LG v0 x0 x1 x2 x3 x4 x5 x6 x7 x8 f0 f1 f2 f3 f4 f5 f6 f7 f8 HB0 HV G1;obtain ⟨⟨x0,x1,x2,x3,x4,x5,x6,x7,x8⟩,-⟩:=jau H2.out
  cases hl:jas [nm] with
  | true =>
   have E:Hid (R0=false):=by show _=_;rw [HR.out];simp [ja7,jcc, *]
   clear HR hl;go_wp2;go_ret;exact ⟨congrArg (fun b=>Ending.returned (Value.bool b)) E.out.symm,G2.out⟩
  | false =>
   have E:Hid (R0=jcg ⟨nm,4,ff,ii,ss,0,⟨none,0,0⟩,⟨none,0,0⟩,⟨va,vn,vc⟩⟩):=by show _=_;rw [HR.out];simp [ja7,jcc,jb9, *]
   have HO:=jac (jfc ⟨nm,4,ff,ii,ss,0,⟨none,0,0⟩,⟨none,0,0⟩,⟨va,vn,vc⟩⟩ w2);unfold jb8 at HO;clear HR hl;go_wp2_with fail;refine HO.out.mono ?_;rintro e w3 ⟨rfl,hg⟩;have G3:=jac (jaa G2.out hg);clear hg;go_wp2;go_ret;exact ⟨congrArg (fun b=>Ending.returned (Value.bool b)) E.out.symm,G3.out⟩
 ·skip
  have hc2:¬ pbE ty cd ct=0:=by rw [← hpe];exact hc
  have hc3:(pe==0)=false:=by simpa using hc
  obtain ⟨-,f0,f1,f2,f3,f4,f5,f6,f7,f8⟩:=jau HB0.out;have V0:(w1.setCell ⟨w.heap.size,5,none⟩ (.int .i64 0)).heap[w.heap.size]?=some (.cells #[.string nm,.int .i64 4,.int .i64 ff,.int .i64 ii,.string ss,.int .i64 0,.slice da dn dc,.slice ta tn tc,.slice va vn vc] 78 (0,0)):=by simpa using heap_setCell_same w1 w.heap.size 5 _ _ (.int .i64 0) HB0.out
  have V1:((w1.setCell ⟨w.heap.size,5,none⟩ (.int .i64 0)).setCell ⟨w.heap.size,6,none⟩ (.slice none 0 0)).heap[w.heap.size]?=some (.cells #[.string nm,.int .i64 4,.int .i64 ff,.int .i64 ii,.string ss,.int .i64 0,.slice none 0 0,.slice ta tn tc,.slice va vn vc] 78 (0,0)):=by simpa using heap_setCell_same (w1.setCell ⟨w.heap.size,5,none⟩ (.int .i64 0)) w.heap.size 6 _ _ (.slice none 0 0) V0
  have V2:(((w1.setCell ⟨w.heap.size,5,none⟩ (.int .i64 0)).setCell ⟨w.heap.size,6,none⟩ (.slice none 0 0)).setCell ⟨w.heap.size,7,none⟩ (.slice none 0 0)).heap[w.heap.size]?=some (.cells #[.string nm,.int .i64 4,.int .i64 ff,.int .i64 ii,.string ss,.int .i64 0,.slice none 0 0,.slice none 0 0,.slice va vn vc] 78 (0,0)):=by simpa using heap_setCell_same ((w1.setCell ⟨w.heap.size,5,none⟩ (.int .i64 0)).setCell ⟨w.heap.size,6,none⟩ (.slice none 0 0)) w.heap.size 7 _ _ (.slice none 0 0) V1
  have G1:=jac (jaf (row:=none) G0.out (Wr.row_trans (Wr.row_trans (jak w1 w.heap.size 5 (.int .i64 0)) (jak _ w.heap.size 6 (.slice none 0 0))) (jak _ w.heap.size 7 (.slice none 0 0))) (fun g e=>by cases e;exact .inr (Nat.le_refl _)));have HV:=jac V2;clear V0 V1 V2;have E:Hid (R0=false):=by show _=_;rw [HR.out];simp [ja7,jcc, *]
  clear HR;go_wp2;go_ret;exact ⟨congrArg (fun b=>Ending.returned (Value.bool b)) E.out.symm,G1.out⟩
theorem jor (a:Atr) (c:Cont) (w:World) (ha:Has w a c) (h:a.kind=7):Calls Tryz.prog 96 #[jb8 a] w fun e w'=>e=.returned (.bool (ja7 a c))∧w.grownBy w' none:=by
 obtain ⟨nm,kd,ff,ii,ss,ty,⟨da,dn,dc⟩,⟨ta,tn,tc⟩,⟨va,vn,vc⟩⟩:=a;obtain ⟨cd,ct,ci⟩:=c;unfold jb8;obtain ⟨hd,ht,-⟩:=ha;simp only [Sl.v] at *;have HD:=jac hd;have HT:=jac ht;clear hd ht;obtain ⟨R0,hR0⟩ : ∃ r,r=ja7 ⟨nm,kd,ff,ii,ss,ty,⟨da,dn,dc⟩,⟨ta,tn,tc⟩,⟨va,vn,vc⟩⟩ ⟨cd,ct,ci⟩:=⟨_,rfl⟩
 rw [← hR0];have HR:=jac hR0;clear hR0;subst h;have hb:=heap_alloc_new w (.cells #[.string nm,.int .i64 7,.int .i64 ff,.int .i64 ii,.string ss,.int .i64 ty,.slice da dn dc,.slice ta tn tc,.slice va vn vc] 78);obtain ⟨⟨x0,x1,x2,x3,x4,x5,x6,x7,x8⟩,-⟩:=jau hb;have HB0:=jac hb;have G0:=jac (jab w (.cells #[.string nm,.int .i64 7,.int .i64 ff,.int .i64 ii,.string ss,.int .i64 ty,.slice da dn dc,.slice ta tn tc,.slice va vn vc] 78));clear hb
 by_cases hc:vn≤20
 ·skip
  obtain ⟨-,f0,f1,f2,f3,f4,f5,f6,f7,f8⟩:=jau HB0.out;have V0:=heap_alloc_new w (.cells #[.string nm,.int .i64 7,.int .i64 ff,.int .i64 ii,.string ss,.int .i64 ty,.slice da dn dc,.slice ta tn tc,.slice none 0 0] 78);have G1:=jac (jab w (.cells #[.string nm,.int .i64 7,.int .i64 ff,.int .i64 ii,.string ss,.int .i64 ty,.slice da dn dc,.slice ta tn tc,.slice none 0 0] 78));have HV:=jac V0;obtain ⟨⟨v0,-⟩,-⟩:=jau V0;clear V0;obtain ⟨ws,hws⟩ : ∃ ws,ws=(w.alloc (.cells #[.string nm,.int .i64 7,.int .i64 ff,.int .i64 ii,.string ss,.int .i64 ty,.slice da dn dc,.slice ta tn tc,.slice none 0 0] 78)):=⟨_,rfl⟩
  have SS:Hid (ws.heap.size=w.heap.size+1):=by show _=_;rw [hws];exact jar _ _ _
  have LG:=jac (jaN (.slice (some ⟨w.heap.size+1,0,none⟩) 1 1) [nm] (ws.alloc (.cells #[.string nm] 9)) (by have h:=jci (heap_alloc_new ws (.cells #[.string nm] 9));rw [SS.out] at h;exact h));rw [← hws] at HV G1;have G2:=jac (jaa G1.out (jab ws (.cells #[.string nm] 9)));have H2:=jac (((jab ws (.cells #[.string nm] 9)).block w.heap.size (Array.getElem?_eq_some_iff.1 HV.out).1 (by simp)).trans HV.out);rw [hws] at LG G2 H2;clear hws;have hd:decide ((vn:Int)≤20)=true:=by simp;omega
  go_enter Tryz.func96,Tryz.ntmps96;go_wp2_with fail;refine LG.out.mono ?_;rintro e w2 ⟨rfl,hw2⟩;rw [hw2] at G2 H2;clear hw2 LG v0 x0 x1 x2 x3 x4 x5 x6 x7 x8 f0 f1 f2 f3 f4 f5 f6 f7 f8 HB0 HV G1;obtain ⟨⟨x0,x1,x2,x3,x4,x5,x6,x7,x8⟩,-⟩:=jau H2.out
  cases hl:jas [nm] with
  | true =>
   have E:Hid (R0=false):=by show _=_;rw [HR.out];simp [ja7,jcc, *]
   clear HR hl;go_wp2;go_ret;exact ⟨congrArg (fun b=>Ending.returned (Value.bool b)) E.out.symm,G2.out⟩
  | false =>
   have E:Hid (R0=jcg ⟨nm,7,ff,ii,ss,ty,⟨da,dn,dc⟩,⟨ta,tn,tc⟩,⟨none,0,0⟩⟩):=by show _=_;rw [HR.out];simp [ja7,jcc,jb9, *]
   have HO:=jac (jfc ⟨nm,7,ff,ii,ss,ty,⟨da,dn,dc⟩,⟨ta,tn,tc⟩,⟨none,0,0⟩⟩ w2);unfold jb8 at HO;clear HR hl;go_wp2_with fail;refine HO.out.mono ?_;rintro e w3 ⟨rfl,hg⟩;have G3:=jac (jaa G2.out hg);clear hg;go_wp2;go_ret;exact ⟨congrArg (fun b=>Ending.returned (Value.bool b)) E.out.symm,G3.out⟩
 ·skip
  obtain ⟨-,f0,f1,f2,f3,f4,f5,f6,f7,f8⟩:=jau HB0.out;have V0:=heap_alloc_new w (.cells #[.string nm,.int .i64 7,.int .i64 ff,.int .i64 ii,.string ss,.int .i64 ty,.slice da dn dc,.slice ta tn tc,.slice none 0 0] 78);have G1:=jac (jab w (.cells #[.string nm,.int .i64 7,.int .i64 ff,.int .i64 ii,.string ss,.int .i64 ty,.slice da dn dc,.slice ta tn tc,.slice none 0 0] 78));have HV:=jac V0;clear V0;have E:Hid (R0=false):=by show _=_;rw [HR.out];simp [ja7,jcc, *]
  clear HR;have hd:decide ((vn:Int)≤20)=false:=by simp;omega
  go_enter Tryz.func96,Tryz.ntmps96;go_wp2;go_ret;exact ⟨congrArg (fun b=>Ending.returned (Value.bool b)) E.out.symm,G1.out⟩
theorem jlg (a:Atr) (c:Cont) (w:World) (ha:Has w a c) (h1:¬ a.kind=1) (h2:¬ a.kind=2) (h3:¬ a.kind=3) (h4:¬ a.kind=4) (h7:¬ a.kind=7):Calls Tryz.prog 96 #[jb8 a] w fun e w'=>e=.returned (.bool (ja7 a c))∧w.grownBy w' none:=by
 obtain ⟨nm,kd,ff,ii,ss,ty,⟨da,dn,dc⟩,⟨ta,tn,tc⟩,⟨va,vn,vc⟩⟩:=a;obtain ⟨cd,ct,ci⟩:=c;unfold jb8;obtain ⟨hd,ht,-⟩:=ha;simp only [Sl.v] at *;have HD:=jac hd;have HT:=jac ht;clear hd ht;obtain ⟨R0,hR0⟩ : ∃ r,r=ja7 ⟨nm,kd,ff,ii,ss,ty,⟨da,dn,dc⟩,⟨ta,tn,tc⟩,⟨va,vn,vc⟩⟩ ⟨cd,ct,ci⟩:=⟨_,rfl⟩
 rw [← hR0];have HR:=jac hR0;clear hR0;have E:Hid (R0=false):=by show _=_;rw [HR.out];simp [ja7,jcc, *]
 have b1:(kd==1)=false:=by simpa using h1
 have b2:(kd==2)=false:=by simpa using h2
 have b3:(kd==3)=false:=by simpa using h3
 have b4:(kd==4)=false:=by simpa using h4
 have b7:(kd==7)=false:=by simpa using h7
 clear h1 h2 h3 h4 h7 HR;rw [E.out];have hb:=heap_alloc_new w (.cells #[.string nm,.int .i64 kd,.int .i64 ff,.int .i64 ii,.string ss,.int .i64 ty,.slice da dn dc,.slice ta tn tc,.slice va vn vc] 78);have G0:=jac (jab w (.cells #[.string nm,.int .i64 kd,.int .i64 ff,.int .i64 ii,.string ss,.int .i64 ty,.slice da dn dc,.slice ta tn tc,.slice va vn vc] 78));obtain ⟨⟨x0,x1,x2,x3,x4,x5,x6,x7,x8⟩,-⟩:=jau hb;clear hb;go_enter Tryz.func96,Tryz.ntmps96;go_wp2;go_ret;exact ⟨rfl,G0.out⟩
theorem jie (a:Atr) (c:Cont) (w:World) (ha:Has w a c):Calls Tryz.prog 96 #[jb8 a] w fun e w'=>e=.returned (.bool (ja7 a c))∧w.grownBy w' none:=by
 by_cases h1:a.kind=1
 ·exact jon a c w ha h1
 by_cases h2:a.kind=2
 ·exact joo a c w ha h2
 by_cases h3:a.kind=3
 ·exact jop a c w ha h3
 by_cases h4:a.kind=4
 ·exact joq a c w ha h4
 by_cases h7:a.kind=7
 ·exact jor a c w ha h7
 exact jlg a c w ha h1 h2 h3 h4 h7
end Go.Proofs.YtbgbpfbjeleooaaGreat.Pd
