/- A part. -/
import Derived.Test.YtbgbpfbjeleooaaGreatRartBK
import Derived.Test.YtbgbpfbjeleooaaGreatRartAW
import Derived.Test.YtbgbpfbjeleooaaGreatRartAY
set_option maxHeartbeats 12800000
set_option maxRecDepth 100000
namespace Go.Proofs.YtbgbpfbjeleooaaGreat.Pd
open Go.RowKit
open Wr (Fld)
def jea (p:Val×List Int):Bool:=!jas [p.1.name]&&chk p.1.ty 0&&decide (jcL p.2=0)
def jaW (vs:List (Val×List Int)):Bool:=vs.all jea
theorem jfG (v:Value) (vs:List (Val×List Int)) (w:World) (hv:jex w v (vs.map (·.1))) (hd:∀ p∈vs,jiA w p.1 p.2) :
    Calls Tryz.prog 68 #[v] w fun e w'=>e=.returned (.bool (jaW vs))∧w.grownBy w' none:=by
     have HV:=jac hv;have HD:=jac hd;obtain ⟨va,vc,rfl,n1,n2,-⟩:=hv.form;have hNL:vs.length≤9223372036854775807:=by rw [List.length_map] at n1;omega
     clear hv hd n1 n2;rw [List.length_map] at HV ⊢;obtain ⟨R0,hR0⟩ : ∃ r,r=jaW vs:=⟨_,rfl⟩
     rw [← hR0];have G:=jac (jae w);have E:Hid (R0=(vs.all jea&&true)):=by show _=_;rw [hR0,Bool.and_true];rfl
     clear hR0;go_enter Tryz.func68,Tryz.ntmps68;go_wp2;go_loopg [9] vs.length (fun gh iv wr=>∃ k:Nat,gh=vs.length - k∧k≤vs.length∧iv=.int .i64 k∧w.grownBy wr none∧R0=((vs.drop k).all jea&&true))
     case atStart=>exact ⟨0,rfl,Nat.zero_le _,rfl,G.out,by rw [List.drop_zero];exact E.out⟩
     case round =>
      clear G E;obtain ⟨k,rfl,hk,rfl,hg,he⟩:=hrel;have G:=jac hg;have E:=jac he;clear hg he
      by_cases hlt:k<vs.length
      ·skip
       obtain ⟨xb,xo,rfl⟩:=(HV.out.more G.out).addr (k:=k) (by rw [List.length_map];exact hlt);have NC:=IsL.val (HV.out.more G.out) k (by rw [List.length_map];exact hlt);simp only [List.getElem_map] at NC;obtain ⟨e0,e1,e2⟩:=NC;have hx0:=HD.out vs[k] (List.getElem_mem hlt);have DS:=List.drop_eq_getElem_cons hlt;obtain ⟨p,hp⟩ : ∃ p,p=vs[k]:=⟨_,rfl⟩
       rw [← hp] at e0 e1 e2 hx0 DS;obtain ⟨x,cx⟩:=p;simp only at e0 e1 e2 hx0;have HX:=jac (jaj.more hx0 G.out);clear hp hx0;have E1:Hid (R0=((jea (x,cx)&&(vs.drop (k+1)).all jea)&&true)):=by show _=_;rw [E.out,DS];rfl
       clear E DS;have LG:=jac (jaN (.slice (some ⟨wr.heap.size+1,0,none⟩) 1 1) [x.name] ((wr.alloc (.cells #[.string x.name,.int .i64 x.ty,.slice x.dv.a x.dv.n x.dv.c] 82)).alloc (.cells #[.string x.name] 9)) (by have h:=jci (heap_alloc_new (wr.alloc (.cells #[.string x.name,.int .i64 x.ty,.slice x.dv.a x.dv.n x.dv.c] 82)) (.cells #[.string x.name] 9));rw [jar] at h;exact h));have hb1:((wr.alloc (.cells #[.string x.name,.int .i64 x.ty,.slice x.dv.a x.dv.n x.dv.c] 82)).alloc (.cells #[.string x.name] 9)).heap[wr.heap.size]?=some (.cells #[.string x.name,.int .i64 x.ty,.slice x.dv.a x.dv.n x.dv.c] 82 (0,0)):=jbT _ _ _ _ _;have gd:wr.grownBy ((wr.alloc (.cells #[.string x.name,.int .i64 x.ty,.slice x.dv.a x.dv.n x.dv.c] 82)).alloc (.cells #[.string x.name] 9)) none:=jaa (jab _ _) (jab _ _);obtain ⟨⟨y0,y1,y2⟩,-⟩:=jbn (heap_alloc_new wr (.cells #[.string x.name,.int .i64 x.ty,.slice x.dv.a x.dv.n x.dv.c] 82));go_wp2_with fail;refine LG.out.mono ?_;obtain ⟨wn,hwn⟩ : ∃ y9,y9=(wr.alloc (.cells #[.string x.name,.int .i64 x.ty,.slice x.dv.a x.dv.n x.dv.c] 82)).alloc (.cells #[.string x.name] 9):=⟨_,rfl⟩
       rw [← hwn] at gd hb1 ⊢;have G2:=jac (jaa G.out gd);have HB:=jac hb1;have HX2:=jac (jaj.more HX.out gd);clear hwn LG G gd hb1 e0 e1 e2 y0 y1 y2;rintro e wq ⟨rfl,rfl⟩;obtain ⟨⟨y0,y1,y2⟩,-⟩:=jbn HB.out;have E:=E1;clear E1
       cases hl:jas [x.name] with
       | true =>
        have E2:Hid (R0=false):=by show _=_;rw [E.out];simp [jea,hl]
        clear E;have E:=E2;clear E2 hl;go_wp2;go_ret;exact ⟨congrArg (fun b=>Ending.returned (Value.bool b)) E.out.symm,G2.out⟩
       | false =>
        go_wp2_with fail;refine (jfk x.ty wn).mono ?_;rintro e wq ⟨rfl,rfl⟩
        cases hc:chk x.ty 0 with
        | false =>
         have E2:Hid (R0=false):=by show _=_;rw [E.out];simp [jea,hc]
         clear E;have E:=E2;clear E2 hl hc;go_wp2;go_ret;exact ⟨congrArg (fun b=>Ending.returned (Value.bool b)) E.out.symm,G2.out⟩
        | true =>
         have CN:=jac (jf3 (.slice x.dv.a x.dv.n x.dv.c) cx wq HX2.out);go_wp2_with fail;refine CN.out.mono ?_;rintro e wz ⟨rfl,rfl⟩;obtain ⟨X,hX⟩ : ∃ X,X=jcL cx:=⟨_,rfl⟩
         obtain ⟨Y,hY⟩ : ∃ Y,Y=cnt cx:=⟨_,rfl⟩
         rw [← hX,← hY]
         by_cases hx:X=0
         ·have E2:Hid (R0=((vs.drop (k+1)).all jea&&true)):=by show _=_;rw [E.out];simp [jea,hl,hc,← hX,hx]
          clear E hX hY hl hc CN;have E:=E2;subst hx;clear E2;go_wp2_with fail;go_roundg (vs.length - (k+1))
          case measure=>omega
          case rel=>exact ⟨k+1,rfl,by omega,by go_num,G2.out,E.out⟩
         ·have hx2:(X==0)=false:=by simpa using hx
          have E2:Hid (R0=false):=by show _=_;rw [E.out];simp [jea,hl,hc,← hX,hx]
          clear E;have E:=E2;clear E2 hl hc hX hY CN hx;go_wp2;go_ret;exact ⟨congrArg (fun b=>Ending.returned (Value.bool b)) E.out.symm,G2.out⟩
      ·obtain hkN:k=vs.length:=by omega
       have E2:Hid (R0=true):=by show _=_;rw [E.out,List.drop_eq_nil_of_le (by omega)];rfl
       clear E;have E:=E2;clear E2;subst hkN;go_wp2;go_ret;exact ⟨congrArg (fun b=>Ending.returned (Value.bool b)) E.out.symm,G.out⟩
end Go.Proofs.YtbgbpfbjeleooaaGreat.Pd
namespace Go.Proofs.YtbgbpfbjeleooaaGreat.Pd
open Go.RowKit
open Wr (Fld)
def jdh (p:Atr×Cont):Bool:=ja7 p.1 p.2
def jgo (n:Nod) (q:Ni):Bool:=decide (q.ins.length≤20)&&decide (q.xs.length≤20)&&!jas q.ins&&!jas [n.out,n.name,n.op]&&(q.xs.zip q.cs).all jdh
theorem jif {xs:List Atr} {cs:List Cont} {k:Nat} {x:Atr} {c:Cont} (hx:xs[k]?=some x) (hc:cs[k]?=some c):(xs.zip cs).drop k=(x,c)::(xs.zip cs).drop (k+1):=by
 have h1:=(List.getElem?_eq_some_iff.1 hx)
 have h2:=(List.getElem?_eq_some_iff.1 hc)
 obtain ⟨l1,r1⟩:=h1;obtain ⟨l2,r2⟩:=h2;have hl:k<(xs.zip cs).length:=by rw [List.length_zip];omega
 rw [List.drop_eq_getElem_cons hl,List.getElem_zip,r1,r2]
theorem jiX (n:Nod) (q:Ni) (w:World) (hq:NodeIn0 w n q.ins q.xs q.cs) :
    Calls Tryz.prog 67 #[jgJ n] w fun e w'=>e=.returned (.bool (jgo n q))∧w.grownBy w' none:=by
     obtain ⟨hi,ha,hh⟩:=hq;obtain ⟨ins,xs,cs⟩:=q;obtain ⟨op,nm,iv,out,av⟩:=n;simp only at hi ha hh;obtain ⟨ia,ic,e1,i1,i2,-⟩:=hi.form;obtain ⟨aa,ac,e2,n1,n2,-⟩:=ha.form;have hNI:ins.length≤9223372036854775807:=by omega
     have hNL:xs.length≤9223372036854775807:=by omega
     have HI:=jac hi;have HA:=jac ha;have HH:=jac hh;unfold jgJ;simp only [Sl.v,Value.slice.injEq] at e1 e2;obtain ⟨e1a,e1b,e1c⟩:=e1;obtain ⟨e2a,e2b,e2c⟩:=e2;simp only [Sl.v] at HI HA ⊢;rw [e1a,e1b,e1c] at HI ⊢;rw [e2a,e2b,e2c] at HA ⊢;clear e1a e1b e1c e2a e2b e2c hi ha hh i1 i2 n1 n2;obtain ⟨R0,hR0⟩ : ∃ r,r=jgo ⟨op,nm,iv,out,av⟩ ⟨ins,xs,cs⟩:=⟨_,rfl⟩
     rw [← hR0];have E:Hid (R0=(decide (ins.length≤20)&&decide (xs.length≤20)&&!jas ins&&!jas [out,nm,op]&&(xs.zip cs).all jdh)):=hR0;clear hR0;have hb:=heap_alloc_new w (.cells #[.string op,.string nm,.slice ia ins.length ic,.string out,.slice aa xs.length ac] 35);obtain ⟨⟨x0,x1,x2,x3,x4⟩,-⟩:=jam hb;have g0:=jab w (.cells #[.string op,.string nm,.slice ia ins.length ic,.string out,.slice aa xs.length ac] 35)
     by_cases c1:20<ins.length
     ·have d1:decide ((20:Int)<(ins.length:Int))=true:=by simp;omega
      have G2:=jac g0;have E2:Hid (R0=false):=by show _=_;rw [E.out,decide_eq_false (by omega:¬ ins.length≤20)];rfl
      clear E c1 hb g0;have E:=E2;go_enter Tryz.func67,Tryz.ntmps67;go_wp2;go_ret;exact ⟨congrArg (fun b=>Ending.returned (Value.bool b)) E.out.symm,G2.out⟩
     have d1:decide ((20:Int)<(ins.length:Int))=false:=by simp;omega
     by_cases c2:20<xs.length
     ·have d2:decide ((20:Int)<(xs.length:Int))=true:=by simp;omega
      have G2:=jac g0;have E2:Hid (R0=false):=by show _=_;rw [E.out,decide_eq_false (by omega:¬ xs.length≤20),Bool.and_false];rfl
      clear E c2 hb g0;have E:=E2;go_enter Tryz.func67,Tryz.ntmps67;go_wp2;go_ret;exact ⟨congrArg (fun b=>Ending.returned (Value.bool b)) E.out.symm,G2.out⟩
     have d2:decide ((20:Int)<(xs.length:Int))=false:=by simp;omega
     have E2:Hid (R0=(!jas ins&&!jas [out,nm,op]&&(xs.zip cs).all jdh)):=by show _=_;rw [E.out,decide_eq_true (by omega:ins.length≤20),decide_eq_true (by omega:xs.length≤20)];rfl
     clear E c1 c2;have E:=E2;clear E2;go_enter Tryz.func67,Tryz.ntmps67;go_wp2_with fail;obtain ⟨wa,hwa⟩ : ∃ y9,y9=w.alloc (.cells #[.string op,.string nm,.slice ia ins.length ic,.string out,.slice aa xs.length ac] 35):=⟨_,rfl⟩
     rw [← hwa] at hb g0 ⊢;have G:=jac g0;have HB:=jac hb;have LI:=jac (jaN (.slice ia ins.length ic) ins wa (HI.out.more g0));clear hwa hb g0 d1 d2 x0 x1 x2 x3 x4;refine LI.out.mono ?_;rintro e wq ⟨rfl,rfl⟩;obtain ⟨⟨x0,x1,x2,x3,x4⟩,-⟩:=jam HB.out;clear LI
     cases hl:jas ins with
     | true =>
      have G2:=G;clear G;have E2:Hid (R0=false):=by show _=_;rw [E.out,hl];simp
      clear E;have E:=E2;clear E2 hl;go_wp2;go_ret;exact ⟨congrArg (fun b=>Ending.returned (Value.bool b)) E.out.symm,G2.out⟩
     | false =>
      have E2:Hid (R0=(!jas [out,nm,op]&&(xs.zip cs).all jdh)):=by show _=_;rw [E.out,hl];simp
      clear E hl;have E:=E2;clear E2;have LO3:=jac (jaN (.slice (some ⟨wa.heap.size,0,none⟩) 3 3) [out,nm,op] (wa.alloc (.cells #[.string out,.string nm,.string op] 9)) (jfv (heap_alloc_new wa _)));have gd:=jab wa (.cells #[.string out,.string nm,.string op] 9);go_wp2_with fail;refine LO3.out.mono ?_;obtain ⟨wn,hwn⟩ : ∃ y9,y9=wa.alloc (.cells #[.string out,.string nm,.string op] 9):=⟨_,rfl⟩
      rw [← hwn] at gd ⊢;have G2:=jac (jaa G.out gd);have HB2:=jac ((gd.block w.heap.size (Array.getElem?_eq_some_iff.1 HB.out).1 (by simp)).trans HB.out);clear hwn gd G HB LO3 x0 x1 x2 x3 x4;rintro e wq ⟨rfl,rfl⟩;obtain ⟨⟨x0,x1,x2,x3,x4⟩,-⟩:=jam HB2.out
      cases hl3:jas [out,nm,op] with
      | true =>
       have E2:Hid (R0=false):=by show _=_;rw [E.out,hl3];simp
       clear E;have E:=E2;clear E2 hl3;go_wp2;go_ret;exact ⟨congrArg (fun b=>Ending.returned (Value.bool b)) E.out.symm,G2.out⟩
      | false =>
       have E2:Hid (R0=((xs.zip cs).all jdh&&true)):=by show _=_;rw [E.out,hl3];simp
       clear E hl3;have E:=E2;have G:=G2;clear E2 G2;go_wp2;clear x0 x1 x2 x3 x4;go_loopg [31] xs.length (fun gh iv wr=>∃ k:Nat,gh=xs.length - k∧k≤xs.length∧iv=.int .i64 k∧w.grownBy wr none∧R0=(((xs.zip cs).drop k).all jdh&&true))
       case atStart=>exact ⟨0,rfl,Nat.zero_le _,rfl,G.out,by rw [List.drop_zero];exact E.out⟩
       case round =>
        clear G E;obtain ⟨k,rfl,hk,rfl,hg,he⟩:=hrel;have G:=jac hg;have E:=jac he;clear hg he
        by_cases hlt:k<xs.length
        ·skip
         obtain ⟨xb,xo,rfl⟩:=(HA.out.more G.out).addr hlt;obtain ⟨e0,e1,e2,e3,e4,e5,e6,e7,e8⟩:=jlf (HA.out.more G.out) k hlt;obtain ⟨cx,hcx,hasx⟩:=HH.out k xs[k] (List.getElem?_eq_getElem hlt);have DS:=jif (List.getElem?_eq_getElem hlt) hcx;obtain ⟨x,hx⟩ : ∃ y9,y9=xs[k]:=⟨_,rfl⟩
         rw [← hx] at e0 e1 e2 e3 e4 e5 e6 e7 e8 hasx DS;have E1:Hid (R0=((ja7 x cx&&((xs.zip cs).drop (k+1)).all jdh)&&true)):=by show _=_;rw [E.out,DS];rfl
         clear E DS hx hcx;have E:=E1;clear E1;have gd:=jab wr (.cells #[.string x.name,.int .i64 x.kind,.int .i64 x.f,.int .i64 x.i,.string x.s,.int .i64 x.ty,.slice x.dv.a x.dv.n x.dv.c,.slice x.tv.a x.tv.n x.tv.c,.slice x.iv.a x.iv.n x.iv.c] 78);obtain ⟨⟨y0,y1,y2,y3,y4,y5,y6,y7,y8⟩,-⟩:=jau (heap_alloc_new wr (.cells #[.string x.name,.int .i64 x.kind,.int .i64 x.f,.int .i64 x.i,.string x.s,.int .i64 x.ty,.slice x.dv.a x.dv.n x.dv.c,.slice x.tv.a x.tv.n x.tv.c,.slice x.iv.a x.iv.n x.iv.c] 78));go_wp2_with fail;obtain ⟨wn,hwn⟩ : ∃ y9,y9=wr.alloc (.cells #[.string x.name,.int .i64 x.kind,.int .i64 x.f,.int .i64 x.i,.string x.s,.int .i64 x.ty,.slice x.dv.a x.dv.n x.dv.c,.slice x.tv.a x.tv.n x.tv.c,.slice x.iv.a x.iv.n x.iv.c] 78):=⟨_,rfl⟩
         rw [← hwn] at gd ⊢;have AT:=jac (jie x cx wn (hasx.more (jaa G.out gd)));unfold jb8 at AT;have G1:=jac (jaa G.out gd);clear hwn gd G e0 e1 e2 e3 e4 e5 e6 e7 e8 y0 y1 y2 y3 y4 y5 y6 y7 y8 hasx;refine AT.out.mono ?_;rintro e wz ⟨rfl,hg⟩;have G2:=jac (jaa G1.out hg);clear hg AT G1
         cases ht:ja7 x cx with
         | false =>
          have E2:Hid (R0=false):=by show _=_;rw [E.out,ht];rfl
          clear E;have E:=E2;clear E2 ht;go_wp2;go_ret;exact ⟨congrArg (fun b=>Ending.returned (Value.bool b)) E.out.symm,G2.out⟩
         | true =>
          have E2:Hid (R0=(((xs.zip cs).drop (k+1)).all jdh&&true)):=by show _=_;rw [E.out,ht];rfl
          clear E ht;have E:=E2;clear E2;go_wp2_with fail;go_roundg (xs.length - (k+1))
          case measure=>omega
          case rel=>exact ⟨k+1,rfl,by omega,by go_num,G2.out,E.out⟩
        ·obtain hkN:k=xs.length:=by omega
         have E2:Hid (R0=true):=by show _=_;rw [E.out,List.drop_eq_nil_of_le (by rw [List.length_zip];omega)];rfl
         clear E;have E:=E2;clear E2;subst hkN;go_wp2;go_ret;exact ⟨congrArg (fun b=>Ending.returned (Value.bool b)) E.out.symm,G.out⟩
end Go.Proofs.YtbgbpfbjeleooaaGreat.Pd
namespace Go.Proofs.YtbgbpfbjeleooaaGreat.Pd
open Go.RowKit
open Wr (Fld)
theorem jig (g:Gra) (w:World) (hn:g.nv.n≤140737488351232) (hi:g.iv.n≤140737488351232) (ht:g.tv.n≤140737488351232) :
    Calls Tryz.prog 66 #[jcM g] w fun e w'=>e=.returned (.bool (jcu g.nv.n g.iv.n g.ov.n g.tv.n))∧w.grownBy w' none:=by
     obtain ⟨nm,⟨na,nn,nc⟩,⟨ia,iN,ic⟩,⟨oa,oN,oc⟩,⟨ta,tN,tc⟩⟩:=g;unfold jcM jcu;simp only at hn hi ht ⊢;have hb:=heap_alloc_new w (.cells #[.string nm,.slice na nn nc,.slice ia iN ic,.slice oa oN oc,.slice ta tN tc] 27);have gg:=jac (jab w (.cells #[.string nm,.slice na nn nc,.slice ia iN ic,.slice oa oN oc,.slice ta tN tc] 27));obtain ⟨⟨x0,x1,x2,x3,x4⟩,-⟩:=jam hb;have e1:wrap64 ((iN:Int)+(tN:Int))=((iN+tN:Nat):Int):=by unfold wrap64;omega
     have e2:wrap64 (((iN+tN:Nat):Int)+(nn:Int))=((iN+tN+nn:Nat):Int):=by unfold wrap64;omega
     clear hb
     by_cases h1:1000<nn
     ·have d1:decide ((1000:Int)<(nn:Int))=true:=by simp;omega
      rw [decide_eq_true h1];clear h1 e1 e2;go_enter Tryz.func66,Tryz.ntmps66;go_wp2;go_ret;exact ⟨rfl,gg.out⟩
     ·have d1:decide ((1000:Int)<(nn:Int))=false:=by simp;omega
      rw [decide_eq_false h1];have k3:decide ((3000:Int)<(oN:Int))=decide (3000<oN):=by rw [decide_eq_decide];omega
      by_cases h2:(3000:Int)<(iN:Int)+(tN:Int)+(nn:Int)
      ·have E:Hid ((false||decide (3000<iN+tN+nn)||decide (3000<oN))=true):=by show _=_;rw [decide_eq_true (by omega)];rfl
       rw [E.out];clear h1 e1 e2 k3;go_enter Tryz.func66,Tryz.ntmps66;go_wp2;go_ret;exact ⟨rfl,gg.out⟩
      ·have E:Hid ((false||decide (3000<iN+tN+nn)||decide (3000<oN))=decide ((3000:Int)<(oN:Int))):=by show _=_;rw [decide_eq_false (by omega),k3];rfl
       rw [E.out];have d2:decide ((3000:Int)<(iN:Int)+(tN:Int)+(nn:Int))=false:=decide_eq_false h2;clear h1 e1 e2 k3 h2;go_enter Tryz.func66,Tryz.ntmps66;go_wp2;go_ret;exact ⟨rfl,gg.out⟩
def jcy (p:Nod×Ni):Bool:=jgo p.1 p.2
def jbJ (p:Nam×List Int×List Int):Bool:=!jas [p.1.name]&&decide (pbE p.1.ty p.2.1 p.2.2=0)
def jc6 (g:Gra) (ns:List (Nod×Ni)) (is os:List (Val×List Int)) (ts:List (Nam×List Int×List Int)):Bool :=
 !jas [g.name]&&!jcu ns.length is.length os.length ts.length&&(ns.all jcy&&(ts.all jbJ&&(jaW is&&jaW os)))
theorem jiY (g:Gra) (ns:List (Nod×Ni)) (is os:List (Val×List Int)) (ts:List (Nam×List Int×List Int)) (w:World) (hr:RdG w g ns is os ts) :
    Calls Tryz.prog 35 #[jcM g] w fun e w'=>e=.returned (.bool (jc6 g ns is os ts))∧w.grownBy w' none:=by
     obtain ⟨nm,nv,iv,ov,tv⟩:=g;have HR0:=jac hr;obtain ⟨hn,hi,ho,ht,hN,hI,hO,hT⟩:=hr;simp only at hn hi ho ht;obtain ⟨na,nc,e1,a1,a2,a3⟩:=hn.form;obtain ⟨ia,ic,e2,b1,b2,b3⟩:=hi.form;obtain ⟨oa,oc,e3,c1,c2,c3⟩:=ho.form;obtain ⟨ta,tc,e4,d1,d2,d3⟩:=ht.form;simp only [List.length_map] at a1 a2 a3 b1 b2 b3 c1 c2 c3 d1 d2 d3;have hNN:ns.length≤140737488351232:=by omega
     have hNI:is.length≤140737488351232:=by omega
     have hNT:ts.length≤140737488351232:=by omega
     clear a1 a2 a3 b1 b2 b3 c1 c2 c3 d1 d2 d3 hn hi ho ht;unfold jcM;simp only [Sl.v,Value.slice.injEq,List.length_map] at e1 e2 e3 e4;obtain ⟨e1a,e1b,e1c⟩:=e1;obtain ⟨e2a,e2b,e2c⟩:=e2;obtain ⟨e3a,e3b,e3c⟩:=e3;obtain ⟨e4a,e4b,e4c⟩:=e4;simp only;rw [e1a,e1b,e1c,e2a,e2b,e2c,e3a,e3b,e3c,e4a,e4b,e4c];obtain ⟨R0,hR0⟩ : ∃ r,r=jc6 ⟨nm,nv,iv,ov,tv⟩ ns is os ts:=⟨_,rfl⟩
     rw [← hR0];have E:Hid (R0=(!jas [nm]&&!jcu ns.length is.length os.length ts.length&&(ns.all jcy&&(ts.all jbJ&&(jaW is&&jaW os))))):=hR0;clear hR0;have LG:=jac (jaN (.slice (some ⟨w.heap.size+1,0,none⟩) 1 1) [nm] ((w.alloc (.cells #[.string nm,.slice na ns.length nc,.slice ia is.length ic,.slice oa os.length oc,.slice ta ts.length tc] 27)).alloc (.cells #[.string nm] 9)) (by have h:=jci (heap_alloc_new (w.alloc (.cells #[.string nm,.slice na ns.length nc,.slice ia is.length ic,.slice oa os.length oc,.slice ta ts.length tc] 27)) (.cells #[.string nm] 9));rw [jar] at h;exact h));have hb1:((w.alloc (.cells #[.string nm,.slice na ns.length nc,.slice ia is.length ic,.slice oa os.length oc,.slice ta ts.length tc] 27)).alloc (.cells #[.string nm] 9)).heap[w.heap.size]?=some (.cells #[.string nm,.slice na ns.length nc,.slice ia is.length ic,.slice oa os.length oc,.slice ta ts.length tc] 27 (0,0)):=jbT _ _ _ _ _;have gd:w.grownBy ((w.alloc (.cells #[.string nm,.slice na ns.length nc,.slice ia is.length ic,.slice oa os.length oc,.slice ta ts.length tc] 27)).alloc (.cells #[.string nm] 9)) none:=jaa (jab _ _) (jab _ _);obtain ⟨⟨x0,x1,x2,x3,x4⟩,-⟩:=jam (heap_alloc_new w (.cells #[.string nm,.slice na ns.length nc,.slice ia is.length ic,.slice oa os.length oc,.slice ta ts.length tc] 27));go_enter Tryz.func35,Tryz.ntmps35;go_wp2_with fail;refine LG.out.mono ?_;obtain ⟨wn,hwn⟩ : ∃ y9,y9=(w.alloc (.cells #[.string nm,.slice na ns.length nc,.slice ia is.length ic,.slice oa os.length oc,.slice ta ts.length tc] 27)).alloc (.cells #[.string nm] 9):=⟨_,rfl⟩
     rw [← hwn] at gd hb1 ⊢;have G0:=jac gd;have BX:Hid (∀ wx,wn.grownBy wx none→wx.heap[w.heap.size]?=some (.cells #[.string nm,.slice na ns.length nc,.slice ia is.length ic,.slice oa os.length oc,.slice ta ts.length tc] 27 (0,0))):=fun wx hg=>jag hb1 hg;have HR:=jac (HR0.out.more gd);obtain ⟨hn,hi,ho,ht,hN2,hI2,hO2,hT2⟩:=HR.out;simp only [Sl.v] at hn hi ho ht;rw [e1a,e1b,e1c] at hn;rw [e2a,e2b,e2c] at hi;rw [e3a,e3b,e3c] at ho;rw [e4a,e4b,e4c] at ht;have HN:=jac hn;have HI:=jac hi;have HO:=jac ho;have HT:=jac ht;have HHN:=jac hN2;have HHI:=jac hI2;have HHO:=jac hO2;have HHT:=jac hT2;clear hn hi ho ht hN2 hI2 hO2 hT2 hN hI hO hT HR HR0 e1a e1b e1c e2a e2b e2c e3a e3b e3c e4a e4b e4c hwn LG gd hb1 x0 x1 x2 x3 x4;rintro e wq ⟨rfl,rfl⟩;have G:=jac (jae wn);obtain ⟨⟨x0,x1,x2,x3,x4⟩,-⟩:=jam (BX.out wn G.out)
     cases hl:jas [nm] with
     | true =>
      have E2:Hid (R0=false):=by show _=_;rw [E.out,hl];simp
      clear E;have E:=E2;clear E2 hl;go_wp2;go_ret;exact ⟨congrArg (fun b=>Ending.returned (Value.bool b)) E.out.symm,(jac (jaa G0.out G.out)).out⟩
     | false =>
      have E2:Hid (R0=(!jcu ns.length is.length os.length ts.length&&(ns.all jcy&&(ts.all jbJ&&(jaW is&&jaW os))))):=by show _=_;rw [E.out,hl];rfl
      clear E hl;have E:=E2;clear E2;have TM:=jac (jig ⟨nm,⟨na,ns.length,nc⟩,⟨ia,is.length,ic⟩,⟨oa,os.length,oc⟩,⟨ta,ts.length,tc⟩⟩ wn hNN hNI hNT);unfold jcM at TM;simp only at TM;go_wp2_with fail;refine TM.out.mono ?_;rintro e wm ⟨rfl,hg⟩;have G2:=jac hg;clear hg TM G x0 x1 x2 x3 x4;have G:=G2;clear G2;obtain ⟨⟨x0,x1,x2,x3,x4⟩,-⟩:=jam (BX.out wm G.out)
      cases hm:jcu ns.length is.length os.length ts.length with
      | true =>
       have E2:Hid (R0=false):=by show _=_;rw [E.out,hm];simp
       clear E;have E:=E2;clear E2 hm;go_wp2;go_ret;exact ⟨congrArg (fun b=>Ending.returned (Value.bool b)) E.out.symm,(jac (jaa G0.out G.out)).out⟩
      | false =>
       have E2:Hid (R0=(ns.all jcy&&(ts.all jbJ&&(jaW is&&jaW os)))):=by show _=_;rw [E.out,hm];rfl
       clear E hm;have E:=E2;clear E2;go_wp2;clear x0 x1 x2 x3 x4;go_loopg [18] ns.length (fun gh iv wr=>∃ k:Nat,gh=ns.length - k∧k≤ns.length∧iv=.int .i64 k∧wn.grownBy wr none∧R0=((ns.drop k).all jcy&&(ts.all jbJ&&(jaW is&&jaW os))))
       case atStart=>exact ⟨0,rfl,Nat.zero_le _,rfl,G.out,by rw [List.drop_zero];exact E.out⟩
       case round =>
        clear G E;obtain ⟨k,rfl,hk,rfl,hg,he⟩:=hrel;have G:=jac hg;have E:=jac he;clear hg he
        by_cases hlt:k<ns.length
        ·skip
         obtain ⟨xb,xo,rfl⟩:=(HN.out.more G.out).addr (k:=k) (by rw [List.length_map];exact hlt);have NC:=IsL.nod (HN.out.more G.out) k (by rw [List.length_map];exact hlt);simp only [List.getElem_map] at NC;obtain ⟨e0,e1,e2,e3,e4⟩:=NC;have hx0:=HHN.out ns[k] (List.getElem_mem hlt);have DS:=List.drop_eq_getElem_cons hlt;obtain ⟨p,hp⟩ : ∃ p,p=ns[k]:=⟨_,rfl⟩
         rw [← hp] at e0 e1 e2 e3 e4 hx0 DS;obtain ⟨x,cx⟩:=p;simp only at e0 e1 e2 e3 e4 hx0;have HX:=jac (NodeIn0.more hx0 G.out);clear hp hx0;have E1:Hid (R0=((jgo x cx&&(ns.drop (k+1)).all jcy)&&(ts.all jbJ&&(jaW is&&jaW os)))):=by show _=_;rw [E.out,DS];rfl
         clear E DS;have E:=E1;clear E1;have gd:=jab wr (.cells #[.string x.op,.string x.name,.slice x.iv.a x.iv.n x.iv.c,.string x.out,.slice x.av.a x.av.n x.av.c] 35);obtain ⟨⟨y0,y1,y2,y3,y4⟩,-⟩:=jam (heap_alloc_new wr (.cells #[.string x.op,.string x.name,.slice x.iv.a x.iv.n x.iv.c,.string x.out,.slice x.av.a x.av.n x.av.c] 35));go_wp2_with fail;obtain ⟨wp,hwp⟩ : ∃ y9,y9=wr.alloc (.cells #[.string x.op,.string x.name,.slice x.iv.a x.iv.n x.iv.c,.string x.out,.slice x.av.a x.av.n x.av.c] 35):=⟨_,rfl⟩
         rw [← hwp] at gd ⊢;have AT:=jac (jiX x cx wp (NodeIn0.more HX.out gd));unfold jgJ at AT;have G1:=jac (jaa G.out gd);clear hwp gd G e0 e1 e2 e3 e4 y0 y1 y2 y3 y4 HX;refine AT.out.mono ?_;rintro e wz ⟨rfl,hg⟩;have G2:=jac (jaa G1.out hg);clear hg AT G1
         cases ht:jgo x cx with
         | false =>
          have E2:Hid (R0=false):=by show _=_;rw [E.out,ht];rfl
          clear E;have E:=E2;clear E2 ht;go_wp2;go_ret;exact ⟨congrArg (fun b=>Ending.returned (Value.bool b)) E.out.symm,(jac (jaa G0.out G2.out)).out⟩
         | true =>
          have E2:Hid (R0=((ns.drop (k+1)).all jcy&&(ts.all jbJ&&(jaW is&&jaW os)))):=by show _=_;rw [E.out,ht];rfl
          clear E ht;have E:=E2;clear E2;go_wp2_with fail;go_roundg (ns.length - (k+1))
          case measure=>omega
          case rel=>exact ⟨k+1,rfl,by omega,by go_num,G2.out,E.out⟩
        ·obtain hkN:k=ns.length:=by omega
         have E2:Hid (R0=(ts.all jbJ&&(jaW is&&jaW os))):=by show _=_;rw [E.out,List.drop_eq_nil_of_le (by omega)];rfl
         clear E;have E:=E2;clear E2;subst hkN;obtain ⟨⟨x0,x1,x2,x3,x4⟩,-⟩:=jam (BX.out wr G.out);go_wp2;clear x0 x1 x2 x3 x4;go_loopg [29] ts.length (fun gh iv wr=>∃ k:Nat,gh=ts.length - k∧k≤ts.length∧iv=.int .i64 k∧wn.grownBy wr none∧R0=((ts.drop k).all jbJ&&(jaW is&&jaW os)))
         case atStart=>exact ⟨0,rfl,Nat.zero_le _,rfl,G.out,by rw [List.drop_zero];exact E.out⟩
         case round =>
          clear G E;obtain ⟨k,rfl,hk,rfl,hg,he⟩:=hrel;have G:=jac hg;have E:=jac he;clear hg he
          by_cases hlt:k<ts.length
          ·skip
           obtain ⟨xb,xo,rfl⟩:=(HT.out.more G.out).addr (k:=k) (by rw [List.length_map];exact hlt);have NC:=IsL.nam (HT.out.more G.out) k (by rw [List.length_map];exact hlt);simp only [List.getElem_map] at NC;obtain ⟨e0,e1,e2,e3⟩:=NC;have hx0:=HHT.out ts[k] (List.getElem_mem hlt);have DS:=List.drop_eq_getElem_cons hlt;obtain ⟨p,hp⟩ : ∃ p,p=ts[k]:=⟨_,rfl⟩
           rw [← hp] at e0 e1 e2 e3 hx0 DS;obtain ⟨x,cx⟩:=p;simp only at e0 e1 e2 e3 hx0;have HX:=jac (And.intro (jaj.more hx0.1 G.out) (jaj.more hx0.2 G.out));clear hp hx0;have E1:Hid (R0=((jbJ (x,cx)&&(ts.drop (k+1)).all jbJ)&&(jaW is&&jaW os))):=by show _=_;rw [E.out,DS];rfl
           clear E DS;have E:=E1;clear E1;have LG:=jac (jaN (.slice (some ⟨wr.heap.size+1,0,none⟩) 1 1) [x.name] ((wr.alloc (.cells #[.string x.name,.int .i64 x.ty,.slice x.dv.a x.dv.n x.dv.c,.slice x.tv.a x.tv.n x.tv.c] 67)).alloc (.cells #[.string x.name] 9)) (by have h:=jci (heap_alloc_new (wr.alloc (.cells #[.string x.name,.int .i64 x.ty,.slice x.dv.a x.dv.n x.dv.c,.slice x.tv.a x.tv.n x.tv.c] 67)) (.cells #[.string x.name] 9));rw [jar] at h;exact h));have hb1:((wr.alloc (.cells #[.string x.name,.int .i64 x.ty,.slice x.dv.a x.dv.n x.dv.c,.slice x.tv.a x.tv.n x.tv.c] 67)).alloc (.cells #[.string x.name] 9)).heap[wr.heap.size]?=some (.cells #[.string x.name,.int .i64 x.ty,.slice x.dv.a x.dv.n x.dv.c,.slice x.tv.a x.tv.n x.tv.c] 67 (0,0)):=jbT _ _ _ _ _;have gd:wr.grownBy ((wr.alloc (.cells #[.string x.name,.int .i64 x.ty,.slice x.dv.a x.dv.n x.dv.c,.slice x.tv.a x.tv.n x.tv.c] 67)).alloc (.cells #[.string x.name] 9)) none:=jaa (jab _ _) (jab _ _);obtain ⟨⟨y0,y1,y2,y3⟩,-⟩:=jaZ (heap_alloc_new wr (.cells #[.string x.name,.int .i64 x.ty,.slice x.dv.a x.dv.n x.dv.c,.slice x.tv.a x.tv.n x.tv.c] 67));go_wp2_with fail;refine LG.out.mono ?_;obtain ⟨wp,hwp⟩ : ∃ y9,y9=(wr.alloc (.cells #[.string x.name,.int .i64 x.ty,.slice x.dv.a x.dv.n x.dv.c,.slice x.tv.a x.tv.n x.tv.c] 67)).alloc (.cells #[.string x.name] 9):=⟨_,rfl⟩
           rw [← hwp] at gd hb1 ⊢;have G2:=jac (jaa G.out gd);have HB:=jac hb1;have HX2:=jac (And.intro (jaj.more HX.out.1 gd) (jaj.more HX.out.2 gd));clear e3 hwp LG G gd hb1 e0 e1 e2 y0 y1 y2 y3;rintro e wq ⟨rfl,rfl⟩;obtain ⟨⟨y0,y1,y2,y3⟩,-⟩:=jaZ HB.out
           cases hl:jas [x.name] with
           | true =>
            have E2:Hid (R0=false):=by show _=_;rw [E.out];simp [jbJ,hl]
            clear E;have E:=E2;clear E2 hl;go_wp2;go_ret;exact ⟨congrArg (fun b=>Ending.returned (Value.bool b)) E.out.symm,(jac (jaa G0.out G2.out)).out⟩
           | false =>
            have PC:=jac (jeG x.ty (.slice x.dv.a x.dv.n x.dv.c) (.slice x.tv.a x.tv.n x.tv.c) cx.1 cx.2 wp HX2.out.1 HX2.out.2);go_wp2_with fail;refine PC.out.mono ?_;rintro e wz ⟨rfl,hg⟩;have G3:=jac (jaa G2.out hg);clear hg G2 PC y0 y1 y2 y3;have G2:=G3;clear G3;obtain ⟨pe,hpe⟩ : ∃ y9,y9=pbE x.ty cx.1 cx.2:=⟨_,rfl⟩
            rw [← hpe]
            by_cases hc:pe=0
            ·have E2:Hid (R0=((ts.drop (k+1)).all jbJ&&(jaW is&&jaW os))):=by show _=_;rw [E.out];simp [jbJ,hl,← hpe,hc]
             subst hc;clear E hl hpe;have E:=E2;clear E2;go_wp2_with fail;go_roundg (ts.length - (k+1))
             case measure=>omega
             case rel=>exact ⟨k+1,rfl,by omega,by go_num,G2.out,E.out⟩
            ·have hc2:(pe==0)=false:=by simpa using hc
             have hc3:(pe != 0)=true:=by simpa using hc
             have E2:Hid (R0=false):=by show _=_;rw [E.out];simp [jbJ,hl,← hpe,hc]
             clear E;have E:=E2;clear E2 hl hpe hc;go_wp2;go_ret;exact ⟨congrArg (fun b=>Ending.returned (Value.bool b)) E.out.symm,(jac (jaa G0.out G2.out)).out⟩
          ·obtain hkN:k=ts.length:=by omega
           have E2:Hid (R0=(jaW is&&jaW os)):=by show _=_;rw [E.out,List.drop_eq_nil_of_le (by omega)];rfl
           clear E;have E:=E2;clear E2;subst hkN;obtain ⟨⟨x0,x1,x2,x3,x4⟩,-⟩:=jam (BX.out wr G.out);have VI:=jac (jfG (.slice ia is.length ic) is wr (HI.out.more G.out) (fun p hp=>jaj.more (HHI.out p hp) G.out));go_wp2_with fail;refine VI.out.mono ?_;rintro e wz ⟨rfl,hg⟩;have G2:=jac (jaa G.out hg);clear hg VI G x0 x1 x2 x3 x4;obtain ⟨⟨x0,x1,x2,x3,x4⟩,-⟩:=jam (BX.out wz G2.out)
           cases hv:jaW is with
           | false =>
            have E2:Hid (R0=false):=by show _=_;rw [E.out,hv];rfl
            clear E;have E:=E2;clear E2 hv;go_wp2;go_ret;exact ⟨congrArg (fun b=>Ending.returned (Value.bool b)) E.out.symm,(jac (jaa G0.out G2.out)).out⟩
           | true =>
            have E2:Hid (R0=jaW os):=by show _=_;rw [E.out,hv];rfl
            clear E hv;have E:=E2;clear E2;have VO:=jac (jfG (.slice oa os.length oc) os wz (HO.out.more G2.out) (fun p hp=>jaj.more (HHO.out p hp) G2.out));go_wp2_with fail;refine VO.out.mono ?_;rintro e wy ⟨rfl,hg⟩;have G3:=jac (jaa G2.out hg);clear hg VO G2 x0 x1 x2 x3 x4;go_wp2;go_ret;exact ⟨congrArg (fun b=>Ending.returned (Value.bool b)) E.out.symm,(jac (jaa G0.out G3.out)).out⟩
end Go.Proofs.YtbgbpfbjeleooaaGreat.Pd
namespace Go.Proofs.YtbgbpfbjeleooaaGreat.Pd
open Go.RowKit
open Wr (Fld)
def jos (w:World) (r:R ByteArray) (e:Ending) (w':World):Prop:=w.grownBy w' none∧match r with
 | .ok s=>e=.returned (.tuple #[.string s,.int .i64 0])
 | .error c=>e=.returned (.tuple #[.string ⟨#[]⟩,.int .i64 c])
theorem jiZ (p:Addr) (w:World) :
    CallsD Tryz.prog 69 #[.pointer (some p)] .returning w fun e u' w'=>e=.returned (.tuple #[])∧u'=.returning∧w'=w:=by
     refine callsD_of_wpS Tryz.func69 rfl fun c₀ cs hu=>?_;apply wpS_seq;apply wpS_region;simp [wpOpsS,go_sem,recoverD,hu,Tryz.ntmps69,Exit.thenS];apply wpS_seq;apply wpS_region;simp [wpOpsS,go_sem,Exit.thenS];refine wpS_cond (t:=false) (by simp [Act.eval,Array.replicate]) ?_;simp only [Bool.false_eq_true,if_false];refine wpS_of_wp (wp_skip ?_)
     cases c₀
     simp_all [bodyPostS,results,Tryz.results69]
theorem jfK (p:Addr) (x c:Int) (older:List PanicEntry) (w:World) (hc:w.cell? p=some (.int .i64 x)) (hz:w.frozen? p=false) :
    CallsD Tryz.prog 69 #[.pointer (some p)] (.panicking ({ v:=.iface 28 (.int .i64 c),recovered:=false }::older)) w fun e u' w'=>e=.returned (.tuple #[])∧u'=.panicking ({ v:=.iface 28 (.int .i64 c),recovered:=true }::older)∧w'=w.setCell p (.int .i64 c):=by
     refine callsD_of_wpS Tryz.func69 rfl fun c₀ cs hu=>?_;apply wpS_seq;apply wpS_region;simp [wpOpsS,go_sem,recoverD,hu,Tryz.ntmps69,Exit.thenS];apply wpS_seq;apply wpS_region;simp [wpOpsS,go_sem,Exit.thenS];refine wpS_cond (t:=true) (by simp [Act.eval,Array.replicate]) ?_;simp only [if_true];apply wpS_region;have ha:=je4 c w;simp [wpOpsS,go_sem,hc,hz,ha,bodyPostS,results,Tryz.results69]
theorem jih (r:R ByteArray) (w:World) (ps:Nat) (HC:∀ wx,w.grownBy wx none→Calls Tryz.prog 37 #[.pointer (some ⟨ps,0,none⟩)] wx (jbU wx r fun s v _=>v=.string s)) :
    Calls Tryz.prog 36 #[.func (.func 37) #[] #[.pointer (some ⟨ps,0,none⟩)]] w (jos w r):=by
     have hmf:∀ (fn:Fn) (first cap:Array Value) (w:World),(Instr.makeFunc fn first cap).run Tryz.prog w=.ok (.func fn first cap) w:=fun _ _ _ _=>rfl;have H:=jac HC;clear HC
     go_enter_defers Tryz.func36,Tryz.ntmps36
     obtain ⟨w0,hw0⟩ : ∃ w0,w0=w.alloc (.cells #[.int .i64 0] 28):=⟨_,rfl⟩
     have g0:Hid (w.grownBy w0 none):=by show w.grownBy w0 none;rw [hw0];exact jab _ _
     have hb2:w0.heap[w.heap.size]?=some (.cells #[.int .i64 0] 28 (0,0)):=by rw [hw0];exact heap_alloc_new w _
     have BX:Hid (∀ wx,w0.grownBy wx none→wx.heap[w.heap.size]?=some (.cells #[.int .i64 0] 28 (0,0))):=fun wx hg=>jag hb2 hg;clear hb2;go_wp2_with fail;rw [← hw0];clear hw0;have H1:=jac (H.out w0 g0.out);clear H
     cases r with
     | error c =>
      refine H1.out.mono ?_;rintro e w1 ⟨hg,rfl⟩;have B2:=BX.out w1 hg;refine leaves_cons (f:=69) (args:=#[.pointer (some ⟨w.heap.size,0,none⟩)]) (by simp) (by simp [go_sem]) ?_;refine (jfK ⟨w.heap.size,0,none⟩ 0 c [] w1 (jc4 B2) (frozen_of_row w1 _ 0 _ _ B2)).mono ?_;rintro e u' w'' ⟨rfl,rfl,rfl⟩;have h2:=heap_setCell_same w1 w.heap.size 0 _ _ (.int .i64 c) B2;have gp:=jak w1 w.heap.size 0 (.int .i64 c);have k5:=(cell_of_row _ _ 0 _ _ (0,0) h2).trans rfl;have gf:w.grownBy (w1.setCell ⟨w.heap.size,0,none⟩ (.int .i64 c)) none:=jaf (row:=none) (jaa g0.out hg) gp (fun g e=>by cases e;exact .inr (Nat.le_refl _));obtain ⟨wf,hwf⟩ : ∃ wf,wf=w1.setCell ⟨w.heap.size,0,none⟩ (.int .i64 c):=⟨_,rfl⟩
      rw [← hwf] at k5 gf ⊢;clear hwf h2 B2 gp;simp [Leaves,settle,results,Tryz.results36,go_sem,k5];exact ⟨gf,rfl⟩
     | ok s =>
      refine H1.out.mono ?_;rintro e w1 ⟨hg,v,rfl,rfl⟩;have B3:=BX.out w1 hg;have e0x:=jc4 B3;have e1x:=frozen_of_row _ w.heap.size 0 _ _ B3;have h2:=heap_setCell_same _ w.heap.size 0 _ _ (.int .i64 0) B3;have gp:=jak w1 w.heap.size 0 (.int .i64 0);have gf:=jaf (row:=none) (jaa g0.out hg) gp (fun g e=>by cases e;exact .inr (Nat.le_refl _));have GF:=jac gf;have H2x:=jac h2;clear gp h2 gf;go_wp2_with fail;refine leaves_cons (f:=69) (args:=#[.pointer (some ⟨w.heap.size,0,none⟩)]) (by simp) (by simp [go_sem]) ?_;refine (jiZ ⟨w.heap.size,0,none⟩ _).mono ?_;rintro e u' w'' ⟨rfl,rfl,rfl⟩;have k5:=(cell_of_row _ _ 0 _ _ (0,0) H2x.out).trans rfl;obtain ⟨wf,hwf⟩ : ∃ wf,wf=w1.setCell ⟨w.heap.size,0,none⟩ (.int .i64 0):=⟨_,rfl⟩
      have hG:=GF.out;rw [← hwf] at k5 hG ⊢;clear hwf H2x B3 GF e0x e1x;simp [Leaves,settle,results,Tryz.results36,go_sem,k5];exact ⟨hG,rfl⟩
def jeN (g:Gra) (ns:List (Nod×Ni)) (is os:List (Val×List Int)) (ts:List (Nam×List Int×List Int)):R ByteArray:=if jc6 g ns is os ts=true then jax (jbi g ns is os ts) else .error 1
theorem ji0 (g : Gra) (ns : List (Nod × Ni)) (is os : List (Val × List Int)) (ts : List (Nam × List Int × List Int)) (B : Nat) (w : World) (hr : RdG w g ns is os ts) (hsm : SmallG g ns is os ts)
    (hb:w.heap[B]?=some (.cells #[.string g.name,.slice g.nv.a g.nv.n g.nv.c,.slice g.iv.a g.iv.n g.iv.c,.slice g.ov.a g.ov.n g.ov.c,.slice g.tv.a g.tv.n g.tv.c] 27 (0,0))) :
    Calls Tryz.prog 37 #[.pointer (some ⟨B,0,none⟩)] w (jbU w (jax (jbi g ns is os ts)) fun s v _=>v=.string s):=by
     have WM:=jac (jgF g ns is os ts w hr hsm);unfold jcM at WM;obtain ⟨⟨x0,x1,x2,x3,x4⟩,-⟩:=jam hb;clear hr hsm hb;obtain ⟨R0,hR0⟩ : ∃ r,r=jax (jbi g ns is os ts):=⟨_,rfl⟩
     rw [← hR0] at WM ⊢;clear hR0;go_enter Tryz.func37,Tryz.ntmps37;go_wp2_with fail;refine WM.out.mono ?_
     cases R0 with
     | error c =>
      rintro e w1 ⟨hg,rfl⟩;exact ⟨rfl,jad rfl hg⟩
     | ok s =>
      rintro e w1 ⟨hg,v,rfl,rfl⟩;have G1:=jac hg;clear hg;go_wp2;go_ret;exact jaI rfl G1.out rfl
theorem jfz (g:Gra) (ns:List (Nod×Ni)) (is os:List (Val×List Int)) (ts:List (Nam×List Int×List Int)) (w:World) (hr:RdG w g ns is os ts) (hsm:jc6 g ns is os ts=true→SmallG g ns is os ts) :
    Calls Tryz.prog 14 #[jcM g] w (jos w (jeN g ns is os ts)):=by
     have hmf:∀ (fn:Fn) (first cap:Array Value) (w:World),(Instr.makeFunc fn first cap).run Tryz.prog w=.ok (.func fn first cap) w:=fun _ _ _ _=>rfl;obtain ⟨w0,hw0⟩ : ∃ w0,w0=w.alloc (.cells #[.string g.name,.slice g.nv.a g.nv.n g.nv.c,.slice g.iv.a g.iv.n g.iv.c,.slice g.ov.a g.ov.n g.ov.c,.slice g.tv.a g.tv.n g.tv.c] 27):=⟨_,rfl⟩
     have g0:w.grownBy w0 none:=by rw [hw0];exact jab _ _
     have hb:w0.heap[w.heap.size]?=some (.cells #[.string g.name,.slice g.nv.a g.nv.n g.nv.c,.slice g.iv.a g.iv.n g.iv.c,.slice g.ov.a g.ov.n g.ov.c,.slice g.tv.a g.tv.n g.tv.c] 27 (0,0)):=by rw [hw0];exact heap_alloc_new w _
     obtain ⟨⟨x0,x1,x2,x3,x4⟩,-⟩:=jam hb;have MT:=jac (jiY g ns is os ts w0 (hr.more g0));have HR:=jac (hr.more g0);have HS:=jac hsm;have G0:=jac g0;have HB:=jac hb;rw [hw0] at x0 x1 x2 x3 x4;unfold jcM;unfold jcM at MT;obtain ⟨b,hbb⟩ : ∃ b,b=jc6 g ns is os ts:=⟨_,rfl⟩
     obtain ⟨R0,hR0⟩ : ∃ r,r=jeN g ns is os ts:=⟨_,rfl⟩
     have E:Hid (R0=if b=true then jax (jbi g ns is os ts) else .error 1):=by show _=_;rw [hR0,hbb];rfl
     rw [← hR0];rw [← hbb] at MT HS;clear hR0 hbb hb g0 hr hsm;go_enter Tryz.func14,Tryz.ntmps14;go_wp2_with fail;rw [← hw0];clear hw0 x0 x1 x2 x3 x4;refine MT.out.mono ?_;rintro e w1 ⟨rfl,hg⟩;have G1:=jac (jaa G0.out hg);have HB1:=jac (jag HB.out hg);have HR1:=jac (HR.out.more hg);clear hg HB HR G0 MT
     cases b with
     | false =>
      go_wp2;go_ret2;exact ⟨G1.out,by rw [E.out];rfl⟩
     | true =>
      have E2:Hid (R0=jax (jbi g ns is os ts)):=E.out;clear E;have AT:=jac (jih (jax (jbi g ns is os ts)) w1 w.heap.size (fun wx hg=>ji0 g ns is os ts w.heap.size wx (HR1.out.more hg) (HS.out rfl) (jag HB1.out hg)));rw [← E2.out] at AT;clear E2 HS HR1 HB1;go_wp2_with fail;refine AT.out.mono ?_;clear AT
      cases R0 with
      | error c =>
       rintro e w2 ⟨hg,rfl⟩;have G2:=jac (jaa G1.out hg);clear hg;go_wp2;go_ret2;exact ⟨G2.out,rfl⟩
      | ok s =>
       rintro e w2 ⟨hg,rfl⟩;have G2:=jac (jaa G1.out hg);clear hg;go_wp2;go_ret2;exact ⟨G2.out,rfl⟩
end Go.Proofs.YtbgbpfbjeleooaaGreat.Pd
namespace Go.Proofs.YtbgbpfbjeleooaaGreat.Pd
open Go.RowKit
open Wr (Fld)
def WP {α:Type} (r:R α) (Q:α→Prop):Prop:=match r with
 | .ok a=>Q a
 | .error c=>c=6
theorem WP.bind {α β:Type} {r:R α} {f:α→R β} {Q:α→Prop} {P:β→Prop} (h:WP r Q) (k:∀ a,Q a→WP (f a) P):WP (r.bind f) P:=by
 cases r with
 | ok a=>exact k a h
 | error c=>exact h
theorem WP.mono {α:Type} {r:R α} {Q P:α→Prop} (h:WP r Q) (k:∀ a,Q a→P a):WP r P:=by
 cases r with
 | ok a=>exact k a h
 | error c=>exact h
def Lst (m:List Fld×Nat) (l:List Fld):Prop:=m.1=l∧∀ x∈l,Wr.fok x=true∧Wr.FldIn x
theorem Lst.nil:Lst ([],0) []:=⟨rfl,fun x hx=>by cases hx⟩
def FW (f:Fld):Prop:=Wr.fok f=true∧(f.b.size≤16777216→Wr.FldIn f)
theorem jdQ {m:List Fld×Nat} {l:List Fld} {f:Fld} (h:Lst m l) (hf:FW f):WP (jbf m f) fun m'=>Lst m' (l++[f]):=by
 unfold jbf
 split
 ·exact rfl
 ·refine ⟨by rw [h.1],fun x hx=>?_⟩
  rcases List.mem_append.1 hx with h1 | h1
  ·exact h.2 x h1
  ·rw [List.mem_singleton] at h1;subst h1;exact ⟨hf.1,hf.2 (by omega)⟩
theorem jjB {num:Int} {s:ByteArray} (hn:1≤num∧num≤1000):FW (ja0 num s):=by
 refine ⟨?_,fun hb=>jbM _ _ (by omega) (by change s.size≤_ at hb;omega)⟩;show (decide (1≤num∧num≤536870911)&&true)=true;rw [decide_eq_true (by omega)]
 rfl
theorem fw_n {num x:Int} (hn:1≤num∧num≤1000):FW (jfy num x):=by
 refine ⟨?_,fun _=>jiV _ _ (by omega)⟩;show (decide (1≤num∧num≤536870911)&&true)=true;rw [decide_eq_true (by omega)]
 rfl
theorem fw_f {num x:Int} (hn:1≤num∧num≤1000) (hx:0≤x∧x<4294967296):FW (jgz num x):=by
 refine ⟨?_,fun _=>jiW _ _ (by omega)⟩;show (decide (1≤num∧num≤536870911)&&decide (ByteArray.size ⟨#[]⟩=0∧x % 18446744073709551616<4294967296))=true;rw [decide_eq_true (by omega),decide_eq_true ⟨rfl,by omega⟩]
 rfl
theorem jlh {num:Int} {l:List Int} (hn:1≤num∧num≤1000):FW (jbS num l):=by
 unfold jbS
 split
 ·exact fw_n hn
 ·exact jjB hn
def txF (num:Int) (s:ByteArray):List Fld:=if s.size=0 then [] else [ja0 num s]
def nuF (num x:Int):List Fld:=if x=0 then [] else [jfy num x]
def flF (num x:Int):List Fld:=if x=0 then [] else [jgz num x]
def nsF (num:Int) (l:List Int):List Fld:=if l.length=0 then [] else [jbS num l]
theorem jeO {m:List Fld×Nat} {l:List Fld} {num:Int} {s:ByteArray} (h:Lst m l) (hn:1≤num∧num≤1000):WP (ja6 m num s) fun m'=>Lst m' (l++txF num s):=by
 unfold ja6 txF
 split
 ·rw [List.append_nil];exact h
 ·exact jdQ h (jjB hn)
theorem jii {m:List Fld×Nat} {l:List Fld} {num x:Int} (h:Lst m l) (hn:1≤num∧num≤1000):WP (jdb m num x) fun m'=>Lst m' (l++nuF num x):=by
 unfold jdb nuF
 split
 ·rw [List.append_nil];exact h
 ·exact jdQ h (fw_n hn)
theorem jot {m:List Fld×Nat} {l:List Fld} {num x:Int} (h:Lst m l) (hn:1≤num∧num≤1000) (hx:0≤x∧x<4294967296):WP (jj7 m num x) fun m'=>Lst m' (l++flF num x):=by
 unfold jj7 flF
 split
 ·rw [List.append_nil];exact h
 ·exact jdQ h (fw_f hn hx)
theorem jou {m:List Fld×Nat} {l:List Fld} {num:Int} {xs:List Int} (h:Lst m l) (hn:1≤num∧num≤1000):WP (nsM m num xs) fun m'=>Lst m' (l++nsF num xs):=by
 unfold nsM nsF
 split
 ·rw [List.append_nil];exact h
 ·exact jdQ h (jlh hn)
inductive Two {α β:Type} (P:α→β→Prop):List α→List β→Prop
 | nil:Two P [] []
 | cons {a:α} {b:β} {l:List α} {r:List β} : P a b→Two P l r→Two P (a::l) (b::r)
theorem jeb {α:Type} {f:α→R ByteArray} {num:Int} {P:α→ByteArray→Prop} (hn:1≤num∧num≤1000):∀ (xs:List α) {m:List Fld×Nat} {l:List Fld},Lst m l→(∀ x∈xs,WP (f x) (P x))→WP (jaS f num m xs) fun m'=>∃ ss,Two P xs ss∧Lst m' (l++ss.map (ja0 num))
 | [],m,l,h,_=>⟨[],.nil,by simpa using h⟩
 | x::xs,m,l,h,hx=>by
  show WP ((f x).bind fun s=>(jbf m (ja0 num s)).bind fun m=>jaS f num m xs) _;refine (hx x (List.mem_cons_self ..)).bind fun s hs=>(jdQ h (jjB hn)).bind fun m' hm=>?_;refine (jeb hn xs hm (fun y hy=>hx y (List.mem_cons_of_mem _ hy))).mono fun m2 ⟨ss,h1,h2⟩=>⟨s::ss,.cons hs h1,?_⟩
  simpa using h2
theorem jfL {m:List Fld×Nat} {l:List Fld} (h:Lst m l):WP (wrP m.1) fun s=>jaX s=.ok l:=by
 obtain ⟨rfl,h⟩:=h;have ha:m.1.all Wr.fok=true:=List.all_eq_true.2 fun x hx=>(h x hx).1;unfold wrP Wr.wrote;rw [if_pos ha]
 by_cases hl:(Wr.outOf m.1).length≤16777216
 ·rw [if_pos hl];simp only [if_true,WP];have hz:(Wr.sof (Wr.outOf m.1)).size=(Wr.outOf m.1).length:=Wr.sof_size _;unfold jaX;rw [if_neg (by omega),show Wr.all (Wr.fd (Wr.sof (Wr.outOf m.1))) (Wr.sof (Wr.outOf m.1)).size=some m.1 from Wr.all_out m.1 (fun x hx=>⟨(h x hx).1,(h x hx).2,Wr.size_in (fun y hy=>(h y hy).1) hl x hx⟩)]
 ·rw [if_neg hl];exact rfl
theorem jjC {σ:Type} (f:σ→Fld→R σ) (r:List Fld):∀ (l:List Fld) (a:σ),jaF f a (l++r)=(jaF f a l).bind fun b=>jaF f b r
 | [],a=>rfl
 | x::l,a=>by
  show (f a x).bind _=((f a x).bind _).bind _
  cases h:f a x with
  | error c=>rfl
  | ok b=>exact jjC f r l b
theorem jbN {σ:Type} {f:σ→Fld→R σ} {a b:σ} {l r:List Fld} (h:jaF f a l=.ok b):jaF f a (l++r)=jaF f b r:=by rw [jjC,h];rfl
theorem jdL {σ:Type} {f:σ→Fld→R σ} {a b:σ} {x:Fld} (h:f a x=.ok b):jaF f a [x]=.ok b:=by show (f a x).bind _=_;rw [h];rfl
theorem jcQ {σ α:Type} {f:σ→Fld→R σ} {num:Int} {P:α→ByteArray→Prop} (put:σ→α→σ) (hs:∀ a x s,P x s→f a (ja0 num s)=.ok (put a x)):∀ {xs:List α} {ss:List ByteArray},Two P xs ss→∀ a,jaF f a (ss.map (ja0 num))=.ok (xs.foldl put a)
 | _,_,.nil,a=>rfl
 | _,_,.cons h t,a=>by
  rw [List.map_cons];show (f a _).bind _=_;rw [hs a _ _ h];exact jcQ put hs t _
theorem jov (num x:Int):jeu (jfy num x) 0=.ok ():=rfl
theorem jeq {num x:Int} (h : -9223372036854775808≤x∧x≤9223372036854775807):jbP (jfy num x)=.ok x:=by
 show (jeu (jfy num x) 0).bind (fun _=>.ok (wrap64 (jfy num x).u))=_;rw [jov];show Except.ok _=_
 congr 1
 show wrap64 (x % 18446744073709551616)=x;unfold wrap64;omega
theorem jfd (t:ByteArray):jbR [t]=t:=by
 unfold jbR;simp
theorem jdy {σ:Type} {f:σ→Fld→R σ} {a b:σ} {num:Int} {s:ByteArray} (h1:s.size=0→a=b) (h2:f a (ja0 num s)=.ok b):jaF f a (txF num s)=.ok b:=by
 unfold txF
 split
 ·rename_i h;rw [h1 h];rfl
 ·exact jdL h2
theorem jfe {σ:Type} {f:σ→Fld→R σ} {a b:σ} {num x:Int} (h1:x=0→a=b) (h2:f a (jfy num x)=.ok b):jaF f a (nuF num x)=.ok b:=by
 unfold nuF
 split
 ·rename_i h;rw [h1 h];rfl
 ·exact jdL h2
theorem jmp {σ:Type} {f:σ→Fld→R σ} {a b:σ} {num x:Int} (h1:x=0→a=b) (h2:f a (jgz num x)=.ok b):jaF f a (flF num x)=.ok b:=by
 unfold flF
 split
 ·rename_i h;rw [h1 h];rfl
 ·exact jdL h2
theorem jli {σ:Type} {f:σ→Fld→R σ} {a b:σ} {num:Int} {l:List Int} (h1:l=[]→a=b) (h2:f a (jbS num l)=.ok b):jaF f a (nsF num l)=.ok b:=by
 unfold nsF
 split
 ·rename_i h;rw [h1 (List.length_eq_zero_iff.1 h)];rfl
 ·exact jdL h2
theorem jb3 {s:ByteArray} (h:s.size=0):s=⟨#[]⟩:=ByteArray.ext (Array.eq_empty_of_size_eq_zero h)
end Go.Proofs.YtbgbpfbjeleooaaGreat.Pd
namespace Go.Proofs.YtbgbpfbjeleooaaGreat.Pd
open Go.RowKit
open Wr (Fld)
theorem jmq {d:Int} (h:1≤d∧d≤65536):WP (jm2 d) fun s=>jbu s=.ok d:=by
 refine (jii (l:=[]) Lst.nil (by decide)).bind fun m hm=>(jfL hm).mono fun s hs=>?_;unfold jbu;rw [hs]
 have e:jaF jb0 (0,false,false) ([]++nuF 1 d)=.ok (d,true,false):=by
  refine jfe (fun h0=>by omega) ?_;unfold jb0;rw [if_pos (show (jfy 1 d).num=1 from rfl),jeq (by omega)]
  rfl
 show (jaF jb0 (0,false,false) ([]++nuF 1 d)).bind _=_;rw [e]
 rfl
theorem jm4 {zs:List Int} (h:Fine zs):∀ z∈zs,1≤z∧z≤65536:=by
 have key:∀ ys:List Int,(∀ y∈ys,1≤y)→∀ z∈ys,z≤jcB ys:=by
  intro ys
  induction ys with
  | nil=>intro _ z hz;cases hz
  | cons y ys ih =>
   intro hp z hz;have h1:=hp y (List.mem_cons_self ..);have h2:=prod_pos ys (fun x hx=>hp x (List.mem_cons_of_mem _ hx));show z≤y*jcB ys
   rcases List.mem_cons.1 hz with rfl | hz
   ·have:=Int.mul_le_mul_of_nonneg_left h2 (show 0≤z by omega);omega
   ·have h3:=ih (fun x hx=>hp x (List.mem_cons_of_mem _ hx)) z hz;have:=Int.mul_le_mul_of_nonneg_right h1 (show 0≤jcB ys by omega);omega
 exact fun z hz=>⟨h.pos z hz,Int.le_trans (key zs h.pos z hz) h.le⟩
theorem jgW {α:Type} : ∀ (l a:List α),l.foldl (fun s d=>s++[d]) a=a++l
 | [],a=>by simp
 | x::l,a=>by rw [List.foldl_cons,jgW l];simp
theorem jlj {t:Int} (h:chk t 0=true):t=1∨t=6∨t=7∨t=9:=by
 unfold chk at h
 split at h
 ·exact .inl ‹_›
 split at h
 ·exact .inr (.inl ‹_›)
 split at h
 ·exact .inr (.inr (.inl ‹_›))
 split at h
 ·exact .inr (.inr (.inr ‹_›))
 ·cases h
theorem jjD {V:NVal} (hn:jas [V.name]=false) (ht:chk V.ty 0=true) (hd:jcL V.dims=0):WP (jdA V) fun s=>jaG s=.ok V:=by
 obtain ⟨name,ty,ds⟩:=V;simp only at hn ht hd;have F:=jfj hd;have hty:ty≠0 ∧ -9223372036854775808≤ty∧ty≤9223372036854775807:=by have:=jlj ht;omega
 have hdl:=jm4 F;show WP (jan name ty ds) _;unfold jan;refine (jeb (P:=fun d s=>jbu s=.ok d) (by decide) ds Lst.nil (fun d hd=>jmq (hdl d hd))).bind fun D ⟨ss,h2,hD⟩=>?_;refine (jii (l:=[]) Lst.nil (by decide)).bind fun m hm=>(jfL hD).bind fun s hs=>(jdQ hm (jjB (by decide))).bind fun m2 hm2=>(jfL hm2).bind fun s2 hs2=>?_;refine (jdQ (l:=[]) Lst.nil (jjB (by decide))).bind fun y hy=>(jeO (l:=[]) Lst.nil (by decide)).bind fun m3 hm3=>(jfL hy).bind fun s3 hs3=>(jdQ hm3 (jjB (by decide))).bind fun m4 hm4=>(jfL hm4).mono fun s4 hs4=>?_
 have e1:jbe s=.ok ds:=by
  unfold jbe;rw [hs];show (jaF jbL [] ([]++ss.map (ja0 1))).bind _=_;rw [List.nil_append,jcQ (P:=fun d s=>jbu s=.ok d) (fun a d=>a++[d]) (fun a d t k=>by show (jbu t).bind _=_;rw [k];rfl) h2,jgW]
  rfl
 have e2:jat s2=.ok (ty,ds):=by
  unfold jat;rw [hs2]
  have k:jaF jcN (0,[]) ([]++nuF 1 ty++[ja0 2 s])=.ok (ty,[s]):=by
   rw [List.nil_append,jbN (b:=(ty,[])) (jfe (fun h0=>absurd h0 hty.1) (by unfold jcN;rw [if_pos (show (jfy 1 ty).num=1 from rfl),jeq hty.2];rfl))]
   rfl
  show (jaF jcN (0,[]) ([]++nuF 1 ty++[ja0 2 s])).bind _=_;rw [k];show (jbe (jbR [s])).bind _=_;rw [jfd,e1];show (jal (!chk ty 0) 5).bind _=_;rw [ht];show (jfl (jcL ds)).bind _=_;rw [hd]
  rfl
 have e3:jbh s3=.ok (ty,ds):=by
  unfold jbh;rw [hs3];show (jat (jbR [s2])).bind _=_;rw [jfd,e2]
  rfl
 unfold jaG;rw [hs4]
 have k:jaF jcb (⟨#[]⟩,[]) ([]++txF 1 name++[ja0 2 s3])=.ok (name,[s3]):=by
  rw [List.nil_append,jbN (b:=(name,[])) (jdy (fun h0=>by rw [jb3 h0]) rfl)]
  rfl
 show (jaF jcb (⟨#[]⟩,[]) ([]++txF 1 name++[ja0 2 s3])).bind _=_;rw [k];show (jbh (jbR [s3])).bind _=_;rw [jfd,e3];show (jal (jas [name]) 6).bind _=_;rw [hn]
 rfl
end Go.Proofs.YtbgbpfbjeleooaaGreat.Pd
namespace Go.Proofs.YtbgbpfbjeleooaaGreat.Pd
open Go.RowKit
open Wr (Fld)
theorem jnD (s t:ByteArray):∀ (f p:Nat),Wr.allF (Wr.tk (s++t)) (s.size+t.size) f (s.size+p)=Wr.allF (Wr.tk t) t.size f p:=by
 intro f
 induction f with
 | zero=>intro p;rfl
 | succ f ih =>
  intro p;unfold Wr.allF
  by_cases hp:p<t.size
  ·rw [if_pos (by omega),if_pos hp,Wr.tk_right]
   cases Wr.tk t p with
   | none=>rfl
   | some y=>simp only [Option.map_some];rw [ih]
  ·rw [if_neg (by omega),if_neg hp]
theorem jm5 {s:ByteArray} {p:Nat} {x q:Nat} (h:Wr.tk s p=some (x,q)):p<q:=by
 have:=Wr.tkF_spec (s:=s) (p:=p) 10 0 0 rfl (by decide) h;omega
theorem jjE:∀ l:List Int,Wr.all (Wr.tk ⟨(jcA l).toArray⟩) (ByteArray.size ⟨(jcA l).toArray⟩)=some (l.map fun x=>(x % 18446744073709551616).toNat)
 | []=>rfl
 | x::l=>by
  obtain ⟨u,hu⟩ : ∃ u,u=(x % 18446744073709551616).toNat:=⟨_,rfl⟩
  have e:(⟨(jcA (x::l)).toArray⟩ : ByteArray)=Wr.sof (Wr.vb u)++⟨(jcA l).toArray⟩:=by
   apply ByteArray.ext;rw [ByteArray.data_append,hu];unfold jcA;simp
  have h:=Wr.tk_vb u (by omega);have hl:(Wr.sof (Wr.vb u)).size=(Wr.vb u).length:=Wr.sof_size _;have h0:=jm5 h;have hr:=jjE l;rw [e,ByteArray.size_append];unfold Wr.all at hr ⊢;rw [Wr.allF_some (by omega) (by omega) (Wr.tk_left h),← hl];have k:=jnD (Wr.sof (Wr.vb u)) ⟨(jcA l).toArray⟩ ((Wr.sof (Wr.vb u)).size+ByteArray.size ⟨(jcA l).toArray⟩ - 1) 0;rw [Nat.add_zero] at k;rw [k,Wr.allF_fuel' (fun h=>jm5 h) (f':=ByteArray.size ⟨(jcA l).toArray⟩) (by omega) (by omega),hr,List.map_cons,hu]
  rfl
def I64 (l:List Int):Prop:=∀ x∈l,-9223372036854775808≤x∧x≤9223372036854775807
theorem jmr {x:Int} (h : -9223372036854775808≤x∧x≤9223372036854775807):wrap64 (((x % 18446744073709551616).toNat:Nat):Int)=x:=by
 unfold wrap64;omega
theorem jjF:∀ l:List Int,I64 l→(l.map fun x=>(x % 18446744073709551616).toNat).map (fun (u:Nat)=>wrap64 (u:Int))=l
 | [],_=>rfl
 | x::l,h=>by rw [List.map_cons,List.map_cons,jmr (h x (List.mem_cons_self ..)),jjF l (fun y hy=>h y (List.mem_cons_of_mem _ hy))]
theorem ji1 {l:List Int} (h:I64 l):jdU ⟨(jcA l).toArray⟩=.ok l:=by
 unfold jdU;rw [jjE];show Except.ok _=_;rw [jjF l h]
theorem jdi {num:Int} {a l:List Int} (h:I64 l):jbc a (jbS num l)=.ok (a++l):=by
 unfold jbS
 split
 ·rename_i h1;obtain ⟨x,rfl⟩:=List.length_eq_one_iff.1 h1;show jbc a (jfy num x)=_;unfold jbc;rw [if_pos (show (jfy num x).kind≠2 by show (0:Int)≠2;decide),jeq (h x (List.mem_singleton.2 rfl))]
  rfl
 ·unfold jbc;rw [if_neg (show ¬ (ja0 num ⟨(jcA l).toArray⟩).kind≠2 from fun h=>h rfl)];show (jdU ⟨(jcA l).toArray⟩).bind _=_;rw [ji1 h]
  rfl
theorem jnE (t x:Int):jic (ja4 t) x=Wr.lo (x % 18446744073709551616).toNat (ja4 t):=by
 rcases (show ja4 t=1∨ja4 t=4∨ja4 t=8 by unfold ja4;split;exact .inr (.inl rfl);split;exact .inr (.inr rfl);exact .inl rfl) with h | h | h <;> rw [h] <;>
 simp only [jic,List.range,List.range.loop,List.map_cons,List.map_nil,Wr.lo,List.cons.injEq,and_true] <;> omega
theorem jms (t x:Int) (r:List Nat):Wr.low (Wr.sof (jic (ja4 t) x++r)) 0 (ja4 t)=(x % 18446744073709551616).toNat % 256 ^ ja4 t:=by
 rw [Wr.sof_append,Wr.low_left _ _ _ _ (by rw [Wr.sof_size,je9];omega),jnE,Wr.low_lo _ (Wr.lo_lt _ _) (ja4 t) _ 0 [] rfl rfl]
theorem jlk {t x:Int} (h:chk t x=true) (h64 : -9223372036854775808≤x∧x≤9223372036854775807):jbQ t ((x % 18446744073709551616).toNat % 256 ^ ja4 t:Nat)=x:=by
 have ht:=h;unfold chk at h;unfold jbQ ja4
 split at h
 ·rename_i h1;subst h1;simp only [decide_eq_true_eq] at h;simp only [true_or,if_true];have e:(((x % 18446744073709551616).toNat % 256 ^ 4:Nat):Int)=x:=by omega
  rw [e,show wrap64 x=x by unfold wrap64;omega];unfold jbK;rw [if_pos ht]
 split at h
 ·rename_i h1 h6;subst h6;simp only [decide_eq_true_eq] at h;rw [if_neg (by decide),if_pos rfl,if_pos (.inr rfl)];unfold wrap64 wrap32;omega
 split at h
 ·rename_i h1 h6 h7;subst h7;rw [if_neg (by decide),if_neg (by decide),if_neg (by decide),if_pos rfl];unfold wrap64;omega
 split at h
 ·rename_i h1 h6 h7 h9;subst h9;simp only [decide_eq_true_eq] at h;rw [if_neg (by decide),if_neg (by decide),if_neg (by decide),if_neg (by decide)];unfold wrap64;omega
 ·cases h
theorem jgX {t:Int} : ∀ (l:List Int) (pre:List Nat),(∀ x∈l,chk t x=true)→I64 l→jcY t (ja4 t) (Wr.sof (pre++jiu (ja4 t) l)) l.length pre.length=l
 | [],_,_,_=>rfl
 | x::l,pre,h,h64=>by
  show jbQ t _::_=_
  have e:Wr.low (Wr.sof (pre++jiu (ja4 t) (x::l))) pre.length (ja4 t)=(x % 18446744073709551616).toNat % 256 ^ ja4 t:=by
   have k:=Wr.low_right (Wr.sof pre) (Wr.sof (jiu (ja4 t) (x::l))) (ja4 t) 0;rw [← Wr.sof_append,Wr.sof_size,Nat.add_zero] at k;rw [k];exact jms t x _
  rw [e,jlk (h x (List.mem_cons_self ..)) (h64 x (List.mem_cons_self ..))]
  congr 1
  have k:=jgX l (pre++jic (ja4 t) x) (fun y hy=>h y (List.mem_cons_of_mem _ hy)) (fun y hy=>h64 y (List.mem_cons_of_mem _ hy));rw [List.length_append,je9,List.append_assoc] at k;exact k
theorem jhA {t:Int} {l:List Int} (h:∀ x∈l,chk t x=true) (h64:I64 l):jbH t (jiU t l)=l:=by
 unfold jbH;have hz:=jfb t l;have hw:1≤ja4 t:=by unfold ja4;split;decide;split <;> decide
 rw [if_pos (by rw [hz,Nat.mul_mod_left]),hz,Nat.mul_div_cancel _ (by omega)];exact jgX l [] h h64
def DF (ty:Int) (l:List Int) (f:Fld):Prop:=FW f∧((f=jbS 5 l∧(ty=6∨ty=9))∨(f=jbS 7 l∧ty=7)∨(∃ x,f=jgz 4 x∧l=[x]∧ty=1)∨f=ja0 9 (jiU ty l))
theorem jow {a b:Fld} {Q:Fld→Prop} (ha:FW a) (hb:FW b) (sa:a.b.size≤16777216) (sb:b.b.size≤16777216) (qa:Q a) (qb:Q b):WP (shP a b) Q:=by
 refine (jfL (m:=([a],0)) ⟨rfl,fun x hx=>by rw [List.mem_singleton.1 hx];exact ⟨ha.1,ha.2 sa⟩⟩).bind fun s _=>(jfL (m:=([b],0)) ⟨rfl,fun x hx=>by rw [List.mem_singleton.1 hx];exact ⟨hb.1,hb.2 sb⟩⟩).bind fun t _=>?_;show Q _
 split
 ·exact qa
 ·exact qb
theorem wp_df {ty:Int} {l:List Int} (ht:chk ty 0=true) (hl:l.length≤65536) (h1:1≤l.length) (hc:∀ x∈l,chk ty x=true):WP (dfP ty l) (DF ty l):=by
 have sr:(jiU ty l).size≤16777216:=by
  rw [jfb];have:ja4 ty≤8:=by unfold ja4;split;decide;split <;> decide
  exact Nat.le_trans (Nat.mul_le_mul hl this) (by decide)
 have sn:∀ num,(jbS num l).b.size≤16777216:=fun num=>by have:=jgU num l;omega
 unfold dfP
 split
 ·rename_i h;exact jow (jlh (by decide)) (jjB (by decide)) (sn 5) sr ⟨jlh (by decide),.inl ⟨rfl,h⟩⟩ ⟨jjB (by decide),.inr (.inr (.inr rfl))⟩
 split
 ·rename_i h;exact jow (jlh (by decide)) (jjB (by decide)) (sn 7) sr ⟨jlh (by decide),.inr (.inl ⟨rfl,h⟩)⟩ ⟨jjB (by decide),.inr (.inr (.inr rfl))⟩
 split
 ·rename_i h6 h7 h;obtain ⟨x,rfl⟩:=List.length_eq_one_iff.1 h;have t1:ty=1:=by have:=jlj ht;omega
  subst t1;have hx:=hc x (List.mem_singleton.2 rfl);simp only [chk,if_true,decide_eq_true_eq] at hx;exact ⟨fw_f (by decide) (show 0≤x∧x<4294967296 by omega),.inr (.inr (.inl ⟨x,rfl,rfl,rfl⟩))⟩
 ·exact ⟨jjB (by decide),.inr (.inr (.inr rfl))⟩
theorem jgp {ty:Int} {ds l:List Int} (h:pbE ty ds l=0):chk ty 0=true∧jcL ds=0∧(l.length:Int)=jcB ds∧∀ x∈l,chk ty x=true:=by
 unfold pbE at h
 split at h
 ·cases h
 split at h
 ·contradiction
 split at h
 ·cases h
 split at h
 ·rename_i h1 h2 h3 h4;have h2':jcL ds=0:=Decidable.of_not_not h2;refine ⟨by simpa using h1,h2',?_,List.all_eq_true.1 h4⟩;rw [← (jfj h2').cnt];exact Decidable.of_not_not h3
 ·cases h
theorem jjG {T:NTen} (hn:jas [T.name]=false) (hp:pbE T.ty T.dims T.data=0) (h64:I64 T.data):WP (jkb T) fun s=>jaB s=.ok T:=by
 obtain ⟨name,ty,ds,l⟩:=T;simp only at hn hp h64;obtain ⟨ht,hd,hlen,hc⟩:=jgp hp;have F:=jfj hd;have hty:ty≠0 ∧ -9223372036854775808≤ty∧ty≤9223372036854775807:=by have:=jlj ht;omega
 have hdl:=jm4 F;have d64:I64 ds:=fun d hd=>by have:=hdl d hd;omega
 have h1:=F.prod_pos;have h2:=F.le;show WP (jaH name ty ds l) _;unfold jaH;refine (jou (l:=[]) Lst.nil (by decide)).bind fun m hm=>(jii hm (by decide)).bind fun m hm=>(wp_df ht (by omega) (by omega) hc).bind fun f hf=>(jdQ hm hf.1).bind fun m hm=>(jeO hm (by decide)).bind fun m hm=>(jfL hm).mono fun s hs=>?_;unfold jaB;rw [hs]
 obtain ⟨p,e1,e2⟩ : ∃ p,jaQ ⟨ds,ty,⟨#[]⟩,⟨[],[],[],⟨#[]⟩⟩⟩ f=.ok ⟨ds,ty,⟨#[]⟩,p⟩∧jdT ty p=l:=by
  rcases hf.2 with ⟨rfl,h⟩ | ⟨rfl,h⟩ | ⟨x,rfl,rfl,h⟩ | rfl
  ·refine ⟨⟨[],l,[],⟨#[]⟩⟩,?_,?_⟩
   ·unfold jaQ;have hn:(jbS 5 l).num=5:=by unfold jbS;split <;> rfl
    rw [hn,if_neg (by decide),if_neg (by decide),if_neg (by decide),if_pos rfl,jdi h64]
    rfl
   ·unfold jdT;rw [if_neg (fun h=>h rfl),if_neg (by omega),if_neg (by omega)]
  ·refine ⟨⟨[],[],l,⟨#[]⟩⟩,?_,?_⟩
   ·unfold jaQ;have hn:(jbS 7 l).num=7:=by unfold jbS;split <;> rfl
    rw [hn,if_neg (by decide),if_neg (by decide),if_neg (by decide),if_neg (by decide),if_pos rfl,jdi h64]
    rfl
   ·unfold jdT;rw [if_neg (fun h=>h rfl),if_neg (by omega),if_pos (by omega)]
  ·subst h;have hx:=hc x (List.mem_singleton.2 rfl);have hx2:=hx;simp only [chk,if_true,decide_eq_true_eq] at hx2;refine ⟨⟨[x],[],[],⟨#[]⟩⟩,?_,?_⟩
   ·unfold jaQ;have hn:(jgz 4 x).num=4:=rfl;rw [hn,if_neg (by decide),if_neg (by decide),if_pos rfl]
    have e:jca [] (jgz 4 x)=.ok [x]:=by
     unfold jca;rw [if_pos (show (jgz 4 x).kind≠2 by show (5:Int)≠2;decide)];show Except.ok ([]++[jbK (wrap64 (x % 18446744073709551616))])=_;rw [show wrap64 (x % 18446744073709551616)=x by unfold wrap64;omega];unfold jbK;rw [if_pos hx]
     rfl
    rw [show jca (TSt.p ⟨ds,1,⟨#[]⟩,⟨[],[],[],⟨#[]⟩⟩⟩).fl (jgz 4 x)=.ok [x] from e]
    rfl
   ·unfold jdT;rw [if_neg (fun h=>h rfl),if_pos rfl]
  ·refine ⟨⟨[],[],[],jiU ty l⟩,rfl,?_⟩;unfold jdT
   rw [if_pos (show (jiU ty l).size≠0 by
    rw [jfb];have hw:1≤ja4 ty:=by unfold ja4;split;decide;split <;> decide
    have:=Nat.mul_le_mul (show 1≤l.length by omega) hw;omega),jhA hc h64]
 have k:jaF jaQ t0 ([]++nsF 1 ds++nuF 2 ty++[f]++txF 8 name)=.ok ⟨ds,ty,name,p⟩:=by
  rw [List.nil_append,List.append_assoc,List.append_assoc,jbN (b:=⟨ds,0,⟨#[]⟩,⟨[],[],[],⟨#[]⟩⟩⟩) (jli (fun h0=>by rw [h0];rfl) (by
   unfold jaQ;have hn:(jbS 1 ds).num=1:=by unfold jbS;split <;> rfl
   rw [hn,if_pos rfl,jdi d64]
   rfl)),jbN (b:=⟨ds,ty,⟨#[]⟩,⟨[],[],[],⟨#[]⟩⟩⟩) (jfe (fun h0=>absurd h0 hty.1) (by
   unfold jaQ;rw [if_neg (show ¬ (jfy 2 ty).num=1 by show ¬ (2:Int)=1;decide),if_pos (show (jfy 2 ty).num=2 from rfl),jeq hty.2]
   rfl)),jbN (b:=⟨ds,ty,⟨#[]⟩,p⟩) (jdL e1)]
  exact jdy (fun h0=>by rw [jb3 h0]) rfl
 show (jaF jaQ t0 ([]++nsF 1 ds++nuF 2 ty++[f]++txF 8 name)).bind _=_;rw [k];show (jfl (pbE ty ds (jdT ty p))).bind _=_;rw [e2,hp];show (jal (jas [name]) 6).bind _=_;rw [hn]
 rfl
end Go.Proofs.YtbgbpfbjeleooaaGreat.Pd
