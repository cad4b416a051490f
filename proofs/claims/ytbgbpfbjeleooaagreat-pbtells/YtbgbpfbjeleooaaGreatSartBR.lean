/- A part. -/
import Derived.Test.YtbgbpfbjeleooaaGreatSartBO
import Derived.Test.YtbgbpfbjeleooaaGreatSartBP
import Derived.Test.YtbgbpfbjeleooaaGreatSartBQ
namespace Go.Proofs.YtbgbpfbjeleooaaGreat.Pd
open Go.RowKit
open Wr (Fld)
theorem jos {w:World} {a:Atr} {c:Cont} (hs:Has w a c) (hi:R64 a.i) (h:ja4 a c=true):TA (jbA a c):=by
 have nd:=jg0 hs.d;have nt:=jg0 hs.t;have ni:=jg0 hs.i;have rt:=jlk hs.t;have ri:=jlk hs.i;have r1:I64 [(jbA a c).i]:=fun x hx=>by rw [List.mem_singleton.1 hx];exact hi
 obtain ⟨nm,kd,f,i,s,ty,dv,tv,iv⟩:=a;obtain ⟨d,t,l7⟩:=c;unfold ja4 at h;rw [Bool.and_eq_true,Bool.and_eq_true] at h;obtain ⟨⟨h1,h2⟩,h3⟩:=h;unfold jcb at h1;unfold jb8 at h3;unfold jcf at h3;simp only at h1 h2 h3 nd nt ni rt ri r1;have hnm:jaq [nm]=false:=by simpa using h2
 have s0:jaq [⟨#[]⟩]=false:=by decide
 have nil:∀ {l:List Int} {n:Nat},n=l.length→n=0→l=[]:=fun e e0=>List.length_eq_zero_iff.1 (by omega)
 by_cases e1:kd=1
 ·subst e1;rw [if_pos rfl] at h1;rw [if_pos rfl] at h3;simp only [Bool.and_eq_true,decide_eq_true_eq] at h3;obtain ⟨⟨⟨⟨⟨⟨z1,z2⟩,z3⟩,z4⟩,z5⟩,z6⟩,z7⟩:=h3;subst z2;have z3:=jb2 z3;subst z3;have z4:=nil ni z4;subst z4;subst z5;have z6:=nil nd z6;subst z6;have z7:=nil nt z7;subst z7;exact ⟨rfl,(jen nm ⟨#[]⟩).trans (by rw [hnm,s0];rfl),by show ([]:List Int).length≤20;decide,fun _=>h1,fun e=>absurd (show (1:Int)=4 from e) (by decide),rt,ri,r1⟩
 by_cases e2:kd=2
 ·subst e2;rw [if_neg (by decide),if_pos rfl] at h1;rw [if_neg (by decide),if_pos rfl] at h3;simp only [Bool.and_eq_true,decide_eq_true_eq] at h3;obtain ⟨⟨⟨⟨⟨⟨z1,z2⟩,z3⟩,z4⟩,z5⟩,z6⟩,z7⟩:=h3;subst z1;have z3:=jb2 z3;subst z3;have z4:=nil ni z4;subst z4;subst z5;have z6:=nil nd z6;subst z6;have z7:=nil nt z7;subst z7;exact ⟨rfl,(jen nm ⟨#[]⟩).trans (by rw [hnm,s0];rfl),by show ([]:List Int).length≤20;decide,fun e=>absurd (show (2:Int)=1 from e) (by decide),fun e=>absurd (show (2:Int)=4 from e) (by decide),rt,ri,r1⟩
 by_cases e3:kd=3
 ·subst e3;rw [if_neg (by decide),if_neg (by decide),if_pos rfl] at h1;rw [if_neg (by decide),if_neg (by decide),if_pos rfl] at h3;simp only [Bool.and_eq_true,decide_eq_true_eq] at h3;obtain ⟨⟨⟨⟨⟨⟨z1,z2⟩,z3⟩,z4⟩,z5⟩,z6⟩,z7⟩:=h3;subst z1;subst z2;have z4:=nil ni z4;subst z4;subst z5;have z6:=nil nd z6;subst z6;have z7:=nil nt z7;subst z7;exact ⟨rfl,(jen nm s).trans (by rw [hnm];simpa using h1),by show ([]:List Int).length≤20;decide,fun e=>absurd (show (3:Int)=1 from e) (by decide),fun e=>absurd (show (3:Int)=4 from e) (by decide),rt,ri,r1⟩
 by_cases e4:kd=4
 ·subst e4;rw [if_neg (by decide),if_neg (by decide),if_neg (by decide),if_pos rfl] at h1;rw [if_neg (by decide),if_neg (by decide),if_neg (by decide),if_pos rfl] at h3;simp only [Bool.and_eq_true,decide_eq_true_eq] at h3;obtain ⟨⟨⟨⟨⟨⟨z1,z2⟩,z3⟩,z4⟩,z5⟩,z6⟩,z7⟩:=h3;subst z1;subst z2;have z3:=jb2 z3;subst z3;have z4:=nil ni z4;subst z4;exact ⟨rfl,(jen nm ⟨#[]⟩).trans (by rw [hnm,s0];rfl),by show ([]:List Int).length≤20;decide,fun e=>absurd (show (4:Int)=1 from e) (by decide),fun _=>of_decide_eq_true h1,rt,ri,r1⟩
 by_cases e7:kd=7
 ·subst e7;rw [if_neg (by decide),if_neg (by decide),if_neg (by decide),if_neg (by decide),if_pos rfl] at h1;rw [if_neg (by decide),if_neg (by decide),if_neg (by decide),if_neg (by decide)] at h3;simp only [Bool.and_eq_true,decide_eq_true_eq] at h3;obtain ⟨⟨⟨⟨⟨⟨z1,z2⟩,z3⟩,z4⟩,z5⟩,z6⟩,z7⟩:=h3;subst z1;subst z2;have z3:=jb2 z3;subst z3;subst z5;have z6:=nil nd z6;subst z6;have z7:=nil nt z7;subst z7;exact ⟨rfl,(jen nm ⟨#[]⟩).trans (by rw [hnm,s0];rfl),by have:=of_decide_eq_true h1;show l7.length≤20;omega,fun e=>absurd (show (7:Int)=1 from e) (by decide),fun e=>absurd (show (7:Int)=4 from e) (by decide),rt,ri,r1⟩
 ·rw [if_neg e1,if_neg e2,if_neg e3,if_neg e4,if_neg e7] at h1
  cases h1
theorem jlt {b:Bool} (h:(!b)=true):b=false:=by simpa using h
def RI (G:NGra):Prop:=∀ N∈G.nodes,∀ A∈N.attrs,R64 A.i
theorem jmX {xs:List Atr} {cs:List Cont} {A:NAtr} (h:A∈List.zipWith jbA xs cs):∃ p∈xs.zip cs,A=jbA p.1 p.2:=by
 have e:List.zipWith jbA xs cs=(xs.zip cs).map fun p=>jbA p.1 p.2:=by unfold List.zip;rw [List.map_zipWith]
 rw [e] at h;obtain ⟨p,hp,e⟩:=List.mem_map.1 h;exact ⟨p,hp,e.symm⟩
theorem jot {w:World} {n:Nod} {q:Ni} (hs:NodeIn0 w n q.ins q.xs q.cs) (hi:∀ A∈(jdI n q).attrs,R64 A.i) (h:jgj n q=true):TN (jdI n q):=by
 have lc:=jgp hs;unfold jgj at h;rw [Bool.and_eq_true,Bool.and_eq_true,Bool.and_eq_true,Bool.and_eq_true,decide_eq_true_eq,decide_eq_true_eq] at h;obtain ⟨⟨⟨⟨h1,h2⟩,h3⟩,h4⟩,h5⟩:=h;refine ⟨jlt h3,jlt h4,h1,?_,fun A hA=>?_⟩
 ·show (List.zipWith jbA q.xs q.cs).length≤20;rw [List.length_zipWith];omega
 ·have r:=hi A hA;obtain ⟨p,hp,e⟩:=jmX hA;subst e;exact jos (jll hs hp) r (List.all_eq_true.1 h5 p hp)
theorem jjB {w:World} {g:Gra} {ns:List (Nod×Ni)} {is os:List (Val×List Int)} {ts:List (Nam×List Int×List Int)} (hr:RdG w g ns is os ts) (hi:RI (jbK g ns is os ts)) (h:jds g ns is os ts=true):TG (jbK g ns is os ts):=by
 unfold jds at h;rw [Bool.and_eq_true,Bool.and_eq_true,Bool.and_eq_true,Bool.and_eq_true,Bool.and_eq_true] at h;obtain ⟨⟨h1,h2⟩,h3,h4,h5,h6⟩:=h
 have ev:∀ vs:List (Val×List Int),jaV vs=true→∀ V∈vs.map jbm,TV V:=fun vs hv V hV=>by
  obtain ⟨p,hp,e⟩:=List.mem_map.1 hV;subst e;have k:=List.all_eq_true.1 hv p hp;unfold jd4 at k;rw [Bool.and_eq_true,Bool.and_eq_true,decide_eq_true_eq] at k;exact ⟨jlt k.1.1,k.1.2,k.2⟩
 refine ⟨jlt h1,?_,fun N hN=>?_,fun T hT=>?_,ev is h5,ev os h6⟩
 ·unfold jbK;simp only [List.length_map];simpa using h2
 ·have r:=hi N hN;obtain ⟨p,hp,e⟩:=List.mem_map.1 hN;subst e;exact jot (hr.node p hp) r (List.all_eq_true.1 h3 p hp)
 ·obtain ⟨p,hp,e⟩:=List.mem_map.1 hT;subst e;have k:=List.all_eq_true.1 h4 p hp;unfold jbG at k;rw [Bool.and_eq_true,decide_eq_true_eq] at k;exact ⟨jlt k.1,k.2,jlk (hr.dten p hp).2⟩
theorem jlu {w w':World} {g h:Gra} {ns ms:List (Nod×Ni)} {is os vi vo:List (Val×List Int)} {ts us:List (Nam×List Int×List Int)} (hg:RdG w g ns is os ts) (hh:RdG w' h ms vi vo us) (hi:RI (jbK g ns is os ts)) (e:jbK h ms vi vo us=jbK g ns is os ts):jds h ms vi vo us=jds g ns is os ts:=by
 rw [Bool.eq_iff_iff];exact ⟨fun k=>jlm hg (by have:=jjB hh (by rw [e];exact hi) k;rwa [e] at this),fun k=>jlm hh (by rw [e];exact jjB hg hi k)⟩
theorem jj6 {a b:Atr} {c:Cont} (h:jcN a=jcN b):jbA a c=jbA b c:=by
 obtain ⟨a0,a1,a2,a3,a4,a5,a6,a7,a8⟩:=a;obtain ⟨b0,b1,b2,b3,b4,b5,b6,b7,b8⟩:=b;simp only [jcN,Atr.mk.injEq] at h;obtain ⟨rfl,rfl,rfl,rfl,rfl,rfl,-⟩:=h
 rfl
theorem jii:∀ {xs ys:List Atr} (cs:List Cont),xs.map jcN=ys.map jcN→List.zipWith jbA xs cs=List.zipWith jbA ys cs
 | [],[],_,_=>rfl
 | [],y::ys,_,h=>by simp at h
 | x::xs,[],_,h=>by simp at h
 | x::xs,y::ys,[],_=>rfl
 | x::xs,y::ys,c::cs,h=>by
  rw [List.map_cons,List.map_cons] at h;obtain ⟨h1,h2⟩:=List.cons.inj h;rw [List.zipWith_cons_cons,List.zipWith_cons_cons,jj6 h1,jii cs h2]
theorem jmu {p q:Nod×Ni} (h:jgZ (jgA p)=jgZ (jgA q)):jc2 p=jc2 q:=by
 simp only [jgZ,jgA,Prod.mk.injEq] at h;obtain ⟨h1,h2,h3,h4,h5,h6⟩:=h;unfold jc2 jdI;rw [h1,h2,h3,h4,h6,jii q.2.cs h5]
theorem jlv {w w':World} {g h:Gra} {ns ms:List (Nod×Ni)} {is os vi vo:List (Val×List Int)} {ts us:List (Nam×List Int×List Int)} {i0 i1 o0 o1 n0 n1 t0 t1:Nat} (hr:RdG w g ns is os ts) (hc:CopiedG0 w w' g (ns.map jgA) is os ts h ms vi vo us i0 i1 o0 o1 n0 n1 t0 t1):RdG w' h ms vi vo us∧jbK h ms vi vo us=jbK g ns is os ts:=by
 have k:=hc.in0 hr.inG;refine ⟨⟨by have:=k.nodes;rwa [jib] at this,k.ins,k.outs,k.inits,fun p hp=>k.node (jgA p) (List.mem_map_of_mem hp),k.din,k.dout,k.dinit⟩,?_⟩;have kn:=hc.kn;rw [List.map_map,List.map_map] at kn
 have kv:∀ a b:Val×List Int,jfc a=jfc b→jbm a=jbm b:=fun a b e=>by
  simp only [jfc,Prod.mk.injEq] at e;unfold jbm;rw [e.1,e.2.1,e.2.2]
 have km:∀ a b:Nam×List Int×List Int,ji4 a=ji4 b→jcY a=jcY b:=fun a b e=>by
  simp only [ji4,Prod.mk.injEq] at e;unfold jcY;rw [e.1,e.2.1,e.2.2]
 unfold jbK;rw [hc.name,jd6 (k:=jgZ ∘ jgA) (F:=jc2) (fun a b e=>jmu e) kn,jd6 kv hc.ki,jd6 kv hc.ko,jd6 km hc.kt]
theorem rd_ri {g:Gra} {ns:List (Nod×Ni)} {is os:List (Val×List Int)} {ts:List (Nam×List Int×List Int)} (h:∀ p∈ns,∀ a∈p.2.xs,R64 a.i):RI (jbK g ns is os ts):=by
 intro N hN A hA;obtain ⟨p,hp,e⟩:=List.mem_map.1 hN;subst e;obtain ⟨q,hq,e⟩:=jmX hA;subst e;exact h p hp q.1 (List.of_mem_zip hq).1
end Go.Proofs.YtbgbpfbjeleooaaGreat.Pd
