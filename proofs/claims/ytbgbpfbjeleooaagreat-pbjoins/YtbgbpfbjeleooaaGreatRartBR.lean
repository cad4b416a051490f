/- A part. -/
import Derived.Test.YtbgbpfbjeleooaaGreatRartBO
import Derived.Test.YtbgbpfbjeleooaaGreatRartBP
import Derived.Test.YtbgbpfbjeleooaaGreatRartBQ
namespace Go.Proofs.YtbgbpfbjeleooaaGreat.Pd
open Go.RowKit
open Wr (Fld)
theorem joC {w:World} {a:Atr} {c:Cont} (hs:Has w a c) (hi:R64 a.i) (h:ja7 a c=true):TA (jbC a c):=by
 have nd:=jg4 hs.d;have nt:=jg4 hs.t;have ni:=jg4 hs.i;have rt:=jlt hs.t;have ri:=jlt hs.i;have r1:I64 [(jbC a c).i]:=fun x hx=>by rw [List.mem_singleton.1 hx];exact hi
 obtain ⟨nm,kd,f,i,s,ty,dv,tv,iv⟩:=a;obtain ⟨d,t,l7⟩:=c;unfold ja7 at h;rw [Bool.and_eq_true,Bool.and_eq_true] at h;obtain ⟨⟨h1,h2⟩,h3⟩:=h;unfold jcc at h1;unfold jb9 at h3;unfold jcg at h3;simp only at h1 h2 h3 nd nt ni rt ri r1;have hnm:jas [nm]=false:=by simpa using h2
 have s0:jas [⟨#[]⟩]=false:=by decide
 have nil:∀ {l:List Int} {n:Nat},n=l.length→n=0→l=[]:=fun e e0=>List.length_eq_zero_iff.1 (by omega)
 by_cases e1:kd=1
 ·subst e1;rw [if_pos rfl] at h1;rw [if_pos rfl] at h3;simp only [Bool.and_eq_true,decide_eq_true_eq] at h3;obtain ⟨⟨⟨⟨⟨⟨z1,z2⟩,z3⟩,z4⟩,z5⟩,z6⟩,z7⟩:=h3;subst z2;have z3:=jb3 z3;subst z3;have z4:=nil ni z4;subst z4;subst z5;have z6:=nil nd z6;subst z6;have z7:=nil nt z7;subst z7;exact ⟨rfl,(jes nm ⟨#[]⟩).trans (by rw [hnm,s0];rfl),by show ([]:List Int).length≤20;decide,fun _=>h1,fun e=>absurd (show (1:Int)=4 from e) (by decide),rt,ri,r1⟩
 by_cases e2:kd=2
 ·subst e2;rw [if_neg (by decide),if_pos rfl] at h1;rw [if_neg (by decide),if_pos rfl] at h3;simp only [Bool.and_eq_true,decide_eq_true_eq] at h3;obtain ⟨⟨⟨⟨⟨⟨z1,z2⟩,z3⟩,z4⟩,z5⟩,z6⟩,z7⟩:=h3;subst z1;have z3:=jb3 z3;subst z3;have z4:=nil ni z4;subst z4;subst z5;have z6:=nil nd z6;subst z6;have z7:=nil nt z7;subst z7;exact ⟨rfl,(jes nm ⟨#[]⟩).trans (by rw [hnm,s0];rfl),by show ([]:List Int).length≤20;decide,fun e=>absurd (show (2:Int)=1 from e) (by decide),fun e=>absurd (show (2:Int)=4 from e) (by decide),rt,ri,r1⟩
 by_cases e3:kd=3
 ·subst e3;rw [if_neg (by decide),if_neg (by decide),if_pos rfl] at h1;rw [if_neg (by decide),if_neg (by decide),if_pos rfl] at h3;simp only [Bool.and_eq_true,decide_eq_true_eq] at h3;obtain ⟨⟨⟨⟨⟨⟨z1,z2⟩,z3⟩,z4⟩,z5⟩,z6⟩,z7⟩:=h3;subst z1;subst z2;have z4:=nil ni z4;subst z4;subst z5;have z6:=nil nd z6;subst z6;have z7:=nil nt z7;subst z7;exact ⟨rfl,(jes nm s).trans (by rw [hnm];simpa using h1),by show ([]:List Int).length≤20;decide,fun e=>absurd (show (3:Int)=1 from e) (by decide),fun e=>absurd (show (3:Int)=4 from e) (by decide),rt,ri,r1⟩
 by_cases e4:kd=4
 ·subst e4;rw [if_neg (by decide),if_neg (by decide),if_neg (by decide),if_pos rfl] at h1;rw [if_neg (by decide),if_neg (by decide),if_neg (by decide),if_pos rfl] at h3;simp only [Bool.and_eq_true,decide_eq_true_eq] at h3;obtain ⟨⟨⟨⟨⟨⟨z1,z2⟩,z3⟩,z4⟩,z5⟩,z6⟩,z7⟩:=h3;subst z1;subst z2;have z3:=jb3 z3;subst z3;have z4:=nil ni z4;subst z4;exact ⟨rfl,(jes nm ⟨#[]⟩).trans (by rw [hnm,s0];rfl),by show ([]:List Int).length≤20;decide,fun e=>absurd (show (4:Int)=1 from e) (by decide),fun _=>of_decide_eq_true h1,rt,ri,r1⟩
 by_cases e7:kd=7
 ·subst e7;rw [if_neg (by decide),if_neg (by decide),if_neg (by decide),if_neg (by decide),if_pos rfl] at h1;rw [if_neg (by decide),if_neg (by decide),if_neg (by decide),if_neg (by decide)] at h3;simp only [Bool.and_eq_true,decide_eq_true_eq] at h3;obtain ⟨⟨⟨⟨⟨⟨z1,z2⟩,z3⟩,z4⟩,z5⟩,z6⟩,z7⟩:=h3;subst z1;subst z2;have z3:=jb3 z3;subst z3;subst z5;have z6:=nil nd z6;subst z6;have z7:=nil nt z7;subst z7;exact ⟨rfl,(jes nm ⟨#[]⟩).trans (by rw [hnm,s0];rfl),by have:=of_decide_eq_true h1;show l7.length≤20;omega,fun e=>absurd (show (7:Int)=1 from e) (by decide),fun e=>absurd (show (7:Int)=4 from e) (by decide),rt,ri,r1⟩
 ·rw [if_neg e1,if_neg e2,if_neg e3,if_neg e4,if_neg e7] at h1
  cases h1
theorem jlB {b:Bool} (h:(!b)=true):b=false:=by simpa using h
def RI (G:NGra):Prop:=∀ N∈G.nodes,∀ A∈N.attrs,R64 A.i
theorem jm8 {xs:List Atr} {cs:List Cont} {A:NAtr} (h:A∈List.zipWith jbC xs cs):∃ p∈xs.zip cs,A=jbC p.1 p.2:=by
 have e:List.zipWith jbC xs cs=(xs.zip cs).map fun p=>jbC p.1 p.2:=by unfold List.zip;rw [List.map_zipWith]
 rw [e] at h;obtain ⟨p,hp,e⟩:=List.mem_map.1 h;exact ⟨p,hp,e.symm⟩
theorem joD {w:World} {n:Nod} {q:Ni} (hs:NodeIn0 w n q.ins q.xs q.cs) (hi:∀ A∈(jdO n q).attrs,R64 A.i) (h:jgo n q=true):TN (jdO n q):=by
 have lc:=jgu hs;unfold jgo at h;rw [Bool.and_eq_true,Bool.and_eq_true,Bool.and_eq_true,Bool.and_eq_true,decide_eq_true_eq,decide_eq_true_eq] at h;obtain ⟨⟨⟨⟨h1,h2⟩,h3⟩,h4⟩,h5⟩:=h;refine ⟨jlB h3,jlB h4,h1,?_,fun A hA=>?_⟩
 ·show (List.zipWith jbC q.xs q.cs).length≤20;rw [List.length_zipWith];omega
 ·have r:=hi A hA;obtain ⟨p,hp,e⟩:=jm8 hA;subst e;exact joC (jlu hs hp) r (List.all_eq_true.1 h5 p hp)
theorem jlC {w:World} {g:Gra} {ns:List (Nod×Ni)} {is os:List (Val×List Int)} {ts:List (Nam×List Int×List Int)} (hr:RdG w g ns is os ts) (hi:RI (jbi g ns is os ts)) (h:jc6 g ns is os ts=true):TG (jbi g ns is os ts):=by
 unfold jc6 at h;rw [Bool.and_eq_true,Bool.and_eq_true,Bool.and_eq_true,Bool.and_eq_true,Bool.and_eq_true] at h;obtain ⟨⟨h1,h2⟩,h3,h4,h5,h6⟩:=h
 have ev:∀ vs:List (Val×List Int),jaW vs=true→∀ V∈vs.map jbp,TV V:=fun vs hv V hV=>by
  obtain ⟨p,hp,e⟩:=List.mem_map.1 hV;subst e;have k:=List.all_eq_true.1 hv p hp;unfold jea at k;rw [Bool.and_eq_true,Bool.and_eq_true,decide_eq_true_eq] at k;exact ⟨jlB k.1.1,k.1.2,k.2⟩
 refine ⟨jlB h1,?_,fun N hN=>?_,fun T hT=>?_,ev is h5,ev os h6⟩
 ·unfold jbi;simp only [List.length_map];simpa using h2
 ·have r:=hi N hN;obtain ⟨p,hp,e⟩:=List.mem_map.1 hN;subst e;exact joD (hr.node p hp) r (List.all_eq_true.1 h3 p hp)
 ·obtain ⟨p,hp,e⟩:=List.mem_map.1 hT;subst e;have k:=List.all_eq_true.1 h4 p hp;unfold jbJ at k;rw [Bool.and_eq_true,decide_eq_true_eq] at k;exact ⟨jlB k.1,k.2,jlt (hr.dten p hp).2⟩
theorem jkg {a b:Atr} {c:Cont} (h:jcS a=jcS b):jbC a c=jbC b c:=by
 obtain ⟨a0,a1,a2,a3,a4,a5,a6,a7,a8⟩:=a;obtain ⟨b0,b1,b2,b3,b4,b5,b6,b7,b8⟩:=b;simp only [jcS,Atr.mk.injEq] at h;obtain ⟨rfl,rfl,rfl,rfl,rfl,rfl,-⟩:=h
 rfl
theorem jir:∀ {xs ys:List Atr} (cs:List Cont),xs.map jcS=ys.map jcS→List.zipWith jbC xs cs=List.zipWith jbC ys cs
 | [],[],_,_=>rfl
 | [],y::ys,_,h=>by simp at h
 | x::xs,[],_,h=>by simp at h
 | x::xs,y::ys,[],_=>rfl
 | x::xs,y::ys,c::cs,h=>by
  rw [List.map_cons,List.map_cons] at h;obtain ⟨h1,h2⟩:=List.cons.inj h;rw [List.zipWith_cons_cons,List.zipWith_cons_cons,jkg h1,jir cs h2]
theorem jmF {p q:Nod×Ni} (h:jg3 (jgA p)=jg3 (jgA q)):jc8 p=jc8 q:=by
 simp only [jg3,jgA,Prod.mk.injEq] at h;obtain ⟨h1,h2,h3,h4,h5,h6⟩:=h;unfold jc8 jdO;rw [h1,h2,h3,h4,h6,jir q.2.cs h5]
theorem jis {w w':World} {g h:Gra} {ns ms:List (Nod×Ni)} {is os vi vo:List (Val×List Int)} {ts us:List (Nam×List Int×List Int)} {i0 i1 o0 o1 n0 n1 t0 t1:Nat} (hr:RdG w g ns is os ts) (hc:CopiedG0 w w' g (ns.map jgA) is os ts h ms vi vo us i0 i1 o0 o1 n0 n1 t0 t1):RdG w' h ms vi vo us∧jbi h ms vi vo us=jbi g ns is os ts:=by
 have k:=hc.in0 hr.inG;refine ⟨⟨by have:=k.nodes;rwa [jik] at this,k.ins,k.outs,k.inits,fun p hp=>k.node (jgA p) (List.mem_map_of_mem hp),k.din,k.dout,k.dinit⟩,?_⟩;have kn:=hc.kn;rw [List.map_map,List.map_map] at kn
 have kv:∀ a b:Val×List Int,jfh a=jfh b→jbp a=jbp b:=fun a b e=>by
  simp only [jfh,Prod.mk.injEq] at e;unfold jbp;rw [e.1,e.2.1,e.2.2]
 have km:∀ a b:Nam×List Int×List Int,jjf a=jjf b→jc2 a=jc2 b:=fun a b e=>by
  simp only [jjf,Prod.mk.injEq] at e;unfold jc2;rw [e.1,e.2.1,e.2.2]
 unfold jbi;rw [hc.name,jec (k:=jg3 ∘ jgA) (F:=jc8) (fun a b e=>jmF e) kn,jec kv hc.ki,jec kv hc.ko,jec km hc.kt]
theorem joE {g:Gra} {ns:List (Nod×Ni)} {is os:List (Val×List Int)} {ts:List (Nam×List Int×List Int)} (h:∀ p∈ns,∀ a∈p.2.xs,R64 a.i):RI (jbi g ns is os ts):=by
 intro N hN A hA;obtain ⟨p,hp,e⟩:=List.mem_map.1 hN;subst e;obtain ⟨q,hq,e⟩:=jm8 hA;subst e;exact h p hp q.1 (List.of_mem_zip hq).1
end Go.Proofs.YtbgbpfbjeleooaaGreat.Pd
namespace Go.Proofs.YtbgbpfbjeleooaaGreat.Pd
open Go.RowKit
open Wr (Fld)
theorem jf1 {α : Type} {ops : Array Oper} {rest : List Oper} {o : Oper} {a : Act} {w : World} {Q : Exit → Act → World → Prop} (hgd : o.guard = none) (s x : Operand) (t te : TypeId) (size bytes : Nat) (z : Value) (i0 : TypeInfo) (f : α → List Value)
    (ho:o.op=.call { callee:=.builtin .append,args:=#[s,x],argTypes:=#[t,t] }) (ht:Tryz.prog.underlying t=some (.slice te)) (hi:Tryz.prog.info? te=some i0) (hz:i0.zero=some z)
    (hsize:i0.size=size) (hby:i0.bytes=bytes) (hzs:z.cells.size=size) (hsz:0<size) (base:Nat) (v:Value) (xs:List α) (hs:a.eval s=v) (hown:OwnsL te size f w base v xs) (hb:base≤w.heap.size)
    (xv:Value) (ys:List α) (hx:a.eval x=xv) (hys:IsL bytes size f w xv ys) (hl:∀ y,(f y).length=size) (h1:∀ y,∀ u∈f y,u.oneCell'=true) (hm:xs.length+ys.length≤9223372036854775807) (hmb:(xs.length+ys.length)*bytes≤140737488355328)
    (h:∀ v' w',OwnsL te size f w' base v' (xs++ys)→w.grownBy w' v.ownBlock→jdN w.heap.size v v'→wpList Tryz.prog ops Q rest (a.put o.dst v') w'):wpList Tryz.prog ops Q (o::rest) a w:=by
     obtain ⟨ao,cap,rfl,k1,k2,k3,k4,k5⟩:=hys
     by_cases hy:0<ys.length
     ·obtain ⟨b,off,rfl,hc⟩:=k5 hy;refine wpList_append_lies w hgd s x t ho base te i0 z size bytes ht hi hz hsize hby hzs hsz v xs.length (xs.flatMap f) hs hown ⟨b,off,none⟩ ys.length cap (ys.flatMap f) hx (jdC hl ys) ?_ ?_ hy (by simp only [maxLen];omega) hmb hb _ rfl ?_
      ·intro j u hu
       have hj:j<ys.length*size:=by
        have:=(List.getElem?_eq_some_iff.1 hu).1
        rwa [jdC hl] at this
       have hjs:j % size<size:=Nat.mod_lt _ hsz;have hjd:j / size<ys.length:=(Nat.div_lt_iff_lt_mul hsz).2 hj;have e1:j=j / size*size+j % size:=by rw [Nat.mul_comm];exact (Nat.div_add_mod j size).symm
       rw [e1,jfm hl ys _ _ hjd hjs] at hu;rw [Addr.add_lit];have:=(hc (j / size) hjd (j % size) hjs).1;rw [Nat.add_assoc,← e1] at this;rw [this,hu]
      ·intro u hu;obtain ⟨y,-,hy⟩:=List.mem_flatMap.1 hu;exact h1 y u hy
      ·intro g cap' w' ho' hg hat _;refine h _ w' ?_ hg (fun b e=>?_)
       ·unfold OwnsL;rw [List.length_append,List.flatMap_append];exact ho'
       ·have e2:g=b:=by simpa [Value.ownBlock] using e
        subst e2
        rcases hat with h | h
        ·exact .inl h
        ·exact .inr (by omega)
     ·obtain rfl:ys=[]:=List.length_eq_zero_iff.1 (by omega)
      cases ao with
      | none =>
       obtain ⟨-,rfl⟩:=k4 rfl;refine wpList_append_own_none hgd s x t ho base te i0 size ht hi v _ _ hs hown hx ?_;exact h v w (by simpa using hown) (World.grownBy.refl _ _) (jdN.refl _ _)
      | some ad =>
       refine wpList_plain hgd fun K hK=>?_;have hrun:=jd0 (w:=w) base t o.type te i0 size cap ad ht hi v _ _ hown;unfold Oper.wp;simp only [List.length_nil] at hx;simp [execOp,ho,resolve,invoke,builtin,hs,hx,hrun,Result.andThen];exact hK _ _ (h v w (by simpa using hown) (World.grownBy.refl _ _) (jdN.refl _ _))
structure JL {α β:Type} (bytes size:Nat) (f:α→List Value) (H:World→α→β→Prop) (foot:α→β→Nat→Prop) (w:World) (v:Value) (ps:List (α×β)) (F:Nat→Prop):Prop where
 isL:IsL bytes size f w v (ps.map (·.1))
 has:∀ p∈ps,H w p.1 p.2
 row:∀ b,v.ownBlock=some b→F b
 feet:∀ p∈ps,∀ b,foot p.1 p.2 b→F b
section
variable {α β : Type} {te : TypeId} {bytes size : Nat} {f : α → List Value} {H : World → α → β → Prop} {foot : α → β → Nat → Prop}
theorem JL.kept {w w':World} {v:Value} {ps:List (α×β)} {F:Nat→Prop} (HK:jhN H foot) (h:JL bytes size f H foot w v ps F) (hk:∀ b,b<w.heap.size→F b→w'.heap[b]?=w.heap[b]?):JL bytes size f H foot w' v ps F :=
 ⟨h.isL.kept fun b hb e=>hk b hb (h.row b e),fun p hp=>HK _ _ _ _ (h.has p hp) fun b hb e=>hk b hb (h.feet p hp b e),h.row,h.feet⟩
theorem OwnD.jl {w:World} {lo hi:Nat} {v:Value} {ps:List (α×β)} (h:OwnD te size f H foot w lo hi v ps) (hf:∀ a,(f a).length=size) (hl:ps.length*bytes≤140737488351232):JL bytes size f H foot w v ps (fun b=>lo≤b∧b<hi) :=
 ⟨h.own.isL hf (by rw [List.length_map];exact hl),h.has,fun b e=>⟨(World.ownsRow.lt h.own b e).1,h.row b e⟩,fun p hp b e=>have k:=h.new p hp b e;⟨k.1,k.2.1⟩⟩
theorem jjK {w w' : World} {lo hi base : Nat} {v v' yv : Value} {ps qs : List (α × β)} {F : Nat → Prop} (HK : jhN H foot) (hf : ∀ a, (f a).length = size) (h : OwnD te size f H foot w lo hi v ps) (hy : JL bytes size f H foot w yv qs F) (hF : ∀ b, F b → b < lo ∨ hi ≤ b)
    (ho:OwnsL te size f w' base v' (ps.map (·.1)++qs.map (·.1))) (hg:w.grownBy w' v.ownBlock) (hfr:jdN w.heap.size v v') (hl:(ps.length+qs.length)*bytes≤140737488351232) :
    JL bytes size f H foot w' v' (ps++qs) (fun b=>(lo≤b∧b<hi)∨F b∨(w.heap.size≤b∧b<w'.heap.size)):=by
     have vb:∀ b,v.ownBlock=some b→lo≤b∧b<hi:=fun b e=>⟨(World.ownsRow.lt h.own b e).1,h.row b e⟩
     refine ⟨?_,fun p hp=>?_,fun b e=>?_,fun p hp b e=>?_⟩
     ·have k:=ho.isL (bytes:=bytes) hf (by rw [List.length_append,List.length_map,List.length_map];exact hl);rw [← List.map_append] at k;exact k
     ·rcases List.mem_append.1 hp with hp | hp
      ·exact HK _ _ _ _ (h.has p hp) fun b hb e=>hg.block b hb fun e2=>(h.new p hp b e).2.2 e2.symm
      ·exact HK _ _ _ _ (hy.has p hp) fun b hb e => hg.block b hb fun e2 => by
         have k1:=vb b e2.symm;have k2:=hF b (hy.feet p hp b e);omega
     ·rcases hfr b e with k | k
      ·exact .inl (vb b k)
      ·exact .inr (.inr ⟨k,(World.ownsRow.lt ho b e).2⟩)
     ·rcases List.mem_append.1 hp with hp | hp
      ·have k:=h.new p hp b e;exact .inl ⟨k.1,k.2.1⟩
      ·exact .inr (.inl (hy.feet p hp b e))
end
def jeQ (A B:NGra):NGra:=⟨B.name,A.nodes++B.nodes,A.ins++B.ins,A.outs++B.outs,A.inits++B.inits⟩
theorem jjL {s p:ByteArray} {n:Int} (h:jaX s=.ok [ja0 n p]):p.size≤s.size:=by
 unfold jaX at h
 split at h
 ·cases h
 ·split at h
  ·cases h
  ·rename_i xs hm
   cases h
   have:=jhh s s.size 0 hm;simp only [List.map_cons,List.map_nil,jfs] at this;have e:(ja0 n p).b=p:=rfl;rw [e] at this;omega
theorem jmG {A B:NGra} {s t:ByteArray} (ha:TG A) (hb:TG B) (es:jax A=.ok s) (et:jax B=.ok t) (hn:B.name.size≠0) (hz:s.size+t.size≤16777216):jaP (s++t)=jdf (jeQ A B):=by
 have k1:=jhB ha;have k2:=jhB hb;rw [es] at k1;rw [et] at k2;obtain ⟨p,l,e1,e2,e3⟩:=k1;obtain ⟨q,r,f1,f2,f3⟩:=k2;unfold jaP;rw [jgv e1 f1 hz];show jaK (jbR [p,q])=_
 have ej:jbR [p,q]=p++q:=by
  unfold jbR;apply ByteArray.ext;rw [ByteArray.data_append];simp
 rw [ej];unfold jaK;have hp:=jjL e1;have hq:=jjL f1;rw [jgv e2 f2 (by omega)];show (jaF jav g0 (l++r)).bind jdf=_;rw [jbN (e3 g0),f3];show jdf _=_;rw [if_neg hn]
 rfl
theorem jlD {A B:NGra} (ha:TG A) (hb:TG B):TG (jeQ A B)↔jcu (A.nodes.length+B.nodes.length) (A.ins.length+B.ins.length) (A.outs.length+B.outs.length) (A.inits.length+B.inits.length)=false:=by
 constructor
 ·intro h;have k:=h.few;unfold jeQ at k;simpa using k
 ·intro h;refine ⟨hb.long,?_,fun N hN=>(List.mem_append.1 hN).elim (ha.nodes N) (hb.nodes N),fun N hN=>(List.mem_append.1 hN).elim (ha.inits N) (hb.inits N),fun N hN=>(List.mem_append.1 hN).elim (ha.ins N) (hb.ins N),fun N hN=>(List.mem_append.1 hN).elim (ha.outs N) (hb.outs N)⟩;unfold jeQ;simpa using h
theorem jlE {A B:NGra} (h:jcu (A.nodes.length+B.nodes.length) (A.ins.length+B.ins.length) (A.outs.length+B.outs.length) (A.inits.length+B.inits.length)=true):jdf (jeQ A B)=.error 6:=by
 unfold jdf
 have e:jcu (jeQ A B).nodes.length (jeQ A B).ins.length (jeQ A B).outs.length (jeQ A B).inits.length=true:=by
  unfold jeQ;simpa using h
 rw [e,Bool.or_true]
 rfl
end Go.Proofs.YtbgbpfbjeleooaaGreat.Pd
