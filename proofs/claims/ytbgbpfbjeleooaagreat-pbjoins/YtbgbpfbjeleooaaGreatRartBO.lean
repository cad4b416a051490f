/- A part. -/
import Derived.Test.YtbgbpfbjeleooaaGreatRartBM
import Derived.Test.YtbgbpfbjeleooaaGreatRartAH
import Derived.Test.YtbgbpfbjeleooaaGreatRartBN
set_option maxHeartbeats 3200000
set_option maxRecDepth 100000
namespace Go.Proofs.YtbgbpfbjeleooaaGreat.Pd
open Go.RowKit
open Wr (Fld)
theorem litW {w:World} {B:Nat} (zs:List Int) (hb:w.heap[B]?=some (.cells (zs.map (Value.int .i64)).toArray 3 (0,0))) (hl:zs.length≤1024) (hz:∀ z∈zs,-1024≤z∧z≤1024):jaj w (.slice (some ⟨B,0,none⟩) zs.length zs.length) zs:=by
 refine jeR.ints (base:=0) ⟨⟨by simp,Or.inr ⟨B,zs.length,_,rfl,Nat.zero_le _,hb,Nat.le_refl _,by simp only [maxLen];omega,by simp,?_⟩⟩,by omega,fun z hz'=>by have:=hz z hz';constructor <;> omega⟩
 rw [List.take_of_length_le (by simp)]
theorem seven (w:World) (z a b c d e f:Obj):∀ W,W=((((((w.alloc z).alloc a).alloc b).alloc c).alloc d).alloc e).alloc f →
    W.heap[w.heap.size]?=some z∧W.heap[w.heap.size+1]?=some a∧W.heap[w.heap.size+1+1]?=some b∧W.heap[w.heap.size+1+1+1]?=some c∧W.heap[w.heap.size+1+1+1+1]?=some d∧W.heap[w.heap.size+1+1+1+1+1]?=some e∧W.heap[w.heap.size+1+1+1+1+1+1]?=some f∧w.grownBy W none:=by
     intro W hW;obtain ⟨h0,h1,h2,h3,h4,h5,hg⟩:=six (w.alloc z) a b c d e f W hW;have s:(w.alloc z).heap.size=w.heap.size+1:=by simp
     rw [s] at h0 h1 h2 h3 h4 h5;exact ⟨(hg.block w.heap.size (by omega) (by simp)).trans (heap_alloc_new w z),h0,h1,h2,h3,h4,h5,jaa (jab _ _) hg⟩
theorem RdG.inG {w:World} {g:Gra} {ns:List (Nod×Ni)} {is os:List (Val×List Int)} {ts:List (Nam×List Int×List Int)} (h:RdG w g ns is os ts):GraphIn0 w g (ns.map jgA) is os ts:=by
 refine ⟨?_,h.ins,h.outs,h.inits,fun c hc=>?_,h.din,h.dout,h.dten⟩
 ·rw [List.map_map];exact h.nodes
 ·obtain ⟨p,hp,rfl⟩:=List.mem_map.1 hc;exact h.node p hp
def joy (w:World) (e:Ending) (w':World):Prop:=∃ (g:Gra) (s1 s2 s3:Sl),e=.returned (jcM g)∧g.name=⟨#[103]⟩∧RdG w' g (jdl s1) (jdm s2) (jdn s3) []∧w.grownBy w' none
theorem jmy (w:World) (W:World) (hW:W=(((((((w.alloc (.cells #[.string ⟨#[103]⟩,.slice (some ⟨w.heap.size+1+1+1+1+1+1,0,none⟩) 1 1,.slice (some ⟨w.heap.size+1+1,0,none⟩) 1 1,.slice (some ⟨w.heap.size+1+1+1+1,0,none⟩) 1 1,.slice none 0 0] 27)).alloc (.cells #[.int .i64 2] 3)).alloc (.cells #[.string ⟨#[120]⟩,.int .i64 1,.slice (some ⟨w.heap.size+1,0,none⟩) 1 1] 82)).alloc (.cells #[.int .i64 2] 3)).alloc (.cells #[.string ⟨#[121]⟩,.int .i64 1,.slice (some ⟨w.heap.size+1+1+1,0,none⟩) 1 1] 82)).alloc (.cells #[.string ⟨#[120]⟩] 9)).alloc (.cells #[.string ⟨#[82,101,108,117]⟩,.string ⟨#[]⟩,.slice (some ⟨w.heap.size+1+1+1+1+1,0,none⟩) 1 1,.string ⟨#[121]⟩,.slice none 0 0] 35))) :
    W.heap[w.heap.size]?=some (.cells #[.string ⟨#[103]⟩,.slice (some ⟨w.heap.size+1+1+1+1+1+1,0,none⟩) 1 1,.slice (some ⟨w.heap.size+1+1,0,none⟩) 1 1,.slice (some ⟨w.heap.size+1+1+1+1,0,none⟩) 1 1,.slice none 0 0] 27 (0,0))∧w.grownBy W none∧RdG W ⟨⟨#[103]⟩,⟨some ⟨w.heap.size+1+1+1+1+1+1,0,none⟩,1,1⟩,⟨some ⟨w.heap.size+1+1,0,none⟩,1,1⟩,⟨some ⟨w.heap.size+1+1+1+1,0,none⟩,1,1⟩,jnV⟩ (jdl ⟨some ⟨w.heap.size+1+1+1+1+1,0,none⟩,1,1⟩) (jdm ⟨some ⟨w.heap.size+1,0,none⟩,1,1⟩) (jdn ⟨some ⟨w.heap.size+1+1+1,0,none⟩,1,1⟩) []:=by
     obtain ⟨h0,h1,h2,h3,h4,h5,h6,hg⟩:=seven w _ _ _ _ _ _ _ W hW;have nilA:jfn W jnV.v []:=OwnsL.isL (te:=78) (base:=0) jed (OwnsL.nil ..) (by simp);refine ⟨h0,hg,⟨?_,?_,?_,?_,fun p hp=>?_,fun p hp=>?_,fun p hp=>?_,(fun p hp=>by cases hp)⟩⟩
     ·exact jfR (te:=35) (bytes:=96) (xs:=(jdl ⟨some ⟨w.heap.size+1+1+1+1+1,0,none⟩,1,1⟩).map (·.1)) jco h6 rfl rfl (Nat.le_of_ble_eq_true rfl) (Nat.le_of_ble_eq_true rfl)
     ·exact jfR (te:=82) (bytes:=48) (xs:=(jdm ⟨some ⟨w.heap.size+1,0,none⟩,1,1⟩).map (·.1)) ja2 h2 rfl rfl (Nat.le_of_ble_eq_true rfl) (Nat.le_of_ble_eq_true rfl)
     ·exact jfR (te:=82) (bytes:=48) (xs:=(jdn ⟨some ⟨w.heap.size+1+1+1,0,none⟩,1,1⟩).map (·.1)) ja2 h4 rfl rfl (Nat.le_of_ble_eq_true rfl) (Nat.le_of_ble_eq_true rfl)
     ·exact OwnsL.isL (te:=67) (base:=0) jcn (OwnsL.nil ..) (by simp)
     ·simp only [jdl,List.mem_cons,List.not_mem_nil,or_false] at hp;subst hp;exact ⟨jfR (te:=9) (bytes:=16) (xs:=[⟨#[120]⟩]) jhM h5 rfl rfl (Nat.le_of_ble_eq_true rfl) (Nat.le_of_ble_eq_true rfl),nilA,(fun j a h=>by simp at h)⟩
     ·simp only [jdm,List.mem_cons,List.not_mem_nil,or_false] at hp;subst hp;exact litW [2] h1 (by simp) (by simp)
     ·simp only [jdn,List.mem_cons,List.not_mem_nil,or_false] at hp;subst hp;exact litW [2] h3 (by simp) (by simp)
theorem jil (w:World):Calls Tryz.prog 20 #[] w fun e w'=>joy w e w':=by
 go_enter Tryz.func20,Tryz.ntmps20;go_wp2_with fail;obtain ⟨hb,hg,hok⟩:=jmy w _ rfl;refine bodyPost_ret (jfq rfl _ _ w.heap.size rfl hb) rfl ?_;exact ⟨_,_,_,_,rfl,rfl,hok,hg⟩
end Go.Proofs.YtbgbpfbjeleooaaGreat.Pd
namespace Go.Proofs.YtbgbpfbjeleooaaGreat.Pd
open Go.RowKit
open Wr (Fld)
def jdM (p:Nod×Ni):Nod×Ni:=(p.1,⟨p.2.ins,p.2.xs,p.2.cs.take p.2.xs.length⟩)
theorem jgu {w:World} {n:Nod} {q:Ni} (h:NodeIn0 w n q.ins q.xs q.cs):q.xs.length≤q.cs.length:=by
 refine Nat.le_of_not_lt fun hlt=>?_;obtain ⟨c,e,-⟩:=h.has q.cs.length q.xs[q.cs.length] (List.getElem?_eq_getElem hlt);rw [List.getElem?_eq_none (Nat.le_refl _)] at e
 cases e
theorem jls {w:World} {n:Nod} {q:Ni} (h:NodeIn0 w n q.ins q.xs q.cs):NodeIn0 w n (jdM (n,q)).2.ins (jdM (n,q)).2.xs (jdM (n,q)).2.cs:=by
 refine ⟨h.ins,h.av,fun j a e=>?_⟩;obtain ⟨c,e1,e2⟩:=h.has j a e;refine ⟨c,?_,e2⟩;have hj:j<q.xs.length:=(List.getElem?_eq_some_iff.1 e).1;show (q.cs.take q.xs.length)[j]?=some c;rw [List.getElem?_take,if_pos hj];exact e1
theorem jjH:∀ (xs:List Atr) (cs:List Cont) (ys:List Atr) (ds:List Cont),xs.length≤cs.length→ys.length≤ds.length→List.zipWith jbC xs cs=List.zipWith jbC ys ds→xs.map jcS=ys.map jcS∧cs.take xs.length=ds.take ys.length
 | [],cs,[],ds,_,_,_=>⟨rfl,by simp⟩
 | [],cs,y::ys,[],_,h,_=>by simp at h
 | [],cs,y::ys,d::ds,_,_,h=>by simp at h
 | x::xs,[],_,_,h,_,_=>by simp at h
 | x::xs,c::cs,[],ds,_,_,h=>by simp at h
 | x::xs,c::cs,y::ys,[],_,h,_=>by simp at h
 | x::xs,c::cs,y::ys,d::ds,h1,h2,h=>by
  rw [List.zipWith_cons_cons,List.zipWith_cons_cons,List.cons.injEq] at h;obtain ⟨i1,i2⟩:=jjH xs cs ys ds (by simpa using h1) (by simpa using h2) h.2;obtain ⟨e1,e2,e3,e4,e5,e6,e7,e8,e9⟩:=NAtr.mk.inj h.1;obtain ⟨d1,d2,d3⟩:=d;obtain ⟨c1,c2,c3⟩:=c;simp only at e7 e8 e9;subst e7 e8 e9;refine ⟨?_,?_⟩
  ·rw [List.map_cons,List.map_cons,i1];simp only [jcS,e1,e2,e3,e4,e5,e6]
  ·rw [List.length_cons,List.length_cons,List.take_succ_cons,List.take_succ_cons,i2]
theorem jnG {w w':World} {p q:Nod×Ni} (hp:NodeIn0 w p.1 p.2.ins p.2.xs p.2.cs) (hq:NodeIn0 w' q.1 q.2.ins q.2.xs q.2.cs) (h:jc8 p=jc8 q):jg3 (jgA (jdM p))=jg3 (jgA (jdM q)):=by
 obtain ⟨e1,e2,e3,e4,e5⟩:=NNod.mk.inj h;obtain ⟨k1,k2⟩:=jjH _ _ _ _ (jgu hp) (jgu hq) e5;simp only [jg3,jgA,jdM,e1,e2,e3,e4,k1,k2]
theorem jjI {w w':World} : ∀ {ps qs:List (Nod×Ni)},(∀ p∈ps,NodeIn0 w p.1 p.2.ins p.2.xs p.2.cs)→(∀ p∈qs,NodeIn0 w' p.1 p.2.ins p.2.xs p.2.cs)→ps.map jc8=qs.map jc8→((ps.map jdM).map jgA).map jg3=((qs.map jdM).map jgA).map jg3
 | [],[],_,_,_=>rfl
 | [],q::qs,_,_,h=>by simp at h
 | p::ps,[],_,_,h=>by simp at h
 | p::ps,q::qs,hp,hq,h=>by
  rw [List.map_cons,List.map_cons,List.cons.injEq] at h;simp only [List.map_cons];rw [jnG (hp p (List.mem_cons_self ..)) (hq q (List.mem_cons_self ..)) h.1];exact congrArg _ (jjI (fun x hx=>hp x (List.mem_cons_of_mem _ hx)) (fun x hx=>hq x (List.mem_cons_of_mem _ hx)) h.2)
theorem RdG.trim {w:World} {g:Gra} {ns:List (Nod×Ni)} {is os:List (Val×List Int)} {ts:List (Nam×List Int×List Int)} (h:RdG w g ns is os ts):RdG w g (ns.map jdM) is os ts:=by
 refine ⟨?_,h.ins,h.outs,h.inits,fun p hp=>?_,h.din,h.dout,h.dten⟩
 ·rw [List.map_map];exact h.nodes
 ·obtain ⟨q,hq,rfl⟩:=List.mem_map.1 hp;exact jls (h.node q hq)
theorem Quad.rd {w : World} {base : Nat} {g : Gra} {ns : List (Nod × Ni)} {is os : List (Val × List Int)} {ts : List (Nam × List Int × List Int)} (h : Quad w base g.nv.v g.iv.v g.ov.v g.tv.v ns is os ts)
    (hn:ns.length≤1048576) (hi:is.length≤1048576) (ho:os.length≤1048576) (ht:ts.length≤1048576):RdG w g ns is os ts :=
     ⟨h.on.own.isL jco (by rw [List.length_map];omega),h.oi.own.isL ja2 (by rw [List.length_map];omega),h.oo.own.isL ja2 (by rw [List.length_map];omega),h.ot.own.isL jcn (by rw [List.length_map];omega),fun p hp=>have k:=h.on.has p hp;⟨k.ins,k.av,k.has⟩,h.oi.has,h.oo.has,h.ot.has⟩
theorem jfP (h g:Gra) (ns ns':List (Nod×Ni)) (is os is' os':List (Val×List Int)) (ts ts':List (Nam×List Int×List Int)) (w:World) (hh:RdG w h ns is os ts) (hg:RdG w g ns' is' os' ts') (e:jbi h ns is os ts=jbi g ns' is' os' ts') :
    Calls Tryz.prog 12 #[jcM h,jcM g] w fun e w'=>e=.returned (.bool true)∧w.grownBy w' none:=by
     obtain ⟨e1,e2,e3,e4,e5⟩:=NGra.mk.inj e
     have kv:∀ a b:Val×List Int,jbp a=jbp b→jfh a=jfh b:=fun a b k=>by
      obtain ⟨k1,k2,k3⟩:=NVal.mk.inj k;simp only [jfh,k1,k2,k3]
     have km:∀ a b:Nam×List Int×List Int,jc2 a=jc2 b→jjf a=jjf b:=fun a b k=>by
      obtain ⟨k1,k2,k3,k4⟩:=NTen.mk.inj k;simp only [jjf,k1,k2];rw [Prod.ext k3 k4]
     exact jhD h g ((ns'.map jdM).map jgA) ((ns.map jdM).map jgA) is' os' is os ts' ts w hg.trim.inG hh.trim.inG e1 ⟨jjI hh.node hg.node e2,jec kv e3,jec kv e4,jec km e5⟩
end Go.Proofs.YtbgbpfbjeleooaaGreat.Pd
namespace Go.Proofs.YtbgbpfbjeleooaaGreat.Pd
open Go.RowKit
open Wr (Fld)
theorem jg4 {w:World} {s:Sl} {zs:List Int} (h:jaj w s.v zs):s.n=zs.length:=by
 obtain ⟨a,c,e,-⟩:=h;exact (Value.slice.inj e).2.1
theorem jlt {w:World} {v:Value} {zs:List Int} (h:jaj w v zs):I64 zs:=by
 obtain ⟨a,c,e,h1,h2,h3,h4,h5,h6⟩:=h;exact h6
theorem jes (x y:ByteArray):jas [x,y]=(jas [x]||jas [y]):=by simp [jas]
theorem jnY (x y z:ByteArray):jas [x,y,z]=(jas [x]||(jas [y]||jas [z])):=by simp [jas]
theorem jdz {xs:List ByteArray} (h:jas xs=false):∀ s∈xs,s.size≤100:=by
 intro s hs;have h1:=List.any_eq_false.1 h s hs;simpa using h1
theorem joz {w:World} {a:Atr} {c:Cont} (hs:Has w a c) (h:TA (jbC a c)):ja7 a c=true:=by
 obtain ⟨k,l,few,flt,ten,-,-,-⟩:=h;have nd:=jg4 hs.d;have nt:=jg4 hs.t;have ni:=jg4 hs.i;obtain ⟨nm,kd,f,i,s,ty,dv,tv,iv⟩:=a;obtain ⟨d,t,l7⟩:=c;unfold je3 jbC at k;simp only [jbC] at *;rw [jes,Bool.or_eq_false_iff] at l;unfold ja7 jcc jb9 jcg;simp only at *
 split at k
 ·rename_i e;simp only [Except.ok.injEq,NAtr.mk.injEq] at k;obtain ⟨-,-,-,k4,k5,k6,k7,k8,k9⟩:=k;subst k4 k5 k6 k7 k8 k9;rw [if_pos e,if_pos e,flt e,l.1];simp only [List.length_nil] at nd nt ni;simp [nd,nt,ni]
  rfl
 split at k
 ·rename_i e1 e;simp only [Except.ok.injEq,NAtr.mk.injEq] at k;obtain ⟨-,-,k3,-,k5,k6,k7,k8,k9⟩:=k;subst k3 k5 k6 k7 k8 k9;rw [if_neg e1,if_neg e1,if_pos e,if_pos e,l.1];simp only [List.length_nil] at nd nt ni;simp [nd,nt,ni]
  rfl
 split at k
 ·rename_i e1 e2 e;simp only [Except.ok.injEq,NAtr.mk.injEq] at k;obtain ⟨-,-,k3,k4,-,k6,k7,k8,k9⟩:=k;subst k3 k4 k6 k7 k8 k9;rw [if_neg e1,if_neg e1,if_neg e2,if_neg e2,if_pos e,if_pos e,l.1,l.2];simp only [List.length_nil] at nd nt ni;simp [nd,nt,ni]
  rfl
 split at k
 ·rename_i e1 e2 e3 e;simp only [Except.ok.injEq,NAtr.mk.injEq] at k;obtain ⟨-,-,k3,k4,k5,-,-,-,k9⟩:=k;subst k3 k4 k5 k9;rw [if_neg e1,if_neg e1,if_neg e2,if_neg e2,if_neg e3,if_neg e3,if_pos e,if_pos e,l.1,ten e];simp only [List.length_nil] at ni;simp [ni]
  rfl
 split at k
 ·rename_i e1 e2 e3 e4 e;simp only [Except.ok.injEq,NAtr.mk.injEq] at k;obtain ⟨-,-,k3,k4,k5,k6,k7,k8,-⟩:=k;subst k3 k4 k5 k6 k7 k8;rw [if_neg e1,if_neg e1,if_neg e2,if_neg e2,if_neg e3,if_neg e3,if_neg e4,if_neg e4,if_pos e,l.1,ni,decide_eq_true few];simp only [List.length_nil] at nd nt;simp [nd,nt]
  rfl
 ·cases k
theorem jnH {xs:List Atr} {cs:List Cont} {p:Atr×Cont} (h:p∈xs.zip cs):jbC p.1 p.2∈List.zipWith jbC xs cs:=by
 have e:List.zipWith jbC xs cs=(xs.zip cs).map fun p=>jbC p.1 p.2:=by unfold List.zip;rw [List.map_zipWith]
 rw [e];exact List.mem_map_of_mem (f:=fun p:Atr×Cont=>jbC p.1 p.2) h
theorem jlu {w:World} {n:Nod} {q:Ni} (h:NodeIn0 w n q.ins q.xs q.cs) {p:Atr×Cont} (hp:p∈q.xs.zip q.cs):Has w p.1 p.2:=by
 obtain ⟨k,hk,e⟩:=List.getElem_of_mem hp;rw [List.getElem_zip] at e;subst e;rw [List.length_zip] at hk;obtain ⟨c,h1,h2⟩:=h.has k q.xs[k] (List.getElem?_eq_getElem (by omega));rw [List.getElem?_eq_getElem (by omega)] at h1
 cases h1
 exact h2
theorem joA {w:World} {n:Nod} {q:Ni} (hs:NodeIn0 w n q.ins q.xs q.cs) (h:TN (jdO n q)):jgo n q=true:=by
 obtain ⟨h1,h2,h3,h4,h5⟩:=h;have lc:=jgu hs;unfold jdO at h1 h2 h3 h4 h5;simp only at h1 h2 h3 h4 h5;rw [List.length_zipWith] at h4;unfold jgo;rw [decide_eq_true h3,decide_eq_true (by omega),h1,h2];refine List.all_eq_true.2 fun p hp=>?_;exact joz (jlu hs hp) (h5 _ (jnH hp))
theorem jm7 {w:World} {g:Gra} {ns:List (Nod×Ni)} {is os:List (Val×List Int)} {ts:List (Nam×List Int×List Int)} (hr:RdG w g ns is os ts) (h:TG (jbi g ns is os ts)):jc6 g ns is os ts=true:=by
 obtain ⟨h1,h2,h3,h4,h5,h6⟩:=h;unfold jbi at h1 h2 h3 h4 h5 h6;simp only [List.length_map] at h1 h2 h3 h4 h5 h6;unfold jc6;rw [h1,h2];have e3:ns.all jcy=true:=List.all_eq_true.2 fun p hp=>joA (hr.node p hp) (h3 _ (List.mem_map_of_mem hp))
 have e4:ts.all jbJ=true:=List.all_eq_true.2 fun p hp=>by
  have k:=h4 _ (List.mem_map_of_mem hp);unfold jbJ;rw [show jas [p.1.name]=false from k.long,decide_eq_true (show pbE p.1.ty p.2.1 p.2.2=0 from k.ok)]
  rfl
 have ev:∀ vs:List (Val×List Int),(∀ V∈vs.map jbp,TV V)→jaW vs=true:=fun vs hv=>List.all_eq_true.2 fun p hp=>by
  have k:=hv _ (List.mem_map_of_mem hp);unfold jea;rw [show jas [p.1.name]=false from k.long,show chk p.1.ty 0=true from k.ty,decide_eq_true (show jcL p.2=0 from k.ok)]
  rfl
 rw [e3,e4,ev is h5,ev os h6]
 rfl
theorem joB {A:NAtr} (h:TA A):A.dims.length≤10000000∧A.data.length≤10000000∧A.ints.length≤10000000:=by
 have h1:=h.few
 by_cases e:A.kind=4
 ·obtain ⟨-,h2,h3,-⟩:=jgp (h.ten e);have F:=jfj h2;have:=F.few;have:=F.le;omega
 ·obtain ⟨-,h2,-⟩:=jgY h.kind;obtain ⟨-,e2,e3⟩:=h2 e;rw [e2,e3];simp only [List.length_nil];omega
theorem jnI {w:World} {n:Nod} {q:Ni} (hs:NodeIn0 w n q.ins q.xs q.cs) (h:TN (jdO n q)):SmallN n (jdM (n,q)).2:=by
 obtain ⟨h1,h2,h3,h4,h5⟩:=h;have lc:=jgu hs;unfold jdO at h1 h2 h3 h4 h5;simp only at h1 h2 h3 h4 h5;rw [List.length_zipWith] at h4;have l1:=jdz h1;have l2:=jdz h2
 have at1:∀ k (hk:k<q.xs.length),TA (jbC q.xs[k] (q.cs[k]'(by omega))):=fun k hk=>by
  refine h5 _ ?_;have e:=List.getElem_zipWith (f:=jbC) (l:=q.xs) (l':=q.cs) (i:=k) (h:=by rw [List.length_zipWith];omega);rw [← e];exact List.getElem_mem _
 refine ⟨fun s hs=>by have:=l1 s hs;omega,?_,?_,?_,fun a ha=>?_,fun c hc=>?_,by show q.ins.length≤_;omega,by show q.xs.length≤_;omega⟩
 ·have:=l2 n.out (by simp);omega
 ·have:=l2 n.name (by simp);omega
 ·have:=l2 n.op (by simp);omega
 ·obtain ⟨k,hk,rfl⟩:=List.getElem_of_mem ha;have l3:=jdz (at1 k hk).long;have k1:q.xs[k].name.size≤100:=l3 _ (by simp [jbC]);have k2:q.xs[k].s.size≤100:=l3 _ (by simp [jbC]);exact ⟨Nat.le_trans k1 (by decide),Nat.le_trans k2 (by decide)⟩
 ·obtain ⟨k,hk,rfl⟩:=List.getElem_of_mem (show c∈q.cs.take q.xs.length from hc);rw [List.length_take] at hk;rw [List.getElem_take];exact joB (at1 k (by omega))
theorem jnJ {w:World} {g:Gra} {ns:List (Nod×Ni)} {is os:List (Val×List Int)} {ts:List (Nam×List Int×List Int)} (hr:RdG w g ns is os ts) (h:TG (jbi g ns is os ts)):SmallG g (ns.map jdM) is os ts:=by
 obtain ⟨h1,h2,h3,h4,h5,h6⟩:=h;unfold jbi at h1 h2 h3 h4 h5 h6;simp only [List.length_map] at h1 h2 h3 h4 h5 h6;unfold jcu at h2;simp only [Bool.or_eq_false_iff,decide_eq_false_iff_not] at h2
 have hv:∀ vs:List (Val×List Int),(∀ V∈vs.map jbp,TV V)→∀ p∈vs,p.1.name.size≤1000000000∧p.2.length≤10000000:=fun vs hv p hp=>by
  have k:=hv _ (List.mem_map_of_mem hp);have k1:p.1.name.size≤100:=jdz k.long _ (by simp [jbp]);have k2:p.2.length≤6:=(jfj k.ok).few;omega
 refine ⟨?_,fun p hp=>?_,hv is h5,hv os h6,fun p hp=>?_,by rw [List.length_map];omega,by omega,by omega,by omega⟩
 ·have:=jdz h1 g.name (by simp);omega
 ·obtain ⟨q,hq,rfl⟩:=List.mem_map.1 hp;exact jnI (hr.node q hq) (h3 _ (List.mem_map_of_mem hq))
 ·have k:=h4 _ (List.mem_map_of_mem hp);obtain ⟨-,k2,k3,-⟩:=jgp k.ok;have F:=jfj k2;have f1:p.2.1.length≤6:=F.few;have f2:(p.2.2.length:Int)=jcB p.2.1:=k3;have f3:jcB p.2.1≤65536:=F.le;have k1:p.1.name.size≤100:=jdz k.long _ (by simp [jc2]);omega
theorem jjJ {α β γ:Type} (f:α→β→γ):∀ (xs:List α) (cs:List β),List.zipWith f xs (cs.take xs.length)=List.zipWith f xs cs
 | [],cs=>by simp
 | x::xs,[]=>by simp
 | x::xs,c::cs=>by simp [jjJ f xs cs]
theorem jlv (p:Nod×Ni):jc8 (jdM p)=jc8 p:=by
 unfold jc8 jdM jdO;simp only;rw [jjJ]
theorem jim (g:Gra) (ns:List (Nod×Ni)) (is os:List (Val×List Int)) (ts:List (Nam×List Int×List Int)):jbi g (ns.map jdM) is os ts=jbi g ns is os ts:=by
 unfold jbi;rw [List.map_map]
 congr 1
 exact List.map_congr_left fun p _=>jlv p
theorem jmz {w:World} {g:Gra} {ns:List (Nod×Ni)} {is os:List (Val×List Int)} {ts:List (Nam×List Int×List Int)} (hr:RdG w g ns is os ts) (h:TG (jbi g ns is os ts)) :
    Calls Tryz.prog 14 #[jcM g] w (jos w (jax (jbi g ns is os ts))):=by
     have ht:TG (jbi g (ns.map jdM) is os ts):=by rw [jim];exact h
     have k:=jfz g (ns.map jdM) is os ts w hr.trim (fun _=>jnJ hr h)
     have e:jeN g (ns.map jdM) is os ts=jax (jbi g ns is os ts):=by
      unfold jeN;rw [jm7 hr.trim ht,if_pos rfl,jim]
     rw [e] at k;exact k
end Go.Proofs.YtbgbpfbjeleooaaGreat.Pd
namespace Go.Proofs.YtbgbpfbjeleooaaGreat.Pd
open Go.RowKit
open Wr (Fld)
def NZ {α:Type} (r:R α):Prop:=∀ c,r=.error c→c≠0
theorem NZ.bind {α β:Type} {r:R α} {f:α→R β} (h:NZ r) (k:∀ a,NZ (f a)):NZ (r.bind f):=by
 intro c e
 cases r with
 | ok a=>exact k a c e
 | error d =>
  cases e
  exact h c rfl
theorem jnK {G:NGra} (h:TG G) {c:Int} (e:jax G=.error c):c=6:=by
 have k:=jmw h;rw [e] at k;exact k
theorem jgv {s t:ByteArray} {l r:List Fld} (hs:jaX s=.ok l) (ht:jaX t=.ok r) (hz:s.size+t.size≤16777216):jaX (s++t)=.ok (l++r):=by
 have k:∀ {s:ByteArray} {l:List Fld},s.size≤16777216→jaX s=.ok l→Wr.all (Wr.fd s) s.size=some l:=by
  intro s l h h2;unfold jaX at h2;rw [if_neg (by omega)] at h2
  split at h2
  ·cases h2
  ·rename_i h3;cases h2;exact h3
 unfold jaX;rw [if_neg (by rw [ByteArray.size_append];omega),Wr.all_join (k (by omega) hs) (k (by omega) ht)]
end Go.Proofs.YtbgbpfbjeleooaaGreat.Pd
