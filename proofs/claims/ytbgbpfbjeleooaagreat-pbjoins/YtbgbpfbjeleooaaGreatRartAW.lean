/- A part. -/
import Derived.Test.YtbgbpfbjeleooaaGreatRartAV
set_option maxHeartbeats 3200000
set_option maxRecDepth 100000
namespace Go.Proofs.YtbgbpfbjeleooaaGreat.Pd
open Go.RowKit
open Wr (Fld)
structure NGra where
 name:ByteArray
 nodes:List NNod
 ins:List NVal
 outs:List NVal
 inits:List NTen
def g0:NGra:=⟨⟨#[]⟩,[],[],[],[]⟩
def jav (s:NGra) (x:Fld):R NGra :=
 if x.num=1 then (jbZ x).bind fun t=>(jaC t).bind fun A=>.ok ⟨s.name,s.nodes++[A],s.ins,s.outs,s.inits⟩
 else if x.num=2 then (jbZ x).bind fun t=>.ok ⟨t,s.nodes,s.ins,s.outs,s.inits⟩
 else if x.num=5 then (jbZ x).bind fun t=>(jaB t).bind fun A=>.ok ⟨s.name,s.nodes,s.ins,s.outs,s.inits++[A]⟩
 else if x.num=11 then (jbZ x).bind fun t=>(jaG t).bind fun A=>.ok ⟨s.name,s.nodes,s.ins++[A],s.outs,s.inits⟩
 else if x.num=12 then (jbZ x).bind fun t=>(jaG t).bind fun A=>.ok ⟨s.name,s.nodes,s.ins,s.outs++[A],s.inits⟩
 else .ok s
def jcu (n i o t:Nat):Bool:=decide (1000<n)||decide (3000<i+t+n)||decide (3000<o)
def jdf (t:NGra):R NGra:=(jal (jas [t.name]||jcu t.nodes.length t.ins.length t.outs.length t.inits.length) 6).bind fun _=>.ok t
def jaK (s:ByteArray):R NGra:=(jaX s).bind fun l=>(jaF jav g0 l).bind jdf
def jc8 (p:Nod×Ni):NNod:=jdO p.1 p.2
def jbp (p:Val×List Int):NVal:=⟨p.1.name,p.1.ty,p.2⟩
def jc2 (p:Nam×List Int×List Int):NTen:=⟨p.1.name,p.1.ty,p.2.1,p.2.2⟩
abbrev jn7 (w:World) (lo:Nat) (v:Value) (ps:List (Nod×Ni)):Prop:=jkV 35 5 ncells jmQ jdS w lo v ps
abbrev jmh (w:World) (lo:Nat) (v:Value) (ps:List (Val×List Int)):Prop:=jkV 82 3 ja5 jiA jdD w lo v ps
abbrev jn8 (w:World) (lo:Nat) (v:Value) (ps:List (Nam×List Int×List Int)):Prop:=jkV 67 4 jbm jlW jf9 w lo v ps
structure Quad (w:World) (base:Nat) (nv iv ov tv:Value) (ns:List (Nod×Ni)) (is os:List (Val×List Int)) (ts:List (Nam×List Int×List Int)):Prop where
 on:jn7 w base nv ns
 oi:jmh w base iv is
 oo:jmh w base ov os
 ot:jn8 w base tv ts
 pni:Pr nv (Al jdS nv ns) iv (Al jdD iv is)
 pno:Pr nv (Al jdS nv ns) ov (Al jdD ov os)
 pnt:Pr nv (Al jdS nv ns) tv (Al jf9 tv ts)
 pio:Pr iv (Al jdD iv is) ov (Al jdD ov os)
 pit:Pr iv (Al jdD iv is) tv (Al jf9 tv ts)
 pot:Pr ov (Al jdD ov os) tv (Al jf9 tv ts)
section
variable {w W w' : World} {base : Nat} {nv iv ov tv : Value} {ns : List (Nod × Ni)} {is os : List (Val × List Int)} {ts : List (Nam × List Int × List Int)}
theorem Quad.nil (w:World) (base:Nat):Quad w base (.slice none 0 0) (.slice none 0 0) (.slice none 0 0) (.slice none 0 0) [] [] [] [] :=
 ⟨OwnD.nil (Nat.le_refl _),OwnD.nil (Nat.le_refl _),OwnD.nil (Nat.le_refl _),OwnD.nil (Nat.le_refl _),jgQ _ _,jgQ _ _,jgQ _ _,jgQ _ _,jgQ _ _,jgQ _ _⟩
theorem Quad.new (h:Quad w base nv iv ov tv ns is os ts) (hg:w.grownBy w' none):Quad w' base nv iv ov tv ns is os ts :=
 ⟨je1 jdE h.on hg,je1 jaL h.oi hg,je1 jaL h.oo hg,je1 jbB h.ot hg,h.pni,h.pno,h.pnt,h.pio,h.pit,h.pot⟩
theorem Quad.box {B:Nat} (h:Quad w base nv iv ov tv ns is os ts) (hg:w.grownBy w' (some B)) (hB:B<base):Quad w' base nv iv ov tv ns is os ts :=
 ⟨je2 jdE h.on hg hB,je2 jaL h.oi hg hB,je2 jaL h.oo hg hB,je2 jbB h.ot hg hB,h.pni,h.pno,h.pnt,h.pio,h.pit,h.pot⟩
theorem Quad.setn {v':Value} {y:Nod} {c:Ni} (h:Quad w base nv iv ov tv ns is os ts) (g1:w.grownBy W none) (g2:W.grownBy w' nv.ownBlock) (ho:jn7 w' base v' (ns++[(y,c)])) (hf:jdN w.heap.size nv v') (fy:∀ b,jdS y c b→w.heap.size≤b):Quad w' base v' iv ov tv (ns++[(y,c)]) is os ts :=
 have k:w.grownBy w' nv.ownBlock:=jbx g1 g2
 ⟨ho,jbt jaL h.oi k (fun g e=>h.pni.1 g e),jbt jaL h.oo k (fun g e=>h.pno.1 g e),jbt jbB h.ot k (fun g e=>h.pnt.1 g e),
  h.pni.step hf (jcw hf fy) (fun _ e=>(ja9 h.oi e).2) (fun _ e=>(ja9 h.oi (.inl e)).2),h.pno.step hf (jcw hf fy) (fun _ e=>(ja9 h.oo e).2) (fun _ e=>(ja9 h.oo (.inl e)).2),h.pnt.step hf (jcw hf fy) (fun _ e=>(ja9 h.ot e).2) (fun _ e=>(ja9 h.ot (.inl e)).2),h.pio,h.pit,h.pot⟩
theorem Quad.seti {v':Value} {y:Val} {c:List Int} (h:Quad w base nv iv ov tv ns is os ts) (g1:w.grownBy W none) (g2:W.grownBy w' iv.ownBlock) (ho:jmh w' base v' (is++[(y,c)])) (hf:jdN w.heap.size iv v') (fy:∀ b,jdD y c b→w.heap.size≤b):Quad w' base nv v' ov tv ns (is++[(y,c)]) os ts :=
 have k:w.grownBy w' iv.ownBlock:=jbx g1 g2
 ⟨jbt jdE h.on k (fun g e=>h.pni.2 g e),ho,jbt jaL h.oo k (fun g e=>h.pio.1 g e),jbt jbB h.ot k (fun g e=>h.pit.1 g e),
  (h.pni.symm.step hf (jcw hf fy) (fun _ e=>(ja9 h.on e).2) (fun _ e=>(ja9 h.on (.inl e)).2)).symm,h.pno,h.pnt,h.pio.step hf (jcw hf fy) (fun _ e=>(ja9 h.oo e).2) (fun _ e=>(ja9 h.oo (.inl e)).2),h.pit.step hf (jcw hf fy) (fun _ e=>(ja9 h.ot e).2) (fun _ e=>(ja9 h.ot (.inl e)).2),h.pot⟩
theorem Quad.seto {v':Value} {y:Val} {c:List Int} (h:Quad w base nv iv ov tv ns is os ts) (g1:w.grownBy W none) (g2:W.grownBy w' ov.ownBlock) (ho:jmh w' base v' (os++[(y,c)])) (hf:jdN w.heap.size ov v') (fy:∀ b,jdD y c b→w.heap.size≤b):Quad w' base nv iv v' tv ns is (os++[(y,c)]) ts :=
 have k:w.grownBy w' ov.ownBlock:=jbx g1 g2
 ⟨jbt jdE h.on k (fun g e=>h.pno.2 g e),jbt jaL h.oi k (fun g e=>h.pio.2 g e),ho,jbt jbB h.ot k (fun g e=>h.pot.1 g e),
  h.pni,(h.pno.symm.step hf (jcw hf fy) (fun _ e=>(ja9 h.on e).2) (fun _ e=>(ja9 h.on (.inl e)).2)).symm,h.pnt,(h.pio.symm.step hf (jcw hf fy) (fun _ e=>(ja9 h.oi e).2) (fun _ e=>(ja9 h.oi (.inl e)).2)).symm,h.pit,h.pot.step hf (jcw hf fy) (fun _ e=>(ja9 h.ot e).2) (fun _ e=>(ja9 h.ot (.inl e)).2)⟩
theorem Quad.sett {v':Value} {y:Nam} {c:List Int×List Int} (h:Quad w base nv iv ov tv ns is os ts) (g1:w.grownBy W none) (g2:W.grownBy w' tv.ownBlock) (ho:jn8 w' base v' (ts++[(y,c)])) (hf:jdN w.heap.size tv v') (fy:∀ b,jf9 y c b→w.heap.size≤b):Quad w' base nv iv ov v' ns is os (ts++[(y,c)]) :=
 have k:w.grownBy w' tv.ownBlock:=jbx g1 g2
 ⟨jbt jdE h.on k (fun g e=>h.pnt.2 g e),jbt jaL h.oi k (fun g e=>h.pit.2 g e),jbt jaL h.oo k (fun g e=>h.pot.2 g e),ho,
  h.pni,h.pno,(h.pnt.symm.step hf (jcw hf fy) (fun _ e=>(ja9 h.on e).2) (fun _ e=>(ja9 h.on (.inl e)).2)).symm,h.pio,(h.pit.symm.step hf (jcw hf fy) (fun _ e=>(ja9 h.oi e).2) (fun _ e=>(ja9 h.oi (.inl e)).2)).symm,(h.pot.symm.step hf (jcw hf fy) (fun _ e=>(ja9 h.oo e).2) (fun _ e=>(ja9 h.oo (.inl e)).2)).symm⟩
theorem jbo {w3:World} {lo B b0 j:Nat} {y:Fld} {r:List Fld} (a:Value) (hc:jdo w3 lo B y r) (h0:w.grownBy w3 none) (ht:Quad w3 base nv iv ov tv ns is os ts) (hb:b0<lo) (hw:w.heap.size≤b0) (hl:lo≤base) :
    (∀ b,b≠b0→b<w3.heap.size→(w3.setCell ⟨b0,j,none⟩ a).heap[b]?=w3.heap[b]?)∧jdo (w3.setCell ⟨b0,j,none⟩ a) lo B y r∧w.grownBy (w3.setCell ⟨b0,j,none⟩ a) none∧Quad (w3.setCell ⟨b0,j,none⟩ a) base nv iv ov tv ns is os ts :=
     have hg:=jak w3 b0 j a
     ⟨fun b hne hl=>hg.block b hl (fun e=>hne (Option.some.inj e)),hc.kept hg (fun g e=>.inl (by cases e;exact hb)),jaf h0 hg (fun g e=>.inr (by cases e;exact hw)),ht.box hg (by omega)⟩
end
theorem jbV (w:World) (cs:Array Value) (t:TypeId) (l:List Value) (h:cs.toList=l):∀ (j:Nat) (u:Value),l[j]?=some u→(w.alloc (.cells cs t)).cell? (Addr.add ⟨w.heap.size,0,none⟩ j)=some u:=by
 intro j u hu;have k:=cell_of_row _ w.heap.size j _ _ (0,0) (heap_alloc_new w (.cells cs t));have e:cs[j]?=some u:=by rw [← Array.getElem?_toList,h];exact hu
 rw [e] at k
 by_cases hj:j=0
 ·subst hj;simpa [Addr.add] using k
 ·simpa [Addr.add,hj] using k
theorem jbF (y:Val):∀ u∈ja5 y,u.oneCell'=true:=by
 intro u hu;simp only [ja5,List.mem_cons,List.not_mem_nil,or_false] at hu
 rcases hu with rfl | rfl | rfl <;> rfl
theorem jdu (y:Nam):∀ u∈jbm y,u.oneCell'=true:=by
 intro u hu;simp only [jbm,List.mem_cons,List.not_mem_nil,or_false] at hu
 rcases hu with rfl | rfl | rfl | rfl <;> rfl
theorem jc3 (y:Nod):∀ u∈ncells y,u.oneCell'=true:=by
 intro u hu;simp only [ncells,List.mem_cons,List.not_mem_nil,or_false] at hu
 rcases hu with rfl | rfl | rfl | rfl | rfl <;> rfl
theorem jjr:(Tryz.prog.info? 35).map (fun i=>(i.zero,i.size,i.bytes))=some (some (.agg #[.string ⟨#[]⟩,.string ⟨#[]⟩,.slice none 0 0,.string ⟨#[]⟩,.slice none 0 0]),5,96):=by kernel_rfl
theorem jhp:(Tryz.prog.info? 82).map (fun i=>(i.zero,i.size,i.bytes))=some (some (.agg #[.string ⟨#[]⟩,.int .i64 0,.slice none 0 0]),3,48):=by kernel_rfl
theorem jjs:(Tryz.prog.info? 67).map (fun i=>(i.zero,i.size,i.bytes))=some (some (.agg #[.string ⟨#[]⟩,.int .i64 0,.slice none 0 0,.slice none 0 0]),4,72):=by kernel_rfl
theorem jdg:(Tryz.prog.info? 27).map (·.size)=some 5:=by kernel_rfl
theorem jfq {fn : Func} {p : Tmp} (h : fn.results = #[.cell p 27]) (tmps : Array Value) (w : World) (B : Nat) (hp : tmps.getD p undef = .pointer (some ⟨B, 0, none⟩)) {a0 a1 a2 a3 a4 : Value}
    (hb:w.heap[B]?=some (.cells #[a0,a1,a2,a3,a4] 27 (0,0))):(results fn tmps).run Tryz.prog w=.ok (.agg #[a0,a1,a2,a3,a4]) w :=
     results_cell_row h tmps w B 27 #[a0,a1,a2,a3,a4] (0,0) _ hp hb Tryz.underlying27 rfl (by rw [jdg];rfl)
theorem jiM (g:Gra) (w:World) (hn:g.nv.n≤16777216) (hi:g.iv.n≤16777216) (ht:g.tv.n≤16777216) :
    Calls Tryz.prog 66 #[jcM g] w fun e w'=>e=.returned (.bool (jcu g.nv.n g.iv.n g.ov.n g.tv.n))∧w.grownBy w' none:=by
     obtain ⟨nm,⟨na,nn,nc⟩,⟨ia,iN,ic⟩,⟨oa,oN,oc⟩,⟨ta,tN,tc⟩⟩:=g;unfold jcM jcu;simp only at hn hi ht ⊢;have hb:=heap_alloc_new w (.cells #[.string nm,.slice na nn nc,.slice ia iN ic,.slice oa oN oc,.slice ta tN tc] 27);have gg:=jac (jab w (.cells #[.string nm,.slice na nn nc,.slice ia iN ic,.slice oa oN oc,.slice ta tN tc] 27));obtain ⟨⟨x0,x1,x2,x3,x4⟩,-⟩:=jam hb;have e1:wrap64 ((iN:Int)+(tN:Int))=((iN+tN:Nat):Int):=by unfold wrap64;omega
     have e2:wrap64 (((iN+tN:Nat):Int)+(nn:Int))=((iN+tN+nn:Nat):Int):=by unfold wrap64;omega
     clear hb
     by_cases h1:1000<nn
     ·have d1:decide ((1000:Int)<(nn:Int))=true:=by simp;omega
      rw [decide_eq_true h1];clear h1 e1 e2;go_enter Tryz.func66,Tryz.ntmps66;go_wp2;go_ret;exact ⟨rfl,gg.out⟩
     ·have d1:decide ((1000:Int)<(nn:Int))=false:=by simp;omega
      rw [decide_eq_false h1];have k3:decide ((3000:Int)<(oN:Int))=decide (3000<oN):=by rw [decide_eq_decide];omega
      by_cases h2:(3000:Int)<(iN:Int)+(tN:Int)+(nn:Int)
      ·have E:Hid ((false||decide (3000<iN+tN+nn)||decide (3000<oN))=true):=by show _=_;rw [decide_eq_true (by omega)];rfl
       rw [E.out];clear h1 e1 e2 k3;go_enter Tryz.func66,Tryz.ntmps66;go_wp2;go_ret;exact ⟨rfl,gg.out⟩
      ·have E:Hid ((false||decide (3000<iN+tN+nn)||decide (3000<oN))=decide ((3000:Int)<(oN:Int))):=by show _=_;rw [decide_eq_false (by omega),k3];rfl
       rw [E.out];have d2:decide ((3000:Int)<(iN:Int)+(tN:Int)+(nn:Int))=false:=decide_eq_false h2;clear h1 e1 e2 k3 h2;go_enter Tryz.func66,Tryz.ntmps66;go_wp2;go_ret;exact ⟨rfl,gg.out⟩
end Go.Proofs.YtbgbpfbjeleooaaGreat.Pd
