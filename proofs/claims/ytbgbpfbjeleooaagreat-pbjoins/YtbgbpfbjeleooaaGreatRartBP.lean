/- A part. -/
import Derived.Test.YtbgbpfbjeleooaaGreatRartAI
import Derived.Test.YtbgbpfbjeleooaaGreatRartBK
import Derived.Test.YtbgbpfbjeleooaaGreatRartBM
set_option maxRecDepth 100000
namespace Go.Proofs.YtbgbpfbjeleooaaGreat.Pd
open Go.ChangeShapes Go.WideShapes Go.ChangeAt Go.RowKit
theorem jgw:Tryz.prog.cellsOf 82=3:=by kernel_rfl
theorem jin:Tryz.prog.cellsOf 67=4:=by kernel_rfl
theorem jlw:Tryz.prog.cellsOf 27=5:=by kernel_rfl
theorem jmA:Tryz.prog.cellsOf 25=1:=by kernel_rfl
theorem jmB:Tryz.prog.cellsOf 23=1:=by kernel_rfl
theorem jmC:Tryz.prog.cellsOf 24=1:=by kernel_rfl
theorem jio:Tryz.prog.bytesOf 82=48:=by kernel_rfl
theorem jlx:Tryz.prog.bytesOf 67=72:=by kernel_rfl
theorem jly:Tryz.prog.bytesOf 35=96:=by kernel_rfl
section
variable {H : Type} {enc : TypeId × Value → H} {W : World}
theorem jmD {n:Nat} {cs:List Value} {x:DataW H×List MemPlace} (hf:DataW.trod enc Tryz.prog W 0 (fun _=>true) true n 78 cs=some x) (hb:∀ q∈x.1.weights Tryz.prog 78,q≤reachBytes):∃ a:Atr,cs=jbw a∧(∃ c,Has W a c)∧R64 a.i:=by
 obtain ⟨xs,n',-,hx,hl,hlen,hfs⟩:=DataW.trod_struct Tryz.underlying78 hf;rw [jhO] at hl
 match cs,hl with
 | [c0,c1,c2,c3,c4,c5,c6,c7,c8],_ =>
  match xs,hlen with
  | [y0,y1,y2,y3,y4,y5,y6],_ =>
   have h0:=hfs 0 _ rfl;have h1:=hfs 1 _ rfl;have h2:=hfs 2 _ rfl;have h3:=hfs 3 _ rfl;have h4:=hfs 4 _ rfl;have h5:=hfs 5 _ rfl;have h6:=hfs 6 _ rfl;simp [jee] at h0 h4;simp [jfQ] at h1;simp [jjg] at h2 h3;simp [jhd] at h5;simp [jkD] at h6;rw [hx] at hb;simp only [List.map_cons,List.map_nil] at hb;have hw:∀ (j:Nat) (t:TypeId) (d:DataW H),([9,3,2,2,9,44,42]:List TypeId)[j]?=some t→([y0.1,y1.1,y2.1,y3.1,y4.1,y5.1,y6.1]:List (DataW H))[j]?=some d→∀ q∈d.weights Tryz.prog t,q≤reachBytes:=fun j t d h1 h2 q hq=>hb q (by have hm:=DataW.weights_mem_each (P:=Tryz.prog) h1 h2 q hq;simpa [DataW.weights,Tryz.underlying78] using hm);obtain ⟨nm,e0,-,-⟩:=DataW.trod_string Tryz.underlying9 h0;obtain ⟨kd,e1,-,-⟩:=DataW.trod_int Tryz.underlying3 h1;obtain ⟨f,e2,-,-⟩:=DataW.trod_int Tryz.underlying2 h2;obtain ⟨i,e3,-,wf3⟩:=DataW.trod_int Tryz.underlying2 h3;obtain ⟨s,e4,-,-⟩:=DataW.trod_string Tryz.underlying9 h4;obtain ⟨ty,d,t,ds,ts,e5,i1,i2⟩:=jkF h5 (hw 5 _ _ rfl rfl);obtain ⟨u,us,e6,i3⟩:=jjj h6 (hw 6 _ _ rfl rfl);simp at e0 e1 e2 e3 e4 e5 e6;obtain ⟨e5,e7,e8⟩:=e5;subst e0 e1 e2 e3 e4 e5 e6 e7 e8;exact ⟨⟨nm,kd,f,i,s,ty,d,t,u⟩,rfl,⟨⟨ds,ts,us⟩,i1,i2,i3⟩,jf4 wf3⟩
theorem jmE {n:Nat} {cs:List Value} {x:DataW H×List MemPlace} (hf:DataW.trod enc Tryz.prog W 0 (fun _=>true) true n 35 cs=some x) (hb:∀ q∈x.1.weights Tryz.prog 35,q≤reachBytes) :
    ∃ (nd:Nod) (ins:List ByteArray) (xs:List Atr) (ks:List Cont),cs=[.string nd.op,.string nd.name,.slice nd.iv.a nd.iv.n nd.iv.c,.string nd.out,.slice nd.av.a nd.av.n nd.av.c]∧jgL W nd.iv.v ins∧jfn W nd.av.v xs∧(∀ (j:Nat) (a:Atr),xs[j]?=some a→∃ c,ks[j]?=some c∧Has W a c)∧∀ a∈xs,R64 a.i:=by
     obtain ⟨xs,n',-,hx,hl,hlen,hfs⟩:=DataW.trod_struct Tryz.underlying35 hf;rw [jhP] at hl
     match cs,hl with
     | [c0,c1,c2,c3,c4],_ =>
      match xs,hlen with
      | [y0,y1,y2,y3,y4],_ =>
       have h0:=hfs 0 _ rfl;have h1:=hfs 1 _ rfl;have h2:=hfs 2 _ rfl;have h3:=hfs 3 _ rfl;have h4:=hfs 4 _ rfl;simp [jee] at h0 h1 h3;simp [jnm] at h2;simp [jnn] at h4;rw [hx] at hb;simp only [List.map_cons,List.map_nil] at hb;have hw:∀ (j:Nat) (t:TypeId) (d:DataW H),([9,9,32,9,33]:List TypeId)[j]?=some t→([y0.1,y1.1,y2.1,y3.1,y4.1]:List (DataW H))[j]?=some d→∀ q∈d.weights Tryz.prog t,q≤reachBytes:=fun j t d h1 h2 q hq=>hb q (by have hm:=DataW.weights_mem_each (P:=Tryz.prog) h1 h2 q hq;simpa [DataW.weights,Tryz.underlying35] using hm);obtain ⟨op,e0,-,-⟩:=DataW.trod_string Tryz.underlying9 h0;obtain ⟨nm,e1,-,-⟩:=DataW.trod_string Tryz.underlying9 h1;obtain ⟨iv,ins,e2,i1⟩:=jlZ h2 (hw 2 _ _ rfl rfl);obtain ⟨ot,e3,-,-⟩:=DataW.trod_string Tryz.underlying9 h3;have:Inhabited Atr:=⟨noAtr⟩
       obtain ⟨av,ats,e4,i2,hall⟩:=jdc (bytes:=136) (size:=9) (f:=jbw) (P:=fun a=>(∃ c,Has W a c)∧R64 a.i) Tryz.underlying33 jhO (by decide) jed jkE (fun h hb=>jmD h hb) h4 (hw 4 _ _ rfl rfl);obtain ⟨ks,hks⟩:=jjh (fun a ha=>(hall a ha).1);simp at e0 e1 e2 e3 e4;subst e0 e1 e2 e3 e4;exact ⟨⟨op,nm,iv,ot,av⟩,ins,ats,ks,rfl,i1,i2,hks,fun a ha=>(hall a ha).2⟩
theorem jip {n:Nat} {cs:List Value} {x:DataW H×List MemPlace} (hf:DataW.trod enc Tryz.prog W 0 (fun _=>true) true n 82 cs=some x) (hb:∀ q∈x.1.weights Tryz.prog 82,q≤reachBytes):∃ v:Val,cs=ja5 v∧∃ ds,jaj W v.dv.v ds:=by
 obtain ⟨xs,n',-,hx,hl,hlen,hfs⟩:=DataW.trod_struct Tryz.underlying82 hf;rw [jgw] at hl
 match cs,hl with
 | [c0,c1,c2],_ =>
  match xs,hlen with
  | [y0,y1,y2],_ =>
   have h0:=hfs 0 _ rfl;have h1:=hfs 1 _ rfl;have h2:=hfs 2 _ rfl;simp [jee] at h0;simp [jfQ] at h1;simp [jkC] at h2;rw [hx] at hb;simp only [List.map_cons,List.map_nil] at hb;have hw:∀ (j:Nat) (t:TypeId) (d:DataW H),([9,3,41]:List TypeId)[j]?=some t→([y0.1,y1.1,y2.1]:List (DataW H))[j]?=some d→∀ q∈d.weights Tryz.prog t,q≤reachBytes:=fun j t d h1 h2 q hq=>hb q (by have hm:=DataW.weights_mem_each (P:=Tryz.prog) h1 h2 q hq;simpa [DataW.weights,Tryz.underlying82] using hm);obtain ⟨nm,e0,-,-⟩:=DataW.trod_string Tryz.underlying9 h0;obtain ⟨ty,e1,-,-⟩:=DataW.trod_int Tryz.underlying3 h1;obtain ⟨d,ds,e2,i2⟩:=jji h2 (hw 2 _ _ rfl rfl);simp at e0 e1 e2;subst e0 e1 e2;exact ⟨⟨nm,ty,d⟩,rfl,ds,i2⟩
theorem jlz {n:Nat} {cs:List Value} {x:DataW H×List MemPlace} (hf:DataW.trod enc Tryz.prog W 0 (fun _=>true) true n 67 cs=some x) (hb:∀ q∈x.1.weights Tryz.prog 67,q≤reachBytes):∃ v:Nam,cs=jbm v∧∃ q:List Int×List Int,jaj W v.dv.v q.1∧jaj W v.tv.v q.2:=by
 obtain ⟨xs,n',-,hx,hl,hlen,hfs⟩:=DataW.trod_struct Tryz.underlying67 hf;rw [jin] at hl
 match cs,hl with
 | [c0,c1,c2,c3],_ =>
  match xs,hlen with
  | [y0,y1],_ =>
   have h0:=hfs 0 _ rfl;have h1:=hfs 1 _ rfl;simp [jee] at h0;simp [jhd] at h1;rw [hx] at hb;simp only [List.map_cons,List.map_nil] at hb;have hw:∀ (j:Nat) (t:TypeId) (d:DataW H),([9,44]:List TypeId)[j]?=some t→([y0.1,y1.1]:List (DataW H))[j]?=some d→∀ q∈d.weights Tryz.prog t,q≤reachBytes:=fun j t d h1 h2 q hq=>hb q (by have hm:=DataW.weights_mem_each (P:=Tryz.prog) h1 h2 q hq;simpa [DataW.weights,Tryz.underlying67] using hm);obtain ⟨nm,e0,-,-⟩:=DataW.trod_string Tryz.underlying9 h0;obtain ⟨ty,d,t,ds,ts,e1,i1,i2⟩:=jkF h1 (hw 1 _ _ rfl rfl);simp at e0 e1;obtain ⟨e1,e2,e3⟩:=e1;subst e0 e1 e2 e3;exact ⟨⟨nm,ty,d,t⟩,rfl,(ds,ts),i1,i2⟩
theorem graph_inp {n:Nat} {cs:List Value} {x:DataW H×List MemPlace} (hf:DataW.trod enc Tryz.prog W 0 (fun _=>true) true n 27 cs=some x) (hb:∀ q∈x.1.weights Tryz.prog 27,q≤reachBytes) :
    ∃ (g:Gra) (ns:List (Nod×Ni)) (is os:List (Val×List Int)) (ts:List (Nam×List Int×List Int)),cs=[.string g.name,.slice g.nv.a g.nv.n g.nv.c,.slice g.iv.a g.iv.n g.iv.c,.slice g.ov.a g.ov.n g.ov.c,.slice g.tv.a g.tv.n g.tv.c]∧RdG W g ns is os ts∧∀ p∈ns,∀ a∈p.2.xs,R64 a.i:=by
     obtain ⟨xs,n',-,hx,hl,hlen,hfs⟩:=DataW.trod_struct Tryz.underlying27 hf;rw [jlw] at hl
     match cs,hl with
     | [c0,c1,c2,c3,c4],_ =>
      match xs,hlen with
      | [y0,y1,y2,y3,y4],_ =>
       have h0:=hfs 0 _ rfl;have h1:=hfs 1 _ rfl;have h2:=hfs 2 _ rfl;have h3:=hfs 3 _ rfl;have h4:=hfs 4 _ rfl;simp [jee] at h0;simp [jmB] at h1;simp [jmC] at h2 h3;simp [jmA] at h4;rw [hx] at hb;simp only [List.map_cons,List.map_nil] at hb;have hw:∀ (j:Nat) (t:TypeId) (d:DataW H),([9,23,24,24,25]:List TypeId)[j]?=some t→([y0.1,y1.1,y2.1,y3.1,y4.1]:List (DataW H))[j]?=some d→∀ q∈d.weights Tryz.prog t,q≤reachBytes:=fun j t d h1 h2 q hq=>hb q (by have hm:=DataW.weights_mem_each (P:=Tryz.prog) h1 h2 q hq;simpa [DataW.weights,Tryz.underlying27] using hm);obtain ⟨nm,e0,-,-⟩:=DataW.trod_string Tryz.underlying9 h0;have:Inhabited Nod:=⟨⟨⟨#[]⟩,⟨#[]⟩,(⟨none,0,0⟩ : Sl),⟨#[]⟩,(⟨none,0,0⟩ : Sl)⟩⟩
       have:Inhabited Val:=⟨⟨⟨#[]⟩,0,(⟨none,0,0⟩ : Sl)⟩⟩
       have:Inhabited Nam:=⟨⟨⟨#[]⟩,0,(⟨none,0,0⟩ : Sl),(⟨none,0,0⟩ : Sl)⟩⟩
       obtain ⟨nv,nds,e1,i1,a1⟩:=jdc (bytes:=96) (size:=5) (f:=ncells) (P:=fun nd=>∃ q:Ni,NodeIn0 W nd q.ins q.xs q.cs∧∀ a∈q.xs,R64 a.i) Tryz.underlying23 jhP (by decide) jco jly (fun h hb=>by
        obtain ⟨nd,ins,xs,ks,e,k1,k2,k3,k4⟩:=jmE h hb;exact ⟨nd,e,⟨ins,xs,ks⟩,⟨k1,k2,k3⟩,k4⟩) h1 (hw 1 _ _ rfl rfl)
       obtain ⟨iv,vs,e2,i2,a2⟩:=jdc (bytes:=48) (size:=3) (f:=ja5) (P:=fun v=>∃ ds,jaj W v.dv.v ds) Tryz.underlying24 jgw (by decide) ja2 jio (fun h hb=>jip h hb) h2 (hw 2 _ _ rfl rfl);obtain ⟨ov,us,e3,i3,a3⟩:=jdc (bytes:=48) (size:=3) (f:=ja5) (P:=fun v=>∃ ds,jaj W v.dv.v ds) Tryz.underlying24 jgw (by decide) ja2 jio (fun h hb=>jip h hb) h3 (hw 3 _ _ rfl rfl);obtain ⟨tv,ts,e4,i4,a4⟩:=jdc (bytes:=72) (size:=4) (f:=jbm) (P:=fun v=>∃ q:List Int×List Int,jaj W v.dv.v q.1∧jaj W v.tv.v q.2) Tryz.underlying25 jin (by decide) jcn jlx (fun h hb=>jlz h hb) h4 (hw 4 _ _ rfl rfl);obtain ⟨p1,q1,b1⟩:=jeW a1;obtain ⟨p2,q2,b2⟩:=jeW a2;obtain ⟨p3,q3,b3⟩:=jeW a3;obtain ⟨p4,q4,b4⟩:=jeW a4;simp at e0 e1 e2 e3 e4;subst e0 e1 e2 e3 e4;refine ⟨⟨nm,nv,iv,ov,tv⟩,p1,p2,p3,p4,rfl,⟨by rw [q1];exact i1,by rw [q2];exact i2,by rw [q3];exact i3,by rw [q4];exact i4,fun p hp=>(b1 p hp).1,b2,b3,b4⟩,fun p hp=>(b1 p hp).2⟩
end
end Go.Proofs.YtbgbpfbjeleooaaGreat.Pd
