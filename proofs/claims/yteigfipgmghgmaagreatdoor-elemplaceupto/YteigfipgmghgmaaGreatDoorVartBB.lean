/- A part. -/
import Derived.Test.YteigfipgmghgmaaGreatDoorVartAN
import Derived.Test.YteigfipgmghgmaaGreatDoorVartBA
import Derived.Test.YteigfipgmghgmaaGreatDoorVartAV
set_option maxRecDepth 100000
namespace Go.Proofs.YteigfipgmghgmaaGreatDoor
open Go.RowKit Go.ChangeShapes
section
variable {H : Type} {enc : TypeId × Value → H} {W : World}
theorem jrs {n:Nat} {cs:List Value} {x:DataW H×List MemPlace} (hf:DataW.trod enc Tryz.prog W 0 (fun _=>true) true n 30 cs=some x) (hb:Rows.uptoBulk x.1≤1048576):∃ (s:Sl) (zs:List Int),cs=[.slice s.a s.n s.c]∧IsInts W s.v zs∧zs.length≤1048576:=by
 obtain ⟨s,zs,e,h1,h2,h3⟩:=jeZ (bytes:=8) (size:=1) (f:=jdq) (P:=fun z => -9223372036854775808≤z∧z≤9223372036854775807) Tryz.underlying30 jhv (by decide) jeD (by decide) (fun h _=>jr3 h) hf hb;exact ⟨s,zs,e,jht h1 h2,h3⟩
theorem jrt {n:Nat} {cs:List Value} {x:DataW H×List MemPlace} (hf:DataW.trod enc Tryz.prog W 0 (fun _=>true) true n 92 cs=some x) (hb:Rows.uptoBulk x.1≤1048576):∃ a:Atr,cs=jeC a∧(∃ c,Has W a c∧c.i.length≤1048576)∧a.s.size≤1048576∧(-9223372036854775808≤a.i∧a.i≤9223372036854775807):=by
 obtain ⟨xs,n',-,hx,hl,hlen,hfs⟩:=DataW.trod_struct Tryz.underlying92 hf;rw [jiB] at hl
 match cs,hl with
 | [c0,c1,c2,c3,c4,c5,c6,c7,c8],_ =>
  match xs,hlen with
  | [y0,y1,y2,y3,y4,y5,y6],_ =>
   have h0:=hfs 0 _ rfl;have h1:=hfs 1 _ rfl;have h2:=hfs 2 _ rfl;have h3:=hfs 3 _ rfl;have h4:=hfs 4 _ rfl;have h5:=hfs 5 _ rfl;have h6:=hfs 6 _ rfl;simp [jhw] at h0 h4;simp [jhq] at h1;simp [jhv] at h2 h3;simp [jhx] at h5;simp [jna] at h6;rw [hx] at hb;simp only [List.map_cons,List.map_nil,Rows.uptoBulk,Rows.uptoBulkAll] at hb;obtain ⟨nm,e0,-,-⟩:=DataW.trod_string Tryz.underlying9 h0;obtain ⟨kd,e1,-,-⟩:=DataW.trod_int Tryz.underlying3 h1;obtain ⟨f,e2,-,-⟩:=DataW.trod_int Tryz.underlying2 h2;obtain ⟨i,e3,-,wi⟩:=DataW.trod_int Tryz.underlying2 h3;obtain ⟨s,e4,hs⟩:=jnb (M:=1048576) h4 (by omega);obtain ⟨ty,d,t,ds,ts,e5,i1,i2⟩:=jr4 h5 (by omega);obtain ⟨u,us,e6,i3,l3⟩:=jrs h6 (by omega);simp [jgo] at e0 e1 e2 e3 e4 e5 e6;obtain ⟨e5,e7,e8⟩:=e5;subst e0 e1 e2 e3 e4 e5 e6 e7 e8;exact ⟨⟨nm,kd,f,i,s,ty,d,t,u⟩,rfl,⟨⟨ds,ts,us⟩,⟨i1,i2,i3⟩,l3⟩,hs,jdz wi⟩
theorem jjm:∀ {xs:List Atr},(∀ a∈xs,∃ c,Has W a c∧c.i.length≤1048576)→∃ cs:List Cont,(∀ (j:Nat) (a:Atr),xs[j]?=some a→∃ c,cs[j]?=some c∧Has W a c)∧∀ c∈cs,c.i.length≤1048576
 | [],_=>⟨[],(fun j a h=>by simp at h),fun c hc=>by cases hc⟩
 | x::l,h=>by
  obtain ⟨c,hc,hcl⟩:=h x (by simp);obtain ⟨cs,hcs,hl⟩:=jjm (xs:=l) (fun a ha=>h a (by simp [ha]));refine ⟨c::cs,fun j a hj=>?_,fun d hd=>?_⟩
  ·cases j with
   | zero =>
    obtain rfl:x=a:=by simpa using hj
    exact ⟨c,rfl,hc⟩
   | succ j=>exact hcs j a (by simpa using hj)
  ·rcases List.mem_cons.1 hd with rfl | hd
   ·exact hcl
   ·exact hl d hd
theorem jmE {n:Nat} {cs:List Value} {x:DataW H×List MemPlace} (hf:DataW.trod enc Tryz.prog W 0 (fun _=>true) true n 25 cs=some x) (hb:Rows.uptoBulk x.1≤1048576) :
    ∃ (nd:Nod) (ins:List ByteArray) (A:At),cs=[.string nd.op,.string nd.name,.slice nd.iv.a nd.iv.n nd.iv.c,.string nd.out,.slice nd.av.a nd.av.n nd.av.c]∧NodeAll W nd ins A∧A.xs.length≤1048576∧ins.length≤1048576:=by
     obtain ⟨xs,n',-,hx,hl,hlen,hfs⟩:=DataW.trod_struct Tryz.underlying25 hf;rw [jm9] at hl
     match cs,hl with
     | [c0,c1,c2,c3,c4],_ =>
      match xs,hlen with
      | [y0,y1,y2,y3,y4],_ =>
       have h0:=hfs 0 _ rfl;have h1:=hfs 1 _ rfl;have h2:=hfs 2 _ rfl;have h3:=hfs 3 _ rfl;have h4:=hfs 4 _ rfl;simp [jhw] at h0 h1 h3;simp [jsH] at h2;simp [jsI] at h4;rw [hx] at hb;simp only [List.map_cons,List.map_nil,Rows.uptoBulk,Rows.uptoBulkAll] at hb;obtain ⟨op,e0,-,-⟩:=DataW.trod_string Tryz.underlying9 h0;obtain ⟨nm,e1,-,-⟩:=DataW.trod_string Tryz.underlying9 h1;obtain ⟨iv,ins,e2,i1,z1,z2⟩:=jsL h2 (by omega);obtain ⟨ot,e3,zo⟩:=jnb (M:=1048576) h3 (by omega);have:Inhabited Atr:=⟨jcM⟩
       obtain ⟨av,ats,e4,i2,hall,hlen⟩:=jeZ (bytes:=136) (size:=9) (f:=jeC) (P:=fun a=>(∃ c,Has W a c∧c.i.length≤1048576)∧a.s.size≤1048576∧(-9223372036854775808≤a.i∧a.i≤9223372036854775807)) Tryz.underlying23 jiB (by decide) jeY (by decide) (fun h hb=>jrt h hb) h4 (by omega);obtain ⟨ks,hks,hkl⟩:=jjm (fun a ha=>(hall a ha).1);simp [jgo] at e0 e1 e2 e3 e4;subst e0 e1 e2 e3 e4;exact ⟨⟨op,nm,iv,ot,av⟩,ins,⟨op,ats,ks⟩,rfl,⟨⟨i1,i2,hks,Nat.le_trans hlen (by decide),fun a ha=>(hall a ha).2.1⟩,rfl,fun a ha=>(hall a ha).2.2,hkl,zo⟩,hlen,z2⟩
end
end Go.Proofs.YteigfipgmghgmaaGreatDoor
namespace Go.Proofs.YteigfipgmghgmaaGreatDoor
open Go.RowKit Go.ChangeShapes
section
variable {H : Type} {enc : TypeId × Value → H} {W : World}
theorem jmF {n:Nat} {cs:List Value} {x:DataW H×List MemPlace} (hf:DataW.trod enc Tryz.prog W 0 (fun _=>true) true n 32 cs=some x) (hb:Rows.uptoBulk x.1≤1048576):∃ t:Ten,cs=jdo t∧∃ q:Tq,IsInts W t.dv.v q.1∧IsInts W t.tv.v q.2:=by
 obtain ⟨ty,d,t,ds,ts,e,i1,i2⟩:=jr4 hf hb;exact ⟨⟨ty,d,t⟩,e,(ds,ts),i1,i2⟩
theorem jtG {n:Nat} {cs:List Value} {x:DataW H×List MemPlace} (hf:DataW.trod enc Tryz.prog W 0 (fun _=>true) true n 26 cs=some x) (hb:Rows.uptoBulk x.1≤1048576):∃ (s:Sl) (ps:List (Ten×Tq)),cs=[.slice s.a s.n s.c]∧TensIn W s.v ps∧ps.length≤1048576:=by
 have:Inhabited Ten:=⟨⟨0,⟨none,0,0⟩,⟨none,0,0⟩⟩⟩
 obtain ⟨s,ts,e,h1,h2,h3⟩:=jeZ (bytes:=56) (size:=3) (f:=jdo) (P:=fun t=>∃ q:Tq,IsInts W t.dv.v q.1∧IsInts W t.tv.v q.2) Tryz.underlying26 jhx (by decide) je9 (by decide) (fun h hb=>jmF h hb) hf hb;obtain ⟨ps,e2,hps⟩:=jk9 h2;refine ⟨s,ps,e,⟨by rw [e2];exact h1,fun p hp=>hps p hp⟩,?_⟩;have:=congrArg List.length e2;rw [List.length_map] at this;omega
end
end Go.Proofs.YteigfipgmghgmaaGreatDoor
