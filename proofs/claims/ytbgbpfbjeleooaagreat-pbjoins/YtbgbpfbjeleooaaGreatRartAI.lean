/- A part. -/
import Derived.Test.YtbgbpfbjeleooaaGreatRartAC
import Derived.Test.YtbgbpfbjeleooaaGreatRartAH
import Derived.Deep.Slices
set_option maxRecDepth 100000
namespace Go.Proofs.YtbgbpfbjeleooaaGreat
open Go.ChangeShapes Go.WideShapes Go.ChangeAt Go.RowKit
theorem jjg:Tryz.prog.cellsOf 2=1:=by kernel_rfl
theorem jee:Tryz.prog.cellsOf 9=1:=by kernel_rfl
theorem jhO:Tryz.prog.cellsOf 78=9:=by kernel_rfl
theorem jhd:Tryz.prog.cellsOf 44=3:=by kernel_rfl
theorem jhP:Tryz.prog.cellsOf 35=5:=by kernel_rfl
theorem jkC:Tryz.prog.cellsOf 41=1:=by kernel_rfl
theorem jkD:Tryz.prog.cellsOf 42=1:=by kernel_rfl
theorem jnm:Tryz.prog.cellsOf 32=1:=by kernel_rfl
theorem jnn:Tryz.prog.cellsOf 33=1:=by kernel_rfl
section
variable {H : Type} {enc : TypeId × Value → H} {W : World}
theorem jn1 {n:Nat} {cs:List Value} {x:DataW H×List MemPlace} (hf:DataW.trod enc Tryz.prog W 0 (fun _=>true) true n 3 cs=some x):∃ z:Int,cs=jev z∧(-9223372036854775808≤z∧z≤9223372036854775807):=by
 obtain ⟨a,e,-,w⟩:=DataW.trod_int Tryz.underlying3 hf;exact ⟨a,e,jf4 w⟩
theorem jn2 {n:Nat} {cs:List Value} {x:DataW H×List MemPlace} (hf:DataW.trod enc Tryz.prog W 0 (fun _=>true) true n 2 cs=some x):∃ z:Int,cs=jev z∧(-9223372036854775808≤z∧z≤9223372036854775807):=by
 obtain ⟨a,e,-,w⟩:=DataW.trod_int Tryz.underlying2 hf;exact ⟨a,e,jf4 w⟩
theorem jjh:∀ {xs:List Atr},(∀ a∈xs,∃ c,Has W a c)→∃ cs:List Cont,∀ (j:Nat) (a:Atr),xs[j]?=some a→∃ c,cs[j]?=some c∧Has W a c
 | [],_=>⟨[],fun j a h=>by simp at h⟩
 | x::l,h=>by
  obtain ⟨c,hc⟩:=h x (by simp);obtain ⟨cs,hcs⟩:=jjh (xs:=l) (fun a ha=>h a (by simp [ha]));refine ⟨c::cs,fun j a hj=>?_⟩
  cases j with
  | zero =>
   obtain rfl:x=a:=by simpa using hj
   exact ⟨c,rfl,hc⟩
  | succ j=>exact hcs j a (by simpa using hj)
end
end Go.Proofs.YtbgbpfbjeleooaaGreat
namespace Go.Proofs.YtbgbpfbjeleooaaGreat
open Go.ChangeShapes Go.WideShapes Go.ChangeAt Go.RowKit
theorem jmR {H:Type} {P:Program} {e:TypeId} : ∀ {l:List (DataW H)} {d:DataW H},d∈l→∀ n∈d.weights P e,n∈DataW.weightsAll P e l
 | x::l,d,hd,n,hn=>by
  rw [DataW.weightsAll,List.mem_append]
  rcases List.mem_cons.1 hd with rfl | hd
  ·exact Or.inl hn
  ·exact Or.inr (jmR hd n hn)
theorem jlX:Tryz.prog.bytesOf 2=8:=by kernel_rfl
theorem jlY:Tryz.prog.bytesOf 9=16:=by kernel_rfl
theorem jkE:Tryz.prog.bytesOf 78=136:=by kernel_rfl
theorem jdc {α : Type} [Inhabited α] {H : Type} {enc : TypeId × Value → H} {W : World} {fuel : Nat} {t e : TypeId} {cs : List Value} {x : DataW H × List MemPlace} {bytes size : Nat} {f : α → List Value} {P : α → Prop}
    (ht:Tryz.prog.underlying t=some (.slice e)) (hc:Tryz.prog.cellsOf e=size) (hs0:0<size) (hf0:∀ y,(f y).length=size) (hby:Tryz.prog.bytesOf e=bytes)
    (hel:∀ {n:Nat} {cs':List Value} {x':DataW H×List MemPlace},DataW.trod enc Tryz.prog W 0 (fun _=>true) true n e cs'=some x'→(∀ q∈x'.1.weights Tryz.prog e,q≤reachBytes)→∃ y,cs'=f y∧P y)
    (hf:DataW.trod enc Tryz.prog W 0 (fun _=>true) true fuel t cs=some x) (hb:∀ q∈x.1.weights Tryz.prog t,q≤reachBytes):∃ (s:Sl) (xs:List α),cs=[.slice s.a s.n s.c]∧IsL bytes size f W s.v xs∧(∀ y∈xs,P y):=by
     rcases Go.Deep.open_slice ht hf with ⟨hcs,hx⟩ | ⟨a,len,cap,m,n,D,Pl,hcs,-,hl,hm,hmm,hx,hel'⟩
     ·exact ⟨⟨none,0,0⟩,[],hcs,IsL.nil ..,fun y hy=>by simp at hy⟩
     ·simp only [if_true] at hmm;subst hmm;rw [hx] at hb;simp only [DataW.weights,ht] at hb;have hln:=hb _ (List.mem_cons_self ..);rw [hby] at hln;simp only [List.length_map,List.length_range,reachBytes] at hln;rw [hc] at hel'
      have hy:∀ i,i<len→∃ y,W.cells? 0 (a.add (i*size)) size=some (f y)∧P y:=by
       intro i hi;obtain ⟨cs',h1,htr⟩:=hel' i (by omega);obtain ⟨y,rfl,hin⟩:=hel htr (fun q hq=>hb q (List.mem_cons_of_mem _ (List.mem_append_left _ (jmR (List.mem_map.2 ⟨i,List.mem_range.2 hi,rfl⟩) _ hq))));exact ⟨y,h1,hin⟩
      obtain ⟨Y,hY⟩:=Go.Deep.choose_lt hy;have hlen:((List.range len).map Y).length=len:=by simp
      have hlb:len*bytes≤140737488351232:=Nat.le_trans (Nat.mul_le_mul_right _ (by omega)) hln;refine ⟨⟨some a,len,m⟩,(List.range len).map Y,hcs,⟨some a,m,by rw [hlen],by rw [hlen];exact hl,by simpa [maxLen] using hm,by rw [hlen];exact hlb,(fun h=>by cases h),fun h0=>?_⟩,fun y hy'=>?_⟩
      ·rw [hlen] at h0;have hcc:∀ i,i<len→∀ q,q<size→W.cell? ((a.add (i*size)).add q)=(f (Y i))[q]?:=fun i hi=>(World.cells?_some (hY i hi).1).2.2;obtain ⟨b,off,sp⟩:=a;have hne:∀ i q,q<size→(f (Y i))[q]?≠none:=fun i q hq=>by rw [List.getElem?_eq_getElem (by rw [hf0];exact hq)];simp
       have hsp:sp=none:=by
        have h1:=hcc 0 h0 0 hs0;rw [List.getElem?_eq_getElem (by rw [hf0];exact hs0)] at h1;simpa [Addr.add] using World.cell?_spot h1
       subst hsp;refine ⟨b,off,rfl,fun k hk j hj=>?_⟩;rw [hlen] at hk;have h1:=hcc k hk j hj;rw [Addr.add_lit,Addr.add_lit] at h1;simp only [List.getElem_map,List.getElem_range];exact ⟨h1,hne k j hj⟩
      ·obtain ⟨i,hi,rfl⟩:=List.mem_map.1 hy';exact (hY i (List.mem_range.1 hi)).2
section
variable {H : Type} {enc : TypeId × Value → H} {W : World}
theorem jji {n:Nat} {cs:List Value} {x:DataW H×List MemPlace} (hf:DataW.trod enc Tryz.prog W 0 (fun _=>true) true n 41 cs=some x) (hb:∀ q∈x.1.weights Tryz.prog 41,q≤reachBytes):∃ (s:Sl) (zs:List Int),cs=[.slice s.a s.n s.c]∧jaj W s.v zs:=by
 obtain ⟨s,zs,e,h1,h2⟩:=jdc (bytes:=8) (size:=1) (f:=jev) (P:=fun z => -9223372036854775808≤z∧z≤9223372036854775807) Tryz.underlying41 jfQ (by decide) jdq jlS (fun h _=>jn1 h) hf hb;exact ⟨s,zs,e,jha h1 h2⟩
theorem jjj {n:Nat} {cs:List Value} {x:DataW H×List MemPlace} (hf:DataW.trod enc Tryz.prog W 0 (fun _=>true) true n 42 cs=some x) (hb:∀ q∈x.1.weights Tryz.prog 42,q≤reachBytes):∃ (s:Sl) (zs:List Int),cs=[.slice s.a s.n s.c]∧jaj W s.v zs:=by
 obtain ⟨s,zs,e,h1,h2⟩:=jdc (bytes:=8) (size:=1) (f:=jev) (P:=fun z => -9223372036854775808≤z∧z≤9223372036854775807) Tryz.underlying42 jjg (by decide) jdq jlX (fun h _=>jn2 h) hf hb;exact ⟨s,zs,e,jha h1 h2⟩
theorem jlZ {n:Nat} {cs:List Value} {x:DataW H×List MemPlace} (hf:DataW.trod enc Tryz.prog W 0 (fun _=>true) true n 32 cs=some x) (hb:∀ q∈x.1.weights Tryz.prog 32,q≤reachBytes):∃ (s:Sl) (zs:List ByteArray),cs=[.slice s.a s.n s.c]∧jgL W s.v zs:=by
 obtain ⟨s,zs,e,h1,-⟩:=jdc (bytes:=16) (size:=1) (f:=jgD) (P:=fun _=>True) Tryz.underlying32 jee (by decide) (fun _=>rfl) jlY (fun h _=>by obtain ⟨s,e,-,-⟩:=DataW.trod_string Tryz.underlying9 h;exact ⟨s,e,trivial⟩) hf hb;exact ⟨s,zs,e,h1⟩
theorem jkF {n:Nat} {cs:List Value} {x:DataW H×List MemPlace} (hf:DataW.trod enc Tryz.prog W 0 (fun _=>true) true n 44 cs=some x) (hb:∀ q∈x.1.weights Tryz.prog 44,q≤reachBytes):∃ (ty:Int) (d t:Sl) (ds ts:List Int),cs=[.int .i64 ty,.slice d.a d.n d.c,.slice t.a t.n t.c]∧jaj W d.v ds∧jaj W t.v ts:=by
 obtain ⟨xs,n',-,hx,hl,hlen,hfs⟩:=DataW.trod_struct Tryz.underlying44 hf;rw [jhd] at hl
 match cs,hl with
 | [c0,c1,c2],_ =>
  match xs,hlen with
  | [y0,y1,y2],_ =>
   have h0:=hfs 0 _ rfl;have h1:=hfs 1 _ rfl;have h2:=hfs 2 _ rfl;simp [jfQ] at h0;simp [jkC] at h1;simp [jkD] at h2;rw [hx] at hb;simp only [List.map_cons,List.map_nil] at hb;have hw:∀ (j:Nat) (t:TypeId) (d:DataW H),([3,41,42]:List TypeId)[j]?=some t→([y0.1,y1.1,y2.1]:List (DataW H))[j]?=some d→∀ q∈d.weights Tryz.prog t,q≤reachBytes:=fun j t d h1 h2 q hq=>hb q (by have hm:=DataW.weights_mem_each (P:=Tryz.prog) h1 h2 q hq;simpa [DataW.weights,Tryz.underlying44] using hm);obtain ⟨ty,e0,-,-⟩:=DataW.trod_int Tryz.underlying3 h0;obtain ⟨d,ds,e1,i1⟩:=jji h1 (hw 1 _ _ rfl rfl);obtain ⟨t,ts,e2,i2⟩:=jjj h2 (hw 2 _ _ rfl rfl);simp at e0 e1 e2;subst e0 e1 e2;exact ⟨ty,d,t,ds,ts,rfl,i1,i2⟩
end
end Go.Proofs.YtbgbpfbjeleooaaGreat
namespace Go.Proofs.YtbgbpfbjeleooaaGreat
open Go.RowKit Go.ChangeShapes
theorem jeW {α β:Type} {Q:α→β→Prop} : ∀ {xs:List α},(∀ a∈xs,∃ b,Q a b)→∃ ps:List (α×β),ps.map (·.1)=xs∧∀ p∈ps,Q p.1 p.2
 | [],_=>⟨[],rfl,fun p hp=>by cases hp⟩
 | x::l,h=>by
  obtain ⟨b,hb⟩:=h x (by simp);obtain ⟨ps,e,hps⟩:=jeW (xs:=l) (fun a ha=>h a (by simp [ha]));refine ⟨(x,b)::ps,by simp [e],fun p hp=>?_⟩
  rcases List.mem_cons.1 hp with rfl | hp
  ·exact hb
  ·exact hps p hp
section
variable {H : Type} {enc : TypeId × Value → H} {W : World}
end
end Go.Proofs.YtbgbpfbjeleooaaGreat
