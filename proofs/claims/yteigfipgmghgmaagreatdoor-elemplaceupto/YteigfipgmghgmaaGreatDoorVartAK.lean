/- A part. -/
import Derived.Test.YteigfipgmghgmaaGreatDoorVartAC
import Derived.Test.YteigfipgmghgmaaGreatDoorVartAJ
import Derived.Deep.Slices
set_option maxRecDepth 100000
namespace Go.Proofs.YteigfipgmghgmaaGreatDoor
open Go.ChangeShapes Go.WideShapes Go.ChangeAt Go.RowKit
theorem jqe {H:Type} (d:DataW H):1≤Rows.uptoBulk d:=by
 cases d with
 | lit l=>cases l <;> simp [Rows.uptoBulk]
 | _=>simp [Rows.uptoBulk]
theorem jiA {H:Type} {d:DataW H} : ∀ {l:List (DataW H)},d∈l→Rows.uptoBulk d≤Rows.uptoBulkAll l
 | x::r,h=>by
  simp only [Rows.uptoBulkAll]
  rcases List.mem_cons.1 h with rfl | h
  ·omega
  ·have:=jiA h;omega
theorem jk6 {H:Type} : ∀ (l:List (DataW H)),l.length≤Rows.uptoBulkAll l
 | []=>by simp
 | x::r=>by
  have h1:=jqe x;have h2:=jk6 r;simp only [Rows.uptoBulkAll,List.length_cons];omega
theorem jeZ {α : Type} [Inhabited α] {H : Type} {enc : TypeId × Value → H} {W : World} {fuel : Nat} {t e : TypeId} {cs : List Value} {x : DataW H × List MemPlace} {bytes size M : Nat} {f : α → List Value} {P : α → Prop}
    (ht:Tryz.prog.underlying t=some (.slice e)) (hc:Tryz.prog.cellsOf e=size) (hs0:0<size) (hf0:∀ y,(f y).length=size) (hM:M*bytes≤140737488351232)
    (hel:∀ {n:Nat} {cs':List Value} {x':DataW H×List MemPlace},DataW.trod enc Tryz.prog W 0 (fun _=>true) true n e cs'=some x'→Rows.uptoBulk x'.1≤M→∃ y,cs'=f y∧P y)
    (hf:DataW.trod enc Tryz.prog W 0 (fun _=>true) true fuel t cs=some x) (hb:Rows.uptoBulk x.1≤M):∃ (s:Sl) (xs:List α),cs=[.slice s.a s.n s.c]∧IsL bytes size f W s.v xs∧(∀ y∈xs,P y)∧xs.length≤M:=by
     rcases Go.Deep.open_slice ht hf with ⟨hcs,hx⟩ | ⟨a,len,cap,m,n,D,Pl,hcs,-,hl,hm,hmm,hx,hel'⟩
     ·exact ⟨⟨none,0,0⟩,[],hcs,IsL.nil ..,fun y hy=>by simp at hy,by simp⟩
     ·simp only [if_true] at hmm;subst hmm;rw [hx] at hb;simp only [Rows.uptoBulk] at hb;have hln:=jk6 ((List.range len).map D);simp only [List.length_map,List.length_range] at hln;rw [hc] at hel'
      have hy:∀ i,i<len→∃ y,W.cells? 0 (a.add (i*size)) size=some (f y)∧P y:=by
       intro i hi;obtain ⟨cs',h1,htr⟩:=hel' i (by omega);have hp:=jiA (d:=D i) (l:=(List.range len).map D) (List.mem_map.2 ⟨i,List.mem_range.2 hi,rfl⟩);obtain ⟨y,rfl,hin⟩:=hel htr (by simp only;omega);exact ⟨y,h1,hin⟩
      obtain ⟨Y,hY⟩:=Go.Deep.choose_lt hy;have hlen:((List.range len).map Y).length=len:=by simp
      have hlb:len*bytes≤140737488351232:=Nat.le_trans (Nat.mul_le_mul_right _ (by omega)) hM;refine ⟨⟨some a,len,m⟩,(List.range len).map Y,hcs,⟨some a,m,by rw [hlen],by rw [hlen];exact hl,by simpa [maxLen] using hm,by rw [hlen];exact hlb,(fun h=>by cases h),fun h0=>?_⟩,fun y hy'=>?_,by rw [hlen];omega⟩
      ·rw [hlen] at h0;have hcc:∀ i,i<len→∀ q,q<size→W.cell? ((a.add (i*size)).add q)=(f (Y i))[q]?:=fun i hi=>(World.cells?_some (hY i hi).1).2.2;obtain ⟨b,off,sp⟩:=a;have hne:∀ i q,q<size→(f (Y i))[q]?≠none:=fun i q hq=>by rw [List.getElem?_eq_getElem (by rw [hf0];exact hq)];simp
       have hsp:sp=none:=by
        have h1:=hcc 0 h0 0 hs0;rw [List.getElem?_eq_getElem (by rw [hf0];exact hs0)] at h1;simpa [Addr.add] using World.cell?_spot h1
       subst hsp;refine ⟨b,off,rfl,fun k hk j hj=>?_⟩;rw [hlen] at hk;have h1:=hcc k hk j hj;rw [Addr.add_lit,Addr.add_lit] at h1;simp only [List.getElem_map,List.getElem_range];exact ⟨h1,hne k j hj⟩
      ·obtain ⟨i,hi,rfl⟩:=List.mem_map.1 hy';exact (hY i (List.mem_range.1 hi)).2
theorem jhv:Tryz.prog.cellsOf 2=1:=by kernel_rfl
theorem jhw:Tryz.prog.cellsOf 9=1:=by kernel_rfl
theorem jiB:Tryz.prog.cellsOf 92=9:=by kernel_rfl
theorem jhx:Tryz.prog.cellsOf 32=3:=by kernel_rfl
theorem jm9:Tryz.prog.cellsOf 25=5:=by kernel_rfl
theorem jsG:Tryz.prog.cellsOf 29=1:=by kernel_rfl
theorem jna:Tryz.prog.cellsOf 30=1:=by kernel_rfl
theorem jsH:Tryz.prog.cellsOf 22=1:=by kernel_rfl
theorem jsI:Tryz.prog.cellsOf 23=1:=by kernel_rfl
section
variable {H : Type} {enc : TypeId × Value → H} {W : World}
theorem juq {n:Nat} {cs:List Value} {x:DataW H×List MemPlace} (hf:DataW.trod enc Tryz.prog W 0 (fun _=>true) true n 3 cs=some x):∃ z:Int,cs=jdq z∧(-9223372036854775808≤z∧z≤9223372036854775807):=by
 obtain ⟨a,e,-,w⟩:=DataW.trod_int Tryz.underlying3 hf;exact ⟨a,e,jdz w⟩
theorem jr3 {n:Nat} {cs:List Value} {x:DataW H×List MemPlace} (hf:DataW.trod enc Tryz.prog W 0 (fun _=>true) true n 2 cs=some x):∃ z:Int,cs=jdq z∧(-9223372036854775808≤z∧z≤9223372036854775807):=by
 obtain ⟨a,e,-,w⟩:=DataW.trod_int Tryz.underlying2 hf;exact ⟨a,e,jdz w⟩
theorem jnb {n M:Nat} {cs:List Value} {x:DataW H×List MemPlace} (hf:DataW.trod enc Tryz.prog W 0 (fun _=>true) true n 9 cs=some x) (hb:Rows.uptoBulk x.1≤M):∃ s:ByteArray,cs=jgo s∧s.size≤M:=by
 obtain ⟨s,e,e',-⟩:=DataW.trod_string Tryz.underlying9 hf;rw [e'] at hb;simp only [Rows.uptoBulk] at hb;have e2:s.data.toList.length=s.size:=Array.length_toList;exact ⟨s,e,by omega⟩
theorem jsJ {n:Nat} {cs:List Value} {x:DataW H×List MemPlace} (hf:DataW.trod enc Tryz.prog W 0 (fun _=>true) true n 29 cs=some x) (hb:Rows.uptoBulk x.1≤1048576):∃ (s:Sl) (zs:List Int),cs=[.slice s.a s.n s.c]∧IsInts W s.v zs:=by
 obtain ⟨s,zs,e,h1,h2,-⟩:=jeZ (bytes:=8) (size:=1) (f:=jdq) (P:=fun z => -9223372036854775808≤z∧z≤9223372036854775807) Tryz.underlying29 jhq (by decide) jeD (by decide) (fun h _=>juq h) hf hb;exact ⟨s,zs,e,jht h1 h2⟩
theorem jsK {n:Nat} {cs:List Value} {x:DataW H×List MemPlace} (hf:DataW.trod enc Tryz.prog W 0 (fun _=>true) true n 30 cs=some x) (hb:Rows.uptoBulk x.1≤1048576):∃ (s:Sl) (zs:List Int),cs=[.slice s.a s.n s.c]∧IsInts W s.v zs:=by
 obtain ⟨s,zs,e,h1,h2,-⟩:=jeZ (bytes:=8) (size:=1) (f:=jdq) (P:=fun z => -9223372036854775808≤z∧z≤9223372036854775807) Tryz.underlying30 jhv (by decide) jeD (by decide) (fun h _=>jr3 h) hf hb;exact ⟨s,zs,e,jht h1 h2⟩
theorem jsL {n:Nat} {cs:List Value} {x:DataW H×List MemPlace} (hf:DataW.trod enc Tryz.prog W 0 (fun _=>true) true n 22 cs=some x) (hb:Rows.uptoBulk x.1≤1048576):∃ (s:Sl) (zs:List ByteArray),cs=[.slice s.a s.n s.c]∧jfe W s.v zs∧(∀ z∈zs,z.size≤1048576)∧zs.length≤1048576 :=
 jeZ (bytes:=16) (size:=1) (f:=jgo) (P:=fun z=>z.size≤1048576) Tryz.underlying22 jhw (by decide) (fun _=>rfl) (by decide) (fun h hb=>jnb h hb) hf hb
theorem jr4 {n:Nat} {cs:List Value} {x:DataW H×List MemPlace} (hf:DataW.trod enc Tryz.prog W 0 (fun _=>true) true n 32 cs=some x) (hb:Rows.uptoBulk x.1≤1048576):∃ (ty:Int) (d t:Sl) (ds ts:List Int),cs=[.int .i64 ty,.slice d.a d.n d.c,.slice t.a t.n t.c]∧IsInts W d.v ds∧IsInts W t.v ts:=by
 obtain ⟨xs,n',-,hx,hl,hlen,hfs⟩:=DataW.trod_struct Tryz.underlying32 hf;rw [jhx] at hl
 match cs,hl with
 | [c0,c1,c2],_ =>
  match xs,hlen with
  | [y0,y1,y2],_ =>
   have h0:=hfs 0 _ rfl;have h1:=hfs 1 _ rfl;have h2:=hfs 2 _ rfl;simp [jhq] at h0;simp [jsG] at h1;simp [jna] at h2;rw [hx] at hb;simp only [List.map_cons,List.map_nil,Rows.uptoBulk,Rows.uptoBulkAll] at hb;obtain ⟨ty,e0,-,-⟩:=DataW.trod_int Tryz.underlying3 h0;obtain ⟨d,ds,e1,i1⟩:=jsJ h1 (by omega);obtain ⟨t,ts,e2,i2⟩:=jsK h2 (by omega);simp at e0 e1 e2;subst e0 e1 e2;exact ⟨ty,d,t,ds,ts,rfl,i1,i2⟩
end
end Go.Proofs.YteigfipgmghgmaaGreatDoor
