/- A part. -/
import Derived.Test.YtbgbpfbjeleooaaGreatRartAB
import Derived.Deep.LoopGhost
import Derived.Deep.AppendLies
import Derived.Deep.RegionHeld3
import Derived.Deep.RegionWith
import Derived.Deep.RegionLaw
import Derived.Deep.CutRange
namespace Go.Proofs.YtbgbpfbjeleooaaGreat
open Go.RowKit
def IsL {α:Type} (bytes size:Nat) (f:α→List Value) (w:World) (v:Value) (xs:List α):Prop :=
 ∃ ao cap,v=.slice ao xs.length cap∧xs.length≤cap∧cap≤9223372036854775807∧xs.length*bytes≤140737488351232∧(ao=none→xs=[]∧cap=0) ∧
  (0<xs.length→∃ b off,ao=some ⟨b,off,none⟩∧∀ k (hk:k<xs.length) j,j<size→w.cell? ⟨b,off+k*size+j,none⟩=(f xs[k])[j]?∧(f xs[k])[j]?≠none)
theorem IsL.kept {α:Type} {bytes size:Nat} {f:α→List Value} {w w':World} {v:Value} {xs:List α} (h:IsL bytes size f w v xs) (hk:∀ b,b<w.heap.size→v.ownBlock=some b→w'.heap[b]?=w.heap[b]?):IsL bytes size f w' v xs:=by
 obtain ⟨ao,cap,rfl,h1,h2,h3,h4,h5⟩:=h;refine ⟨ao,cap,rfl,h1,h2,h3,h4,fun hl=>?_⟩;obtain ⟨b,off,rfl,hc⟩:=h5 hl;refine ⟨b,off,rfl,fun k hk' j hj=>?_⟩;obtain ⟨e,hne⟩:=hc k hk' j hj;refine ⟨?_,hne⟩
 cases hx:(f xs[k])[j]? with
 | none=>exact absurd hx hne
 | some x =>
  rw [hx] at e;rw [← e];exact World.cell?_of_block (hk b (World.block_lt_of_cell? w _ e) rfl)
theorem IsL.more {α:Type} {bytes size:Nat} {f:α→List Value} {w w':World} {v:Value} {xs:List α} (h:IsL bytes size f w v xs) (hg:w.grownBy w' none):IsL bytes size f w' v xs:=h.kept fun b hb _=>hg.block b hb (by simp)
theorem IsL.form {α:Type} {bytes size:Nat} {f:α→List Value} {w:World} {v:Value} {xs:List α} (h:IsL bytes size f w v xs):∃ ao cap,v=.slice ao xs.length cap∧xs.length≤cap∧cap≤9223372036854775807∧xs.length*bytes≤140737488351232:=by
 obtain ⟨ao,cap,e,h1,h2,h3,-,-⟩:=h;exact ⟨ao,cap,e,h1,h2,h3⟩
theorem IsL.nil {α:Type} (bytes size:Nat) (f:α→List Value) (w:World):IsL bytes size f w (.slice none 0 0) [] :=
 ⟨none,0,rfl,Nat.le_refl _,by decide,by simp,fun _=>⟨rfl,rfl⟩,fun h=>(by simp at h)⟩
theorem IsL.addr {α:Type} {bytes size:Nat} {f:α→List Value} {w:World} {ao:Option Addr} {len cap:Nat} {xs:List α} (h:IsL bytes size f w (.slice ao len cap) xs) {k:Nat} (hk:k<xs.length) :
    ∃ b off,ao=some ⟨b,off,none⟩:=by
     obtain ⟨ao',cap',e,_,_,_,_,h5⟩:=h
     cases e
     obtain ⟨b,off,e',-⟩:=h5 (by omega);exact ⟨b,off,e'⟩
theorem IsL.at {α:Type} {bytes size:Nat} {f:α→List Value} {w:World} {b off len cap:Nat} {xs:List α} (h:IsL bytes size f w (.slice (some ⟨b,off,none⟩) len cap) xs) (k:Nat) (hk:k<xs.length) (j:Nat) (hj:j<size) :
    w.cell? ⟨b,off+k*size+j,none⟩=(f xs[k])[j]?:=by
     obtain ⟨ao',cap',e,_,_,_,_,h5⟩:=h
     cases e
     obtain ⟨b',off',e',hc⟩:=h5 (by omega)
     cases e'
     exact (hc k hk j hj).1
theorem jdC {α:Type} {f:α→List Value} {size:Nat} (hf:∀ a,(f a).length=size) (xs:List α):(xs.flatMap f).length=xs.length*size:=by
 induction xs with
 | nil=>simp
 | cons a l ih=>rw [List.flatMap_cons,List.length_append,ih,hf,List.length_cons,Nat.add_mul];omega
theorem jfm {α:Type} {f:α→List Value} {size:Nat} (hf:∀ a,(f a).length=size) (xs:List α) (k j:Nat) (hk:k<xs.length) (hj:j<size):(xs.flatMap f)[k*size+j]?=(f xs[k])[j]?:=by
 induction xs generalizing k with
 | nil=>simp at hk
 | cons a l ih =>
  rw [List.flatMap_cons]
  cases k with
  | zero=>rw [List.getElem?_append_left (by rw [hf];omega)];simp
  | succ k =>
   rw [List.getElem?_append_right (by rw [hf,Nat.add_mul];omega)];have e:(k+1)*size+j - (f a).length=k*size+j:=by rw [hf,Nat.add_mul];omega
   rw [e,ih k (by simpa using hk)];simp
def OwnsL {α:Type} (te:TypeId) (size:Nat) (f:α→List Value) (w:World) (base:Nat) (v:Value) (xs:List α):Prop :=
 w.ownsRow base te size v xs.length (xs.flatMap f)
theorem OwnsL.kept {α:Type} {te:TypeId} {size:Nat} {f:α→List Value} {w w':World} {base:Nat} {v:Value} {xs:List α} (h:OwnsL te size f w base v xs) {row:Option Nat} (hg:w.grownBy w' row) (hr:∀ g,row=some g→g<base):OwnsL te size f w' base v xs:=by
 refine World.ownsRow.kept h hg ?_
 cases hv:v.ownBlock with
 | none=>exact .inl rfl
 | some k =>
  refine .inr fun e=>?_;have h1:=World.ownsRow.lt h k hv;have h2:=hr k e.symm;omega
theorem OwnsL.more {α:Type} {te:TypeId} {size:Nat} {f:α→List Value} {w w':World} {base:Nat} {v:Value} {xs:List α} (h:OwnsL te size f w base v xs) (hg:w.grownBy w' none):OwnsL te size f w' base v xs:=h.kept hg (by simp)
theorem OwnsL.nil {α:Type} (te:TypeId) (size:Nat) (f:α→List Value) (w:World) (base:Nat):OwnsL te size f w base (.slice none 0 0) []:=World.ownsRow_nil _ _ _ _
theorem OwnsL.base_le {α:Type} {te:TypeId} {size:Nat} {f:α→List Value} {w:World} {base b':Nat} {v:Value} {xs:List α} (h:OwnsL te size f w base v xs) (hb:b'≤base):OwnsL te size f w b' v xs:=by
 refine ⟨h.1,?_⟩
 rcases h.2 with h0 | ⟨g,cap,cur,e,hg,r⟩
 ·exact .inl h0
 ·exact .inr ⟨g,cap,cur,e,by omega,r⟩
theorem OwnsL.form {α:Type} {te:TypeId} {size:Nat} {f:α→List Value} {w:World} {base:Nat} {v:Value} {xs:List α} (h:OwnsL te size f w base v xs):∃ ao cap,v=.slice ao xs.length cap:=by
 rcases h.2 with ⟨rfl,h0⟩ | ⟨g,cap,cur,rfl,_⟩
 ·exact ⟨none,0,by rw [h0]⟩
 ·exact ⟨_,_,rfl⟩
theorem OwnsL.isL {α:Type} {te:TypeId} {size bytes:Nat} {f:α→List Value} (hf:∀ a,(f a).length=size) {w:World} {base:Nat} {v:Value} {xs:List α} (h:OwnsL te size f w base v xs) (hl:xs.length*bytes≤140737488351232):IsL bytes size f w v xs:=by
 have h0:=h
 rcases h.2 with ⟨rfl,hn⟩ | ⟨g,cap,cur,rfl,_,_,hnc,hcm,_,_⟩
 ·obtain rfl:xs=[]:=List.length_eq_zero_iff.1 hn;exact IsL.nil _ _ _ _
 ·refine ⟨_,cap,rfl,hnc,by simpa [maxLen] using hcm,hl,(fun h=>by cases h),fun _=>⟨g,0,rfl,fun k hk j hj=>?_⟩⟩
  have hlt:k*size+j<xs.length*size:=by
   have:(k+1)*size≤xs.length*size:=Nat.mul_le_mul_right _ hk;rw [Nat.add_mul] at this;omega
  rw [Nat.zero_add,World.ownsRow.cellAt h0 _ (by exact hlt),jfm hf xs k j hk hj];exact ⟨rfl,by simp [hf,hj]⟩
structure Sl where
 a:Option Addr
 n:Nat
 c:Nat
abbrev Sl.v (s:Sl):Value:=.slice s.a s.n s.c
structure Atr where
 name:ByteArray
 kind:Int
 f:Int
 i:Int
 s:ByteArray
 ty:Int
 dv:Sl
 tv:Sl
 iv:Sl
def jbw (a:Atr):List Value:=[.string a.name,.int .i64 a.kind,.int .i64 a.f,.int .i64 a.i,.string a.s,.int .i64 a.ty,.slice a.dv.a a.dv.n a.dv.c,.slice a.tv.a a.tv.n a.tv.c,.slice a.iv.a a.iv.n a.iv.c]
def jb8 (a:Atr):Value:=.agg #[.string a.name,.int .i64 a.kind,.int .i64 a.f,.int .i64 a.i,.string a.s,.int .i64 a.ty,.slice a.dv.a a.dv.n a.dv.c,.slice a.tv.a a.tv.n a.tv.c,.slice a.iv.a a.iv.n a.iv.c]
abbrev jfn (w:World) (v:Value) (xs:List Atr):Prop:=IsL 136 9 jbw w v xs
theorem IsL.attr {w:World} {b off len cap:Nat} {xs:List Atr} (h:IsL 136 9 jbw w (.slice (some ⟨b,off,none⟩) len cap) xs) (k:Nat) (hk:k<xs.length) :
    w.cell? ⟨b,off+k*9,none⟩=some (.string xs[k].name)∧w.cell? ⟨b,off+k*9+1,none⟩=some (.int .i64 xs[k].kind)∧w.cell? ⟨b,off+k*9+2,none⟩=some (.int .i64 xs[k].f)∧w.cell? ⟨b,off+k*9+3,none⟩=some (.int .i64 xs[k].i)∧w.cell? ⟨b,off+k*9+4,none⟩=some (.string xs[k].s)∧w.cell? ⟨b,off+k*9+5,none⟩=some (.int .i64 xs[k].ty)∧w.cell? ⟨b,off+k*9+6,none⟩=some (.slice xs[k].dv.a xs[k].dv.n xs[k].dv.c)∧w.cell? ⟨b,off+k*9+7,none⟩=some (.slice xs[k].tv.a xs[k].tv.n xs[k].tv.c)∧w.cell? ⟨b,off+k*9+8,none⟩=some (.slice xs[k].iv.a xs[k].iv.n xs[k].iv.c):=by
     have f:=fun j hj=>h.at k hk j hj;exact ⟨f 0 (by omega),f 1 (by omega),f 2 (by omega),f 3 (by omega),f 4 (by omega),f 5 (by omega),f 6 (by omega),f 7 (by omega),f 8 (by omega)⟩
theorem jcd {w:World} {B:Nat} {a:Atr} (hb:w.heap[B]?=some (.cells #[.string a.name,.int .i64 a.kind,.int .i64 a.f,.int .i64 a.i,.string a.s,.int .i64 a.ty,.slice a.dv.a a.dv.n a.dv.c,.slice a.tv.a a.tv.n a.tv.c,.slice a.iv.a a.iv.n a.iv.c] 78 (0,0))) :
    w.cell? ⟨B,0,none⟩=some (.string a.name)∧w.cell? ⟨B,1,none⟩=some (.int .i64 a.kind)∧w.cell? ⟨B,2,none⟩=some (.int .i64 a.f)∧w.cell? ⟨B,3,none⟩=some (.int .i64 a.i)∧w.cell? ⟨B,4,none⟩=some (.string a.s)∧w.cell? ⟨B,5,none⟩=some (.int .i64 a.ty)∧w.cell? ⟨B,6,none⟩=some (.slice a.dv.a a.dv.n a.dv.c)∧w.cell? ⟨B,7,none⟩=some (.slice a.tv.a a.tv.n a.tv.c)∧w.cell? ⟨B,8,none⟩=some (.slice a.iv.a a.iv.n a.iv.c) :=
     ⟨(cell_of_row _ _ 0 _ _ (0,0) hb).trans rfl,(cell_of_row _ _ 1 _ _ (0,0) hb).trans rfl,(cell_of_row _ _ 2 _ _ (0,0) hb).trans rfl,(cell_of_row _ _ 3 _ _ (0,0) hb).trans rfl,(cell_of_row _ _ 4 _ _ (0,0) hb).trans rfl,(cell_of_row _ _ 5 _ _ (0,0) hb).trans rfl,(cell_of_row _ _ 6 _ _ (0,0) hb).trans rfl,(cell_of_row _ _ 7 _ _ (0,0) hb).trans rfl,(cell_of_row _ _ 8 _ _ (0,0) hb).trans rfl⟩
end Go.Proofs.YtbgbpfbjeleooaaGreat
namespace Go.Proofs.YtbgbpfbjeleooaaGreat
open Go.RowKit
theorem jag {w w':World} {B:Nat} {o:Obj} (hb:w.heap[B]?=some o) (hg:w.grownBy w' none):w'.heap[B]?=some o:=(hg.block B (Array.getElem?_eq_some_iff.1 hb).1 (by simp)).trans hb
structure Nod where
 op:ByteArray
 name:ByteArray
 iv:Sl
 out:ByteArray
 av:Sl
def jgJ (n:Nod):Value:=.agg #[.string n.op,.string n.name,.slice n.iv.a n.iv.n n.iv.c,.string n.out,.slice n.av.a n.av.n n.av.c]
theorem jbr {w:World} {B:Nat} {n:Nod} (hb:w.heap[B]?=some (.cells #[.string n.op,.string n.name,.slice n.iv.a n.iv.n n.iv.c,.string n.out,.slice n.av.a n.av.n n.av.c] 35 (0,0))) :
    w.cell? ⟨B,0,none⟩=some (.string n.op)∧w.cell? ⟨B,1,none⟩=some (.string n.name)∧w.cell? ⟨B,2,none⟩=some (.slice n.iv.a n.iv.n n.iv.c)∧w.cell? ⟨B,3,none⟩=some (.string n.out)∧w.cell? ⟨B,4,none⟩=some (.slice n.av.a n.av.n n.av.c) :=
     ⟨(cell_of_row _ _ 0 _ _ (0,0) hb).trans rfl,(cell_of_row _ _ 1 _ _ (0,0) hb).trans rfl,(cell_of_row _ _ 2 _ _ (0,0) hb).trans rfl,(cell_of_row _ _ 3 _ _ (0,0) hb).trans rfl,(cell_of_row _ _ 4 _ _ (0,0) hb).trans rfl⟩
def noAtr:Atr:=⟨⟨#[]⟩,0,0,0,⟨#[]⟩,0,⟨none,0,0⟩,⟨none,0,0⟩,⟨none,0,0⟩⟩
theorem ja1 {a b c:World} {g:Nat} (h:a.grownBy b (some g)) (k:b.grownBy c (some g)):a.grownBy c (some g) :=
 ⟨k.os.trans h.os,k.tape.trans h.tape,k.output.trans h.output,Nat.le_trans h.size k.size,fun j hj hne=>(k.block j (Nat.lt_of_lt_of_le hj h.size) hne).trans (h.block j hj hne)⟩
abbrev jne (w:World) (B:Nat) (a0 a1 a2 a3 a4 a5 a6 a7 a8:Value):World :=
 ((((((((w.setCell ⟨B,0,none⟩ a0).setCell ⟨B,1,none⟩ a1).setCell ⟨B,2,none⟩ a2).setCell ⟨B,3,none⟩ a3).setCell ⟨B,4,none⟩ a4).setCell ⟨B,5,none⟩ a5).setCell ⟨B,6,none⟩ a6).setCell ⟨B,7,none⟩ a7).setCell ⟨B,8,none⟩ a8
theorem jgK {w:World} {B:Nat} {z0 z1 z2 z3 z4 z5 z6 z7 z8:Value} (hb:w.heap[B]?=some (.cells #[z0,z1,z2,z3,z4,z5,z6,z7,z8] 78 (0,0))) :
    w.frozen? ⟨B,0,none⟩=false∧w.frozen? ⟨B,1,none⟩=false∧w.frozen? ⟨B,2,none⟩=false∧w.frozen? ⟨B,3,none⟩=false∧w.frozen? ⟨B,4,none⟩=false∧w.frozen? ⟨B,5,none⟩=false∧w.frozen? ⟨B,6,none⟩=false∧w.frozen? ⟨B,7,none⟩=false∧w.frozen? ⟨B,8,none⟩=false :=
     ⟨frozen_of_row w B 0 _ _ hb,frozen_of_row w B 1 _ _ hb,frozen_of_row w B 2 _ _ hb,frozen_of_row w B 3 _ _ hb,frozen_of_row w B 4 _ _ hb,frozen_of_row w B 5 _ _ hb,frozen_of_row w B 6 _ _ hb,frozen_of_row w B 7 _ _ hb,frozen_of_row w B 8 _ _ hb⟩
theorem jbl (w:World) (o o':Obj):((w.alloc o).alloc o').heap[w.heap.size]?=some o∧((w.alloc o).alloc o').heap[w.heap.size+1]?=some o':=by
 refine ⟨jag (heap_alloc_new w o) (jab _ _),?_⟩;have:=heap_alloc_new (w.alloc o) o';simpa using this
end Go.Proofs.YtbgbpfbjeleooaaGreat
