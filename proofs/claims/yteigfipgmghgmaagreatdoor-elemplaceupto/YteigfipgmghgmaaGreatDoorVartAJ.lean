/- A part. -/
import Derived.Test.YteigfipgmghgmaaGreatDoorVartAI
import Derived.Test.YteigfipgmghgmaaGreatDoorVartAF
import Derived.Test.YteigfipgmghgmaaGreatDoorVartAC
namespace Go.Proofs.YteigfipgmghgmaaGreatDoor
open Go.RowKit
def jdq (z:Int):List Value:=[.int .i64 z]
theorem jeD (z:Int):(jdq z).length=1:=rfl
theorem jup (zs:List Int):zs.flatMap jdq=zs.map (Value.int .i64):=by
 induction zs with
 | nil=>rfl
 | cons z l ih=>rw [List.flatMap_cons,ih];rfl
def New (n m:Nat) (v:Value):Prop:=∀ k,v.ownBlock=some k→n≤k∧k<m
theorem New.mono {n m n' m':Nat} {v:Value} (h:New n m v) (hn:n'≤n) (hm:m≤m'):New n' m' v:=fun k hk=>by have:=h k hk;omega
theorem jqd {w:World} {v:Value} {zs:List Int} (h:IsInts w v zs):IsL 8 1 jdq w v zs:=by
 obtain ⟨ao,cap,rfl,h1,h2,h3,h4,h5,h6⟩:=h;refine ⟨ao,cap,rfl,h1,h2,h3,h4,fun hl=>?_⟩;obtain ⟨b,off,rfl,hc⟩:=h5 hl;refine ⟨b,off,rfl,fun k hk j hj=>?_⟩;obtain rfl:j=0:=by omega
 rw [Nat.mul_one,Nat.add_zero,hc k hk];exact ⟨by simp [jdq,List.getD,hk],by simp [jdq]⟩
theorem jht {w:World} {v:Value} {zs:List Int} (h:IsL 8 1 jdq w v zs) (hwf:∀ z∈zs,-9223372036854775808≤z∧z≤9223372036854775807):IsInts w v zs:=by
 obtain ⟨ao,cap,rfl,h1,h2,h3,h4,h5⟩:=h;refine ⟨ao,cap,rfl,h1,h2,h3,h4,fun hl=>?_,hwf⟩;obtain ⟨b,off,rfl,hc⟩:=h5 hl;refine ⟨b,off,rfl,fun k hk=>?_⟩;obtain ⟨e,-⟩:=hc k hk 0 (by omega);rw [Nat.mul_one,Nat.add_zero] at e;rw [e];simp [jdq,List.getD,hk]
theorem jm6:(Tryz.prog.info? 2).map (fun i=>(i.zero,i.size,i.bytes))=some (some (.int .i64 0),1,8):=by kernel_rfl
end Go.Proofs.YteigfipgmghgmaaGreatDoor
namespace Go.Proofs.YteigfipgmghgmaaGreatDoor
open Go.RowKit
theorem jm7:(Tryz.prog.info? 32).map (·.size)=some 3:=by kernel_rfl
theorem jm8 {fn : Func} {p : Tmp} (h : fn.results = #[.cell p 32]) (tmps : Array Value) (w : World) (B : Nat) (hp : tmps.getD p undef = .pointer (some ⟨B, 0, none⟩)) {a0 a1 a2 : Value}
    (hb:w.heap[B]?=some (.cells #[a0,a1,a2] 32 (0,0))):(results fn tmps).run Tryz.prog w=.ok (.agg #[a0,a1,a2]) w :=
     results_cell_row h tmps w B 32 #[a0,a1,a2] (0,0) _ hp hb Tryz.underlying32 rfl (by rw [jm7];rfl)
theorem jb0 {w3:World} {B:Nat} {z0 z1 z2:Value} {t:TypeId} (a b c:Value) (hb:w3.heap[B]?=some (.cells #[z0,z1,z2] t (0,0))) :
    (((w3.setCell ⟨B,0,none⟩ a).setCell ⟨B,1,none⟩ b).setCell ⟨B,2,none⟩ c).heap[B]?=some (.cells #[a,b,c] t (0,0))∧w3.grownBy (((w3.setCell ⟨B,0,none⟩ a).setCell ⟨B,1,none⟩ b).setCell ⟨B,2,none⟩ c) (some B):=by
     have h1:=heap_setCell_same w3 B 0 _ _ a hb;have h2:=heap_setCell_same _ B 1 _ _ b h1;have h3:=heap_setCell_same _ B 2 _ _ c h2
     have g:∀ (x:World) (j:Nat) (v:Value),x.grownBy (x.setCell ⟨B,j,none⟩ v) (some B):=fun x j v =>
      ⟨rfl,rfl,rfl,by simp [World.setCell],fun k _ hk=>Below.heap_setCell _ _ _ _ (fun e=>hk (by rw [e]))⟩
     exact ⟨by simpa using h3,jbe (jbe (g w3 0 a) (g _ 1 b)) (g _ 2 c)⟩
theorem jbf {w:World} {B:Nat} {z0 z1 z2:Value} {t:TypeId} (hb:w.heap[B]?=some (.cells #[z0,z1,z2] t (0,0))) :
    w.frozen? ⟨B,0,none⟩=false∧w.frozen? ⟨B,1,none⟩=false∧w.frozen? ⟨B,2,none⟩=false :=
     ⟨frozen_of_row w B 0 _ _ hb,frozen_of_row w B 1 _ _ hb,frozen_of_row w B 2 _ _ hb⟩
end Go.Proofs.YteigfipgmghgmaaGreatDoor
namespace Go.Proofs.YteigfipgmghgmaaGreatDoor
open Go.RowKit
structure Cont where
 d:List Int
 t:List Int
 i:List Int
def jhu (a:Atr):Atr:=⟨a.name,a.kind,a.f,a.i,a.s,a.ty,⟨none,0,0⟩,⟨none,0,0⟩,⟨none,0,0⟩⟩
structure Has (w:World) (a:Atr) (c:Cont):Prop where
 d:IsInts w a.dv.v c.d
 t:IsInts w a.tv.v c.t
 i:IsInts w a.iv.v c.i
def Apt (u v:Value):Prop:=∀ k,u.ownBlock=some k→v.ownBlock≠some k
structure NewA (n m:Nat) (a:Atr):Prop where
 d:New n m a.dv.v
 t:New n m a.tv.v
 i:New n m a.iv.v
structure ApA (a:Atr) (v:Value):Prop where
 d:Apt a.dv.v v
 t:Apt a.tv.v v
 i:Apt a.iv.v v
theorem Has.kept {w w':World} {a:Atr} {c:Cont} (h:Has w a c) (hk:∀ b,b<w.heap.size→(a.dv.v.ownBlock=some b∨a.tv.v.ownBlock=some b∨a.iv.v.ownBlock=some b)→w'.heap[b]?=w.heap[b]?):Has w' a c :=
 ⟨h.d.kept fun b hb e=>hk b hb (Or.inl e),h.t.kept fun b hb e=>hk b hb (Or.inr (Or.inl e)),h.i.kept fun b hb e=>hk b hb (Or.inr (Or.inr e))⟩
theorem Has.more {w w':World} {a:Atr} {c:Cont} (h:Has w a c) (hg:w.grownBy w' none):Has w' a c:=⟨h.d.more hg,h.t.more hg,h.i.more hg⟩
theorem NewA.mono {n m n' m':Nat} {a:Atr} (h:NewA n m a) (hn:n'≤n) (hm:m≤m'):NewA n' m' a:=⟨h.d.mono hn hm,h.t.mono hn hm,h.i.mono hn hm⟩
theorem NewA.any {n m:Nat} {a:Atr} (h:NewA n m a) {b:Nat} (e:a.dv.v.ownBlock=some b∨a.tv.v.ownBlock=some b∨a.iv.v.ownBlock=some b):n≤b∧b<m:=by
 rcases e with e | e | e
 ·exact h.d b e
 ·exact h.t b e
 ·exact h.i b e
theorem ApA.any {a:Atr} {v:Value} (h:ApA a v) {b:Nat} (e:a.dv.v.ownBlock=some b∨a.tv.v.ownBlock=some b∨a.iv.v.ownBlock=some b):v.ownBlock≠some b:=by
 rcases e with e | e | e
 ·exact h.d b e
 ·exact h.t b e
 ·exact h.i b e
theorem ApA.of {a:Atr} {v:Value} (h:∀ b,(a.dv.v.ownBlock=some b∨a.tv.v.ownBlock=some b∨a.iv.v.ownBlock=some b)→v.ownBlock≠some b):ApA a v :=
 ⟨fun b e=>h b (Or.inl e),fun b e=>h b (Or.inr (Or.inl e)),fun b e=>h b (Or.inr (Or.inr e))⟩
structure CInv (W2:World) (O b2:Nat) (op nam out:ByteArray) (I:Sl) (xs:List Atr) (cs:List Cont) (k:Nat) (wr:World) (v:Sl) (ys:List Atr):Prop where
 box:wr.heap[O]?=some (.cells #[.string op,.string nam,.slice I.a I.n I.c,.string out,.slice v.a v.n v.c] 25 (0,0))
 own:jaW 92 9 jeC wr b2 v.v ys
 len:ys.length=k
 eq:ys.map jhu=(xs.take k).map jhu
 has:∀ (j:Nat) (a:Atr) (c:Cont),ys[j]?=some a→cs[j]?=some c→Has wr a c
 new:∀ a∈ys,NewA b2 wr.heap.size a∧ApA a v.v
 grown:W2.grownBy wr (some O)
theorem jeY (a:Atr):(jeC a).length=9:=rfl
theorem jlI {xs:List Atr} {k:Nat} (hk:k<xs.length):(xs.take (k+1)).map jhu=(xs.take k).map jhu++[jhu xs[k]]:=by
 rw [List.take_add_one,List.map_append,List.getElem?_eq_getElem hk]
 rfl
theorem CInv.step {W2 : World} {O b2 : Nat} {op nam out : ByteArray} {I : Sl} {xs : List Atr} {cs : List Cont} {k : Nat} {wr W9 : World} {v v' : Sl} {ys : List Atr} {y : Atr} {lo : Nat} (h : CInv W2 O b2 op nam out I xs cs k wr v ys) (hk : k < xs.length) (hO : O < b2) (hW2 : W2.heap.size ≤ b2) (hb2 : b2 ≤ wr.heap.size) (hlo0 : wr.heap.size ≤ lo)
    (kp:∀ b,b<wr.heap.size→b≠O→v.v.ownBlock≠some b→W9.heap[b]?=wr.heap[b]?) (hsz:wr.heap.size≤W9.heap.size) (hos:W9.os=wr.os) (htp:W9.tape=wr.tape) (hout:W9.output=wr.output)
    (box:W9.heap[O]?=some (.cells #[.string op,.string nam,.slice I.a I.n I.c,.string out,.slice v'.a v'.n v'.c] 25 (0,0)))
    (own:jaW 92 9 jeC W9 b2 v'.v (ys++[y])) (hst:jhu y=jhu xs[k]) (hy:∀ c,cs[k]?=some c→Has W9 y c) (hny:NewA wr.heap.size lo y) (hlo:lo≤W9.heap.size) (hay:∀ b,v'.v.ownBlock=some b→v.v.ownBlock=some b∨lo≤b):CInv W2 O b2 op nam out I xs cs (k+1) W9 v' (ys++[y]):=by
     have vlt:∀ b,v.v.ownBlock=some b→b2≤b∧b<wr.heap.size:=fun b e=>World.ownsRow.lt h.own b e;refine ⟨box,own,by rw [List.length_append,h.len];rfl,by rw [List.map_append,h.eq,jlI hk];simp [hst],?_,?_,?_⟩
     ·intro j a c ha hc
      by_cases hj:j<ys.length
      ·rw [List.getElem?_append_left hj] at ha;have hm:=h.new a (List.mem_of_getElem? ha);refine (h.has j a c ha hc).kept fun b hb e=>kp b hb ?_ (hm.2.any e);have:=hm.1.any e;omega
      ·obtain rfl : j = ys.length := by
         have:=(List.getElem?_eq_some_iff.1 ha).1;rw [List.length_append] at this;simp at this;omega
       rw [List.getElem?_append_right (Nat.le_refl _),Nat.sub_self] at ha;obtain rfl:y=a:=by simpa using ha
       exact hy c (by rw [← h.len];exact hc)
     ·intro a ha
      rcases List.mem_append.1 ha with ha | ha
      ·have hm:=h.new a ha;refine ⟨hm.1.mono (Nat.le_refl _) hsz,ApA.of fun b e hv=>?_⟩;have h1:=hm.1.any e
       rcases hay b hv with h2 | h2
       ·exact hm.2.any e h2
       ·omega
      ·obtain rfl:a=y:=by simpa using ha
       refine ⟨hny.mono hb2 hlo,ApA.of fun b e hv=>?_⟩;have h1:=hny.any e
       rcases hay b hv with h2 | h2
       ·have:=vlt b h2;omega
       ·omega
     ·refine ⟨hos.trans h.grown.os,htp.trans h.grown.tape,hout.trans h.grown.output,Nat.le_trans h.grown.size hsz,fun b hb hne=>?_⟩;refine (kp b (Nat.lt_of_lt_of_le hb h.grown.size) (fun e=>hne (by rw [e])) (fun e=>?_)).trans (h.grown.block b hb hne);have:=vlt b e;omega
structure Copied (w w':World) (n:Nod) (ins:List ByteArray) (xs:List Atr) (cs:List Cont) (iv av:Sl) (ys:List Atr):Prop where
 ins:jaW 9 1 jgo w' w.heap.size iv.v ins
 own:jaW 92 9 jeC w' w.heap.size av.v ys
 eq:ys.map jhu=xs.map jhu
 has:∀ (j:Nat) (a:Atr) (c:Cont),ys[j]?=some a→cs[j]?=some c→Has w' a c
 new:∀ a∈ys,NewA w.heap.size w'.heap.size a∧ApA a av.v∧ApA a iv.v
 apt:Apt iv.v av.v
 grown:w.grownBy w' none
end Go.Proofs.YteigfipgmghgmaaGreatDoor
