/- A part. -/
import Derived.Test.YteigfipgmghgmaaGreatDoorVartAB
import Derived.Deep.LoopGhost
import Derived.Deep.AppendLies
import Derived.Deep.RegionHeld3
import Derived.Deep.RegionWith
import Derived.Deep.RegionLaw
import Derived.Deep.CutRange
set_option maxHeartbeats 1600000
set_option maxRecDepth 100000
namespace Go.Proofs.YteigfipgmghgmaaGreatDoor
open Go.RowKit
def IsL {α:Type} (bytes size:Nat) (f:α→List Value) (w:World) (v:Value) (xs:List α):Prop :=
 ∃ ao cap,v=.slice ao xs.length cap∧xs.length≤cap∧cap≤9223372036854775807∧xs.length*bytes≤140737488351232∧(ao=none→xs=[]∧cap=0) ∧
  (0<xs.length→∃ b off,ao=some ⟨b,off,none⟩∧∀ k (hk:k<xs.length) j,j<size→w.cell? ⟨b,off+k*size+j,none⟩=(f xs[k])[j]?∧(f xs[k])[j]?≠none)
theorem IsL.kept {α:Type} {bytes size:Nat} {f:α→List Value} {w w':World} {v:Value} {xs:List α} (h:IsL bytes size f w v xs) (hk:∀ b,b<w.heap.size→v.ownBlock=some b→w'.heap[b]?=w.heap[b]?):IsL bytes size f w' v xs:=by
 obtain ⟨ao,cap,rfl,h1,h2,h3,h4,h5⟩:=h;refine ⟨ao,cap,rfl,h1,h2,h3,h4,fun hl=>?_⟩;obtain ⟨b,off,rfl,hc⟩:=h5 hl;refine ⟨b,off,rfl,fun k hk' j hj=>?_⟩;obtain ⟨e,hne⟩:=hc k hk' j hj;refine ⟨?_,hne⟩
 cases hx:(f xs[k])[j]? with
 | none=>exact absurd hx hne
 | some x =>
  rw [hx] at e;rw [← e];exact World.cell?_of_block (hk b (World.block_lt_of_cell? w _ e) rfl)
theorem IsL.more {α:Type} {bytes size:Nat} {f:α→List Value} {w w':World} {v:Value} {xs:List α} (h:IsL bytes size f w v xs) (hg:w.grownBy w' none):IsL bytes size f w' v xs:=h.kept fun b hb _=>hg.block b hb (by simp)
theorem IsL.form {α:Type} {bytes size:Nat} {f:α→List Value} {w:World} {v:Value} {xs:List α} (h:IsL bytes size f w v xs):∃ ao cap,v=.slice ao xs.length cap∧xs.length≤cap∧cap≤9223372036854775807∧xs.length*bytes≤140737488351232:=by
 obtain ⟨ao,cap,e,h1,h2,h3,-,-⟩:=h;exact ⟨ao,cap,e,h1,h2,h3⟩
theorem IsL.nil {α:Type} (bytes size:Nat) (f:α→List Value) (w:World):IsL bytes size f w (.slice none 0 0) [] :=
 ⟨none,0,rfl,Nat.le_refl _,by decide,by simp,fun _=>⟨rfl,rfl⟩,fun h=>(by simp at h)⟩
theorem IsL.addr {α:Type} {bytes size:Nat} {f:α→List Value} {w:World} {ao:Option Addr} {len cap:Nat} {xs:List α} (h:IsL bytes size f w (.slice ao len cap) xs) {k:Nat} (hk:k<xs.length) :
    ∃ b off,ao=some ⟨b,off,none⟩:=by
     obtain ⟨ao',cap',e,_,_,_,_,h5⟩:=h
     cases e
     obtain ⟨b,off,e',-⟩:=h5 (by omega);exact ⟨b,off,e'⟩
theorem IsL.at {α:Type} {bytes size:Nat} {f:α→List Value} {w:World} {b off len cap:Nat} {xs:List α} (h:IsL bytes size f w (.slice (some ⟨b,off,none⟩) len cap) xs) (k:Nat) (hk:k<xs.length) (j:Nat) (hj:j<size) :
    w.cell? ⟨b,off+k*size+j,none⟩=(f xs[k])[j]?:=by
     obtain ⟨ao',cap',e,_,_,_,_,h5⟩:=h
     cases e
     obtain ⟨b',off',e',hc⟩:=h5 (by omega)
     cases e'
     exact (hc k hk j hj).1
theorem jkX {α:Type} {f:α→List Value} {size:Nat} (hf:∀ a,(f a).length=size) (xs:List α):(xs.flatMap f).length=xs.length*size:=by
 induction xs with
 | nil=>simp
 | cons a l ih=>rw [List.flatMap_cons,List.length_append,ih,hf,List.length_cons,Nat.add_mul];omega
theorem jhl {α:Type} {f:α→List Value} {size:Nat} (hf:∀ a,(f a).length=size) (xs:List α) (k j:Nat) (hk:k<xs.length) (hj:j<size):(xs.flatMap f)[k*size+j]?=(f xs[k])[j]?:=by
 induction xs generalizing k with
 | nil=>simp at hk
 | cons a l ih =>
  rw [List.flatMap_cons]
  cases k with
  | zero=>rw [List.getElem?_append_left (by rw [hf];omega)];simp
  | succ k =>
   rw [List.getElem?_append_right (by rw [hf,Nat.add_mul];omega)];have e:(k+1)*size+j - (f a).length=k*size+j:=by rw [hf,Nat.add_mul];omega
   rw [e,ih k (by simpa using hk)];simp
def jaW {α:Type} (te:TypeId) (size:Nat) (f:α→List Value) (w:World) (base:Nat) (v:Value) (xs:List α):Prop :=
 w.ownsRow base te size v xs.length (xs.flatMap f)
theorem jaW.kept {α:Type} {te:TypeId} {size:Nat} {f:α→List Value} {w w':World} {base:Nat} {v:Value} {xs:List α} (h:jaW te size f w base v xs) {row:Option Nat} (hg:w.grownBy w' row) (hr:∀ g,row=some g→g<base):jaW te size f w' base v xs:=by
 refine World.ownsRow.kept h hg ?_
 cases hv:v.ownBlock with
 | none=>exact .inl rfl
 | some k =>
  refine .inr fun e=>?_;have h1:=World.ownsRow.lt h k hv;have h2:=hr k e.symm;omega
theorem jaW.more {α:Type} {te:TypeId} {size:Nat} {f:α→List Value} {w w':World} {base:Nat} {v:Value} {xs:List α} (h:jaW te size f w base v xs) (hg:w.grownBy w' none):jaW te size f w' base v xs:=h.kept hg (by simp)
theorem jaW.nil {α:Type} (te:TypeId) (size:Nat) (f:α→List Value) (w:World) (base:Nat):jaW te size f w base (.slice none 0 0) []:=World.ownsRow_nil _ _ _ _
theorem jaW.base_le {α:Type} {te:TypeId} {size:Nat} {f:α→List Value} {w:World} {base b':Nat} {v:Value} {xs:List α} (h:jaW te size f w base v xs) (hb:b'≤base):jaW te size f w b' v xs:=by
 refine ⟨h.1,?_⟩
 rcases h.2 with h0 | ⟨g,cap,cur,e,hg,r⟩
 ·exact .inl h0
 ·exact .inr ⟨g,cap,cur,e,by omega,r⟩
theorem jaW.form {α:Type} {te:TypeId} {size:Nat} {f:α→List Value} {w:World} {base:Nat} {v:Value} {xs:List α} (h:jaW te size f w base v xs):∃ ao cap,v=.slice ao xs.length cap:=by
 rcases h.2 with ⟨rfl,h0⟩ | ⟨g,cap,cur,rfl,_⟩
 ·exact ⟨none,0,by rw [h0]⟩
 ·exact ⟨_,_,rfl⟩
theorem jaW.isL {α:Type} {te:TypeId} {size bytes:Nat} {f:α→List Value} (hf:∀ a,(f a).length=size) {w:World} {base:Nat} {v:Value} {xs:List α} (h:jaW te size f w base v xs) (hl:xs.length*bytes≤140737488351232):IsL bytes size f w v xs:=by
 have h0:=h
 rcases h.2 with ⟨rfl,hn⟩ | ⟨g,cap,cur,rfl,_,_,hnc,hcm,_,_⟩
 ·obtain rfl:xs=[]:=List.length_eq_zero_iff.1 hn;exact IsL.nil _ _ _ _
 ·refine ⟨_,cap,rfl,hnc,by simpa [maxLen] using hcm,hl,(fun h=>by cases h),fun _=>⟨g,0,rfl,fun k hk j hj=>?_⟩⟩
  have hlt:k*size+j<xs.length*size:=by
   have:(k+1)*size≤xs.length*size:=Nat.mul_le_mul_right _ hk;rw [Nat.add_mul] at this;omega
  rw [Nat.zero_add,World.ownsRow.cellAt h0 _ (by exact hlt),jhl hf xs k j hk hj];exact ⟨rfl,by simp [hf,hj]⟩
structure Sl where
 a:Option Addr
 n:Nat
 c:Nat
abbrev Sl.v (s:Sl):Value:=.slice s.a s.n s.c
structure Atr where
 name:ByteArray
 kind:Int
 f:Int
 i:Int
 s:ByteArray
 ty:Int
 dv:Sl
 tv:Sl
 iv:Sl
def jeC (a:Atr):List Value:=[.string a.name,.int .i64 a.kind,.int .i64 a.f,.int .i64 a.i,.string a.s,.int .i64 a.ty,.slice a.dv.a a.dv.n a.dv.c,.slice a.tv.a a.tv.n a.tv.c,.slice a.iv.a a.iv.n a.iv.c]
def jlB (a:Atr):Value:=.agg #[.string a.name,.int .i64 a.kind,.int .i64 a.f,.int .i64 a.i,.string a.s,.int .i64 a.ty,.slice a.dv.a a.dv.n a.dv.c,.slice a.tv.a a.tv.n a.tv.c,.slice a.iv.a a.iv.n a.iv.c]
abbrev jbR (w:World) (v:Value) (xs:List Atr):Prop:=IsL 136 9 jeC w v xs
theorem IsL.attr {w:World} {b off len cap:Nat} {xs:List Atr} (h:IsL 136 9 jeC w (.slice (some ⟨b,off,none⟩) len cap) xs) (k:Nat) (hk:k<xs.length) :
    w.cell? ⟨b,off+k*9,none⟩=some (.string xs[k].name)∧w.cell? ⟨b,off+k*9+1,none⟩=some (.int .i64 xs[k].kind)∧w.cell? ⟨b,off+k*9+2,none⟩=some (.int .i64 xs[k].f)∧w.cell? ⟨b,off+k*9+3,none⟩=some (.int .i64 xs[k].i)∧w.cell? ⟨b,off+k*9+4,none⟩=some (.string xs[k].s)∧w.cell? ⟨b,off+k*9+5,none⟩=some (.int .i64 xs[k].ty)∧w.cell? ⟨b,off+k*9+6,none⟩=some (.slice xs[k].dv.a xs[k].dv.n xs[k].dv.c)∧w.cell? ⟨b,off+k*9+7,none⟩=some (.slice xs[k].tv.a xs[k].tv.n xs[k].tv.c)∧w.cell? ⟨b,off+k*9+8,none⟩=some (.slice xs[k].iv.a xs[k].iv.n xs[k].iv.c):=by
     have f:=fun j hj=>h.at k hk j hj;exact ⟨f 0 (by omega),f 1 (by omega),f 2 (by omega),f 3 (by omega),f 4 (by omega),f 5 (by omega),f 6 (by omega),f 7 (by omega),f 8 (by omega)⟩
theorem jaR {w:World} {B:Nat} {a:Atr} (hb:w.heap[B]?=some (.cells #[.string a.name,.int .i64 a.kind,.int .i64 a.f,.int .i64 a.i,.string a.s,.int .i64 a.ty,.slice a.dv.a a.dv.n a.dv.c,.slice a.tv.a a.tv.n a.tv.c,.slice a.iv.a a.iv.n a.iv.c] 92 (0,0))) :
    w.cell? ⟨B,0,none⟩=some (.string a.name)∧w.cell? ⟨B,1,none⟩=some (.int .i64 a.kind)∧w.cell? ⟨B,2,none⟩=some (.int .i64 a.f)∧w.cell? ⟨B,3,none⟩=some (.int .i64 a.i)∧w.cell? ⟨B,4,none⟩=some (.string a.s)∧w.cell? ⟨B,5,none⟩=some (.int .i64 a.ty)∧w.cell? ⟨B,6,none⟩=some (.slice a.dv.a a.dv.n a.dv.c)∧w.cell? ⟨B,7,none⟩=some (.slice a.tv.a a.tv.n a.tv.c)∧w.cell? ⟨B,8,none⟩=some (.slice a.iv.a a.iv.n a.iv.c) :=
     ⟨(cell_of_row _ _ 0 _ _ (0,0) hb).trans rfl,(cell_of_row _ _ 1 _ _ (0,0) hb).trans rfl,(cell_of_row _ _ 2 _ _ (0,0) hb).trans rfl,(cell_of_row _ _ 3 _ _ (0,0) hb).trans rfl,(cell_of_row _ _ 4 _ _ (0,0) hb).trans rfl,(cell_of_row _ _ 5 _ _ (0,0) hb).trans rfl,(cell_of_row _ _ 6 _ _ (0,0) hb).trans rfl,(cell_of_row _ _ 7 _ _ (0,0) hb).trans rfl,(cell_of_row _ _ 8 _ _ (0,0) hb).trans rfl⟩
theorem jbY {w:World} {B:Nat} {x:Value} {t:TypeId} (hb:w.heap[B]?=some (.cells #[x] t (0,0))):w.cell? ⟨B,0,none⟩=some x:=(cell_of_row _ _ 0 _ _ (0,0) hb).trans rfl
end Go.Proofs.YteigfipgmghgmaaGreatDoor
namespace Go.Proofs.YteigfipgmghgmaaGreatDoor
open Go.RowKit
theorem jag {w w':World} {B:Nat} {o:Obj} (hb:w.heap[B]?=some o) (hg:w.grownBy w' none):w'.heap[B]?=some o:=(hg.block B (Array.getElem?_eq_some_iff.1 hb).1 (by simp)).trans hb
def isA (nm:ByteArray) (kd:Int) (a:Atr):Bool:=(a.name.toList==nm.toList)&&(a.kind==kd)
theorem jlC (a:Atr) (p q:Nat) (nm:ByteArray) (kd:Int) (w:World) (hp:w.heap[p]?=some (.cells #[.string nm] 9 (0,0))) (hq:w.heap[q]?=some (.cells #[.int .i64 kd] 3 (0,0))) :
    Calls Tryz.prog 91 #[jlB a,.pointer (some ⟨p,0,none⟩),.pointer (some ⟨q,0,none⟩)] w fun e w'=>e=.returned (.bool (isA nm kd a))∧w.grownBy w' none:=by
     have g0:=jab w (.cells #[.string a.name,.int .i64 a.kind,.int .i64 a.f,.int .i64 a.i,.string a.s,.int .i64 a.ty,.slice a.dv.a a.dv.n a.dv.c,.slice a.tv.a a.tv.n a.tv.c,.slice a.iv.a a.iv.n a.iv.c] 92);obtain ⟨c0,c1,-⟩:=jaR (heap_alloc_new w (.cells #[.string a.name,.int .i64 a.kind,.int .i64 a.f,.int .i64 a.i,.string a.s,.int .i64 a.ty,.slice a.dv.a a.dv.n a.dv.c,.slice a.tv.a a.tv.n a.tv.c,.slice a.iv.a a.iv.n a.iv.c] 92));have cp:=jbY (jag hp g0);have cq:=jbY (jag hq g0);have G0:=jac g0;clear hp hq g0;unfold jlB
     by_cases hn:(a.name.toList==nm.toList)=true
     ·go_enter Tryz.func91,Tryz.ntmps91;go_wp2;go_ret;exact ⟨by simp [isA,hn],G0.out⟩
     ·have hn':(a.name.toList==nm.toList)=false:=by simpa using hn
      clear hn;go_enter Tryz.func91,Tryz.ntmps91;go_wp2;go_ret;exact ⟨by simp [isA,hn'],G0.out⟩
def jcy {α:Type} (P:α→Bool):List α→Nat→Int
 | [],_ => -1
 | x::l,k=>if P x then k else jcy P l (k+1)
theorem jfq {α:Type} {P:α→Bool} {xs:List α} {k:Nat} (hk:k<xs.length) (h:P xs[k]=true):jcy P (xs.drop k) k=k:=by
 rw [List.drop_eq_getElem_cons hk,jcy,if_pos h]
theorem jdT {α:Type} {P:α→Bool} {xs:List α} {k:Nat} (hk:k<xs.length) (h:P xs[k]=false):jcy P (xs.drop k) k=jcy P (xs.drop (k+1)) (k+1):=by
 rw [List.drop_eq_getElem_cons hk,jcy,if_neg (by rw [h];decide)]
theorem jjG (v:Value) (xs:List Atr) (p q:Nat) (nm:ByteArray) (kd:Int) (w:World) (hv:jbR w v xs) (hp:w.heap[p]?=some (.cells #[.string nm] 9 (0,0))) (hq:w.heap[q]?=some (.cells #[.int .i64 kd] 3 (0,0))) :
    Calls Tryz.prog 90 #[v,.func (.func 91) #[] #[.pointer (some ⟨p,0,none⟩),.pointer (some ⟨q,0,none⟩)]] w fun e w'=>e=.returned (.int .i64 (jcy (isA nm kd) xs 0))∧w.grownBy w' none:=by
     have HV:=jac hv;obtain ⟨ao,cap,rfl,h1,h2,h3⟩:=hv.form;have HP:=jac hp;have HQ:=jac hq;clear hv hp hq;go_enter Tryz.func90,Tryz.ntmps90;go_wp2_with fail;go_loopw [8] (fun i wr=>w.grownBy wr none∧∃ k:Nat,k≤xs.length∧i=.int .i64 k∧jcy (isA nm kd) xs 0=jcy (isA nm kd) (xs.drop k) k) (fun i _=>xs.length - (intOf i).toNat)
     case atStart=>exact ⟨jad _,0,Nat.zero_le _,rfl,rfl⟩
     case round =>
      obtain ⟨hg,k,hk,rfl,hpl⟩:=hrel;have HPL:=jac hpl;clear hpl
      by_cases hlt:k<xs.length
      ·have HVk:=HV.out.more hg;obtain ⟨b,off,rfl⟩:=HVk.addr hlt;obtain ⟨a0,a1,a2,a3,a4,a5,a6,a7,a8⟩:=HVk.attr k hlt;have NA:=jac (fun (wx:World) (hx:w.grownBy wx none)=>jlC xs[k] p q nm kd wx (jag HP.out hx) (jag HQ.out hx));clear HVk;go_wp2_with fail;refine (NA.out wr hg).mono ?_;rintro e w1 ⟨rfl,hg1⟩;have g1:=jaa hg hg1
       cases ht:isA nm kd xs[k] with
       | true =>
        have HT:=jac ht;clear ht;go_wp2;go_ret;exact ⟨by rw [HPL.out,jfq hlt HT.out];rfl,g1⟩
       | false =>
        have HT:=jac ht;clear ht;go_wp2;go_roundw
        case rel=>exact ⟨g1,k+1,by omega,by go_num,by rw [HPL.out,jdT hlt HT.out]⟩
        case measure=>simp [intOf];omega
      ·obtain rfl:k=xs.length:=by omega
       go_wp2;go_ret;exact ⟨by rw [HPL.out,List.drop_of_length_le (Nat.le_refl _)];rfl,hg⟩
theorem jc6 {α:Type} (P:α→Bool):∀ (xs:List α) (k:Nat),(jcy P xs k = -1∧xs.find? P=none)∨∃ j,∃ hj:j<xs.length,jcy P xs k=((k+j:Nat):Int)∧xs.find? P=some xs[j]
 | [],k=>Or.inl ⟨rfl,rfl⟩
 | x::l,k=>by
  cases h:P x with
  | true=>exact Or.inr ⟨0,by simp,by simp [jcy,h],by simp [h]⟩
  | false =>
   rcases jc6 P l (k+1) with ⟨e1,e2⟩ | ⟨j,hj,e1,e2⟩
   ·exact Or.inl ⟨by simp [jcy,h,e1],by simp [h,e2]⟩
   ·exact Or.inr ⟨j+1,by simpa using hj,by simp only [jcy,h,e1];simp;omega,by simp [h,e2]⟩
structure Nod where
 op:ByteArray
 name:ByteArray
 iv:Sl
 out:ByteArray
 av:Sl
def jaz (n:Nod):Value:=.agg #[.string n.op,.string n.name,.slice n.iv.a n.iv.n n.iv.c,.string n.out,.slice n.av.a n.av.n n.av.c]
theorem jak {w:World} {B:Nat} {n:Nod} (hb:w.heap[B]?=some (.cells #[.string n.op,.string n.name,.slice n.iv.a n.iv.n n.iv.c,.string n.out,.slice n.av.a n.av.n n.av.c] 25 (0,0))) :
    w.cell? ⟨B,0,none⟩=some (.string n.op)∧w.cell? ⟨B,1,none⟩=some (.string n.name)∧w.cell? ⟨B,2,none⟩=some (.slice n.iv.a n.iv.n n.iv.c)∧w.cell? ⟨B,3,none⟩=some (.string n.out)∧w.cell? ⟨B,4,none⟩=some (.slice n.av.a n.av.n n.av.c) :=
     ⟨(cell_of_row _ _ 0 _ _ (0,0) hb).trans rfl,(cell_of_row _ _ 1 _ _ (0,0) hb).trans rfl,(cell_of_row _ _ 2 _ _ (0,0) hb).trans rfl,(cell_of_row _ _ 3 _ _ (0,0) hb).trans rfl,(cell_of_row _ _ 4 _ _ (0,0) hb).trans rfl⟩
def jcM:Atr:=⟨⟨#[]⟩,0,0,0,⟨#[]⟩,0,⟨none,0,0⟩,⟨none,0,0⟩,⟨none,0,0⟩⟩
theorem jbe {a b c:World} {g:Nat} (h:a.grownBy b (some g)) (k:b.grownBy c (some g)):a.grownBy c (some g) :=
 ⟨k.os.trans h.os,k.tape.trans h.tape,k.output.trans h.output,Nat.le_trans h.size k.size,fun j hj hne=>(k.block j (Nat.lt_of_lt_of_le hj h.size) hne).trans (h.block j hj hne)⟩
abbrev put9 (w:World) (B:Nat) (a0 a1 a2 a3 a4 a5 a6 a7 a8:Value):World :=
 ((((((((w.setCell ⟨B,0,none⟩ a0).setCell ⟨B,1,none⟩ a1).setCell ⟨B,2,none⟩ a2).setCell ⟨B,3,none⟩ a3).setCell ⟨B,4,none⟩ a4).setCell ⟨B,5,none⟩ a5).setCell ⟨B,6,none⟩ a6).setCell ⟨B,7,none⟩ a7).setCell ⟨B,8,none⟩ a8
theorem jb9 {w w3:World} {B:Nat} {z0 z1 z2 z3 z4 z5 z6 z7 z8:Value} (a0 a1 a2 a3 a4 a5 a6 a7 a8:Value) (hg:w.grownBy w3 none) (hB:w.heap.size≤B) (hb:w3.heap[B]?=some (.cells #[z0,z1,z2,z3,z4,z5,z6,z7,z8] 92 (0,0))) :
    (put9 w3 B a0 a1 a2 a3 a4 a5 a6 a7 a8).heap[B]?=some (.cells #[a0,a1,a2,a3,a4,a5,a6,a7,a8] 92 (0,0))∧w.grownBy (put9 w3 B a0 a1 a2 a3 a4 a5 a6 a7 a8) none:=by
     have h1:=heap_setCell_same w3 B 0 _ _ a0 hb;have h2:=heap_setCell_same _ B 1 _ _ a1 h1;have h3:=heap_setCell_same _ B 2 _ _ a2 h2;have h4:=heap_setCell_same _ B 3 _ _ a3 h3;have h5:=heap_setCell_same _ B 4 _ _ a4 h4;have h6:=heap_setCell_same _ B 5 _ _ a5 h5;have h7:=heap_setCell_same _ B 6 _ _ a6 h6;have h8:=heap_setCell_same _ B 7 _ _ a7 h7;have h9:=heap_setCell_same _ B 8 _ _ a8 h8
     have g:∀ (x:World) (j:Nat) (v:Value),x.grownBy (x.setCell ⟨B,j,none⟩ v) (some B):=fun x j v =>
      ⟨rfl,rfl,rfl,by simp [World.setCell],fun k _ hk=>Below.heap_setCell _ _ _ _ (fun e=>hk (by rw [e]))⟩
     have g9:=jbe (jbe (jbe (jbe (jbe (jbe (jbe (jbe (g w3 0 a0) (g _ 1 a1)) (g _ 2 a2)) (g _ 3 a3)) (g _ 4 a4)) (g _ 5 a5)) (g _ 6 a6)) (g _ 7 a7)) (g _ 8 a8);exact ⟨by simpa using h9,jan hg g9 (fun r e=>by cases e;exact hB)⟩
theorem jbF {w:World} {B:Nat} {z0 z1 z2 z3 z4 z5 z6 z7 z8:Value} (hb:w.heap[B]?=some (.cells #[z0,z1,z2,z3,z4,z5,z6,z7,z8] 92 (0,0))) :
    w.frozen? ⟨B,0,none⟩=false∧w.frozen? ⟨B,1,none⟩=false∧w.frozen? ⟨B,2,none⟩=false∧w.frozen? ⟨B,3,none⟩=false∧w.frozen? ⟨B,4,none⟩=false∧w.frozen? ⟨B,5,none⟩=false∧w.frozen? ⟨B,6,none⟩=false∧w.frozen? ⟨B,7,none⟩=false∧w.frozen? ⟨B,8,none⟩=false :=
     ⟨frozen_of_row w B 0 _ _ hb,frozen_of_row w B 1 _ _ hb,frozen_of_row w B 2 _ _ hb,frozen_of_row w B 3 _ _ hb,frozen_of_row w B 4 _ _ hb,frozen_of_row w B 5 _ _ hb,frozen_of_row w B 6 _ _ hb,frozen_of_row w B 7 _ _ hb,frozen_of_row w B 8 _ _ hb⟩
theorem jp2:(Tryz.prog.info? 92).map (·.size)=some 9:=by kernel_rfl
theorem jmX {fn : Func} {p u : Tmp} (h : fn.results = #[.cell p 92, .tmp u]) (tmps : Array Value) (w : World) (B : Nat) (hp : tmps.getD p undef = .pointer (some ⟨B, 0, none⟩)) {a0 a1 a2 a3 a4 a5 a6 a7 a8 : Value}
    (hb:w.heap[B]?=some (.cells #[a0,a1,a2,a3,a4,a5,a6,a7,a8] 92 (0,0))):(results fn tmps).run Tryz.prog w=.ok (.tuple #[.agg #[a0,a1,a2,a3,a4,a5,a6,a7,a8],tmps.getD u undef]) w:=by
     have hl:=run_loadVar_row (P:=Tryz.prog) w B _ 92 #[a0,a1,a2,a3,a4,a5,a6,a7,a8] (0,0) _ hb Tryz.underlying92 rfl (by rw [jp2];rfl);rw [results_cell_tmp h,hp];simp [asAddr,hl,Result.andThen]
theorem jbi (w:World) (o o':Obj):((w.alloc o).alloc o').heap[w.heap.size]?=some o∧((w.alloc o).alloc o').heap[w.heap.size+1]?=some o':=by
 refine ⟨jag (heap_alloc_new w o) (jab _ _),?_⟩;have:=heap_alloc_new (w.alloc o) o';simpa using this
theorem jcd (n:Nod) (xs:List Atr) (p q:Nat) (nm:ByteArray) (kd:Int) (w:World) (hv:jbR w n.av.v xs) (hp:w.heap[p]?=some (.cells #[.string nm] 9 (0,0))) (hq:w.heap[q]?=some (.cells #[.int .i64 kd] 3 (0,0))) :
    Calls Tryz.prog 57 #[jaz n,.func (.func 91) #[] #[.pointer (some ⟨p,0,none⟩),.pointer (some ⟨q,0,none⟩)]] w fun e w'=>e=.returned (.tuple #[jlB ((xs.find? (isA nm kd)).getD jcM),.bool (xs.find? (isA nm kd)).isSome])∧w.grownBy w' none:=by
     obtain ⟨op,nam,⟨ia,il,ic⟩,out,⟨ao,al,cap⟩⟩:=n;simp only at hv;obtain ⟨ao',cap',hav,h1,h2,h3⟩:=hv.form;obtain ⟨rfl,rfl,rfl⟩ : ao=ao'∧al=xs.length∧cap=cap':=by simpa [Sl.v] using hav
     have HV:=jac hv;clear hv hav;unfold jaz;obtain ⟨w0,hw0⟩ : ∃ w0,w0=(w.alloc (.cells #[.string op,.string nam,.slice ia il ic,.string out,.slice ao xs.length cap] 25)).alloc (.cells #[.string ⟨#[]⟩,.int .i64 0,.int .i64 0,.int .i64 0,.string ⟨#[]⟩,.int .i64 0,.slice none 0 0,.slice none 0 0,.slice none 0 0] 92):=⟨_,rfl⟩
     have g0:w.grownBy w0 none:=by rw [hw0];exact jaa (jab _ _) (jab _ _)
     have hbx:=jbi w (.cells #[.string op,.string nam,.slice ia il ic,.string out,.slice ao xs.length cap] 25) (.cells #[.string ⟨#[]⟩,.int .i64 0,.int .i64 0,.int .i64 0,.string ⟨#[]⟩,.int .i64 0,.slice none 0 0,.slice none 0 0,.slice none 0 0] 92);rw [← hw0] at hbx;have BX:=jac hbx;have IX:=jac (jjG _ xs p q nm kd w0 (HV.out.more g0) (jag hp g0) (jag hq g0));clear hp hq hbx;go_enter Tryz.func57,Tryz.ntmps57;go_wp2_with fail;rw [← hw0];clear hw0;refine IX.out.mono ?_;rintro e w1 ⟨rfl,hg1⟩;have g1:=jaa g0 hg1;have B1:=jac (And.intro (jag BX.out.1 hg1) (jag BX.out.2 hg1));obtain ⟨-,-,-,-,n4⟩:=jak (n:=⟨op,nam,⟨ia,il,ic⟩,out,⟨ao,xs.length,cap⟩⟩) B1.out.1;obtain ⟨f0,f1,f2,f3,f4,f5,f6,f7,f8⟩:=jbF B1.out.2;obtain ⟨k0,k1,k2,k3,k4,k5,k6,k7,k8⟩:=jaR (a:=jcM) B1.out.2
     rcases jc6 (isA nm kd) xs 0 with ⟨e1,e2⟩ | ⟨j,hj,e1,e2⟩
     ·rw [e1];have E2:=jac e2;obtain ⟨hX,gX⟩:=jb9 (.string ⟨#[]⟩) (.int .i64 0) (.int .i64 0) (.int .i64 0) (.string ⟨#[]⟩) (.int .i64 0) (.slice none 0 0) (.slice none 0 0) (.slice none 0 0) g1 (show w.heap.size≤w.heap.size+1 by omega) B1.out.2;have HX:=jac hX;have GX:=jac gX;clear hX gX e1 e2;go_wp2;refine bodyPost_ret (jmX rfl _ _ (w.heap.size+1) rfl HX.out) rfl ?_;exact ⟨by rw [E2.out];rfl,GX.out⟩
     ·rw [e1];have E2:=jac e2;have HV1:=HV.out.more g1;obtain ⟨b,off,rfl⟩:=HV1.addr hj;obtain ⟨a0,a1,a2,a3,a4,a5,a6,a7,a8⟩:=HV1.attr j hj;obtain ⟨hX,gX⟩:=jb9 (.string xs[j].name) (.int .i64 xs[j].kind) (.int .i64 xs[j].f) (.int .i64 xs[j].i) (.string xs[j].s) (.int .i64 xs[j].ty) (.slice xs[j].dv.a xs[j].dv.n xs[j].dv.c) (.slice xs[j].tv.a xs[j].tv.n xs[j].tv.c) (.slice xs[j].iv.a xs[j].iv.n xs[j].iv.c) g1 (show w.heap.size≤w.heap.size+1 by omega) B1.out.2;have HX:=jac hX;have GX:=jac gX;clear hX gX e1 e2 HV1;rw [show ((0+j:Nat):Int)=(j:Int) by simp];go_wp2;refine bodyPost_ret (jmX rfl _ _ (w.heap.size+1) rfl HX.out) rfl ?_;exact ⟨by rw [E2.out];rfl,GX.out⟩
end Go.Proofs.YteigfipgmghgmaaGreatDoor
namespace Go.Proofs.YteigfipgmghgmaaGreatDoor
open Go.RowKit
theorem jp3:(Tryz.prog.info? 4).map (fun i=>(i.zero,i.size,i.bytes))=some (some (.bool false),1,1):=by kernel_rfl
def jd8 (w:World) (base B:Nat) (bs:List Bool):Prop:=w.ownsRow base 4 1 (.slice (some ⟨B,0,none⟩) bs.length bs.length) bs.length (bs.map Value.bool)
theorem jd8.at {w:World} {base B:Nat} {bs:List Bool} (h:jd8 w base B bs) {k:Nat} {v:Bool} (hk:bs[k]?=some v):w.cell? ⟨B,k,none⟩=some (.bool v)∧w.frozen? ⟨B,k,none⟩=false:=by
 refine ⟨?_,World.ownsRow.frozenAt h k⟩;rw [World.ownsRow.cellAt h k (by have:=(List.getElem?_eq_some_iff.1 hk).1;omega),List.getElem?_map,hk]
 rfl
theorem jd8.set {w:World} {base B:Nat} {bs:List Bool} (h:jd8 w base B bs) (k:Nat) (x:Bool):jd8 (w.setCell ⟨B,k,none⟩ (.bool x)) base B (bs.set k x)∧w.grownBy (w.setCell ⟨B,k,none⟩ (.bool x)) (some B):=by
 have s:=World.ownsRow.stored h k (.bool x);rw [← List.map_set] at s;refine ⟨?_,s.2⟩;unfold jd8;rw [List.length_set];exact s.1
theorem jd8.lt {w:World} {base B:Nat} {bs:List Bool} (h:jd8 w base B bs):base≤B∧B<w.heap.size:=World.ownsRow.lt h B rfl
theorem jd8.new {w w':World} {base B:Nat} {bs:List Bool} (h:jd8 w base B bs) (hg:w.grownBy w' none):jd8 w' base B bs:=World.ownsRow.kept h hg (.inr (by simp [Value.ownBlock]))
end Go.Proofs.YteigfipgmghgmaaGreatDoor
