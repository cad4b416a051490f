/- A part. -/
import Derived.Test.YtekocmdfaaoggaaGreatDoorTartAB
import Derived.Laws.ResultCell
set_option maxHeartbeats 800000
namespace Go.Proofs.YtekocmdfaaoggaaGreatDoor.Vw
open Go.RowKit
def jfv (w:World) (base:Nat) (u:Value) (off:Int) (ds ss:List Int):Prop :=
 ∃ dv sv,u=.agg #[.int .i64 off,dv,sv]∧Owns w base dv ds∧Owns w base sv ss ∧ -9223372036854775808≤off∧off≤9223372036854775807∧(dv.ownBlock=none∨dv.ownBlock≠sv.ownBlock)
theorem jfv.new {w w':World} {base:Nat} {u:Value} {off:Int} {ds ss:List Int} (h:jfv w base u off ds ss) (hg:w.grownBy w' none):jfv w' base u off ds ss:=by
 obtain ⟨dv,sv,rfl,h1,h2,h3,h4,h5⟩:=h;exact ⟨dv,sv,rfl,h1.new hg,h2.new hg,h3,h4,h5⟩
theorem jfv.nil (w:World) (base:Nat):jfv w base (.agg #[.int .i64 0,.slice none 0 0,.slice none 0 0]) 0 [] [] :=
 ⟨_,_,rfl,jbj _ _,jbj _ _,by omega,by omega,Or.inl rfl⟩
theorem jeX (v:Value) (zs:List Int) (w:World) (h:jak w v zs) :
    Calls Tryz.prog 116 #[v] w fun e w'=>∃ u,e=.returned u∧Owns w' w.heap.size u zs∧w.grownBy w' none:=by
     have h3:=h.le;have H:=jac h;obtain ⟨ao,cap,rfl,h1,h2,_,h4,-,-⟩:=h;have heq:=fun wx=>Lib.run_eql_slice_nil (P:=Tryz.prog) wx 29 3 ao zs.length cap 0 0 Tryz.underlying29
     cases ao with
     | none =>
      obtain ⟨rfl,rfl⟩:=h4 rfl;have heq0:=fun wx=>Lib.run_eql_slice_nil (P:=Tryz.prog) wx 29 3 none 0 0 0 0 Tryz.underlying29;simp only [List.length_nil];clear heq H;go_enter Tryz.func116,Tryz.ntmps116;go_wp2;go_ret;exact ⟨_,rfl,jbj _ _,jae _⟩
     | some ad =>
      have O0:Owns (w.alloc (.cells #[] 3)) w.heap.size (.slice (some ⟨w.heap.size,0,none⟩) 0 0) [] :=
       ⟨by simpa using World.ownsRow_lit (base:=w.heap.size) (e:=3) (size:=1) w #[] 0 (Nat.le_refl _) (by simp [maxLen]) rfl,by simp,fun z hz=>by simp at hz⟩
      have g0:=jab w (.cells #[] 3);have H0:=jac (H.out.more g0);go_enter Tryz.func116,Tryz.ntmps116;go_wp2_with (at_builtin;refine jdc rfl (.tmp 5) (.tmp 6) rfl w.heap.size _ [] rfl O0 _ zs rfl H0.out ?_ ?_ ?_;(simpa using h3);simp;intro v' w1 hown hgrow);go_ret;exact ⟨_,rfl,by simpa using hown,jav g0 hgrow (fun g hg=>by cases hg;exact Nat.le_refl _)⟩
end Go.Proofs.YtekocmdfaaoggaaGreatDoor.Vw
namespace Go.Proofs.YtekocmdfaaoggaaGreatDoor.Vw
open Go.RowKit
theorem jaf {w w':World} {B:Nat} {o:Obj} (hb:w.heap[B]?=some o) (hg:w.grownBy w' none):w'.heap[B]?=some o:=(hg.block B (Array.getElem?_eq_some_iff.1 hb).1 (by simp)).trans hb
theorem _root_.Go.Proofs.YtekocmdfaaoggaaGreatDoor.Owns.box {w w':World} {base B:Nat} {v:Value} {zs:List Int} (h:Owns w base v zs) (hg:w.grownBy w' (some B)) (hB:B<base):Owns w' base v zs :=
 h.more hg (Or.inr (fun e=>by have:=(h.lt B e).1;omega))
theorem jaJ (w:World) (o o':Obj):((w.alloc o).alloc o').heap[w.heap.size]?=some o∧((w.alloc o).alloc o').heap[w.heap.size+1]?=some o':=by
 constructor
 ·rw [Below.heap_alloc _ _ _ (by simp)];exact heap_alloc_new w o
 ·have:=heap_alloc_new (w.alloc o) o';simpa using this
end Go.Proofs.YtekocmdfaaoggaaGreatDoor.Vw
namespace Go.Proofs.YtekocmdfaaoggaaGreatDoor.Vw
open Go.RowKit
structure IsPerm (perm:List Int) (n:Nat):Prop where
 len:perm.length=n
 rng:∀ p∈perm,0≤p∧p<n
 once:perm.Nodup
def jbc (l perm:List Int):List Int:=perm.map (fun p=>l.getD p.toNat 0)
structure Met (m:Array Value) (perm:List Int) (k:Nat):Prop where
 size:m.size=6
 mark:∀ j:Nat,j<6→m[j]?=some (.bool (decide ((j:Int)∈perm.take k)))
theorem Met.cell {m:Array Value} {perm:List Int} {k B:Nat} {e:TypeId} {w:World} (h:Met m perm k) (hb:w.heap[B]?=some (.cells m e (0,0))) (j:Nat) (hj:j<6):w.cell? ⟨B,j,none⟩=some (.bool (decide ((j:Int)∈perm.take k))) :=
 (cell_of_row w B j m e (0,0) hb).trans (h.mark j hj)
theorem Met.put {m:Array Value} {perm:List Int} {k p:Nat} (h:Met m perm k) (hs:perm.take (k+1)=perm.take k++[(p:Int)]) (_hp:p<6):Met (m.setIfInBounds p (.bool true)) perm (k+1):=by
 refine ⟨by simpa using h.size,fun j hj=>?_⟩;rw [hs,Array.getElem?_setIfInBounds]
 by_cases e:p=j
 ·subst e;simp [h.size,hj]
 ·rw [if_neg e,h.mark j hj];have:¬ (j:Int)=(p:Int):=by omega
  simp [this]
end Go.Proofs.YtekocmdfaaoggaaGreatDoor.Vw
namespace Go.Proofs.YtekocmdfaaoggaaGreatDoor.Vw
theorem jhX:∀ (l m:List Int),l.Nodup→(∀ x∈l,x∈m)→l.length≤m.length
 | [],_,_,_=>by simp
 | a::l,m,hn,hs=>by
  rw [List.nodup_cons] at hn;have h1:=hs a (by simp);have ih:=jhX l (m.erase a) hn.2 fun x hx=>(List.mem_erase_of_ne (fun e=>hn.1 (by rw [← e];exact hx))).2 (hs x (by simp [hx]));rw [List.length_erase_of_mem h1] at ih;have:=List.length_pos_of_mem h1;simp only [List.length_cons];omega
theorem IsPerm.hits {perm:List Int} {n:Nat} (h:IsPerm perm n) (j:Nat) (hj:j<n):∃ i,i<n∧perm.getD i 0=j:=by
 have hm:(j:Int)∈perm:=by
  by_cases hm:(j:Int)∈perm
  ·exact hm
  ·have h1 := jhX ((j : Int) :: perm) ((List.range n).map (fun (i : Nat) => (i : Int))) (List.nodup_cons.2 ⟨hm, h.once⟩) (fun y hy => by
     rcases List.mem_cons.1 hy with rfl | hy
     ·exact List.mem_map.2 ⟨j,List.mem_range.2 hj,rfl⟩
     ·have:=h.rng y hy;exact List.mem_map.2 ⟨y.toNat,List.mem_range.2 (by omega),by omega⟩)
   simp [h.len] at h1;omega
 obtain ⟨i,hi,e⟩:=List.mem_iff_getElem.1 hm;exact ⟨i,by rw [← h.len];exact hi,by simp [List.getD,hi,e]⟩
theorem IsPerm.at {perm:List Int} {n:Nat} (h:IsPerm perm n) (i:Nat) (hi:i<n):∃ j:Nat,j<n∧perm.getD i 0=j:=by
 have hl:=h.len;have:=h.rng (perm.getD i 0) (by rw [List.getD,List.getElem?_eq_getElem (by omega)];simp);exact ⟨(perm.getD i 0).toNat,by omega,by omega⟩
theorem IsPerm.inj {perm:List Int} {n:Nat} (h:IsPerm perm n) {i j:Nat} (hi:i<n) (hj:j<n) (e:perm.getD i 0=perm.getD j 0):i=j:=by
 have hl:=h.len;have h1:perm[i]'(by omega)=perm[j]'(by omega):=by simpa [List.getD,show i<perm.length by omega,show j<perm.length by omega] using e
 exact (List.getElem_inj h.once).1 h1
def jrC (perm l:List Int) (n:Nat):Prop:=l.length=n∧∀ i:Nat,i<n→l.getD (perm.getD i 0).toNat 0=i
theorem jrC.perm {perm l:List Int} {n:Nat} (h:IsPerm perm n) (ht:jrC perm l n):IsPerm l n:=by
 have hat:∀ j,j<n→∃ i:Nat,i<n∧l.getD j 0=i∧perm.getD i 0=j:=fun j hj=>by
  obtain ⟨i,hi,e⟩:=h.hits j hj;refine ⟨i,hi,?_,e⟩;have:=ht.2 i hi;rw [e,Int.toNat_natCast] at this;exact this
 refine ⟨ht.1,fun p hp=>?_,?_⟩
 ·obtain ⟨j,hj,e⟩:=List.mem_iff_getElem.1 hp;obtain ⟨i,hi,e1,_⟩:=hat j (by rw [← ht.1];exact hj);have:p=(i:Int):=by rw [← e,← e1];simp [List.getD,hj]
  omega
 ·rw [List.nodup_iff_pairwise_ne,List.pairwise_iff_getElem];intro a b ha hb hab e;obtain ⟨i,hi,e1,e2⟩:=hat a (by rw [← ht.1];exact ha);obtain ⟨k,hk,e3,e4⟩:=hat b (by rw [← ht.1];exact hb);have h1:l.getD a 0=l.getD b 0:=by simp [List.getD,ha,hb,e]
  have:i=k:=by omega
  subst this;omega
end Go.Proofs.YtekocmdfaaoggaaGreatDoor.Vw
