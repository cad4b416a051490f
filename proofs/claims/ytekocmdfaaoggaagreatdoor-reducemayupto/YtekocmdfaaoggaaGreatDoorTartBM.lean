/- A part. -/
import Derived.Test.YtekocmdfaaoggaaGreatDoorTartAB
import Derived.RangeFuncNested
import Derived.RangeFuncBound
import Derived.RangeFuncCalls
import Derived.RangeFuncLeaves
import Derived.Shelf.Abstract
import Derived.Shelf.RegionOpen
import Derived.OwnWalkIn
import Derived.TacticsInMore
import Derived.LoopNIn
import Derived.LoopIn
import Derived.Deep.RegionWith
namespace Go.Proofs.YtekocmdfaaoggaaGreatDoor.Vw
open Go.RowKit Go.Shelf
attribute [local go_sem] Oper.semAt_some
structure Kpv (A B:Nat) (W W':World):Prop where
 size:W.heap.size≤W'.heap.size
 same:∀ (k:Nat) (o:Obj),W.heap[k]?=some o→o.isCells=true→k≠A→k≠B→W'.heap[k]?=some o
theorem Kpv.refl (A B:Nat) (W:World):Kpv A B W W:=⟨Nat.le_refl _,fun _ _ h _ _ _=>h⟩
theorem Kpv.trans {A B:Nat} {X Y Z:World} (h:Kpv A B X Y) (k:Kpv A B Y Z):Kpv A B X Z:=⟨Nat.le_trans h.size k.size,fun i o hi ho ha hb=>k.same i o (h.same i o hi ho ha hb) ho ha hb⟩
theorem Kpv.grown {A B:Nat} {X Y:World} (h:X.grownBy Y none):Kpv A B X Y:=⟨h.size,fun k _ hk _ _ _=>(h.block k (Array.getElem?_eq_some_iff.1 hk).1 (by simp)).trans hk⟩
theorem Kpv.cell {A B:Nat} {X Y:World} (h:Kpv A B X Y) {a:Addr} {v:Value} (hc:X.cell? a=some v) (ha:a.block≠A) (hb:a.block≠B):Y.cell? a=some v:=by
 obtain ⟨o,ho,hi⟩:=cells_of_cell hc;rw [← hc];exact World.cell?_of_block ((h.same _ o ho hi ha hb).trans ho.symm)
end Go.Proofs.YtekocmdfaaoggaaGreatDoor.Vw
