/- Joined texts: VwAlong, VwSeq. -/
import Derived.Test.YtkefdkboejimeaaGreatDoorRartAB
import Derived.RangeFuncNested
import Derived.RangeFuncBound
import Derived.RangeFuncCalls
import Derived.RangeFuncLeaves
import Derived.Shelf.Abstract
import Derived.Shelf.RegionOpen
import Derived.OwnWalkIn
import Derived.TacticsInMore
import Derived.LoopNIn
import Derived.LoopIn
import Derived.Deep.RegionWith
namespace Go.Proofs.YtkefdkboejimeaaGreatDoor.Vw

open Go.RowKit Go.Shelf

attribute [local go_sem] Oper.semAt_some

structure Kpv (A B : Nat) (W W' : World) : Prop where
  size : W.heap.size ≤ W'.heap.size
  same : ∀ (k : Nat) (o : Obj), W.heap[k]? = some o → o.isCells = true → k ≠ A → k ≠ B → W'.heap[k]? = some o

theorem Kpv.refl (A B : Nat) (W : World) : Kpv A B W W := ⟨Nat.le_refl _, fun _ _ h _ _ _ => h⟩
theorem Kpv.trans {A B : Nat} {X Y Z : World} (h : Kpv A B X Y) (k : Kpv A B Y Z) : Kpv A B X Z := ⟨Nat.le_trans h.size k.size, fun i o hi ho ha hb => k.same i o (h.same i o hi ho ha hb) ho ha hb⟩
theorem Kpv.grown {A B : Nat} {X Y : World} (h : X.grownBy Y none) : Kpv A B X Y := ⟨h.size, fun k _ hk _ _ _ => (h.block k (Array.getElem?_eq_some_iff.1 hk).1 (by simp)).trans hk⟩
theorem Kpv.cell {A B : Nat} {X Y : World} (h : Kpv A B X Y) {a : Addr} {v : Value} (hc : X.cell? a = some v) (ha : a.block ≠ A) (hb : a.block ≠ B) : Y.cell? a = some v := by
  obtain ⟨o, ho, hi⟩ := cells_of_cell hc
  rw [← hc]
  exact World.cell?_of_block ((h.same _ o ho hi ha hb).trans ho.symm)

theorem wrap_small {z : Int} (h0 : 0 ≤ z) (h1 : z ≤ 9223372036854775807) : IntKind.i64.wrap z = z := by
  rw [IntKind.wrap_i64]
  omega

end Go.Proofs.YtkefdkboejimeaaGreatDoor.Vw

namespace Go.Proofs.YtkefdkboejimeaaGreatDoor.Vw

open Go.RowKit Go.Shelf

attribute [local go_sem] Oper.semAt_some

theorem places_any (off : Int) (dv sv : Value) (w : World) :
    Calls Tryz.prog 108 #[.agg #[.int .i64 off, dv, sv]] w fun e w' => e = .returned (.func (.func 130) #[] #[.pointer (some ⟨w.heap.size, 0, none⟩)]) ∧ w' = w.alloc (.cells #[.int .i64 off, dv, sv] 105) := by
  go_enter Tryz.func108, Tryz.ntmps108
  go_wp2
  go_ret
  exact ⟨rfl, rfl⟩

end Go.Proofs.YtkefdkboejimeaaGreatDoor.Vw
