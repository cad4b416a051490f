/- A part. -/
import Derived.Test.YtkefdkboejimeaaGreatDoorPartAB
import Derived.RangeFuncNested
import Derived.RangeFuncBound
import Derived.RangeFuncCalls
import Derived.RangeFuncLeaves
namespace Go.Proofs.YtkefdkboejimeaaGreatDoor
open Go.RowKit
def jpR (D : Nat) : Deferred := { target := .collected D, args := #[] }
theorem jeG {F : Fence} {n : Nat} {P : Program} {fn : Func} {tmps : Array Value} {R : Ending → World → Prop} {base : World} : ∀ (Ds : List Nat) (W : World), base.grownBy W none → (∀ D ∈ Ds, base.heap.size ≤ D ∧ W.heap[D]? = some (.deferred (some []))) → Ds.Nodup → (∀ W', base.grownBy W' none → LeavesInM F n P fn tmps R [] .returning W') →
    LeavesInM F n P fn tmps R (Ds.map jpR) .returning W
     | [], W, hg, _, _, h => h W hg
     | D :: Ds, W, hg, hD, hn, h => by
      obtain ⟨hb, hk⟩ := hD D (by simp)
      refine ⟨by simp, .inl ⟨D, W.putObj D (.deferred none), rfl, run_takeDeferred hk, ?_⟩⟩
      rw [List.nodup_cons] at hn
      refine jeG Ds _ (jah hg (grownBy_putObj' W D (.deferred none)) (fun r e => by cases e; exact hb)) (fun D' h' => ?_) hn.2 h
      obtain ⟨hb', hk'⟩ := hD D' (by simp [h'])
      have hne : D' ≠ D := fun e => hn.1 (by rw [← e]; exact h')
      exact ⟨hb', (World.putObj_heap_other (by omega)).trans hk'⟩
end Go.Proofs.YtkefdkboejimeaaGreatDoor
