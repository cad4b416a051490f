/- The document's Spread, by the walk. -/
import Derived.Test.YtankpkbneojgdaaVSpread
import Derived.Test.YtankpkbneojgdaaVCopy
import Derived.Test.YtankpkbneojgdaaVRMay
import Derived.Test.YtankpkbneojgdaaSRBc
import Derived.Deep.RegionWith
import Derived.Deep.RegionHeld3
import Derived.Deep.LoopGhost
namespace Go.Proofs.Ytankpkbneojgdaa
open Go.RowKit

theorem item_at' {w : World} {ao : Option Addr} {cap len : Nat} {zs : List Int} (h : IsInts w (.slice ao len cap) zs) {k : Nat} (hk : k < zs.length) : ∃ b off, ao = some ⟨b, off, none⟩ ∧ w.cell? ⟨b, off + k, none⟩ = some (.int .i64 (zs.getD k 0)) := by
  obtain ⟨b, off, rfl⟩ := addr_of h (by omega)
  exact ⟨b, off, rfl, item_at h hk⟩

theorem row_form {w : World} {base : Nat} {e : TypeId} {v : Value} {n : Nat} {xs : List Value} (h : w.ownsRow base e 1 v n xs) : ∃ a c, v = .slice a n c := by
  rcases h.2 with ⟨rfl, rfl⟩ | ⟨g, cap, cur, rfl, _⟩
  · exact ⟨_, _, rfl⟩
  · exact ⟨_, _, rfl⟩

theorem step_box {w3 wd w6 : World} {o one : Obj} {zv : Value} {e : TypeId} {n : Nat} {xs : List Value} (hb : wd.heap[w3.heap.size]? = some o) (hg : w3.grownBy wd none) (hown : wd.ownsRow (w3.heap.size + 1) e 1 zv n xs) (hgrow : (wd.alloc one).grownBy w6 zv.ownBlock) :
    w6.heap[w3.heap.size]? = some o ∧ w3.grownBy w6 none := by
  have h1 := box_kept hb (grown_new wd one)
  refine ⟨(hgrow.block _ (Array.getElem?_eq_some_iff.1 h1).1 (fun e => ?_)).trans h1, grown_trans_row (grown_trans hg (grown_new wd one)) hgrow (fun g hg' => ?_)⟩
  · have := (hown.lt _ e.symm).1; omega
  · have := (hown.lt _ hg').1; omega

theorem step_store {w3 w6 : World} {a b c v : Value} {e : TypeId} {n : Nat} {xs : List Value} (hb : w6.heap[w3.heap.size]? = some (.cells #[a, b, c] 24 (0, 0))) (hown : w6.ownsRow (w3.heap.size + 1) e 1 v n xs) (hg : w3.grownBy w6 none) :
    (w6.setCell ⟨w3.heap.size, 2, none⟩ v).heap[w3.heap.size]? = some (.cells #[a, b, v] 24 (0, 0)) ∧ (w6.setCell ⟨w3.heap.size, 2, none⟩ v).ownsRow (w3.heap.size + 1) e 1 v n xs ∧ w3.grownBy (w6.setCell ⟨w3.heap.size, 2, none⟩ v) none := by
  have h1 := heap_setCell_same w6 w3.heap.size 2 _ _ v hb
  have g1 : w6.grownBy (w6.setCell ⟨w3.heap.size, 2, none⟩ v) (some w3.heap.size) := ⟨rfl, rfl, rfl, by simp [World.setCell], fun k _ hk => Below.heap_setCell _ _ _ _ (fun e => hk (by rw [e]))⟩
  exact ⟨by simpa using h1, hown.kept g1 (Or.inr (fun e => by have := (hown.lt _ e).1; omega)), grown_trans_row hg g1 (fun r e => by cases e; exact Nat.le_refl _)⟩

end Go.Proofs.Ytankpkbneojgdaa
