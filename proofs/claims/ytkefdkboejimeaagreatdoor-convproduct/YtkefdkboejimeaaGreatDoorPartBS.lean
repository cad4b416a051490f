/- A part. -/
import Derived.Test.YtkefdkboejimeaaGreatDoorPartBI
import Derived.Test.YtkefdkboejimeaaGreatDoorPartBH
import Derived.ArgAppend
namespace Go.Proofs.YtkefdkboejimeaaGreatDoor
open Go.RowKit
theorem jd4 (w : World) (o0 o1 o2 o3 : Obj) : ∀ W, W = (((w.alloc o0).alloc o1).alloc o2).alloc o3 → W.heap[w.heap.size]? = some o0 ∧ W.heap[w.heap.size + 1]? = some o1 ∧ W.heap[w.heap.size + 1 + 1]? = some o2 ∧ W.heap[w.heap.size + 1 + 1 + 1]? = some o3 ∧ w.grownBy W none ∧ W.heap.size = w.heap.size + 1 + 1 + 1 + 1 := by
 rintro W rfl
 obtain ⟨a0, z0⟩ := jbr o0 (x := w) rfl
 obtain ⟨a1, z1⟩ := jbr o1 z0
 obtain ⟨a2, z2⟩ := jbr o2 z1
 obtain ⟨a3, z3⟩ := jbr o3 z2
 exact ⟨jc5 _ (jc5 _ (jc5 _ a0)), jc5 _ (jc5 _ a1), jc5 _ a2, a3, jaa (jaa (jaa (jab _ _) (jab _ _)) (jab _ _)) (jab _ _), z3⟩
end Go.Proofs.YtkefdkboejimeaaGreatDoor
