/- Graphs of any size: notions (mkFull.py). -/
import Derived.Test.YtflalpchhojenaaDoorGCopyGJ
import Derived.Test.YtflalpchhojenaaDoorGKeyJ
import Derived.Test.YtflalpchhojenaaDoorNCopyFJ
import Derived.Test.YtflalpchhojenaaDoorNSameFJ
namespace Go.Proofs.YtflalpchhojenaaDoor
open Go.RowKit

/-- A graph that comes in, of any size. -/
structure GraphIn0 (w : World) (g : Gra) (nds : List Nc) (vin vout : List (Val × List Int)) (its : List (Nam × List Int × List Int)) : Prop where
  nodes : IsNods w g.nv.v (nds.map (·.n))
  ins : IsVals w g.iv.v (vin.map (·.1))
  outs : IsVals w g.ov.v (vout.map (·.1))
  inits : IsNams w g.tv.v (its.map (·.1))
  node : ∀ c ∈ nds, NodeIn0 w c.n c.ins c.xs c.cs
  din : ∀ p ∈ vin, IsInts w p.1.dv.v p.2
  dout : ∀ p ∈ vout, IsInts w p.1.dv.v p.2
  dinit : ∀ p ∈ its, IsInts w p.1.dv.v p.2.1 ∧ IsInts w p.1.tv.v p.2.2

theorem GraphIn0.more {w w' : World} {g : Gra} {nds : List Nc} {vin vout : List (Val × List Int)} {its : List (Nam × List Int × List Int)} (h : GraphIn0 w g nds vin vout its) (hg : w.grownBy w' none) : GraphIn0 w' g nds vin vout its :=
  ⟨h.nodes.more hg, h.ins.more hg, h.outs.more hg, h.inits.more hg, fun c hc => (h.node c hc).more hg, fun p hp => (h.din p hp).more hg, fun p hp => (h.dout p hp).more hg, fun p hp => ⟨(h.dinit p hp).1.more hg, (h.dinit p hp).2.more hg⟩⟩

def nodH0 (w : World) (n : Nod) (q : Ni) : Prop := NodeIn0 w n q.ins q.xs q.cs

theorem nodFeet0 : Feet nodH0 nodFt := fun _ _ _ _ h hk => ⟨h.ins.kept fun b hb e => hk b hb (Or.inl e), h.av.kept fun b hb e => hk b hb (Or.inr (Or.inl e)), fun j a e => by
  obtain ⟨c, e1, e2⟩ := h.has j a e
  exact ⟨c, e1, e2.kept fun b hb e3 => hk b hb (Or.inr (Or.inr ⟨a, List.mem_of_getElem? e, e3⟩))⟩⟩

abbrev OwnNods0 (w : World) (lo hi : Nat) (v : Value) (ps : List (Nod × Ni)) : Prop := OwnD 42 5 ncells nodH0 nodFt w lo hi v ps

/-- The copy of the nodes, as far as it goes. -/
structure NInv0 (W1 : World) (B : Nat) (nam : ByteArray) (ui uo : Sl) (cs : List Nc) (k : Nat) (wr : World) (v : Sl) (ms : List (Nod × Ni)) : Prop where
  box : wr.heap[B]? = some (.cells #[.string nam, .slice v.a v.n v.c, .slice ui.a ui.n ui.c, .slice uo.a uo.n uo.c, .slice none 0 0] 26 (0, 0))
  own : OwnNods0 wr W1.heap.size wr.heap.size v.v ms
  len : (ms.map (·.1)).length = k
  key : (ms.map toNc).map nkey = (cs.take k).map nkey
  grown : W1.grownBy wr (some B)

/-- What Copy answers. -/
structure CopiedG0 (w w' : World) (g : Gra) (cs : List Nc) (vin vout : List (Val × List Int)) (its : List (Nam × List Int × List Int)) (h : Gra) (ms : List (Nod × Ni)) (vi vo : List (Val × List Int)) (ts : List (Nam × List Int × List Int)) (i0 i1 o0 o1 n0 n1 t0 t1 : Nat) : Prop where
  name : h.name = g.name
  ins : OwnVals w' i0 i1 h.iv.v vi
  outs : OwnVals w' o0 o1 h.ov.v vo
  nodes : OwnNods0 w' n0 n1 h.nv.v ms
  inits : OwnNams w' t0 t1 h.tv.v ts
  ki : vi.map vkey = vin.map vkey
  ko : vo.map vkey = vout.map vkey
  kn : (ms.map toNc).map nkey = cs.map nkey
  kt : ts.map mkey = its.map mkey
  apt : (i1 ≤ o0 ∨ o1 ≤ i0) ∧ i1 ≤ n0 ∧ o1 ≤ n0 ∧ n1 ≤ t0 ∧ n0 ≤ n1
  low : w.heap.size ≤ i0 ∧ w.heap.size ≤ o0 ∧ w.heap.size ≤ n0 ∧ w.heap.size ≤ t0
  grown : w.grownBy w' none

theorem map_toNc0 (ms : List (Nod × Ni)) : (ms.map toNc).map (·.n) = ms.map (·.1) := by
  rw [List.map_map]
  rfl

theorem CopiedG0.same {w w' : World} {g h : Gra} {cs : List Nc} {vin vout : List (Val × List Int)} {its : List (Nam × List Int × List Int)} {ms : List (Nod × Ni)} {vi vo : List (Val × List Int)} {ts : List (Nam × List Int × List Int)} {i0 i1 o0 o1 n0 n1 t0 t1 : Nat} (hc : CopiedG0 w w' g cs vin vout its h ms vi vo ts i0 i1 o0 o1 n0 n1 t0 t1) : SameG cs vin vout its (ms.map toNc) vi vo ts := ⟨hc.kn, hc.ki, hc.ko, hc.kt⟩

theorem CopiedG0.in0 {w w' : World} {g h : Gra} {cs : List Nc} {vin vout : List (Val × List Int)} {its : List (Nam × List Int × List Int)} {ms : List (Nod × Ni)} {vi vo : List (Val × List Int)} {ts : List (Nam × List Int × List Int)} {i0 i1 o0 o1 n0 n1 t0 t1 : Nat} (hc : CopiedG0 w w' g cs vin vout its h ms vi vo ts i0 i1 o0 o1 n0 n1 t0 t1) (hg : GraphIn0 w g cs vin vout its) : GraphIn0 w' h (ms.map toNc) vi vo ts := by
  have l1 := key_len hc.kn
  have l2 := key_len hc.ki
  have l3 := key_len hc.ko
  have l4 := key_len hc.kt
  rw [List.length_map] at l1
  obtain ⟨-, -, -, -, -, b1⟩ := hg.nodes.form
  obtain ⟨-, -, -, -, -, b2⟩ := hg.ins.form
  obtain ⟨-, -, -, -, -, b3⟩ := hg.outs.form
  obtain ⟨-, -, -, -, -, b4⟩ := hg.inits.form
  rw [List.length_map] at b1 b2 b3 b4
  refine ⟨?_, ?_, ?_, ?_, ?_, hc.ins.has, hc.outs.has, hc.inits.has⟩
  · rw [map_toNc0]
    exact hc.nodes.own.isL ncells_len (by rw [List.length_map, l1]; exact b1)
  · exact hc.ins.own.isL vcells_len (by rw [List.length_map, l2]; exact b2)
  · exact hc.outs.own.isL vcells_len (by rw [List.length_map, l3]; exact b3)
  · exact hc.inits.own.isL mcells_len (by rw [List.length_map, l4]; exact b4)
  · intro c hcm
    obtain ⟨p, hp, rfl⟩ := List.mem_map.1 hcm
    exact hc.nodes.has p hp
end Go.Proofs.YtflalpchhojenaaDoor
