/- Graphs: values, named tensors and nodes in lists. -/
import Derived.Test.YteigfipgmghgmaaGreatDoorNNode
namespace Go.Proofs.YteigfipgmghgmaaGreatDoor
open Go.RowKit

/-- A value, as its cells have it. -/
structure Val where
  name : ByteArray
  ty : Int
  dv : Sl

def vcells (v : Val) : List Value := [.string v.name, .int .i64 v.ty, .slice v.dv.a v.dv.n v.dv.c]

theorem vcells_len (v : Val) : (vcells v).length = 3 := rfl

/-- A named tensor, as its cells have it. -/
structure Nam where
  name : ByteArray
  ty : Int
  dv : Sl
  tv : Sl

def mcells (v : Nam) : List Value := [.string v.name, .int .i64 v.ty, .slice v.dv.a v.dv.n v.dv.c, .slice v.tv.a v.tv.n v.tv.c]

theorem mcells_len (v : Nam) : (mcells v).length = 4 := rfl

/-- A node's cells in a list. -/
def ncells (n : Nod) : List Value := [.string n.op, .string n.name, .slice n.iv.a n.iv.n n.iv.c, .string n.out, .slice n.av.a n.av.n n.av.c]

theorem ncells_len (n : Nod) : (ncells n).length = 5 := rfl

abbrev IsVals (w : World) (v : Value) (xs : List Val) : Prop := IsL 48 3 vcells w v xs
abbrev IsNams (w : World) (v : Value) (xs : List Nam) : Prop := IsL 72 4 mcells w v xs
abbrev IsNods (w : World) (v : Value) (xs : List Nod) : Prop := IsL 96 5 ncells w v xs

theorem IsL.val {w : World} {b off len cap : Nat} {xs : List Val} (h : IsL 48 3 vcells w (.slice (some ⟨b, off, none⟩) len cap) xs) (k : Nat) (hk : k < xs.length) :
    w.cell? ⟨b, off + k * 3, none⟩ = some (.string xs[k].name) ∧ w.cell? ⟨b, off + k * 3 + 1, none⟩ = some (.int .i64 xs[k].ty) ∧ w.cell? ⟨b, off + k * 3 + 2, none⟩ = some (.slice xs[k].dv.a xs[k].dv.n xs[k].dv.c) :=
  ⟨h.at k hk 0 (by omega), h.at k hk 1 (by omega), h.at k hk 2 (by omega)⟩

theorem IsL.nam {w : World} {b off len cap : Nat} {xs : List Nam} (h : IsL 72 4 mcells w (.slice (some ⟨b, off, none⟩) len cap) xs) (k : Nat) (hk : k < xs.length) :
    w.cell? ⟨b, off + k * 4, none⟩ = some (.string xs[k].name) ∧ w.cell? ⟨b, off + k * 4 + 1, none⟩ = some (.int .i64 xs[k].ty) ∧ w.cell? ⟨b, off + k * 4 + 2, none⟩ = some (.slice xs[k].dv.a xs[k].dv.n xs[k].dv.c) ∧ w.cell? ⟨b, off + k * 4 + 3, none⟩ = some (.slice xs[k].tv.a xs[k].tv.n xs[k].tv.c) :=
  ⟨h.at k hk 0 (by omega), h.at k hk 1 (by omega), h.at k hk 2 (by omega), h.at k hk 3 (by omega)⟩

theorem IsL.nod {w : World} {b off len cap : Nat} {xs : List Nod} (h : IsL 96 5 ncells w (.slice (some ⟨b, off, none⟩) len cap) xs) (k : Nat) (hk : k < xs.length) :
    w.cell? ⟨b, off + k * 5, none⟩ = some (.string xs[k].op) ∧ w.cell? ⟨b, off + k * 5 + 1, none⟩ = some (.string xs[k].name) ∧ w.cell? ⟨b, off + k * 5 + 2, none⟩ = some (.slice xs[k].iv.a xs[k].iv.n xs[k].iv.c) ∧ w.cell? ⟨b, off + k * 5 + 3, none⟩ = some (.string xs[k].out) ∧ w.cell? ⟨b, off + k * 5 + 4, none⟩ = some (.slice xs[k].av.a xs[k].av.n xs[k].av.c) :=
  ⟨h.at k hk 0 (by omega), h.at k hk 1 (by omega), h.at k hk 2 (by omega), h.at k hk 3 (by omega), h.at k hk 4 (by omega)⟩

/-- A graph, as its cells have it. -/
structure Gra where
  name : ByteArray
  nv : Sl
  iv : Sl
  ov : Sl
  tv : Sl

def gval (g : Gra) : Value := .agg #[.string g.name, .slice g.nv.a g.nv.n g.nv.c, .slice g.iv.a g.iv.n g.iv.c, .slice g.ov.a g.ov.n g.ov.c, .slice g.tv.a g.tv.n g.tv.c]

theorem gra_cells {w : World} {B : Nat} {g : Gra} {t : TypeId} (hb : w.heap[B]? = some (.cells #[.string g.name, .slice g.nv.a g.nv.n g.nv.c, .slice g.iv.a g.iv.n g.iv.c, .slice g.ov.a g.ov.n g.ov.c, .slice g.tv.a g.tv.n g.tv.c] t (0, 0))) :
    w.cell? ⟨B, 0, none⟩ = some (.string g.name) ∧ w.cell? ⟨B, 1, none⟩ = some (.slice g.nv.a g.nv.n g.nv.c) ∧ w.cell? ⟨B, 2, none⟩ = some (.slice g.iv.a g.iv.n g.iv.c) ∧ w.cell? ⟨B, 3, none⟩ = some (.slice g.ov.a g.ov.n g.ov.c) ∧ w.cell? ⟨B, 4, none⟩ = some (.slice g.tv.a g.tv.n g.tv.c) :=
  ⟨(cell_of_row _ _ 0 _ _ (0, 0) hb).trans rfl, (cell_of_row _ _ 1 _ _ (0, 0) hb).trans rfl, (cell_of_row _ _ 2 _ _ (0, 0) hb).trans rfl, (cell_of_row _ _ 3 _ _ (0, 0) hb).trans rfl, (cell_of_row _ _ 4 _ _ (0, 0) hb).trans rfl⟩

/-- A node that stands in a list: its inputs, its attributes, and what their lists hold. -/
structure Nc where
  n : Nod
  ins : List ByteArray
  xs : List Atr
  cs : List Cont

/-- A graph that comes in: what its lists hold. -/
structure GraphIn (w : World) (g : Gra) (nds : List Nc) (vin vout : List (Val × List Int)) (its : List (Nam × List Int × List Int)) : Prop where
  nodes : IsNods w g.nv.v (nds.map (·.n))
  ins : IsVals w g.iv.v (vin.map (·.1))
  outs : IsVals w g.ov.v (vout.map (·.1))
  inits : IsNams w g.tv.v (its.map (·.1))
  node : ∀ c ∈ nds, NodeIn w c.n c.ins c.xs c.cs
  din : ∀ p ∈ vin, IsInts w p.1.dv.v p.2
  dout : ∀ p ∈ vout, IsInts w p.1.dv.v p.2
  dinit : ∀ p ∈ its, IsInts w p.1.dv.v p.2.1 ∧ IsInts w p.1.tv.v p.2.2
  short : ∀ p ∈ vin, p.1.name.size ≤ 1048576
  few : nds.length ≤ 1048576 ∧ vin.length ≤ 1048576 ∧ vout.length ≤ 1048576 ∧ its.length ≤ 1048576

theorem GraphIn.more {w w' : World} {g : Gra} {nds : List Nc} {vin vout : List (Val × List Int)} {its : List (Nam × List Int × List Int)} (h : GraphIn w g nds vin vout its) (hg : w.grownBy w' none) : GraphIn w' g nds vin vout its :=
  ⟨h.nodes.more hg, h.ins.more hg, h.outs.more hg, h.inits.more hg, fun c hc => (h.node c hc).more hg, fun p hp => (h.din p hp).more hg, fun p hp => (h.dout p hp).more hg, fun p hp => ⟨(h.dinit p hp).1.more hg, (h.dinit p hp).2.more hg⟩, h.short, h.few⟩
end Go.Proofs.YteigfipgmghgmaaGreatDoor
