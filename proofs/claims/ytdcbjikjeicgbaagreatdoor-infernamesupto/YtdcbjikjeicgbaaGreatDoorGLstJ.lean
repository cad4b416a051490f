/- A list of the call's own whose elements have lists of their own. -/
import Derived.Test.YtdcbjikjeicgbaaGreatDoorPartG
namespace Go.Proofs.YtdcbjikjeicgbaaGreatDoor
open Go.RowKit

/-- A list of the call's own: its elements, what the lists of each hold, and where all of them lie: from lo on, ahead of hi. -/
structure OwnD {α β : Type} (te : TypeId) (size : Nat) (f : α → List Value) (H : World → α → β → Prop) (foot : α → β → Nat → Prop) (w : World) (lo hi : Nat) (v : Value) (ps : List (α × β)) : Prop where
  own : OwnsL te size f w lo v (ps.map (·.1))
  row : ∀ b, v.ownBlock = some b → b < hi
  has : ∀ p ∈ ps, H w p.1 p.2
  new : ∀ p ∈ ps, ∀ b, foot p.1 p.2 b → lo ≤ b ∧ b < hi ∧ v.ownBlock ≠ some b
  le : hi ≤ w.heap.size

/-- What an element's lists hold hangs on their blocks alone. -/
def Feet {α β : Type} (H : World → α → β → Prop) (foot : α → β → Nat → Prop) : Prop := ∀ (w w' : World) (a : α) (c : β), H w a c → (∀ b, b < w.heap.size → foot a c b → w'.heap[b]? = w.heap[b]?) → H w' a c

section
variable {α β : Type} {te : TypeId} {size : Nat} {f : α → List Value} {H : World → α → β → Prop} {foot : α → β → Nat → Prop}

theorem OwnD.nil {w : World} {lo hi : Nat} (h : hi ≤ w.heap.size) : OwnD te size f H foot w lo hi (.slice none 0 0) [] :=
  ⟨OwnsL.nil .., (fun b e => by simp [Value.ownBlock] at e), (fun p hp => by cases hp), (fun p hp => by cases hp), h⟩

theorem OwnD.kept {w w' : World} {lo hi : Nat} {v : Value} {ps : List (α × β)} (HK : Feet H foot) (h : OwnD te size f H foot w lo hi v ps) (hs : hi ≤ w'.heap.size) (hk : ∀ b, lo ≤ b → b < hi → w'.heap[b]? = w.heap[b]?) : OwnD te size f H foot w' lo hi v ps :=
  ⟨owns_block h.own (fun b e => hk b (World.ownsRow.lt h.own b e).1 (h.row b e)), h.row, fun p hp => HK _ _ _ _ (h.has p hp) (fun b _ e => have k := h.new p hp b e; hk b k.1 k.2.1), h.new, hs⟩

theorem OwnD.past {w w' : World} {lo hi : Nat} {v : Value} {ps : List (α × β)} {row : Option Nat} (HK : Feet H foot) (h : OwnD te size f H foot w lo hi v ps) (hg : w.grownBy w' row) (hr : ∀ g, row = some g → g < lo ∨ hi ≤ g) : OwnD te size f H foot w' lo hi v ps :=
  h.kept HK (Nat.le_trans h.le hg.size) fun b h1 h2 => hg.block b (Nat.lt_of_lt_of_le h2 h.le) (fun e => by have := hr b e.symm; omega)

theorem OwnD.more {w w' : World} {lo hi : Nat} {v : Value} {ps : List (α × β)} (HK : Feet H foot) (h : OwnD te size f H foot w lo hi v ps) (hg : w.grownBy w' none) : OwnD te size f H foot w' lo hi v ps := h.past HK hg (by simp)

theorem OwnD.wide {w : World} {lo hi lo' hi' : Nat} {v : Value} {ps : List (α × β)} (h : OwnD te size f H foot w lo hi v ps) (hl : lo' ≤ lo) (hh : hi ≤ hi') (hw : hi' ≤ w.heap.size) : OwnD te size f H foot w lo' hi' v ps :=
  ⟨h.own.base_le hl, fun b e => Nat.lt_of_lt_of_le (h.row b e) hh, h.has, fun p hp b e => have k := h.new p hp b e; ⟨Nat.le_trans hl k.1, Nat.lt_of_lt_of_le k.2.1 hh, k.2.2⟩, hw⟩

theorem OwnD.snoc {w W w' : World} {lo hi g n cap : Nat} {v : Value} {ps : List (α × β)} {y : α} {c : β} (HK : Feet H foot) (h : OwnD te size f H foot w lo hi v ps) (hb : lo ≤ w.heap.size) (hg : w.grownBy W none) (hgr : W.grownBy w' v.ownBlock) (hat : v.ownBlock = some g ∨ g = W.heap.size)
    (own' : OwnsL te size f w' lo (.slice (some ⟨g, 0, none⟩) n cap) (ps.map (·.1) ++ [y])) (hy : H W y c) (fy : ∀ b, foot y c b → w.heap.size ≤ b ∧ b < W.heap.size) : OwnD te size f H foot w' lo w'.heap.size (.slice (some ⟨g, 0, none⟩) n cap) (ps ++ [(y, c)]) := by
  have vlt : ∀ b, v.ownBlock = some b → lo ≤ b ∧ b < w.heap.size := fun b e => World.ownsRow.lt h.own b e
  have s0 := h.le
  have s1 := hg.size
  have s2 := hgr.size
  have og : ∀ b, (Value.slice (some ⟨g, 0, none⟩) n cap).ownBlock = some b → g = b := fun b e => by simpa [Value.ownBlock] using e
  refine ⟨by rw [List.map_append]; exact own', fun b e => (World.ownsRow.lt own' b e).2, fun p hp => ?_, fun p hp b e => ?_, Nat.le_refl _⟩
  · rcases List.mem_append.1 hp with hp | hp
    · exact HK _ _ _ _ (h.has p hp) fun b hb e => (hgr.block b (by omega) (fun e2 => (h.new p hp b e).2.2 e2.symm)).trans (hg.block b hb (by simp))
    · obtain rfl : p = (y, c) := by simpa using hp
      exact HK _ _ _ _ hy fun b hb e => hgr.block b hb (fun e2 => by have := vlt b e2.symm; have := fy b e; omega)
  · rcases List.mem_append.1 hp with hp | hp
    · have k := h.new p hp b e
      refine ⟨k.1, by omega, fun e2 => ?_⟩
      have e3 := og b e2
      subst e3
      rcases hat with h2 | h2
      · exact k.2.2 h2
      · omega
    · obtain rfl : p = (y, c) := by simpa using hp
      have k := fy b e
      refine ⟨by omega, by omega, fun e2 => ?_⟩
      have e3 := og b e2
      subst e3
      rcases hat with h2 | h2
      · have := vlt _ h2; omega
      · omega
end

/-- A value's dims. -/
def valH (w : World) (v : Val) (ds : List Int) : Prop := IsInts w v.dv.v ds
def valFt (v : Val) (_ : List Int) (b : Nat) : Prop := v.dv.v.ownBlock = some b

theorem valFeet : Feet valH valFt := fun _ _ _ _ h hk => IsInts.kept h fun b hb e => hk b hb e

/-- A named tensor's dims and elements. -/
def namH (w : World) (v : Nam) (q : List Int × List Int) : Prop := IsInts w v.dv.v q.1 ∧ IsInts w v.tv.v q.2
def namFt (v : Nam) (_ : List Int × List Int) (b : Nat) : Prop := v.dv.v.ownBlock = some b ∨ v.tv.v.ownBlock = some b

theorem namFeet : Feet namH namFt := fun _ _ _ _ h hk => ⟨h.1.kept fun b hb e => hk b hb (Or.inl e), h.2.kept fun b hb e => hk b hb (Or.inr e)⟩

/-- A node's lists. -/
structure Ni where
  ins : List ByteArray
  xs : List Atr
  cs : List Cont

def nodH (w : World) (n : Nod) (q : Ni) : Prop := NodeIn w n q.ins q.xs q.cs
def nodFt (n : Nod) (q : Ni) (b : Nat) : Prop := n.iv.v.ownBlock = some b ∨ n.av.v.ownBlock = some b ∨ ∃ a ∈ q.xs, a.dv.v.ownBlock = some b ∨ a.tv.v.ownBlock = some b ∨ a.iv.v.ownBlock = some b

theorem nodFeet : Feet nodH nodFt := fun _ _ _ _ h hk => ⟨h.ins.kept fun b hb e => hk b hb (Or.inl e), h.av.kept fun b hb e => hk b hb (Or.inr (Or.inl e)), fun j a e => by
  obtain ⟨c, e1, e2⟩ := h.has j a e
  exact ⟨c, e1, e2.kept fun b hb e3 => hk b hb (Or.inr (Or.inr ⟨a, List.mem_of_getElem? e, e3⟩))⟩, h.few, h.short⟩

abbrev OwnVals (w : World) (lo hi : Nat) (v : Value) (ps : List (Val × List Int)) : Prop := OwnD 31 3 vcells valH valFt w lo hi v ps
abbrev OwnNams (w : World) (lo hi : Nat) (v : Value) (ps : List (Nam × List Int × List Int)) : Prop := OwnD 74 4 mcells namH namFt w lo hi v ps
abbrev OwnNods (w : World) (lo hi : Nat) (v : Value) (ps : List (Nod × Ni)) : Prop := OwnD 25 5 ncells nodH nodFt w lo hi v ps
end Go.Proofs.YtdcbjikjeicgbaaGreatDoor
