/- A node of its own, by the walk. -/
import Derived.Test.YteigfipgmghgmaaGreatDoorNCopyT
import Derived.Test.YteigfipgmghgmaaGreatDoorNThen
namespace Go.Proofs.YteigfipgmghgmaaGreatDoor
open Go.RowKit

/-- What an attribute's three lists hold. -/
structure Cont where
  d : List Int
  t : List Int
  i : List Int

/-- An attribute but for where its lists lie. -/
def strip (a : Atr) : Atr := ⟨a.name, a.kind, a.f, a.i, a.s, a.ty, ⟨none, 0, 0⟩, ⟨none, 0, 0⟩, ⟨none, 0, 0⟩⟩

structure Has (w : World) (a : Atr) (c : Cont) : Prop where
  d : IsInts w a.dv.v c.d
  t : IsInts w a.tv.v c.t
  i : IsInts w a.iv.v c.i

/-- Two values lie apart. -/
def Apt (u v : Value) : Prop := ∀ k, u.ownBlock = some k → v.ownBlock ≠ some k

structure NewA (n m : Nat) (a : Atr) : Prop where
  d : New n m a.dv.v
  t : New n m a.tv.v
  i : New n m a.iv.v

structure ApA (a : Atr) (v : Value) : Prop where
  d : Apt a.dv.v v
  t : Apt a.tv.v v
  i : Apt a.iv.v v

theorem Has.kept {w w' : World} {a : Atr} {c : Cont} (h : Has w a c) (hk : ∀ b, b < w.heap.size → (a.dv.v.ownBlock = some b ∨ a.tv.v.ownBlock = some b ∨ a.iv.v.ownBlock = some b) → w'.heap[b]? = w.heap[b]?) : Has w' a c :=
  ⟨h.d.kept fun b hb e => hk b hb (Or.inl e), h.t.kept fun b hb e => hk b hb (Or.inr (Or.inl e)), h.i.kept fun b hb e => hk b hb (Or.inr (Or.inr e))⟩

theorem Has.more {w w' : World} {a : Atr} {c : Cont} (h : Has w a c) (hg : w.grownBy w' none) : Has w' a c := ⟨h.d.more hg, h.t.more hg, h.i.more hg⟩

theorem NewA.mono {n m n' m' : Nat} {a : Atr} (h : NewA n m a) (hn : n' ≤ n) (hm : m ≤ m') : NewA n' m' a := ⟨h.d.mono hn hm, h.t.mono hn hm, h.i.mono hn hm⟩

theorem NewA.any {n m : Nat} {a : Atr} (h : NewA n m a) {b : Nat} (e : a.dv.v.ownBlock = some b ∨ a.tv.v.ownBlock = some b ∨ a.iv.v.ownBlock = some b) : n ≤ b ∧ b < m := by
  rcases e with e | e | e
  · exact h.d b e
  · exact h.t b e
  · exact h.i b e

theorem ApA.any {a : Atr} {v : Value} (h : ApA a v) {b : Nat} (e : a.dv.v.ownBlock = some b ∨ a.tv.v.ownBlock = some b ∨ a.iv.v.ownBlock = some b) : v.ownBlock ≠ some b := by
  rcases e with e | e | e
  · exact h.d b e
  · exact h.t b e
  · exact h.i b e

theorem ApA.of {a : Atr} {v : Value} (h : ∀ b, (a.dv.v.ownBlock = some b ∨ a.tv.v.ownBlock = some b ∨ a.iv.v.ownBlock = some b) → v.ownBlock ≠ some b) : ApA a v :=
  ⟨fun b e => h b (Or.inl e), fun b e => h b (Or.inr (Or.inl e)), fun b e => h b (Or.inr (Or.inr e))⟩

/-- What stands of the new node while attributes are copied. -/
structure CInv (W2 : World) (O b2 : Nat) (op nam out : ByteArray) (I : Sl) (xs : List Atr) (cs : List Cont) (k : Nat) (wr : World) (v : Sl) (ys : List Atr) : Prop where
  box : wr.heap[O]? = some (.cells #[.string op, .string nam, .slice I.a I.n I.c, .string out, .slice v.a v.n v.c] 25 (0, 0))
  own : OwnsL 92 9 acells wr b2 v.v ys
  len : ys.length = k
  eq : ys.map strip = (xs.take k).map strip
  has : ∀ (j : Nat) (a : Atr) (c : Cont), ys[j]? = some a → cs[j]? = some c → Has wr a c
  new : ∀ a ∈ ys, NewA b2 wr.heap.size a ∧ ApA a v.v
  grown : W2.grownBy wr (some O)

theorem acells_len (a : Atr) : (acells a).length = 9 := rfl

theorem acell_one (a : Atr) : ∀ u ∈ acells a, u.oneCell' = true := by
  intro u hu
  simp only [acells, List.mem_cons, List.not_mem_nil, or_false] at hu
  rcases hu with rfl | rfl | rfl | rfl | rfl | rfl | rfl | rfl | rfl <;> rfl

theorem infoAttr : (Tryz.prog.info? 92).map (fun i => (i.zero, i.size, i.bytes)) = some (some (.agg #[.string ⟨#[]⟩, .int .i64 0, .int .i64 0, .int .i64 0, .string ⟨#[]⟩, .int .i64 0, .slice none 0 0, .slice none 0 0, .slice none 0 0]), 9, 136) := by kernel_rfl

theorem take_strip {xs : List Atr} {k : Nat} (hk : k < xs.length) : (xs.take (k + 1)).map strip = (xs.take k).map strip ++ [strip xs[k]] := by
  rw [List.take_add_one, List.map_append, List.getElem?_eq_getElem hk]
  rfl

/-- One attribute more. -/
theorem CInv.step {W2 : World} {O b2 : Nat} {op nam out : ByteArray} {I : Sl} {xs : List Atr} {cs : List Cont} {k : Nat} {wr W9 : World} {v v' : Sl} {ys : List Atr} {y : Atr} {lo : Nat} (h : CInv W2 O b2 op nam out I xs cs k wr v ys) (hk : k < xs.length) (hO : O < b2) (hW2 : W2.heap.size ≤ b2) (hb2 : b2 ≤ wr.heap.size) (hlo0 : wr.heap.size ≤ lo)
    (kp : ∀ b, b < wr.heap.size → b ≠ O → v.v.ownBlock ≠ some b → W9.heap[b]? = wr.heap[b]?) (hsz : wr.heap.size ≤ W9.heap.size) (hos : W9.os = wr.os) (htp : W9.tape = wr.tape) (hout : W9.output = wr.output)
    (box : W9.heap[O]? = some (.cells #[.string op, .string nam, .slice I.a I.n I.c, .string out, .slice v'.a v'.n v'.c] 25 (0, 0)))
    (own : OwnsL 92 9 acells W9 b2 v'.v (ys ++ [y])) (hst : strip y = strip xs[k]) (hy : ∀ c, cs[k]? = some c → Has W9 y c) (hny : NewA wr.heap.size lo y) (hlo : lo ≤ W9.heap.size) (hay : ∀ b, v'.v.ownBlock = some b → v.v.ownBlock = some b ∨ lo ≤ b) : CInv W2 O b2 op nam out I xs cs (k + 1) W9 v' (ys ++ [y]) := by
  have vlt : ∀ b, v.v.ownBlock = some b → b2 ≤ b ∧ b < wr.heap.size := fun b e => World.ownsRow.lt h.own b e
  refine ⟨box, own, by rw [List.length_append, h.len]; rfl, by rw [List.map_append, h.eq, take_strip hk]; simp [hst], ?_, ?_, ?_⟩
  · intro j a c ha hc
    by_cases hj : j < ys.length
    · rw [List.getElem?_append_left hj] at ha
      have hm := h.new a (List.mem_of_getElem? ha)
      refine (h.has j a c ha hc).kept fun b hb e => kp b hb ?_ (hm.2.any e)
      have := hm.1.any e
      omega
    · obtain rfl : j = ys.length := by
        have := (List.getElem?_eq_some_iff.1 ha).1
        rw [List.length_append] at this
        simp at this
        omega
      rw [List.getElem?_append_right (Nat.le_refl _), Nat.sub_self] at ha
      obtain rfl : y = a := by simpa using ha
      exact hy c (by rw [← h.len]; exact hc)
  · intro a ha
    rcases List.mem_append.1 ha with ha | ha
    · have hm := h.new a ha
      refine ⟨hm.1.mono (Nat.le_refl _) hsz, ApA.of fun b e hv => ?_⟩
      have h1 := hm.1.any e
      rcases hay b hv with h2 | h2
      · exact hm.2.any e h2
      · omega
    · obtain rfl : a = y := by simpa using ha
      refine ⟨hny.mono hb2 hlo, ApA.of fun b e hv => ?_⟩
      have h1 := hny.any e
      rcases hay b hv with h2 | h2
      · have := vlt b h2; omega
      · omega
  · refine ⟨hos.trans h.grown.os, htp.trans h.grown.tape, hout.trans h.grown.output, Nat.le_trans h.grown.size hsz, fun b hb hne => ?_⟩
    refine (kp b (Nat.lt_of_lt_of_le hb h.grown.size) (fun e => hne (by rw [e])) (fun e => ?_)).trans (h.grown.block b hb hne)
    have := vlt b e
    omega

/-- What CopyNode answers. -/
structure Copied (w w' : World) (n : Nod) (ins : List ByteArray) (xs : List Atr) (cs : List Cont) (iv av : Sl) (ys : List Atr) : Prop where
  ins : OwnsL 9 1 scell w' w.heap.size iv.v ins
  own : OwnsL 92 9 acells w' w.heap.size av.v ys
  eq : ys.map strip = xs.map strip
  has : ∀ (j : Nat) (a : Atr) (c : Cont), ys[j]? = some a → cs[j]? = some c → Has w' a c
  new : ∀ a ∈ ys, NewA w.heap.size w'.heap.size a ∧ ApA a av.v ∧ ApA a iv.v
  apt : Apt iv.v av.v
  grown : w.grownBy w' none

theorem nodeInfo : (Tryz.prog.info? 25).map (·.size) = some 5 := by kernel_rfl

theorem ret_nod {fn : Func} {p : Tmp} (h : fn.results = #[.cell p 25]) (tmps : Array Value) (w : World) (B : Nat) (hp : tmps.getD p undef = .pointer (some ⟨B, 0, none⟩)) {a0 a1 a2 a3 a4 : Value}
    (hb : w.heap[B]? = some (.cells #[a0, a1, a2, a3, a4] 25 (0, 0))) : (results fn tmps).run Tryz.prog w = .ok (.agg #[a0, a1, a2, a3, a4]) w :=
  results_cell_row h tmps w B 25 #[a0, a1, a2, a3, a4] (0, 0) _ hp hb Tryz.underlying25 rfl (by rw [nodeInfo]; rfl)

theorem nod_frozen {w : World} {B : Nat} {z0 z1 z2 z3 z4 : Value} (hb : w.heap[B]? = some (.cells #[z0, z1, z2, z3, z4] 25 (0, 0))) :
    w.frozen? ⟨B, 0, none⟩ = false ∧ w.frozen? ⟨B, 1, none⟩ = false ∧ w.frozen? ⟨B, 2, none⟩ = false ∧ w.frozen? ⟨B, 3, none⟩ = false ∧ w.frozen? ⟨B, 4, none⟩ = false :=
  ⟨frozen_of_row w B 0 _ _ hb, frozen_of_row w B 1 _ _ hb, frozen_of_row w B 2 _ _ hb, frozen_of_row w B 3 _ _ hb, frozen_of_row w B 4 _ _ hb⟩

/-- A cell written: the block, and what else stays. -/
theorem put1 {w : World} {B j : Nat} {cs : Array Value} {t : TypeId} (x : Value) (hb : w.heap[B]? = some (.cells cs t (0, 0))) :
    (w.setCell ⟨B, j, none⟩ x).heap[B]? = some (.cells (cs.setIfInBounds j x) t (0, 0)) ∧ w.grownBy (w.setCell ⟨B, j, none⟩ x) (some B) ∧ (w.setCell ⟨B, j, none⟩ x).heap.size = w.heap.size :=
  ⟨heap_setCell_same w B j _ _ x hb, ⟨rfl, rfl, rfl, by simp [World.setCell], fun k _ hk => Below.heap_setCell _ _ _ _ (fun e => hk (by rw [e]))⟩, by simp [World.setCell]⟩

theorem owns_block {α : Type} {te : TypeId} {size : Nat} {f : α → List Value} {w w' : World} {base : Nat} {v : Value} {xs : List α} (h : OwnsL te size f w base v xs) (hk : ∀ b, v.ownBlock = some b → w'.heap[b]? = w.heap[b]?) : OwnsL te size f w' base v xs := by
  refine ⟨h.1, ?_⟩
  rcases h.2 with h0 | ⟨g, cap, cur, rfl, hg, hb, r⟩
  · exact .inl h0
  · exact .inr ⟨g, cap, cur, rfl, hg, (hk g rfl).trans hb, r⟩

/-- The last four cells of an attribute, written anew. -/
theorem store4a {w : World} {B : Nat} {z0 z1 z2 z3 z4 z5 z6 z7 z8 : Value} (a b c d : Value) (hb : w.heap[B]? = some (.cells #[z0, z1, z2, z3, z4, z5, z6, z7, z8] 92 (0, 0))) :
    ((((w.setCell ⟨B, 5, none⟩ a).setCell ⟨B, 6, none⟩ b).setCell ⟨B, 7, none⟩ c).setCell ⟨B, 8, none⟩ d).heap[B]? = some (.cells #[z0, z1, z2, z3, z4, a, b, c, d] 92 (0, 0)) ∧ w.grownBy ((((w.setCell ⟨B, 5, none⟩ a).setCell ⟨B, 6, none⟩ b).setCell ⟨B, 7, none⟩ c).setCell ⟨B, 8, none⟩ d) (some B) ∧ ((((w.setCell ⟨B, 5, none⟩ a).setCell ⟨B, 6, none⟩ b).setCell ⟨B, 7, none⟩ c).setCell ⟨B, 8, none⟩ d).heap.size = w.heap.size := by
  obtain ⟨h1, g1, s1⟩ := put1 (j := 5) a hb
  obtain ⟨h2, g2, s2⟩ := put1 (j := 6) b h1
  obtain ⟨h3, g3, s3⟩ := put1 (j := 7) c h2
  obtain ⟨h4, g4, s4⟩ := put1 (j := 8) d h3
  exact ⟨by simpa using h4, grown_same (grown_same (grown_same g1 g2) g3) g4, by rw [s4, s3, s2, s1]⟩

end Go.Proofs.YteigfipgmghgmaaGreatDoor
