/- How a graph's nodes in the order of work lie while they are read. -/
import Derived.Test.YtmdpeckeliplkaaDoorLvReadJ
import Derived.Test.YtmdpeckeliplkaaDoorGOrdLJ
import Derived.Test.YtmdpeckeliplkaaDoorPartJ
namespace Go.Proofs.YtmdpeckeliplkaaDoor
open Go.RowKit

theorem inOrd_len (cs : List Nc) (ord : List Int) : (inOrd cs ord).length = ord.length := by simp [inOrd]

theorem bytes_ext {a b : ByteArray} (h : a.data.toList = b.data.toList) : a = b := by
  cases a
  cases b
  simp only at h
  rw [Array.toList_inj.1 h]

/-- In the order of work all names that are made are unlike. -/
theorem inOrd_unlike {cs : List Nc} {vin : List (Val × List Int)} {its : List (Nam × List Int × List Int)} {L : List Int} (hn : namesOK [] (vnames cs vin its) = true) (hd : L.Nodup) (hr : ∀ z ∈ L, 0 ≤ z ∧ z < cs.length) {k : Nat} (hk : k < (inOrd cs L).length) : inL (inOrd cs L)[k].n.out (outsN ((inOrd cs L).take k)) = false := by
  rw [Bool.eq_false_iff]
  intro h
  unfold inL outsN at h
  rw [List.any_eq_true] at h
  obtain ⟨x, hx, hxe⟩ := h
  rw [List.mem_map] at hx
  obtain ⟨c, hc, rfl⟩ := hx
  obtain ⟨j, hj, rfl⟩ := List.mem_iff_getElem.1 hc
  rw [List.length_take] at hj
  rw [List.getElem_take] at hxe
  have hkL : k < L.length := by rw [inOrd_len] at hk; exact hk
  have hjL : j < L.length := by omega
  have e : (inOrd cs L)[j].n.out = (inOrd cs L)[k].n.out := bytes_ext (by simpa using hxe)
  simp only [inOrd, List.getElem_map] at e
  have r1 := hr L[j] (List.getElem_mem _)
  have r2 := hr L[k] (List.getElem_mem _)
  have g : ∀ z : Int, 0 ≤ z ∧ z < cs.length → pos (vnames cs vin its) (cs.getD z.toNat noNc).n.out = vin.length + its.length + z.toNat := fun z hz => by
    have := pos_out hn (k := z.toNat) (by omega)
    rw [List.getD, List.getElem?_eq_getElem (by omega)]
    exact this
  have p1 := g L[j] r1
  have p2 := g L[k] r2
  rw [e, p2] at p1
  have e2 : L[j] = L[k] := by omega
  have := (List.getElem_inj hd).1 e2
  omega

theorem inOrd_mem {cs : List Nc} {L : List Int} (hr : ∀ z ∈ L, 0 ≤ z ∧ z < cs.length) : ∀ c ∈ inOrd cs L, c ∈ cs := by
  intro c hc
  unfold inOrd at hc
  rw [List.mem_map] at hc
  obtain ⟨z, hz, rfl⟩ := hc
  have := hr z hz
  rw [List.getD, List.getElem?_eq_getElem (by omega)]
  exact List.getElem_mem _

/-- Nodes in a row, as far as they are written. -/
def NL (w : World) (B n : Nat) (ms : List Nod) (k : Nat) : Prop := ∃ cur : Array Value, w.heap[B]? = some (.cells cur 52 (0, 0)) ∧ cur.size = n * 5 ∧ ∀ j, j < k → ∀ t, t < 5 → cur[j * 5 + t]? = ((ms[j]?.map ncells).getD [])[t]?

theorem NL.cell {w : World} {B n k : Nat} {ms : List Nod} (h : NL w B n ms k) {i : Nat} (hi : i < n) {t : Nat} (ht : t < 5) : ∃ v, w.cell? ⟨B, i * 5 + t, none⟩ = some v ∧ w.frozen? ⟨B, i * 5 + t, none⟩ = false := by
  obtain ⟨cur, h1, h2, -⟩ := h
  have hl : i * 5 + t < cur.size := by omega
  exact ⟨_, (cell_of_row _ _ (i * 5 + t) _ _ (0, 0) h1).trans (Array.getElem?_eq_getElem hl), frozen_of_row _ _ (i * 5 + t) _ _ h1⟩

theorem NL.at {w : World} {B n k : Nat} {ms : List Nod} (h : NL w B n ms k) {j : Nat} (hj : j < k) {a : Nod} (ha : ms[j]? = some a) : w.cell? ⟨B, j * 5, none⟩ = some (.string a.op) ∧ w.cell? ⟨B, j * 5 + 1, none⟩ = some (.string a.name) ∧ w.cell? ⟨B, j * 5 + 2, none⟩ = some (.slice a.iv.a a.iv.n a.iv.c) ∧ w.cell? ⟨B, j * 5 + 3, none⟩ = some (.string a.out) ∧ w.cell? ⟨B, j * 5 + 4, none⟩ = some (.slice a.av.a a.av.n a.av.c) := by
  obtain ⟨cur, h1, -, h3⟩ := h
  have g : ∀ t, t < 5 → w.cell? ⟨B, j * 5 + t, none⟩ = (ncells a)[t]? := fun t ht => by
    rw [cell_of_row _ _ (j * 5 + t) _ _ (0, 0) h1, h3 j hj t ht, ha]
    rfl
  exact ⟨g 0 (by omega), g 1 (by omega), g 2 (by omega), g 3 (by omega), g 4 (by omega)⟩

theorem NL.of_block {w w' : World} {B n k : Nat} {ms : List Nod} (h : NL w B n ms k) (hb : ∀ o, w.heap[B]? = some o → w'.heap[B]? = some o) : NL w' B n ms k := by
  obtain ⟨cur, h1, h2⟩ := h
  exact ⟨cur, hb _ h1, h2⟩

/-- Five cells of a node, written. -/
def put5 (w : World) (B i : Nat) (a0 a1 a2 a3 a4 : Value) : World := ((((w.setCell ⟨B, i, none⟩ a0).setCell ⟨B, i + 1, none⟩ a1).setCell ⟨B, i + 2, none⟩ a2).setCell ⟨B, i + 3, none⟩ a3).setCell ⟨B, i + 4, none⟩ a4

theorem NL.put {w : World} {B n k : Nat} {ms : List Nod} (h : NL w B n ms k) (hk : k < n) {a : Nod} (ha : ms[k]? = some a) : NL (put5 w B (k * 5) (.string a.op) (.string a.name) (.slice a.iv.a a.iv.n a.iv.c) (.string a.out) (.slice a.av.a a.av.n a.av.c)) B n ms (k + 1) ∧ w.grownBy (put5 w B (k * 5) (.string a.op) (.string a.name) (.slice a.iv.a a.iv.n a.iv.c) (.string a.out) (.slice a.av.a a.av.n a.av.c)) (some B) := by
  obtain ⟨cur, h1, h2, h3⟩ := h
  have k1 := heap_setCell_same w B (k * 5) _ _ (.string a.op) h1
  have k2 := heap_setCell_same _ B (k * 5 + 1) _ _ (.string a.name) k1
  have k3 := heap_setCell_same _ B (k * 5 + 2) _ _ (.slice a.iv.a a.iv.n a.iv.c) k2
  have k4 := heap_setCell_same _ B (k * 5 + 3) _ _ (.string a.out) k3
  have k5 := heap_setCell_same _ B (k * 5 + 4) _ _ (.slice a.av.a a.av.n a.av.c) k4
  have g : ∀ (x : World) (j : Nat) (v : Value), x.grownBy (x.setCell ⟨B, j, none⟩ v) (some B) := fun x j v =>
    ⟨rfl, rfl, rfl, by simp [World.setCell], fun k _ hk => Below.heap_setCell _ _ _ _ (fun e => hk (by rw [e]))⟩
  refine ⟨⟨_, k5, by simp only [Array.size_setIfInBounds]; exact h2, fun j hj t ht => ?_⟩, grown_same (grown_same (grown_same (grown_same (g _ _ _) (g _ _ _)) (g _ _ _)) (g _ _ _)) (g _ _ _)⟩
  simp only [Array.getElem?_setIfInBounds, Array.size_setIfInBounds]
  by_cases e : j = k
  · subst e
    rw [ha]
    simp only [Option.map_some, Option.getD_some, ncells]
    obtain rfl | rfl | rfl | rfl | rfl : t = 0 ∨ t = 1 ∨ t = 2 ∨ t = 3 ∨ t = 4 := by omega
    all_goals
      repeat (first | rw [if_pos (by omega), if_pos (by omega)] | rw [if_neg (by omega)])
      rfl
  · rw [if_neg (by omega), if_neg (by omega), if_neg (by omega), if_neg (by omega), if_neg (by omega)]
    exact h3 j (by omega) t ht

/-- Where the reading of a graph's nodes stands. -/
structure OS (w1 wr : World) (Q Bl Ba Bb Bo b n : Nat) (ms : List Nod) (k : Nat) (R : List (List Int)) (rx : List Sl) (l : List ByteArray) (bs : List Bool) : Prop where
  grown : w1.grownBy wr none
  box : wr.heap[Q]? = some (.cells #[.slice (some ⟨Bl, 0, none⟩) n n, .slice (some ⟨Ba, 0, none⟩) n n, .slice (some ⟨Bb, 0, none⟩) n n, .slice (some ⟨Bo, 0, none⟩) n n] 63 (0, 0))
  nodes : NL wr Bl n ms k
  ll : LL wr w1.heap.size Ba Bb n R rx
  bits : OwnBl wr w1.heap.size Bo bs
  nums : Nums wr b l
  lB : w1.heap.size ≤ Bl
  lb : w1.heap.size ≤ b

theorem own_block {w : World} {base te size n : Nat} {B c : Nat} {xs : List Value} (h : w.ownsRow base te size (.slice (some ⟨B, 0, none⟩) n c) n xs) : ∃ cur, w.heap[B]? = some (.cells cur te (0, 0)) := by
  rcases h.2 with ⟨e, -⟩ | ⟨g, cap, cur, e, -, hx, -⟩
  · cases e
  · obtain rfl : B = g := by simpa using (Value.slice.inj e).1
    exact ⟨cur, hx⟩

theorem blk_ne {w : World} {A B : Nat} {c1 c2 : Array Value} {t1 t2 : TypeId} {s1 s2 : Nat × Nat} (h1 : w.heap[A]? = some (.cells c1 t1 s1)) (h2 : w.heap[B]? = some (.cells c2 t2 s2)) (ht : t1 ≠ t2) : A ≠ B := by
  rintro rfl
  rw [h1] at h2
  exact ht (Obj.cells.inj (Option.some.inj h2)).2.1

theorem map_ne {w : World} {A b : Nat} {l : List ByteArray} {c1 : Array Value} {t1 : TypeId} {s1 : Nat × Nat} (h1 : w.heap[A]? = some (.cells c1 t1 s1)) (h2 : Nums w b l) : A ≠ b := by
  rintro rfl
  obtain ⟨D, n, ⟨es, clock, h, -⟩, -⟩ := h2
  rw [h1] at h
  cases h

theorem nums_kept {w w' : World} {b : Nat} {l : List ByteArray} {row : Option Nat} (h : Nums w b l) (hg : w.grownBy w' row) (hne : some b ≠ row) : Nums w' b l := by
  obtain ⟨D, n, ⟨es, clock, h1, h2⟩, h3⟩ := h
  exact ⟨D, n, ⟨es, clock, (hg.block b (heap_lt h1) hne).trans h1, h2⟩, h3⟩

/-- A node is written. -/
theorem OS.node {w1 wr w' : World} {Q Bl Ba Bb Bo b n k : Nat} {ms : List Nod} {R : List (List Int)} {rx : List Sl} {l : List ByteArray} {bs : List Bool} (h : OS w1 wr Q Bl Ba Bb Bo b n ms k R rx l bs) {k' : Nat} (hg : wr.grownBy w' (some Bl)) (hn : NL w' Bl n ms k') : OS w1 w' Q Bl Ba Bb Bo b n ms k' R rx l bs := by
  obtain ⟨cur, hB, -⟩ := h.nodes
  obtain ⟨co, hBo⟩ := own_block h.bits
  refine ⟨grown_trans_row h.grown hg (fun g e => by injection e with e; have := h.lB; omega), (hg.block Q (heap_lt h.box) (by simpa using blk_ne h.box hB (by decide))).trans h.box, hn, h.ll.other hg hB (by decide) (by decide), World.ownsRow.kept h.bits hg (Or.inr (by simpa [Value.ownBlock] using blk_ne hBo hB (by decide))), nums_kept h.nums hg (by simpa using fun e => map_ne hB h.nums e.symm), h.lB, h.lb⟩

/-- More lists are written. -/
theorem OS.read {w1 wr w' : World} {Q Bl Ba Bb Bo b n k : Nat} {ms : List Nod} {R R' : List (List Int)} {rx rx' : List Sl} {l : List ByteArray} {bs : List Bool} (h : OS w1 wr Q Bl Ba Bb Bo b n ms k R rx l bs) (hf : Frm w1.heap.size wr w') (hl : LL w' w1.heap.size Ba Bb n R' rx') : OS w1 w' Q Bl Ba Bb Bo b n ms k R' rx' l bs := by
  obtain ⟨cur, hB, hs⟩ := h.nodes
  refine ⟨hf.grown rfl h.grown, hf.cells h.box (by decide) (by decide), ⟨cur, hf.cells hB (by decide) (by decide), hs⟩, hl, ?_, hf.nums h.nums, h.lB, h.lb⟩
  refine ⟨h.bits.1, ?_⟩
  rcases h.bits.2 with h0 | ⟨g, cap, cu, e, hg, hx, r⟩
  · exact .inl h0
  · exact .inr ⟨g, cap, cu, e, hg, hf.cells hx (by decide) (by decide), r⟩

/-- One more name is made. -/
theorem OS.put {w1 wr w' : World} {Q Bl Ba Bb Bo b n k : Nat} {ms : List Nod} {R : List (List Int)} {rx : List Sl} {l l' : List ByteArray} {bs : List Bool} (h : OS w1 wr Q Bl Ba Bb Bo b n ms k R rx l bs) (hg : wr.grownBy w' (some b)) (hn : Nums w' b l') : OS w1 w' Q Bl Ba Bb Bo b n ms k R rx l' bs := by
  obtain ⟨cur, hB, hs⟩ := h.nodes
  obtain ⟨co, hBo⟩ := own_block h.bits
  have no : ∀ cs t sy, wr.heap[b]? ≠ some (.cells cs t sy) := fun cs t sy e => map_ne e h.nums rfl
  refine ⟨grown_trans_row h.grown hg (fun g e => by injection e with e; have := h.lb; omega), (hg.block Q (heap_lt h.box) (by simpa using map_ne h.box h.nums)).trans h.box, ⟨cur, (hg.block Bl (heap_lt hB) (by simpa using map_ne hB h.nums)).trans hB, hs⟩, h.ll.map hg no, World.ownsRow.kept h.bits hg (Or.inr (by simpa [Value.ownBlock] using map_ne hBo h.nums)), hn, h.lB, h.lb⟩

/-- A value is an output. -/
theorem OS.bit {w1 wr : World} {Q Bl Ba Bb Bo b n k : Nat} {ms : List Nod} {R : List (List Int)} {rx : List Sl} {l : List ByteArray} {bs : List Bool} (h : OS w1 wr Q Bl Ba Bb Bo b n ms k R rx l bs) (i : Nat) : OS w1 (wr.setCell ⟨Bo, i, none⟩ (.bool true)) Q Bl Ba Bb Bo b n ms k R rx l (bs.set i true) := by
  obtain ⟨cur, hB, hs⟩ := h.nodes
  obtain ⟨co, hBo⟩ := own_block h.bits
  obtain ⟨s1, hg⟩ := h.bits.set i true
  exact ⟨grown_trans_row h.grown hg (fun g e => by injection e with e; have := h.bits.lt.1; omega), (hg.block Q (heap_lt h.box) (by simpa using blk_ne h.box hBo (by decide))).trans h.box, ⟨cur, (hg.block Bl (heap_lt hB) (by simpa using blk_ne hB hBo (by decide))).trans hB, hs⟩, h.ll.other hg hBo (by decide) (by decide), s1, nums_kept h.nums hg (by simpa using fun e => map_ne hBo h.nums e.symm), h.lB, h.lb⟩

theorem OS.new {w1 wr w' : World} {Q Bl Ba Bb Bo b n k : Nat} {ms : List Nod} {R : List (List Int)} {rx : List Sl} {l : List ByteArray} {bs : List Bool} (h : OS w1 wr Q Bl Ba Bb Bo b n ms k R rx l bs) (hg : wr.grownBy w' none) : OS w1 w' Q Bl Ba Bb Bo b n ms k R rx l bs :=
  h.read (Frm.new h.grown.size hg) (h.ll.new hg)

theorem store4 {w3 : World} {B : Nat} {z0 z1 z2 z3 : Value} {t : TypeId} (a b c d : Value) (hb : w3.heap[B]? = some (.cells #[z0, z1, z2, z3] t (0, 0))) :
    ((((w3.setCell ⟨B, 0, none⟩ a).setCell ⟨B, 1, none⟩ b).setCell ⟨B, 2, none⟩ c).setCell ⟨B, 3, none⟩ d).heap[B]? = some (.cells #[a, b, c, d] t (0, 0)) ∧ w3.grownBy ((((w3.setCell ⟨B, 0, none⟩ a).setCell ⟨B, 1, none⟩ b).setCell ⟨B, 2, none⟩ c).setCell ⟨B, 3, none⟩ d) (some B) := by
  have h1 := heap_setCell_same w3 B 0 _ _ a hb
  have h2 := heap_setCell_same _ B 1 _ _ b h1
  have h3 := heap_setCell_same _ B 2 _ _ c h2
  have h4 := heap_setCell_same _ B 3 _ _ d h3
  have g : ∀ (x : World) (j : Nat) (v : Value), x.grownBy (x.setCell ⟨B, j, none⟩ v) (some B) := fun x j v =>
    ⟨rfl, rfl, rfl, by simp [World.setCell], fun k _ hk => Below.heap_setCell _ _ _ _ (fun e => hk (by rw [e]))⟩
  exact ⟨by simpa using h4, grown_same (grown_same (grown_same (g w3 0 a) (g _ 1 b)) (g _ 2 c)) (g _ 3 d)⟩

/-- The lists of a graph's nodes, made and empty. -/
structure Made5 (w1 wx : World) (Q Bl Ba Bb Bo n : Nat) (M1 M2 M5 : Array Value) : Prop where
  grown : w1.grownBy wx none
  box : wx.heap[Q]? = some (.cells #[.slice (some ⟨Bl, 0, none⟩) n n, .slice (some ⟨Ba, 0, none⟩) n n, .slice (some ⟨Bb, 0, none⟩) n n, .slice (some ⟨Bo, 0, none⟩) n n] 63 (0, 0))
  h1 : wx.heap[Bl]? = some (.cells M5 52 (0, 0))
  h2 : wx.heap[Ba]? = some (.cells M2 40 (0, 0))
  h3 : wx.heap[Bb]? = some (.cells M2 40 (0, 0))
  h4 : wx.heap[Bo]? = some (.cells M1 4 (0, 0))
  ne : Ba ≠ Bb
  l1 : w1.heap.size ≤ Bl
  l2 : w1.heap.size ≤ Ba
  l3 : w1.heap.size ≤ Bb
  l4 : w1.heap.size ≤ Bo
end Go.Proofs.YtmdpeckeliplkaaDoor
