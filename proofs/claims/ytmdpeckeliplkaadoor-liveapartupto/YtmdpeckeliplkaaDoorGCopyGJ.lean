/- A graph of its own, by the walk: its inputs and outputs. -/
import Derived.Test.YtmdpeckeliplkaaDoorPartI
import Derived.Test.YtmdpeckeliplkaaDoorPartJ
namespace Go.Proofs.YtmdpeckeliplkaaDoor
open Go.RowKit

/-- The five cells of a block, written anew. -/
theorem store5g {w3 : World} {B : Nat} {z0 z1 z2 z3 z4 : Value} {t : TypeId} (a b c d e : Value) (hb : w3.heap[B]? = some (.cells #[z0, z1, z2, z3, z4] t (0, 0))) :
    (((((w3.setCell ⟨B, 0, none⟩ a).setCell ⟨B, 1, none⟩ b).setCell ⟨B, 2, none⟩ c).setCell ⟨B, 3, none⟩ d).setCell ⟨B, 4, none⟩ e).heap[B]? = some (.cells #[a, b, c, d, e] t (0, 0)) ∧ w3.grownBy (((((w3.setCell ⟨B, 0, none⟩ a).setCell ⟨B, 1, none⟩ b).setCell ⟨B, 2, none⟩ c).setCell ⟨B, 3, none⟩ d).setCell ⟨B, 4, none⟩ e) (some B) := by
  have h1 := heap_setCell_same w3 B 0 _ _ a hb
  have h2 := heap_setCell_same _ B 1 _ _ b h1
  have h3 := heap_setCell_same _ B 2 _ _ c h2
  have h4 := heap_setCell_same _ B 3 _ _ d h3
  have h5 := heap_setCell_same _ B 4 _ _ e h4
  have g : ∀ (x : World) (j : Nat) (v : Value), x.grownBy (x.setCell ⟨B, j, none⟩ v) (some B) := fun x j v =>
    ⟨rfl, rfl, rfl, by simp [World.setCell], fun k _ hk => Below.heap_setCell _ _ _ _ (fun e => hk (by rw [e]))⟩
  exact ⟨by simpa using h5, grown_same (grown_same (grown_same (grown_same (g w3 0 a) (g _ 1 b)) (g _ 2 c)) (g _ 3 d)) (g _ 4 e)⟩

theorem gra_frozen {w : World} {B : Nat} {z0 z1 z2 z3 z4 : Value} {t : TypeId} (hb : w.heap[B]? = some (.cells #[z0, z1, z2, z3, z4] t (0, 0))) :
    w.frozen? ⟨B, 0, none⟩ = false ∧ w.frozen? ⟨B, 1, none⟩ = false ∧ w.frozen? ⟨B, 2, none⟩ = false ∧ w.frozen? ⟨B, 3, none⟩ = false ∧ w.frozen? ⟨B, 4, none⟩ = false :=
  ⟨frozen_of_row w B 0 _ _ hb, frozen_of_row w B 1 _ _ hb, frozen_of_row w B 2 _ _ hb, frozen_of_row w B 3 _ _ hb, frozen_of_row w B 4 _ _ hb⟩

theorem zer_cells {w : World} {B : Nat} {t : TypeId} (hb : w.heap[B]? = some (.cells #[.string ⟨#[]⟩, .slice none 0 0, .slice none 0 0, .slice none 0 0, .slice none 0 0] t (0, 0))) :
    w.cell? ⟨B, 0, none⟩ = some (.string ⟨#[]⟩) ∧ w.cell? ⟨B, 1, none⟩ = some (.slice none 0 0) ∧ w.cell? ⟨B, 2, none⟩ = some (.slice none 0 0) ∧ w.cell? ⟨B, 3, none⟩ = some (.slice none 0 0) ∧ w.cell? ⟨B, 4, none⟩ = some (.slice none 0 0) :=
  ⟨(cell_of_row _ _ 0 _ _ (0, 0) hb).trans rfl, (cell_of_row _ _ 1 _ _ (0, 0) hb).trans rfl, (cell_of_row _ _ 2 _ _ (0, 0) hb).trans rfl, (cell_of_row _ _ 3 _ _ (0, 0) hb).trans rfl, (cell_of_row _ _ 4 _ _ (0, 0) hb).trans rfl⟩

/-- The copy, as a node that comes in. -/
theorem Copied.nodeG {w w' : World} {n : Nod} {ins : List ByteArray} {xs ys : List Atr} {cs : List Cont} {iv av : Sl} {op nam out : ByteArray} (h : Copied w w' n ins xs cs iv av ys) (hn : NodeIn w n ins xs cs) : NodeIn w' ⟨op, nam, iv, out, av⟩ ins ys cs := by
  obtain ⟨-, -, -, -, -, hi3⟩ := hn.ins.form
  obtain ⟨-, -, -, -, -, ha3⟩ := hn.av.form
  refine ⟨h.ins.isL (bytes := 16) scell_len hi3, h.own.isL (bytes := 136) acells_len (by rw [h.len]; exact ha3), ?_, by rw [h.len]; exact hn.few, strip_s h.eq hn.short⟩
  intro j a ha
  have hj : j < xs.length := by rw [← h.len]; exact (List.getElem?_eq_some_iff.1 ha).1
  obtain ⟨c, hc, -⟩ := hn.has j xs[j] (List.getElem?_eq_getElem hj)
  exact ⟨c, hc, h.has j a c ha hc⟩

theorem Copied.feet {w w' : World} {n : Nod} {ins : List ByteArray} {xs ys : List Atr} {cs : List Cont} {iv av : Sl} {op nam out : ByteArray} (h : Copied w w' n ins xs cs iv av ys) : ∀ b, nodFt ⟨op, nam, iv, out, av⟩ ⟨ins, ys, cs⟩ b → w.heap.size ≤ b ∧ b < w'.heap.size := by
  intro b e
  rcases e with e | e | ⟨a, ha, e⟩
  · exact World.ownsRow.lt h.ins b e
  · exact World.ownsRow.lt h.own b e
  · exact (h.new a ha).1.any e

theorem NodeIn.keptG {w w' : World} {n : Nod} {ins : List ByteArray} {xs : List Atr} {cs : List Cont} (h : NodeIn w n ins xs cs) (kp : ∀ b, b < w.heap.size → w'.heap[b]? = w.heap[b]?) : NodeIn w' n ins xs cs :=
  ⟨h.ins.kept fun b hb _ => kp b hb, h.av.kept fun b hb _ => kp b hb, fun j a e => by obtain ⟨c, e1, e2⟩ := h.has j a e; exact ⟨c, e1, e2.kept fun b hb _ => kp b hb⟩, h.few, h.short⟩

def toNc (p : Nod × Ni) : Nc := ⟨p.1, p.2.ins, p.2.xs, p.2.cs⟩

def nkey (c : Nc) : ByteArray × ByteArray × List ByteArray × ByteArray × List Atr × List Cont := (c.n.op, c.n.name, c.ins, c.n.out, c.xs.map strip, c.cs)

theorem infoNodeG : (Tryd.prog.info? 52).map (fun i => (i.zero, i.size, i.bytes)) = some (some (.agg #[.string ⟨#[]⟩, .string ⟨#[]⟩, .slice none 0 0, .string ⟨#[]⟩, .slice none 0 0]), 5, 96) := by kernel_rfl

theorem infoNam : (Tryd.prog.info? 59).map (fun i => (i.zero, i.size, i.bytes)) = some (some (.agg #[.string ⟨#[]⟩, .int .i64 0, .slice none 0 0, .slice none 0 0]), 4, 72) := by kernel_rfl

theorem ncell_one (v : Nod) : ∀ u ∈ ncells v, u.oneCell' = true := by
  intro u hu
  simp only [ncells, List.mem_cons, List.not_mem_nil, or_false] at hu
  rcases hu with rfl | rfl | rfl | rfl | rfl <;> rfl

theorem mcell_one (v : Nam) : ∀ u ∈ mcells v, u.oneCell' = true := by
  intro u hu
  simp only [mcells, List.mem_cons, List.not_mem_nil, or_false] at hu
  rcases hu with rfl | rfl | rfl | rfl <;> rfl

/-- No two nodes share a list. -/
def NSep (ms : List (Nod × Ni)) : Prop := ∀ (i j : Nat) (p q : Nod × Ni), ms[i]? = some p → ms[j]? = some q → i ≠ j → ∀ b, nodFt p.1 p.2 b → ¬ nodFt q.1 q.2 b

/-- A node's inputs are the call's own, and lie apart from its other lists. -/
structure NOwn (w : World) (p : Nod × Ni) : Prop where
  ins : OwnsL 9 1 scell w 0 p.1.iv.v p.2.ins
  ap1 : Apt p.1.iv.v p.1.av.v
  ap2 : ∀ a ∈ p.2.xs, ApA a p.1.iv.v

theorem NOwn.kept {w w' : World} {p : Nod × Ni} (h : NOwn w p) (hk : ∀ b, nodFt p.1 p.2 b → w'.heap[b]? = w.heap[b]?) : NOwn w' p := ⟨owns_block h.ins (fun b e => hk b (Or.inl e)), h.ap1, h.ap2⟩

theorem NSep.nil : NSep [] := fun i j p q hp => by simp at hp

theorem NSep.snoc {ms : List (Nod × Ni)} {p : Nod × Ni} {m : Nat} (h : NSep ms) (hl : ∀ q ∈ ms, ∀ b, nodFt q.1 q.2 b → b < m) (hp : ∀ b, nodFt p.1 p.2 b → m ≤ b) : NSep (ms ++ [p]) := by
  have hat : ∀ (i : Nat) (q : Nod × Ni), (ms ++ [p])[i]? = some q → (i < ms.length ∧ ms[i]? = some q) ∨ (i = ms.length ∧ q = p) := by
    intro i q hq
    by_cases hi : i < ms.length
    · rw [List.getElem?_append_left hi] at hq
      exact Or.inl ⟨hi, hq⟩
    · have hlt := (List.getElem?_eq_some_iff.1 hq).1
      rw [List.length_append, List.length_singleton] at hlt
      obtain rfl : i = ms.length := by omega
      rw [List.getElem?_append_right (Nat.le_refl _), Nat.sub_self] at hq
      exact Or.inr ⟨rfl, by simpa using hq.symm⟩
  intro i j a b ha hb hij c hc hd
  rcases hat i a ha with ⟨h1, h2⟩ | ⟨h1, rfl⟩ <;> rcases hat j b hb with ⟨h3, h4⟩ | ⟨h3, rfl⟩
  · exact h i j a b h2 h4 hij c hc hd
  · have := hl a (List.mem_of_getElem? h2) c hc
    have := hp c hd
    omega
  · have := hl b (List.mem_of_getElem? h4) c hd
    have := hp c hc
    omega
  · omega

/-- The copy of the nodes, as far as it goes. -/
structure NInv (W1 : World) (B : Nat) (nam : ByteArray) (ui uo : Sl) (cs : List Nc) (k : Nat) (wr : World) (v : Sl) (ms : List (Nod × Ni)) : Prop where
  box : wr.heap[B]? = some (.cells #[.string nam, .slice v.a v.n v.c, .slice ui.a ui.n ui.c, .slice uo.a uo.n uo.c, .slice none 0 0] 26 (0, 0))
  own : OwnNods wr W1.heap.size wr.heap.size v.v ms
  len : (ms.map (·.1)).length = k
  key : (ms.map toNc).map nkey = (cs.take k).map nkey
  grown : W1.grownBy wr (some B)
  nown : ∀ p ∈ ms, NOwn wr p
  sep : NSep ms

/-- The copy of the initializers, as far as it goes. -/
structure InitInv (W2 : World) (B : Nat) (nam : ByteArray) (un ui uo : Sl) (its : List (Nam × List Int × List Int)) (k : Nat) (wr : World) (v : Sl) (ts : List (Nam × List Int × List Int)) : Prop where
  box : wr.heap[B]? = some (.cells #[.string nam, .slice un.a un.n un.c, .slice ui.a ui.n ui.c, .slice uo.a uo.n uo.c, .slice v.a v.n v.c] 26 (0, 0))
  own : OwnNams wr W2.heap.size wr.heap.size v.v ts
  len : (ts.map (·.1)).length = k
  key : ts.map mkey = (its.take k).map mkey
  grown : W2.grownBy wr (some B)

/-- Inputs and outputs are copied, and the new graph lies in a block of its own. -/
structure CutG (w0 : World) (nam : ByteArray) (vin vout : List (Val × List Int)) (wx : World) (B : Nat) (ui uo : Sl) (vi vo : List (Val × List Int)) (i0 i1 o0 o1 : Nat) : Prop where
  box : wx.heap[B]? = some (.cells #[.string nam, .slice none 0 0, .slice ui.a ui.n ui.c, .slice uo.a uo.n uo.c, .slice none 0 0] 26 (0, 0))
  ins : OwnVals wx i0 i1 ui.v vi
  outs : OwnVals wx o0 o1 uo.v vo
  ki : vi.map vkey = vin.map vkey
  ko : vo.map vkey = vout.map vkey
  li : w0.heap.size ≤ i0
  lo : w0.heap.size ≤ o0
  lb : w0.heap.size ≤ B
  apt : i1 ≤ o0 ∨ o1 ≤ i0
  bi : B < i0 ∨ i1 ≤ B
  bo : B < o0 ∨ o1 ≤ B
  grown : w0.grownBy wx none

def CutP (w0 : World) (nam : ByteArray) (vin vout : List (Val × List Int)) (p : Value) (wx : World) : Prop := ∃ (B : Nat) (ui uo : Sl) (vi vo : List (Val × List Int)) (i0 i1 o0 o1 : Nat), p = .pointer (some ⟨B, 0, none⟩) ∧ CutG w0 nam vin vout wx B ui uo vi vo i0 i1 o0 o1

/-- How a round that copies an initializer ends. -/
def TPut (W2 : World) (B : Nat) (nam : ByteArray) (un ui uo : Sl) (its : List (Nam × List Int × List Int)) (k : Nat) (wx : World) : Prop := ∃ (v : Sl) (ts : List (Nam × List Int × List Int)), InitInv W2 B nam un ui uo its k wx v ts

theorem InitInv.step {W2 : World} {B : Nat} {nam : ByteArray} {un ui uo : Sl} {its : List (Nam × List Int × List Int)} {en : Nat} {wr w3 w8 w9 : World} {ea : Option Addr} {ec gg cap : Nat} {ts : List (Nam × List Int × List Int)} {A : Nam} {ds es : List Int} {d t : Sl} (TI : InitInv W2 B nam un ui uo its en wr ⟨ea, en, ec⟩ ts) (HA : its[en]? = some (A, ds, es)) (hB2 : B < W2.heap.size) (hsr : W2.heap.size ≤ wr.heap.size) (g3 : wr.grownBy w3 none) (hd : IsInts w3 d.v ds) (ht : IsInts w3 t.v es) (nd : New wr.heap.size w3.heap.size d.v) (nt : New wr.heap.size w3.heap.size t.v)
    (hown8 : w8.ownsRow W2.heap.size 59 4 (.slice (some ⟨gg, 0, none⟩) (en + 1) cap) (en + 1) ((ts.map (·.1)).flatMap mcells ++ mcells ⟨A.name, A.ty, d, t⟩))
    (hgrow : (w3.alloc (.cells #[.string A.name, .int .i64 A.ty, .slice d.a d.n d.c, .slice t.a t.n t.c] 59)).grownBy w8 (Value.slice ea en ec).ownBlock) (hat : (Value.slice ea en ec).ownBlock = some gg ∨ gg = w3.heap.size + 1)
    (q1 : w9.heap[B]? = some (.cells #[.string nam, .slice un.a un.n un.c, .slice ui.a ui.n ui.c, .slice uo.a uo.n uo.c, .slice (some ⟨gg, 0, none⟩) (en + 1) cap] 26 (0, 0))) (q2 : w8.grownBy w9 (some B)) (q3 : w9.heap.size = w8.heap.size) : TPut W2 B nam un ui uo its (en + 1) w9 := by
  have gn := grown_new w3 (.cells #[.string A.name, .int .i64 A.ty, .slice d.a d.n d.c, .slice t.a t.n t.c] 59)
  have hy : namH _ ⟨A.name, A.ty, d, t⟩ (ds, es) := ⟨hd.more gn, ht.more gn⟩
  have sn := TI.own.snoc namFeet hsr (grown_trans g3 gn) hgrow (by simpa using hat) (owns_at_row TI.len hown8) (y := ⟨A.name, A.ty, d, t⟩) (c := (ds, es)) hy (fun b e => by
    have := gn.size
    rcases e with e | e
    · have := nd b e
      omega
    · have := nt b e
      omega)
  refine ⟨⟨some ⟨gg, 0, none⟩, en + 1, cap⟩, ts ++ [(⟨A.name, A.ty, d, t⟩, ds, es)], q1, (sn.past namFeet q2 (fun g e => by cases e; exact Or.inl hB2)).wide (Nat.le_refl _) (Nat.le_of_eq q3.symm) (Nat.le_refl _), by rw [List.map_append, List.length_append, TI.len]; rfl, ?_, ?_⟩
  · rw [take_map_key mkey HA, List.map_append, TI.key]
    rfl
  · exact grown_same (grown_same_row (grown_same_row TI.grown (grown_trans g3 gn) (by simp)) hgrow (fun g e => (World.ownsRow.lt TI.own.own g e).1)) q2

/-- What Copy answers. -/
structure CopiedG (w w' : World) (g : Gra) (cs : List Nc) (vin vout : List (Val × List Int)) (its : List (Nam × List Int × List Int)) (h : Gra) (ms : List (Nod × Ni)) (vi vo : List (Val × List Int)) (ts : List (Nam × List Int × List Int)) (i0 i1 o0 o1 n0 n1 t0 t1 : Nat) : Prop where
  name : h.name = g.name
  ins : OwnVals w' i0 i1 h.iv.v vi
  outs : OwnVals w' o0 o1 h.ov.v vo
  nodes : OwnNods w' n0 n1 h.nv.v ms
  inits : OwnNams w' t0 t1 h.tv.v ts
  ki : vi.map vkey = vin.map vkey
  ko : vo.map vkey = vout.map vkey
  kn : (ms.map toNc).map nkey = cs.map nkey
  kt : ts.map mkey = its.map mkey
  apt : (i1 ≤ o0 ∨ o1 ≤ i0) ∧ i1 ≤ n0 ∧ o1 ≤ n0 ∧ n1 ≤ t0 ∧ n0 ≤ n1
  nown : ∀ p ∈ ms, NOwn w' p
  sep : NSep ms
  low : w.heap.size ≤ i0 ∧ w.heap.size ≤ o0 ∧ w.heap.size ≤ n0 ∧ w.heap.size ≤ t0
  grown : w.grownBy w' none
end Go.Proofs.YtmdpeckeliplkaaDoor
