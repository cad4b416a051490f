/- Joined texts: GCopyG, GCopyH. -/
import Derived.Test.YtmdpeckeliplkaaDoorPartI
import Derived.Test.YtmdpeckeliplkaaDoorPartJ
/- A graph of its own, by the walk: its inputs and outputs. -/
namespace Go.Proofs.YtmdpeckeliplkaaDoor
open Go.RowKit

/-- The five cells of a block, written anew. -/
theorem store5g {w3 : World} {B : Nat} {z0 z1 z2 z3 z4 : Value} {t : TypeId} (a b c d e : Value) (hb : w3.heap[B]? = some (.cells #[z0, z1, z2, z3, z4] t (0, 0))) :
    (((((w3.setCell ⟨B, 0, none⟩ a).setCell ⟨B, 1, none⟩ b).setCell ⟨B, 2, none⟩ c).setCell ⟨B, 3, none⟩ d).setCell ⟨B, 4, none⟩ e).heap[B]? = some (.cells #[a, b, c, d, e] t (0, 0)) ∧ w3.grownBy (((((w3.setCell ⟨B, 0, none⟩ a).setCell ⟨B, 1, none⟩ b).setCell ⟨B, 2, none⟩ c).setCell ⟨B, 3, none⟩ d).setCell ⟨B, 4, none⟩ e) (some B) := by
  have h1 := heap_setCell_same w3 B 0 _ _ a hb
  have h2 := heap_setCell_same _ B 1 _ _ b h1
  have h3 := heap_setCell_same _ B 2 _ _ c h2
  have h4 := heap_setCell_same _ B 3 _ _ d h3
  have h5 := heap_setCell_same _ B 4 _ _ e h4
  have g : ∀ (x : World) (j : Nat) (v : Value), x.grownBy (x.setCell ⟨B, j, none⟩ v) (some B) := fun x j v =>
    ⟨rfl, rfl, rfl, by simp [World.setCell], fun k _ hk => Below.heap_setCell _ _ _ _ (fun e => hk (by rw [e]))⟩
  exact ⟨by simpa using h5, grown_same (grown_same (grown_same (grown_same (g w3 0 a) (g _ 1 b)) (g _ 2 c)) (g _ 3 d)) (g _ 4 e)⟩

theorem gra_frozen {w : World} {B : Nat} {z0 z1 z2 z3 z4 : Value} {t : TypeId} (hb : w.heap[B]? = some (.cells #[z0, z1, z2, z3, z4] t (0, 0))) :
    w.frozen? ⟨B, 0, none⟩ = false ∧ w.frozen? ⟨B, 1, none⟩ = false ∧ w.frozen? ⟨B, 2, none⟩ = false ∧ w.frozen? ⟨B, 3, none⟩ = false ∧ w.frozen? ⟨B, 4, none⟩ = false :=
  ⟨frozen_of_row w B 0 _ _ hb, frozen_of_row w B 1 _ _ hb, frozen_of_row w B 2 _ _ hb, frozen_of_row w B 3 _ _ hb, frozen_of_row w B 4 _ _ hb⟩

theorem zer_cells {w : World} {B : Nat} {t : TypeId} (hb : w.heap[B]? = some (.cells #[.string ⟨#[]⟩, .slice none 0 0, .slice none 0 0, .slice none 0 0, .slice none 0 0] t (0, 0))) :
    w.cell? ⟨B, 0, none⟩ = some (.string ⟨#[]⟩) ∧ w.cell? ⟨B, 1, none⟩ = some (.slice none 0 0) ∧ w.cell? ⟨B, 2, none⟩ = some (.slice none 0 0) ∧ w.cell? ⟨B, 3, none⟩ = some (.slice none 0 0) ∧ w.cell? ⟨B, 4, none⟩ = some (.slice none 0 0) :=
  ⟨(cell_of_row _ _ 0 _ _ (0, 0) hb).trans rfl, (cell_of_row _ _ 1 _ _ (0, 0) hb).trans rfl, (cell_of_row _ _ 2 _ _ (0, 0) hb).trans rfl, (cell_of_row _ _ 3 _ _ (0, 0) hb).trans rfl, (cell_of_row _ _ 4 _ _ (0, 0) hb).trans rfl⟩

/-- The copy, as a node that comes in. -/
theorem Copied.nodeG {w w' : World} {n : Nod} {ins : List ByteArray} {xs ys : List Atr} {cs : List Cont} {iv av : Sl} {op nam out : ByteArray} (h : Copied w w' n ins xs cs iv av ys) (hn : NodeIn w n ins xs cs) : NodeIn w' ⟨op, nam, iv, out, av⟩ ins ys cs := by
  obtain ⟨-, -, -, -, -, hi3⟩ := hn.ins.form
  obtain ⟨-, -, -, -, -, ha3⟩ := hn.av.form
  refine ⟨h.ins.isL (bytes := 16) scell_len hi3, h.own.isL (bytes := 136) acells_len (by rw [h.len]; exact ha3), ?_, by rw [h.len]; exact hn.few, strip_s h.eq hn.short⟩
  intro j a ha
  have hj : j < xs.length := by rw [← h.len]; exact (List.getElem?_eq_some_iff.1 ha).1
  obtain ⟨c, hc, -⟩ := hn.has j xs[j] (List.getElem?_eq_getElem hj)
  exact ⟨c, hc, h.has j a c ha hc⟩

theorem Copied.feet {w w' : World} {n : Nod} {ins : List ByteArray} {xs ys : List Atr} {cs : List Cont} {iv av : Sl} {op nam out : ByteArray} (h : Copied w w' n ins xs cs iv av ys) : ∀ b, nodFt ⟨op, nam, iv, out, av⟩ ⟨ins, ys, cs⟩ b → w.heap.size ≤ b ∧ b < w'.heap.size := by
  intro b e
  rcases e with e | e | ⟨a, ha, e⟩
  · exact World.ownsRow.lt h.ins b e
  · exact World.ownsRow.lt h.own b e
  · exact (h.new a ha).1.any e

theorem NodeIn.keptG {w w' : World} {n : Nod} {ins : List ByteArray} {xs : List Atr} {cs : List Cont} (h : NodeIn w n ins xs cs) (kp : ∀ b, b < w.heap.size → w'.heap[b]? = w.heap[b]?) : NodeIn w' n ins xs cs :=
  ⟨h.ins.kept fun b hb _ => kp b hb, h.av.kept fun b hb _ => kp b hb, fun j a e => by obtain ⟨c, e1, e2⟩ := h.has j a e; exact ⟨c, e1, e2.kept fun b hb _ => kp b hb⟩, h.few, h.short⟩

def toNc (p : Nod × Ni) : Nc := ⟨p.1, p.2.ins, p.2.xs, p.2.cs⟩

def nkey (c : Nc) : ByteArray × ByteArray × List ByteArray × ByteArray × List Atr × List Cont := (c.n.op, c.n.name, c.ins, c.n.out, c.xs.map strip, c.cs)

theorem infoNodeG : (Tryd.prog.info? 52).map (fun i => (i.zero, i.size, i.bytes)) = some (some (.agg #[.string ⟨#[]⟩, .string ⟨#[]⟩, .slice none 0 0, .string ⟨#[]⟩, .slice none 0 0]), 5, 96) := by kernel_rfl

theorem infoNam : (Tryd.prog.info? 59).map (fun i => (i.zero, i.size, i.bytes)) = some (some (.agg #[.string ⟨#[]⟩, .int .i64 0, .slice none 0 0, .slice none 0 0]), 4, 72) := by kernel_rfl

theorem ncell_one (v : Nod) : ∀ u ∈ ncells v, u.oneCell' = true := by
  intro u hu
  simp only [ncells, List.mem_cons, List.not_mem_nil, or_false] at hu
  rcases hu with rfl | rfl | rfl | rfl | rfl <;> rfl

theorem mcell_one (v : Nam) : ∀ u ∈ mcells v, u.oneCell' = true := by
  intro u hu
  simp only [mcells, List.mem_cons, List.not_mem_nil, or_false] at hu
  rcases hu with rfl | rfl | rfl | rfl <;> rfl

/-- No two nodes share a list. -/
def NSep (ms : List (Nod × Ni)) : Prop := ∀ (i j : Nat) (p q : Nod × Ni), ms[i]? = some p → ms[j]? = some q → i ≠ j → ∀ b, nodFt p.1 p.2 b → ¬ nodFt q.1 q.2 b

/-- A node's inputs are the call's own, and lie apart from its other lists. -/
structure NOwn (w : World) (p : Nod × Ni) : Prop where
  ins : OwnsL 9 1 scell w 0 p.1.iv.v p.2.ins
  ap1 : Apt p.1.iv.v p.1.av.v
  ap2 : ∀ a ∈ p.2.xs, ApA a p.1.iv.v

theorem NOwn.kept {w w' : World} {p : Nod × Ni} (h : NOwn w p) (hk : ∀ b, nodFt p.1 p.2 b → w'.heap[b]? = w.heap[b]?) : NOwn w' p := ⟨owns_block h.ins (fun b e => hk b (Or.inl e)), h.ap1, h.ap2⟩

theorem NSep.nil : NSep [] := fun i j p q hp => by simp at hp

theorem NSep.snoc {ms : List (Nod × Ni)} {p : Nod × Ni} {m : Nat} (h : NSep ms) (hl : ∀ q ∈ ms, ∀ b, nodFt q.1 q.2 b → b < m) (hp : ∀ b, nodFt p.1 p.2 b → m ≤ b) : NSep (ms ++ [p]) := by
  have hat : ∀ (i : Nat) (q : Nod × Ni), (ms ++ [p])[i]? = some q → (i < ms.length ∧ ms[i]? = some q) ∨ (i = ms.length ∧ q = p) := by
    intro i q hq
    by_cases hi : i < ms.length
    · rw [List.getElem?_append_left hi] at hq
      exact Or.inl ⟨hi, hq⟩
    · have hlt := (List.getElem?_eq_some_iff.1 hq).1
      rw [List.length_append, List.length_singleton] at hlt
      obtain rfl : i = ms.length := by omega
      rw [List.getElem?_append_right (Nat.le_refl _), Nat.sub_self] at hq
      exact Or.inr ⟨rfl, by simpa using hq.symm⟩
  intro i j a b ha hb hij c hc hd
  rcases hat i a ha with ⟨h1, h2⟩ | ⟨h1, rfl⟩ <;> rcases hat j b hb with ⟨h3, h4⟩ | ⟨h3, rfl⟩
  · exact h i j a b h2 h4 hij c hc hd
  · have := hl a (List.mem_of_getElem? h2) c hc
    have := hp c hd
    omega
  · have := hl b (List.mem_of_getElem? h4) c hd
    have := hp c hc
    omega
  · omega

/-- The copy of the nodes, as far as it goes. -/
structure NInv (W1 : World) (B : Nat) (nam : ByteArray) (ui uo : Sl) (cs : List Nc) (k : Nat) (wr : World) (v : Sl) (ms : List (Nod × Ni)) : Prop where
  box : wr.heap[B]? = some (.cells #[.string nam, .slice v.a v.n v.c, .slice ui.a ui.n ui.c, .slice uo.a uo.n uo.c, .slice none 0 0] 26 (0, 0))
  own : OwnNods wr W1.heap.size wr.heap.size v.v ms
  len : (ms.map (·.1)).length = k
  key : (ms.map toNc).map nkey = (cs.take k).map nkey
  grown : W1.grownBy wr (some B)
  nown : ∀ p ∈ ms, NOwn wr p
  sep : NSep ms

/-- The copy of the initializers, as far as it goes. -/
structure InitInv (W2 : World) (B : Nat) (nam : ByteArray) (un ui uo : Sl) (its : List (Nam × List Int × List Int)) (k : Nat) (wr : World) (v : Sl) (ts : List (Nam × List Int × List Int)) : Prop where
  box : wr.heap[B]? = some (.cells #[.string nam, .slice un.a un.n un.c, .slice ui.a ui.n ui.c, .slice uo.a uo.n uo.c, .slice v.a v.n v.c] 26 (0, 0))
  own : OwnNams wr W2.heap.size wr.heap.size v.v ts
  len : (ts.map (·.1)).length = k
  key : ts.map mkey = (its.take k).map mkey
  grown : W2.grownBy wr (some B)

/-- Inputs and outputs are copied, and the new graph lies in a block of its own. -/
structure CutG (w0 : World) (nam : ByteArray) (vin vout : List (Val × List Int)) (wx : World) (B : Nat) (ui uo : Sl) (vi vo : List (Val × List Int)) (i0 i1 o0 o1 : Nat) : Prop where
  box : wx.heap[B]? = some (.cells #[.string nam, .slice none 0 0, .slice ui.a ui.n ui.c, .slice uo.a uo.n uo.c, .slice none 0 0] 26 (0, 0))
  ins : OwnVals wx i0 i1 ui.v vi
  outs : OwnVals wx o0 o1 uo.v vo
  ki : vi.map vkey = vin.map vkey
  ko : vo.map vkey = vout.map vkey
  li : w0.heap.size ≤ i0
  lo : w0.heap.size ≤ o0
  lb : w0.heap.size ≤ B
  apt : i1 ≤ o0 ∨ o1 ≤ i0
  bi : B < i0 ∨ i1 ≤ B
  bo : B < o0 ∨ o1 ≤ B
  grown : w0.grownBy wx none

def CutP (w0 : World) (nam : ByteArray) (vin vout : List (Val × List Int)) (p : Value) (wx : World) : Prop := ∃ (B : Nat) (ui uo : Sl) (vi vo : List (Val × List Int)) (i0 i1 o0 o1 : Nat), p = .pointer (some ⟨B, 0, none⟩) ∧ CutG w0 nam vin vout wx B ui uo vi vo i0 i1 o0 o1

/-- How a round that copies an initializer ends. -/
def TPut (W2 : World) (B : Nat) (nam : ByteArray) (un ui uo : Sl) (its : List (Nam × List Int × List Int)) (k : Nat) (wx : World) : Prop := ∃ (v : Sl) (ts : List (Nam × List Int × List Int)), InitInv W2 B nam un ui uo its k wx v ts

theorem InitInv.step {W2 : World} {B : Nat} {nam : ByteArray} {un ui uo : Sl} {its : List (Nam × List Int × List Int)} {en : Nat} {wr w3 w8 w9 : World} {ea : Option Addr} {ec gg cap : Nat} {ts : List (Nam × List Int × List Int)} {A : Nam} {ds es : List Int} {d t : Sl} (TI : InitInv W2 B nam un ui uo its en wr ⟨ea, en, ec⟩ ts) (HA : its[en]? = some (A, ds, es)) (hB2 : B < W2.heap.size) (hsr : W2.heap.size ≤ wr.heap.size) (g3 : wr.grownBy w3 none) (hd : IsInts w3 d.v ds) (ht : IsInts w3 t.v es) (nd : New wr.heap.size w3.heap.size d.v) (nt : New wr.heap.size w3.heap.size t.v)
    (hown8 : w8.ownsRow W2.heap.size 59 4 (.slice (some ⟨gg, 0, none⟩) (en + 1) cap) (en + 1) ((ts.map (·.1)).flatMap mcells ++ mcells ⟨A.name, A.ty, d, t⟩))
    (hgrow : (w3.alloc (.cells #[.string A.name, .int .i64 A.ty, .slice d.a d.n d.c, .slice t.a t.n t.c] 59)).grownBy w8 (Value.slice ea en ec).ownBlock) (hat : (Value.slice ea en ec).ownBlock = some gg ∨ gg = w3.heap.size + 1)
    (q1 : w9.heap[B]? = some (.cells #[.string nam, .slice un.a un.n un.c, .slice ui.a ui.n ui.c, .slice uo.a uo.n uo.c, .slice (some ⟨gg, 0, none⟩) (en + 1) cap] 26 (0, 0))) (q2 : w8.grownBy w9 (some B)) (q3 : w9.heap.size = w8.heap.size) : TPut W2 B nam un ui uo its (en + 1) w9 := by
  have gn := grown_new w3 (.cells #[.string A.name, .int .i64 A.ty, .slice d.a d.n d.c, .slice t.a t.n t.c] 59)
  have hy : namH _ ⟨A.name, A.ty, d, t⟩ (ds, es) := ⟨hd.more gn, ht.more gn⟩
  have sn := TI.own.snoc namFeet hsr (grown_trans g3 gn) hgrow (by simpa using hat) (owns_at_row TI.len hown8) (y := ⟨A.name, A.ty, d, t⟩) (c := (ds, es)) hy (fun b e => by
    have := gn.size
    rcases e with e | e
    · have := nd b e
      omega
    · have := nt b e
      omega)
  refine ⟨⟨some ⟨gg, 0, none⟩, en + 1, cap⟩, ts ++ [(⟨A.name, A.ty, d, t⟩, ds, es)], q1, (sn.past namFeet q2 (fun g e => by cases e; exact Or.inl hB2)).wide (Nat.le_refl _) (Nat.le_of_eq q3.symm) (Nat.le_refl _), by rw [List.map_append, List.length_append, TI.len]; rfl, ?_, ?_⟩
  · rw [take_map_key mkey HA, List.map_append, TI.key]
    rfl
  · exact grown_same (grown_same_row (grown_same_row TI.grown (grown_trans g3 gn) (by simp)) hgrow (fun g e => (World.ownsRow.lt TI.own.own g e).1)) q2

/-- What Copy answers. -/
structure CopiedG (w w' : World) (g : Gra) (cs : List Nc) (vin vout : List (Val × List Int)) (its : List (Nam × List Int × List Int)) (h : Gra) (ms : List (Nod × Ni)) (vi vo : List (Val × List Int)) (ts : List (Nam × List Int × List Int)) (i0 i1 o0 o1 n0 n1 t0 t1 : Nat) : Prop where
  name : h.name = g.name
  ins : OwnVals w' i0 i1 h.iv.v vi
  outs : OwnVals w' o0 o1 h.ov.v vo
  nodes : OwnNods w' n0 n1 h.nv.v ms
  inits : OwnNams w' t0 t1 h.tv.v ts
  ki : vi.map vkey = vin.map vkey
  ko : vo.map vkey = vout.map vkey
  kn : (ms.map toNc).map nkey = cs.map nkey
  kt : ts.map mkey = its.map mkey
  apt : (i1 ≤ o0 ∨ o1 ≤ i0) ∧ i1 ≤ n0 ∧ o1 ≤ n0 ∧ n1 ≤ t0 ∧ n0 ≤ n1
  nown : ∀ p ∈ ms, NOwn w' p
  sep : NSep ms
  low : w.heap.size ≤ i0 ∧ w.heap.size ≤ o0 ∧ w.heap.size ≤ n0 ∧ w.heap.size ≤ t0
  grown : w.grownBy w' none
end Go.Proofs.YtmdpeckeliplkaaDoor

/- A graph of its own, by the walk: its head. -/
namespace Go.Proofs.YtmdpeckeliplkaaDoor
open Go.RowKit

theorem grown_same_refl (w : World) (row : Option Nat) : w.grownBy w row := ⟨rfl, rfl, rfl, Nat.le_refl _, fun _ _ _ => rfl⟩

set_option maxRecDepth 100000 in
set_option maxHeartbeats 6400000 in
theorem copygraph_any (g : Gra) (cs : List Nc) (vin vout : List (Val × List Int)) (its : List (Nam × List Int × List Int)) (w : World) (hin : GraphIn w g cs vin vout its) :
    Calls Tryd.prog 10 #[gval g] w fun e w' => ∃ (h : Gra) (ms : List (Nod × Ni)) (vi vo : List (Val × List Int)) (ts : List (Nam × List Int × List Int)) (i0 i1 o0 o1 n0 n1 t0 t1 : Nat), e = .returned (gval h) ∧ CopiedG w w' g cs vin vout its h ms vi vo ts i0 i1 o0 o1 n0 n1 t0 t1 := by
  have HG := hide hin
  obtain ⟨nam, ⟨na0, nn0, nc0⟩, ⟨ia, iN, ic⟩, ⟨oa, oN, oc⟩, ⟨ta, tN, tc⟩⟩ := g
  obtain ⟨xa, xc, e1, p1, p2, p3⟩ := hin.nodes.form
  rw [List.length_map] at e1 p1 p3
  obtain ⟨rfl, rfl, rfl⟩ : na0 = xa ∧ nn0 = cs.length ∧ nc0 = xc := by simpa [Sl.v] using e1
  obtain ⟨ya, yc, e2, p4, p5, p6⟩ := hin.ins.form
  rw [List.length_map] at e2 p4 p6
  obtain ⟨rfl, rfl, rfl⟩ : ia = ya ∧ iN = vin.length ∧ ic = yc := by simpa [Sl.v] using e2
  obtain ⟨za, zc, e3, p7, p8, p9⟩ := hin.outs.form
  rw [List.length_map] at e3 p7 p9
  obtain ⟨rfl, rfl, rfl⟩ : oa = za ∧ oN = vout.length ∧ oc = zc := by simpa [Sl.v] using e3
  obtain ⟨qa, qc, e4, p10, p11, p12⟩ := hin.inits.form
  rw [List.length_map] at e4 p10 p12
  obtain ⟨rfl, rfl, rfl⟩ : ta = qa ∧ tN = its.length ∧ tc = qc := by simpa [Sl.v] using e4
  obtain ⟨f1, f2, f3, f4⟩ := hin.few
  clear hin e1 e2 e3 e4
  unfold gval
  simp only
  obtain ⟨w0, hw0⟩ : ∃ w0, w0 = (w.alloc (.cells #[.string nam, .slice na0 cs.length nc0, .slice ia vin.length ic, .slice oa vout.length oc, .slice ta its.length tc] 26)).alloc (.cells #[.string ⟨#[]⟩, .slice none 0 0, .slice none 0 0, .slice none 0 0, .slice none 0 0] 26) := ⟨_, rfl⟩
  have g0 : w.grownBy w0 none := by rw [hw0]; exact grown_trans (grown_new _ _) (grown_new _ _)
  have hbx : w0.heap[w.heap.size]? = some (.cells #[.string nam, .slice na0 cs.length nc0, .slice ia vin.length ic, .slice oa vout.length oc, .slice ta its.length tc] 26 (0, 0)) ∧ w0.heap[w.heap.size + 1]? = some (.cells #[.string ⟨#[]⟩, .slice none 0 0, .slice none 0 0, .slice none 0 0, .slice none 0 0] 26 (0, 0)) := by
    rw [hw0]
    exact two_boxes w _ _
  have hs0 : w0.heap.size = w.heap.size + 1 + 1 := by rw [hw0]; simp
  have BX : Hid (∀ wx : World, wx.heap[w.heap.size]? = w0.heap[w.heap.size]? → wx.heap[w.heap.size]? = some (.cells #[.string nam, .slice na0 cs.length nc0, .slice ia vin.length ic, .slice oa vout.length oc, .slice ta its.length tc] 26 (0, 0))) := fun wx hx => hx.trans hbx.1
  have BR : Hid (∀ wx : World, wx.heap[w.heap.size + 1]? = w0.heap[w.heap.size + 1]? → wx.heap[w.heap.size + 1]? = some (.cells #[.string ⟨#[]⟩, .slice none 0 0, .slice none 0 0, .slice none 0 0, .slice none 0 0] 26 (0, 0))) := fun wx hx => hx.trans hbx.2
  have S0 := hide hs0
  have KW : Hid (∀ wx, w0.grownBy wx none → wx.heap[w.heap.size]? = w0.heap[w.heap.size]?) := fun wx hx => hx.block _ (by have := S0.out; omega) (by simp)
  obtain ⟨r0, r1, r2, r3, r4⟩ := gra_cells (g := ⟨nam, ⟨na0, cs.length, nc0⟩, ⟨ia, vin.length, ic⟩, ⟨oa, vout.length, oc⟩, ⟨ta, its.length, tc⟩⟩) hbx.1
  clear hbx hs0
  go_enter Tryd.func10, Tryd.ntmps10
  go_wp2_with fail
  rw [← hw0]
  clear hw0
  go_cut [3] from 7 to 15 (fun p wx => CutP w0 nam vin vout p wx)
  case first =>
    have gd := grown_drew (grown_refl w0)
    have ga := grown_drew (grown_new w0 (.cells #[.string ⟨#[]⟩, .slice none 0 0, .slice none 0 0, .slice none 0 0, .slice none 0 0] 26))
    have CI := hide (fun (wx : World) (hx : w0.grownBy wx none) => copyvals_any (.slice ia vin.length ic) vin wx (HG.out.ins.more (grown_trans g0 hx)) (fun p hp => (HG.out.din p hp).more (grown_trans g0 hx)) f2)
    have CO := hide (fun (wx : World) (hx : w0.grownBy wx none) => copyvals_any (.slice oa vout.length oc) vout wx (HG.out.outs.more (grown_trans g0 hx)) (fun p hp => (HG.out.dout p hp).more (grown_trans g0 hx)) f3)
    have y1 : w.heap.size ≠ w0.heap.size := by have := S0.out; omega
    have y1' := y1.symm
    go_region_held3 (fun w' => w'.cell? ⟨w.heap.size, 0, none⟩ = some (.string nam) ∧ w'.cell? ⟨w.heap.size, 2, none⟩ = some (.slice ia vin.length ic) ∧ w'.cell? ⟨w.heap.size, 3, none⟩ = some (.slice oa vout.length oc)) (go_keep) (first | (go_at_call_of 19 ia; have gp := gd; refine (CI.out _ (by first | exact gd | exact ga | exact gO | exact grown_trans gO (grown_new _ _))).mono ?_; rintro e wi ⟨ui, vi, rfl, hvi, kvi, hgi⟩; have gI : w0.grownBy wi none := (by first | exact grown_trans gd hgi | exact grown_trans ga hgi | exact grown_trans gO hgi | exact grown_trans (grown_trans gO (grown_new _ _)) hgi); obtain ⟨r0, r1, r2, r3, r4⟩ := gra_cells (g := ⟨nam, ⟨na0, cs.length, nc0⟩, ⟨ia, vin.length, ic⟩, ⟨oa, vout.length, oc⟩, ⟨ta, its.length, tc⟩⟩) (BX.out wi (KW.out wi gI)); have y2 : w.heap.size ≠ wi.heap.size := (by have := gI.size; have := S0.out; omega); have y2' := y2.symm; first | (have kz : wi.heap[w0.heap.size]? = some (.cells #[.string ⟨#[]⟩, .slice none 0 0, .slice none 0 0, .slice none 0 0, .slice none 0 0] 26 (0, 0)) := box_kept (show ((w0.alloc (.cells #[.string ⟨#[]⟩, .slice none 0 0, .slice none 0 0, .slice none 0 0, .slice none 0 0] 26)).drew).heap[w0.heap.size]? = _ from heap_alloc_new w0 _) hgi; obtain ⟨f0, f1, f2, f3, f4⟩ := gra_frozen kz; obtain ⟨k0, k1, k2, k3, k4⟩ := zer_cells kz) | (have kz : wi.heap[w0.heap.size]? = some (.cells #[.string ⟨#[]⟩, .slice none 0 0, .slice none 0 0, .slice none 0 0, .slice none 0 0] 26 (0, 0)) := box_kept kz hgi; obtain ⟨f0, f1, f2, f3, f4⟩ := gra_frozen kz; obtain ⟨k0, k1, k2, k3, k4⟩ := zer_cells kz) | (have kz : wi.heap[wo.heap.size]? = some (.cells #[.string ⟨#[]⟩, .slice none 0 0, .slice none 0 0, .slice none 0 0, .slice none 0 0] 26 (0, 0)) := box_kept (heap_alloc_new wo _) hgi; obtain ⟨f0, f1, f2, f3, f4⟩ := gra_frozen kz; obtain ⟨k0, k1, k2, k3, k4⟩ := zer_cells kz) | skip) | (go_at_call_of 19 oa; refine (CO.out _ (by first | exact gd | exact ga | exact gI | exact grown_trans gI (grown_new _ _))).mono ?_; rintro e wo ⟨uo, vo, rfl, hvo, kvo, hgo⟩; have gO : w0.grownBy wo none := (by first | exact grown_trans gd hgo | exact grown_trans ga hgo | exact grown_trans gI hgo | exact grown_trans (grown_trans gI (grown_new _ _)) hgo); obtain ⟨r0, r1, r2, r3, r4⟩ := gra_cells (g := ⟨nam, ⟨na0, cs.length, nc0⟩, ⟨ia, vin.length, ic⟩, ⟨oa, vout.length, oc⟩, ⟨ta, its.length, tc⟩⟩) (BX.out wo (KW.out wo gO)); have y3 : w.heap.size ≠ wo.heap.size := (by have := gO.size; have := S0.out; omega); have y3' := y3.symm; first | (have kz : wo.heap[w0.heap.size]? = some (.cells #[.string ⟨#[]⟩, .slice none 0 0, .slice none 0 0, .slice none 0 0, .slice none 0 0] 26 (0, 0)) := box_kept (show ((w0.alloc (.cells #[.string ⟨#[]⟩, .slice none 0 0, .slice none 0 0, .slice none 0 0, .slice none 0 0] 26)).drew).heap[w0.heap.size]? = _ from heap_alloc_new w0 _) hgo; obtain ⟨f0, f1, f2, f3, f4⟩ := gra_frozen kz; obtain ⟨k0, k1, k2, k3, k4⟩ := zer_cells kz) | (have kz : wo.heap[w0.heap.size]? = some (.cells #[.string ⟨#[]⟩, .slice none 0 0, .slice none 0 0, .slice none 0 0, .slice none 0 0] 26 (0, 0)) := box_kept kz hgo; obtain ⟨f0, f1, f2, f3, f4⟩ := gra_frozen kz; obtain ⟨k0, k1, k2, k3, k4⟩ := zer_cells kz) | (have kz : wo.heap[wi.heap.size]? = some (.cells #[.string ⟨#[]⟩, .slice none 0 0, .slice none 0 0, .slice none 0 0, .slice none 0 0] 26 (0, 0)) := box_kept (heap_alloc_new wi _) hgo; obtain ⟨f0, f1, f2, f3, f4⟩ := gra_frozen kz; obtain ⟨k0, k1, k2, k3, k4⟩ := zer_cells kz) | skip) | fail)
    all_goals (go_wp2_with fail; go_meet)
    · refine ⟨wo.heap.size, ui, uo, vi, vo, w0.heap.size, wi.heap.size, wi.heap.size, wo.heap.size, rfl, ⟨heap_alloc_new wo _, (OwnD.more valFeet hvi hgo).more valFeet (grown_new _ _), hvo.more valFeet (grown_new _ _), kvi, kvo, Nat.le_refl _, gI.size, gO.size, Or.inl (Nat.le_refl _), Or.inr hgo.size, Or.inr (Nat.le_refl _), grown_trans gO (grown_new _ _)⟩⟩
    · obtain ⟨hX, gX⟩ := store5g (.string nam) (.slice none 0 0) (.slice ui.a ui.n ui.c) (.slice uo.a uo.n uo.c) (.slice none 0 0) kz
      have hvo' : OwnVals wo (wi.heap.size + 1) wo.heap.size uo.v vo := by simpa using hvo
      have sgo : wi.heap.size + 1 ≤ wo.heap.size := by have := hgo.size; simpa using this
      refine ⟨wi.heap.size, ui, uo, vi, vo, w0.heap.size, wi.heap.size, wi.heap.size + 1, wo.heap.size, rfl, ⟨hX, (OwnD.more valFeet hvi (grown_trans (grown_new _ _) hgo)).past valFeet gX (fun g e => by cases e; exact Or.inr (Nat.le_refl _)), hvo'.past valFeet gX (fun g e => by cases e; exact Or.inl (Nat.lt_succ_self _)), kvi, kvo, Nat.le_refl _, by have := gI.size; omega, gI.size, Or.inl (by omega), Or.inr (Nat.le_refl _), Or.inl (by omega), grown_trans_row gO gX (fun r e => by cases e; exact gI.size)⟩⟩
    · obtain ⟨hX, gX⟩ := store5g (.string nam) (.slice none 0 0) (.slice ui.a ui.n ui.c) (.slice uo.a uo.n uo.c) (.slice none 0 0) kz
      have hvi' : OwnVals wi (w0.heap.size + 1) wi.heap.size ui.v vi := by simpa using hvi
      have sgi : w0.heap.size + 1 ≤ wi.heap.size := by have := hgi.size; simpa using this
      refine ⟨w0.heap.size, ui, uo, vi, vo, w0.heap.size + 1, wi.heap.size, wi.heap.size, wo.heap.size, rfl, ⟨hX, (OwnD.more valFeet hvi' hgo).past valFeet gX (fun g e => by cases e; exact Or.inl (Nat.lt_succ_self _)), hvo.past valFeet gX (fun g e => by cases e; exact Or.inl (by omega)), kvi, kvo, by omega, by omega, Nat.le_refl _, Or.inl (Nat.le_refl _), Or.inl (by omega), Or.inl (by omega), grown_trans_row gO gX (fun r e => by cases e; exact Nat.le_refl _)⟩⟩
  case rest =>
    obtain ⟨B, ui, uo, vi, vo, i0, i1, o0, o1, rfl, hcg⟩ := hcut
    have HC := hide hcg
    have BN : Hid (w0.heap.size ≤ B ∧ B < wc.heap.size) := ⟨hcg.lb, (Array.getElem?_eq_some_iff.1 hcg.box).1⟩
    have KO : Hid (∀ wx, wc.grownBy wx (some B) → ∀ b, b < w0.heap.size → wx.heap[b]? = w0.heap[b]?) := fun wx hx b hb => (hx.block b (by have := hcg.grown.size; omega) (fun e => by have := Option.some.inj e; have := hcg.lb; omega)).trans (hcg.grown.block b hb (by simp))
    clear hcg r0 r1 r2 r3 r4
    have KG : Hid (∀ wx, wc.grownBy wx (some B) → wx.heap[w.heap.size]? = some (.cells #[.string nam, .slice na0 cs.length nc0, .slice ia vin.length ic, .slice oa vout.length oc, .slice ta its.length tc] 26 (0, 0))) := fun wx hx => BX.out wx (KO.out wx hx _ (by have := S0.out; omega))
    have KI : Hid (∀ wx, wc.grownBy wx (some B) → ∀ b, b < w.heap.size → wx.heap[b]? = w.heap[b]?) := fun wx hx b hb => (KO.out wx hx b (by have := S0.out; omega)).trans (g0.block b hb (by simp))
    obtain ⟨j0, hj, jz0, jz1, jz2⟩ := info_parts infoNodeG
    obtain ⟨m0, hm, mz0, mz1, mz2⟩ := info_parts infoNam
    go_wp2_with fail
    go_loopw [4] (fun i wr => ∃ (k : Nat) (v : Sl) (ms : List (Nod × Ni)), k ≤ cs.length ∧ i = .int .i64 k ∧ NInv wc B nam ui uo cs k wr v ms) (fun i _ => cs.length - (intOf i).toNat)
    case atStart => exact ⟨0, ⟨none, 0, 0⟩, [], Nat.zero_le _, rfl, ⟨HC.out.box, OwnD.nil (Nat.le_refl _), rfl, rfl, grown_same_refl _ _, (fun p hp => by cases hp), NSep.nil⟩⟩
    case round =>
      obtain ⟨k, ⟨va, vn, vc⟩, ms, hk, rfl, hinv⟩ := hrel
      have CI := hide hinv
      have hvn : vn = k := by
        obtain ⟨pa, pc, e⟩ := OwnsL.form hinv.own.own
        simp only [Sl.v, Value.slice.injEq] at e
        exact e.2.1.trans hinv.len
      subst hvn
      clear hinv
      obtain ⟨r0, r1, r2, r3, r4⟩ := gra_cells (g := ⟨nam, ⟨na0, cs.length, nc0⟩, ⟨ia, vin.length, ic⟩, ⟨oa, vout.length, oc⟩, ⟨ta, its.length, tc⟩⟩) (KG.out wr CI.out.grown)
      clear r0 r2 r3 r4
      simp only at r1
      by_cases hlt : vn < cs.length
      · have HLk : IsNods wr (.slice na0 cs.length nc0) (cs.map (·.n)) := HG.out.nodes.kept fun b hb _ => KI.out wr CI.out.grown b hb
        have hlt' : vn < (cs.map (·.n)).length := by rw [List.length_map]; exact hlt
        obtain ⟨b, off, rfl⟩ := HLk.addr hlt'
        obtain ⟨a0, a1, a2, a3, a4⟩ := HLk.nod vn hlt'
        rw [List.getElem_map] at a0 a1 a2 a3 a4
        have hin : NodeIn wr cs[vn].n cs[vn].ins cs[vn].xs cs[vn].cs := (HG.out.node cs[vn] (List.getElem_mem hlt)).keptG (KI.out wr CI.out.grown)
        obtain ⟨A, hA⟩ : ∃ A, A = cs[vn] := ⟨_, rfl⟩
        have HA : Hid (cs[vn]? = some A) := by show _ = _; rw [List.getElem?_eq_getElem hlt, hA]
        rw [← hA] at a0 a1 a2 a3 a4 hin
        have HIN := hide hin
        have CN := hide (copynode_any A.n A.ins A.xs A.cs wr hin.ins hin.av hin.has hin.few)
        unfold nval at CN
        clear HLk hA hin
        go_wp2_with fail
        refine CN.out.mono ?_
        rintro e w3 ⟨iv, av, ys, rfl, hcp⟩
        have HCP := hide hcp
        have hg3 := hcp.grown
        have B3 : Hid (w3.heap[B]? = some (.cells #[.string nam, .slice va vn vc, .slice ui.a ui.n ui.c, .slice uo.a uo.n uo.c, .slice none 0 0] 26 (0, 0))) := box_kept CI.out.box hg3
        have hBl : B < w3.heap.size := (Array.getElem?_eq_some_iff.1 B3.out).1
        obtain ⟨c0, c1, c2, c3, c4⟩ := gra_cells (g := ⟨nam, ⟨va, vn, vc⟩, ui, uo, ⟨none, 0, 0⟩⟩) B3.out
        obtain ⟨f0, f1, f2, f3, f4⟩ := gra_frozen B3.out
        have y1 : B ≠ w3.heap.size := by omega
        have y1' := y1.symm
        clear hcp c0 c2 c3 c4 f0 f2 f3 f4
        simp only at c1
        have OW : Hid (∀ o o', ((w3.alloc o).alloc o').ownsRow wc.heap.size 52 5 (.slice va vn vc) vn ((ms.map (·.1)).flatMap ncells)) := fun o o' => owns_row_at (((CI.out.own.own.more hg3).more (grown_new _ _)).more (grown_new _ _)) CI.out.len
        have NB : Hid (some B ≠ (Value.slice va vn vc).ownBlock) := fun e => by have := World.ownsRow.lt CI.out.own.own B e.symm; have := BN.out.2; omega
        have hcw : wc.heap.size ≤ w3.heap.size := Nat.le_trans CI.out.grown.size hg3.size
        go_wp2_with (at_builtin; refine wpList_append_lies _ rfl (.tmp 30) (.tmp 32) 22 rfl wc.heap.size 52 j0 (.agg #[.string ⟨#[]⟩, .string ⟨#[]⟩, .slice none 0 0, .string ⟨#[]⟩, .slice none 0 0]) 5 96 Tryd.underlying22 hj jz0 jz1 jz2 rfl (by decide) (.slice va vn vc) vn ((ms.map (·.1)).flatMap ncells) rfl (by exact OW.out _ _) ⟨w3.heap.size + 1, 0, none⟩ 1 1 (ncells ⟨A.n.op, A.n.name, iv, A.n.out, av⟩) rfl rfl (by exact World.news_of_block (by have h := heap_alloc_new (w3.alloc (.cells #[.string A.n.op, .string A.n.name, .slice iv.a iv.n iv.c, .string A.n.out, .slice av.a av.n av.c] 52)) (.cells #[.string A.n.op, .string A.n.name, .slice iv.a iv.n iv.c, .string A.n.out, .slice av.a av.n av.c] 52); simpa using h)) (ncell_one _) (by omega) (by simp only [maxLen]; omega) (by omega) (by simp; omega) (w3.heap.size + 1 + 1) (by simp) ?_; intro gg cap w8 hown8 hgrow hat hlt8; have B8 : Hid (w8.heap[B]? = some (.cells #[.string nam, .slice va vn vc, .slice ui.a ui.n ui.c, .slice uo.a uo.n uo.c, .slice none 0 0] 26 (0, 0))) := ((hgrow.block B (by simp; omega) NB.out).trans (box_kept (box_kept B3.out (grown_new _ _)) (grown_new _ _))); clear c1 f1; obtain ⟨f0, f1, f2, f3, f4⟩ := gra_frozen B8.out; obtain ⟨c0, c1, c2, c3, c4⟩ := gra_cells (g := ⟨nam, ⟨va, vn, vc⟩, ui, uo, ⟨none, 0, 0⟩⟩) B8.out)
        obtain ⟨q1, q2, q3⟩ := put1 (j := 1) (.slice (some ⟨gg, 0, none⟩) (vn + 1) cap) B8.out
        have ST : Hid (NInv wc B nam ui uo cs (vn + 1) (w8.setCell ⟨B, 1, none⟩ (.slice (some ⟨gg, 0, none⟩) (vn + 1) cap)) ⟨some ⟨gg, 0, none⟩, vn + 1, cap⟩ (ms ++ [(⟨A.n.op, A.n.name, iv, A.n.out, av⟩, ⟨A.ins, ys, A.cs⟩)])) := by
          have gn := grown_trans (grown_new w3 (.cells #[.string A.n.op, .string A.n.name, .slice iv.a iv.n iv.c, .string A.n.out, .slice av.a av.n av.c] 52)) (grown_new _ (.cells #[.string A.n.op, .string A.n.name, .slice iv.a iv.n iv.c, .string A.n.out, .slice av.a av.n av.c] 52))
          have hsz := CI.out.grown.size
          have hbc := BN.out.2
          have hy : nodH _ ⟨A.n.op, A.n.name, iv, A.n.out, av⟩ ⟨A.ins, ys, A.cs⟩ := (HCP.out.nodeG HIN.out).more gn
          have sn := CI.out.own.snoc nodFeet hsz (grown_trans hg3 gn) hgrow (by simpa using hat) (owns_at_row CI.out.len hown8) (y := ⟨A.n.op, A.n.name, iv, A.n.out, av⟩) (c := ⟨A.ins, ys, A.cs⟩) hy (fun b e => by have := HCP.out.feet b e; have := gn.size; omega)
          refine ⟨by simpa using q1, (sn.past nodFeet q2 (fun g e => by cases e; exact Or.inl hbc)).wide (Nat.le_refl _) (Nat.le_of_eq q3.symm) (Nat.le_refl _), by rw [List.map_append, List.length_append, CI.out.len]; rfl, ?_, ?_, fun p hp => ?_, ?_⟩
          · rw [take_map_key nkey HA.out, List.map_append, List.map_append, CI.out.key]
            simp only [List.map_cons, List.map_nil, toNc, nkey, HCP.out.eq]
          · exact grown_same (grown_same_row (grown_same_row CI.out.grown (grown_trans hg3 gn) (by simp)) hgrow (fun g e => (World.ownsRow.lt CI.out.own.own g e).1)) q2
          · have s8 := hgrow.size
            have sgn := gn.size
            have s3 := hg3.size
            rcases List.mem_append.1 hp with hp | hp
            · refine (CI.out.nown p hp).kept fun b e => ?_
              have k := CI.out.own.new p hp b e
              exact (q2.block b (by omega) (fun e2 => by have := Option.some.inj e2; omega)).trans ((hgrow.block b (by omega) (fun e2 => k.2.2 e2.symm)).trans ((grown_trans hg3 gn).block b k.2.1 (by simp)))
            · obtain rfl : p = (⟨A.n.op, A.n.name, iv, A.n.out, av⟩, ⟨A.ins, ys, A.cs⟩) := by simpa using hp
              have hnw : NOwn (w8.setCell ⟨B, 1, none⟩ (.slice (some ⟨gg, 0, none⟩) (vn + 1) cap)) (⟨A.n.op, A.n.name, iv, A.n.out, av⟩, ⟨A.ins, ys, A.cs⟩) := by
                have h3 : NOwn w3 (⟨A.n.op, A.n.name, iv, A.n.out, av⟩, ⟨A.ins, ys, A.cs⟩) := ⟨HCP.out.ins.base_le (Nat.zero_le _), HCP.out.apt, fun a ha => (HCP.out.new a ha).2.2⟩
                refine h3.kept fun b e => ?_
                have k := HCP.out.feet b e
                exact (q2.block b (by omega) (fun e2 => by have := Option.some.inj e2; omega)).trans ((hgrow.block b (by omega) (fun e2 => by have := World.ownsRow.lt CI.out.own.own b e2.symm; omega)).trans (gn.block b k.2 (by simp)))
              exact hnw
          · exact CI.out.sep.snoc (m := wr.heap.size) (fun q hq b e => (CI.out.own.new q hq b e).2.1) (fun b e => (HCP.out.feet b e).1)
        clear hown8 hgrow hat hlt8 q1 q2 q3 c0 c1 c2 c3 c4 f0 f1 f2 f3 f4
        go_roundw
        case rel => exact ⟨vn + 1, _, _, by omega, by go_num, ST.out⟩
        case measure => simp [intOf]; omega
      · obtain rfl : vn = cs.length := by omega
        obtain ⟨W2, hW2⟩ : ∃ W2, W2 = wr := ⟨_, rfl⟩
        rw [← hW2] at CI r1
        have KG2 : Hid (∀ wx, W2.grownBy wx (some B) → wx.heap[w.heap.size]? = some (.cells #[.string nam, .slice na0 cs.length nc0, .slice ia vin.length ic, .slice oa vout.length oc, .slice ta its.length tc] 26 (0, 0))) := fun wx hx => KG.out wx (grown_same CI.out.grown hx)
        have KI2 : Hid (∀ wx, W2.grownBy wx (some B) → ∀ b, b < w.heap.size → wx.heap[b]? = w.heap[b]?) := fun wx hx => KI.out wx (grown_same CI.out.grown hx)
        have KO2 : Hid (∀ wx, W2.grownBy wx (some B) → ∀ b, b < w0.heap.size → wx.heap[b]? = w0.heap[b]?) := fun wx hx => KO.out wx (grown_same CI.out.grown hx)
        have B2 : Hid (B < W2.heap.size ∧ wc.heap.size ≤ W2.heap.size) := ⟨(Array.getElem?_eq_some_iff.1 CI.out.box).1, CI.out.grown.size⟩
        rw [← hW2]
        clear hW2
        go_wp2_with fail
        clear r1
        go_loopw [6] (fun i wr => ∃ (k : Nat) (v : Sl) (ts : List (Nam × List Int × List Int)), k ≤ its.length ∧ i = .int .i64 k ∧ InitInv W2 B nam ⟨va, cs.length, vc⟩ ui uo its k wr v ts) (fun i _ => its.length - (intOf i).toNat)
        case atStart => exact ⟨0, ⟨none, 0, 0⟩, [], Nat.zero_le _, rfl, ⟨CI.out.box, OwnD.nil (Nat.le_refl _), rfl, rfl, grown_same_refl _ _⟩⟩
        case round =>
          obtain ⟨k, ⟨ea, en, ec⟩, ts, hk, rfl, hinv⟩ := hrel
          have TI := hide hinv
          have hvn : en = k := by
            obtain ⟨pa, pc, e⟩ := OwnsL.form hinv.own.own
            simp only [Sl.v, Value.slice.injEq] at e
            exact e.2.1.trans hinv.len
          subst hvn
          clear hinv
          obtain ⟨r0, r1, r2, r3, r4⟩ := gra_cells (g := ⟨nam, ⟨na0, cs.length, nc0⟩, ⟨ia, vin.length, ic⟩, ⟨oa, vout.length, oc⟩, ⟨ta, its.length, tc⟩⟩) (KG2.out wr TI.out.grown)
          clear r0 r1 r2 r3
          simp only at r4
          by_cases hlt : en < its.length
          · have HLk : IsNams wr (.slice ta its.length tc) (its.map (·.1)) := HG.out.inits.kept fun b hb _ => KI2.out wr TI.out.grown b hb
            have hlt' : en < (its.map (·.1)).length := by rw [List.length_map]; exact hlt
            obtain ⟨b, off, rfl⟩ := HLk.addr hlt'
            obtain ⟨a0, a1, a2, a3⟩ := HLk.nam en hlt'
            rw [List.getElem_map] at a0 a1 a2 a3
            obtain ⟨A, ds, es, hA⟩ : ∃ A ds es, its[en] = (A, ds, es) := ⟨_, _, _, rfl⟩
            have HA : Hid (its[en]? = some (A, ds, es)) := by show _ = _; rw [List.getElem?_eq_getElem hlt, hA]
            have hdi := HG.out.dinit its[en] (List.getElem_mem hlt)
            rw [hA] at a0 a1 a2 a3 hdi
            simp only at a0 a1 a2 a3 hdi
            have hbw : b < w.heap.size := World.block_lt_of_cell? w _ (HG.out.inits.nam en hlt').1
            have HDI : Hid (IsInts wr A.dv.v ds ∧ IsInts wr A.tv.v es) := ⟨hdi.1.kept fun b hb _ => KI2.out wr TI.out.grown b hb, hdi.2.kept fun b hb _ => KI2.out wr TI.out.grown b hb⟩
            have gd := grown_drew (grown_refl wr)
            have CT := hide (copyten_any A.ty A.dv.v A.tv.v ds es wr.drew (HDI.out.1.more gd) (HDI.out.2.more gd))
            have CX := hide (fun (wx : World) (hx : wx.heap[b]? = wr.heap[b]?) => And.intro ((World.cell?_of_block hx).trans a0) (And.intro ((World.cell?_of_block hx).trans a1) (And.intro ((World.cell?_of_block hx).trans a2) ((World.cell?_of_block hx).trans a3))))
            have CR := hide (fun (wx : World) (hx : wx.heap[w.heap.size]? = wr.heap[w.heap.size]?) => (World.cell?_of_block hx).trans r4)
            have hsr := TI.out.grown.size
            have hB2 := B2.out
            have hww : w.heap.size < w0.heap.size ∧ w0.heap.size ≤ B := ⟨by have := S0.out; omega, BN.out.1⟩
            have NR : Hid (∀ x, x < W2.heap.size → some x ≠ (Value.slice ea en ec).ownBlock) := fun x hx e => by have := World.ownsRow.lt TI.out.own.own x e.symm; omega
            have y0 : w.heap.size ≠ B := by omega
            have y0' := y0.symm
            have y3 : b ≠ B := by omega
            have y3' := y3.symm
            obtain ⟨-, -, -, -, c4⟩ := gra_cells (g := ⟨nam, ⟨va, cs.length, vc⟩, ui, uo, ⟨ea, en, ec⟩⟩) TI.out.box
            simp only at c4
            clear HLk hA hdi
            go_wp2_with fail
            refine wp_region_held_drew (S := (fun w' => w'.cell? ⟨w.heap.size, 4, none⟩ = some (.slice (some ⟨b, off, none⟩) its.length tc) ∧ w'.cell? ⟨b, off + en * 4, none⟩ = some (.string A.name) ∧ w'.cell? ⟨b, off + en * 4 + 1, none⟩ = some (.int .i64 A.ty) ∧ w'.cell? ⟨b, off + en * 4 + 1 + 1, none⟩ = some (.slice A.dv.a A.dv.n A.dv.c) ∧ w'.cell? ⟨b, off + en * 4 + 1 + 2, none⟩ = some (.slice A.tv.a A.tv.n A.tv.c))) (by kernel_rfl) (by go_keep) (fun hHeld => ?_)
            refine wpAnyH_take (i := 0) (v := ?_) rfl (by kernel_rfl) (by kernel_rfl) (by kernel_rfl) (fun _ _ _ h => h) (Or.inl ⟨by rfl, ?_⟩) (by assumption) ?_
            rotate_left 1
            · (intro w hSw; (try dsimp only at hSw); go_simp; (try with_reducible rfl))
            try simp only [Act.put]
            refine wpAnyH_take (i := 2) (v := ?_) rfl (by kernel_rfl) (by kernel_rfl) (by kernel_rfl) (fun _ _ _ h => h) (Or.inl ⟨by rfl, ?_⟩) (by assumption) ?_
            rotate_left 1
            · (intro w hSw; (try dsimp only at hSw); go_simp; (try with_reducible rfl))
            try simp only [Act.put]
            refine wpAnyH_take (i := 4) (v := ?_) rfl (by kernel_rfl) (by kernel_rfl) (by kernel_rfl) (fun _ _ _ h => h) (Or.inl ⟨by rfl, ?_⟩) (by assumption) ?_
            rotate_left 1
            · (intro w hSw; (try dsimp only at hSw); go_simp; (try with_reducible rfl))
            try simp only [Act.put]
            refine wpAnyH_take (i := 8) (v := ?_) rfl (by kernel_rfl) (by kernel_rfl) (by kernel_rfl) (fun _ _ _ h => h) (Or.inl ⟨by rfl, ?_⟩) (by assumption) ?_
            rotate_left 1
            · (intro w hSw; (try dsimp only at hSw); go_simp; (try with_reducible rfl))
            try simp only [Act.put]
            refine wpAnyH_take (i := 10) (v := ?_) rfl (by kernel_rfl) (by kernel_rfl) (by kernel_rfl) (fun _ _ _ h => h) (Or.inl ⟨by rfl, ?_⟩) (by assumption) ?_
            rotate_left 1
            · (intro w hSw; (try dsimp only at hSw); go_simp; (try with_reducible rfl))
            try simp only [Act.put]
            refine wpAnyH_take (i := 3) (v := ?_) rfl (by kernel_rfl) (by kernel_rfl) (by kernel_rfl) (fun _ _ _ h => h) (Or.inl ⟨by rfl, ?_⟩) (by assumption) ?_
            rotate_left 1
            · (intro w hSw; (try dsimp only at hSw); go_simp; (try with_reducible rfl))
            try simp only [Act.put]
            refine wpAnyH_take (i := 9) (v := ?_) rfl (by kernel_rfl) (by kernel_rfl) (by kernel_rfl) (fun _ _ _ h => h) (Or.inl ⟨by rfl, ?_⟩) (by assumption) ?_
            rotate_left 1
            · (intro w hSw; (try dsimp only at hSw); go_simp; (try with_reducible rfl))
            try simp only [Act.put]
            refine wpAnyH_take (i := 5) (v := ?_) rfl (by kernel_rfl) (by kernel_rfl) (by kernel_rfl) (fun _ _ _ h => h) (Or.inl ⟨by rfl, ?_⟩) (by assumption) ?_
            rotate_left 1
            · (intro w hSw; (try dsimp only at hSw); go_simp; (try with_reducible rfl))
            try simp only [Act.put]
            refine wpAnyH_take (i := 11) (v := ?_) rfl (by kernel_rfl) (by kernel_rfl) (by kernel_rfl) (fun _ _ _ h => h) (Or.inl ⟨by rfl, ?_⟩) (by assumption) ?_
            rotate_left 1
            · (intro w hSw; (try dsimp only at hSw); go_simp; (try with_reducible rfl))
            try simp only [Act.put]
            refine wpAnyH_take (i := 6) (v := ?_) rfl (by kernel_rfl) (by kernel_rfl) (by kernel_rfl) (fun _ _ _ h => h) (Or.inl ⟨by rfl, ?_⟩) (by assumption) ?_
            rotate_left 1
            · (intro w hSw; (try dsimp only at hSw); go_simp; (try with_reducible rfl))
            try simp only [Act.put]
            refine wpAnyH_take (i := 12) (v := ?_) rfl (by kernel_rfl) (by kernel_rfl) (by kernel_rfl) (fun _ _ _ h => h) (Or.inl ⟨by rfl, ?_⟩) (by assumption) ?_
            rotate_left 1
            · (intro w hSw; (try dsimp only at hSw); go_simp; (try with_reducible rfl))
            try simp only [Act.put]
            refine wpAnyH_take (i := 7) (v := ?_) rfl (by kernel_rfl) (by kernel_rfl) (by kernel_rfl) (fun _ _ _ h => h) (Or.inl ⟨by rfl, ?_⟩) (by assumption) ?_
            rotate_left 1
            · (intro w hSw; (try dsimp only at hSw); go_simp; (try with_reducible rfl))
            try simp only [Act.put]
            refine wpAnyH_take (i := 13) (v := ?_) rfl (by kernel_rfl) (by kernel_rfl) (by kernel_rfl) (fun _ _ _ h => h) (Or.inl ⟨by rfl, ?_⟩) (by assumption) ?_
            rotate_left 1
            · (intro w hSw; (try dsimp only at hSw); go_simp; (try with_reducible rfl))
            try simp only [Act.put]
            refine wpAnyH_ready (rs := [1, 14]) (by kernel_rfl) (by simp) ?_
            refine AllReadyH.cons rfl (fun K hK => ?_) ?_
            · skip
              go_simp
              refine hK.out _ _ (by first | assumption | go_keep) (fun hHeld => ?_)
              clear hK K
              try simp only [Act.put]
              refine wpAnyH_ready (rs := [14]) (by kernel_rfl) (by simp) ?_
              refine AllReadyH.cons rfl (fun K hK => ?_) ?_
              · skip
                go_simp
                refine CT.out.mono ?_
                rintro e w3 ⟨d, t, rfl, hd, ht, nd, nt, hg3⟩
                have g3 : wr.grownBy w3 none := grown_trans gd hg3
                have s3 := g3.size
                have B3 : Hid (∀ x, x < wr.heap.size → w3.heap[x]? = wr.heap[x]?) := (fun x hx => g3.block x hx (by simp))
                obtain ⟨a0, a1, a2, a3⟩ := CX.out w3 (B3.out b (by omega))
                have r4 := CR.out w3 (B3.out _ (by omega))
                have BX3 := hide ((B3.out B (by omega)).trans TI.out.box)
                obtain ⟨-, -, -, -, c4⟩ := gra_cells (g := ⟨nam, ⟨va, cs.length, vc⟩, ui, uo, ⟨ea, en, ec⟩⟩) BX3.out
                simp only at c4
                have y5 : B ≠ w3.heap.size := (by omega)
                have y5' := y5.symm
                have OW : Hid (∀ o, (w3.alloc o).ownsRow W2.heap.size 59 4 (.slice ea en ec) en ((ts.map (·.1)).flatMap mcells)) := (fun o => owns_row_at ((TI.out.own.own.more g3).more (grown_new _ _)) TI.out.len)
                try dsimp only
                refine hK.out _ _ (by first | assumption | go_keep) (fun hHeld => ?_)
                clear hK K
                try simp only [Act.put]
                refine wpAnyH_take (i := 15) (v := ?_) rfl (by kernel_rfl) (by kernel_rfl) (by kernel_rfl) (fun _ _ _ h => h) (Or.inl ⟨by rfl, ?_⟩) (by assumption) ?_
                rotate_left 1
                · (intro w hSw; (try dsimp only at hSw); go_simp; (try with_reducible rfl))
                try simp only [Act.put]
                refine wpAnyH_ready (rs := [16]) (by kernel_rfl) (by simp) ?_
                refine AllReadyH.cons rfl (fun K hK => ?_) ?_
                · skip
                  go_simp
                  refine hK.out _ _ (by first | assumption | go_keep) (fun hHeld => ?_)
                  clear hK K
                  try simp only [Act.put]
                  refine wpAnyH_ready (rs := [17]) (by kernel_rfl) (by simp) ?_
                  refine AllReadyH.cons rfl (fun K hK => ?_) ?_
                  · skip
                    refine step_append_lies _ (by rfl) (.tmp 43) (.tmp 58) 24 (by rfl) W2.heap.size 59 m0 (.agg #[.string ⟨#[]⟩, .int .i64 0, .slice none 0 0, .slice none 0 0]) 4 72 Tryd.underlying24 hm mz0 mz1 mz2 (by rfl) (by decide) (.slice ea en ec) en ((ts.map (·.1)).flatMap mcells) (by rfl) (by exact OW.out _) ⟨w3.heap.size, 0, none⟩ 1 1 (mcells ⟨A.name, A.ty, d, t⟩) (by rfl) (by rfl) (by exact World.news_of_block (heap_alloc_new w3 _)) (mcell_one _) (by omega) (by simp only [maxLen]; omega) (by omega) (by simp; omega) (w3.heap.size + 1) (by simp) ?_
                    intro gg cap w8 hown8 hgrow hat hlt8
                    have B8 : Hid (∀ x, x < W2.heap.size → w8.heap[x]? = wr.heap[x]?) := (fun x hx => (hgrow.block x (by simp; omega) (NR.out x hx)).trans (((grown_new w3 _).block x (by omega) (by simp)).trans (B3.out x (by omega))))
                    obtain ⟨a0, a1, a2, a3⟩ := CX.out w8 (B8.out b (by omega))
                    have r4 := CR.out w8 (B8.out _ (by omega))
                    have BX8 := hide ((B8.out B (by omega)).trans TI.out.box)
                    obtain ⟨-, -, -, -, c4⟩ := gra_cells (g := ⟨nam, ⟨va, cs.length, vc⟩, ui, uo, ⟨ea, en, ec⟩⟩) BX8.out
                    simp only at c4
                    obtain ⟨f0, f1, f2, f3, f4⟩ := gra_frozen BX8.out
                    refine hK.out _ _ (by first | assumption | go_keep) (fun hHeld => ?_)
                    clear hK K
                    try simp only [Act.put]
                    refine wpAnyH_take (i := 18) (v := ?_) rfl (by kernel_rfl) (by kernel_rfl) (by kernel_rfl) (fun _ _ _ h => h) (Or.inl ⟨by rfl, ?_⟩) (by assumption) ?_
                    rotate_left 1
                    · (intro w hSw; (try dsimp only at hSw); go_simp; (try with_reducible rfl))
                    try simp only [Act.put]
                    refine wpAnyH_ready (rs := [19]) (by kernel_rfl) (by simp) ?_
                    refine AllReadyH.cons rfl (fun K hK => ?_) ?_
                    · skip
                      go_simp
                      refine hK.out _ _ (by first | assumption | go_keep) (fun hHeld => ?_)
                      clear hK K
                      try simp only [Act.put]
                      refine wpAnyH_done (by kernel_rfl) ?_ _
                      obtain ⟨q1, q2, q3⟩ := put1 (j := 4) (.slice (some ⟨gg, 0, none⟩) (en + 1) cap) BX8.out
                      have ST := hide (InitInv.step TI.out HA.out hB2.1 hsr g3 hd ht nd nt hown8 hgrow hat (by simpa using q1) q2 q3)
                      clear hown8 hgrow hat hlt8 q1 q2 q3
                      go_wp2_with fail
                      obtain ⟨v', ts', hst⟩ := ST.out
                      go_roundw
                      case rel => exact ⟨en + 1, _, _, by omega, by go_num, hst⟩
                      case measure => simp [intOf]; omega
                    exact AllReadyH.nil
                  exact AllReadyH.nil
                exact AllReadyH.nil
              exact AllReadyH.nil
            refine AllReadyH.cons rfl (fun K hK => ?_) ?_
            · skip
              go_simp
              refine CT.out.mono ?_
              rintro e w3 ⟨d, t, rfl, hd, ht, nd, nt, hg3⟩
              have g3 : wr.grownBy w3 none := grown_trans gd hg3
              have s3 := g3.size
              have B3 : Hid (∀ x, x < wr.heap.size → w3.heap[x]? = wr.heap[x]?) := (fun x hx => g3.block x hx (by simp))
              obtain ⟨a0, a1, a2, a3⟩ := CX.out w3 (B3.out b (by omega))
              have r4 := CR.out w3 (B3.out _ (by omega))
              have BX3 := hide ((B3.out B (by omega)).trans TI.out.box)
              obtain ⟨-, -, -, -, c4⟩ := gra_cells (g := ⟨nam, ⟨va, cs.length, vc⟩, ui, uo, ⟨ea, en, ec⟩⟩) BX3.out
              simp only at c4
              have y5 : B ≠ w3.heap.size := (by omega)
              have y5' := y5.symm
              have OW : Hid (∀ o, (w3.alloc o).ownsRow W2.heap.size 59 4 (.slice ea en ec) en ((ts.map (·.1)).flatMap mcells)) := (fun o => owns_row_at ((TI.out.own.own.more g3).more (grown_new _ _)) TI.out.len)
              try dsimp only
              refine hK.out _ _ (by first | assumption | go_keep) (fun hHeld => ?_)
              clear hK K
              try simp only [Act.put]
              refine wpAnyH_take (i := 15) (v := ?_) rfl (by kernel_rfl) (by kernel_rfl) (by kernel_rfl) (fun _ _ _ h => h) (Or.inl ⟨by rfl, ?_⟩) (by assumption) ?_
              rotate_left 1
              · (intro w hSw; (try dsimp only at hSw); go_simp; (try with_reducible rfl))
              try simp only [Act.put]
              refine wpAnyH_ready (rs := [1, 16]) (by kernel_rfl) (by simp) ?_
              refine AllReadyH.cons rfl (fun K hK => ?_) ?_
              · skip
                go_simp
                refine hK.out _ _ (by first | assumption | go_keep) (fun hHeld => ?_)
                clear hK K
                try simp only [Act.put]
                refine wpAnyH_ready (rs := [16]) (by kernel_rfl) (by simp) ?_
                refine AllReadyH.cons rfl (fun K hK => ?_) ?_
                · skip
                  go_simp
                  refine hK.out _ _ (by first | assumption | go_keep) (fun hHeld => ?_)
                  clear hK K
                  try simp only [Act.put]
                  refine wpAnyH_ready (rs := [17]) (by kernel_rfl) (by simp) ?_
                  refine AllReadyH.cons rfl (fun K hK => ?_) ?_
                  · skip
                    refine step_append_lies _ (by rfl) (.tmp 43) (.tmp 58) 24 (by rfl) W2.heap.size 59 m0 (.agg #[.string ⟨#[]⟩, .int .i64 0, .slice none 0 0, .slice none 0 0]) 4 72 Tryd.underlying24 hm mz0 mz1 mz2 (by rfl) (by decide) (.slice ea en ec) en ((ts.map (·.1)).flatMap mcells) (by rfl) (by exact OW.out _) ⟨w3.heap.size, 0, none⟩ 1 1 (mcells ⟨A.name, A.ty, d, t⟩) (by rfl) (by rfl) (by exact World.news_of_block (heap_alloc_new w3 _)) (mcell_one _) (by omega) (by simp only [maxLen]; omega) (by omega) (by simp; omega) (w3.heap.size + 1) (by simp) ?_
                    intro gg cap w8 hown8 hgrow hat hlt8
                    have B8 : Hid (∀ x, x < W2.heap.size → w8.heap[x]? = wr.heap[x]?) := (fun x hx => (hgrow.block x (by simp; omega) (NR.out x hx)).trans (((grown_new w3 _).block x (by omega) (by simp)).trans (B3.out x (by omega))))
                    obtain ⟨a0, a1, a2, a3⟩ := CX.out w8 (B8.out b (by omega))
                    have r4 := CR.out w8 (B8.out _ (by omega))
                    have BX8 := hide ((B8.out B (by omega)).trans TI.out.box)
                    obtain ⟨-, -, -, -, c4⟩ := gra_cells (g := ⟨nam, ⟨va, cs.length, vc⟩, ui, uo, ⟨ea, en, ec⟩⟩) BX8.out
                    simp only at c4
                    obtain ⟨f0, f1, f2, f3, f4⟩ := gra_frozen BX8.out
                    refine hK.out _ _ (by first | assumption | go_keep) (fun hHeld => ?_)
                    clear hK K
                    try simp only [Act.put]
                    refine wpAnyH_take (i := 18) (v := ?_) rfl (by kernel_rfl) (by kernel_rfl) (by kernel_rfl) (fun _ _ _ h => h) (Or.inl ⟨by rfl, ?_⟩) (by assumption) ?_
                    rotate_left 1
                    · (intro w hSw; (try dsimp only at hSw); go_simp; (try with_reducible rfl))
                    try simp only [Act.put]
                    refine wpAnyH_ready (rs := [19]) (by kernel_rfl) (by simp) ?_
                    refine AllReadyH.cons rfl (fun K hK => ?_) ?_
                    · skip
                      go_simp
                      refine hK.out _ _ (by first | assumption | go_keep) (fun hHeld => ?_)
                      clear hK K
                      try simp only [Act.put]
                      refine wpAnyH_done (by kernel_rfl) ?_ _
                      obtain ⟨q1, q2, q3⟩ := put1 (j := 4) (.slice (some ⟨gg, 0, none⟩) (en + 1) cap) BX8.out
                      have ST := hide (InitInv.step TI.out HA.out hB2.1 hsr g3 hd ht nd nt hown8 hgrow hat (by simpa using q1) q2 q3)
                      clear hown8 hgrow hat hlt8 q1 q2 q3
                      go_wp2_with fail
                      obtain ⟨v', ts', hst⟩ := ST.out
                      go_roundw
                      case rel => exact ⟨en + 1, _, _, by omega, by go_num, hst⟩
                      case measure => simp [intOf]; omega
                    exact AllReadyH.nil
                  exact AllReadyH.nil
                exact AllReadyH.nil
              refine AllReadyH.cons rfl (fun K hK => ?_) ?_
              · skip
                go_simp
                refine hK.out _ _ (by first | assumption | go_keep) (fun hHeld => ?_)
                clear hK K
                try simp only [Act.put]
                have c4 := cell_still c4 (grown_new w3 (.cells #[.string A.name, .int .i64 A.ty, d.v, t.v] 59))
                refine wpAnyH_ready (rs := [1]) (by kernel_rfl) (by simp) ?_
                refine AllReadyH.cons rfl (fun K hK => ?_) ?_
                · skip
                  go_simp
                  refine hK.out _ _ (by first | assumption | go_keep) (fun hHeld => ?_)
                  clear hK K
                  try simp only [Act.put]
                  refine wpAnyH_ready (rs := [17]) (by kernel_rfl) (by simp) ?_
                  refine AllReadyH.cons rfl (fun K hK => ?_) ?_
                  · skip
                    refine step_append_lies _ (by rfl) (.tmp 43) (.tmp 58) 24 (by rfl) W2.heap.size 59 m0 (.agg #[.string ⟨#[]⟩, .int .i64 0, .slice none 0 0, .slice none 0 0]) 4 72 Tryd.underlying24 hm mz0 mz1 mz2 (by rfl) (by decide) (.slice ea en ec) en ((ts.map (·.1)).flatMap mcells) (by rfl) (by exact OW.out _) ⟨w3.heap.size, 0, none⟩ 1 1 (mcells ⟨A.name, A.ty, d, t⟩) (by rfl) (by rfl) (by exact World.news_of_block (heap_alloc_new w3 _)) (mcell_one _) (by omega) (by simp only [maxLen]; omega) (by omega) (by simp; omega) (w3.heap.size + 1) (by simp) ?_
                    intro gg cap w8 hown8 hgrow hat hlt8
                    have B8 : Hid (∀ x, x < W2.heap.size → w8.heap[x]? = wr.heap[x]?) := (fun x hx => (hgrow.block x (by simp; omega) (NR.out x hx)).trans (((grown_new w3 _).block x (by omega) (by simp)).trans (B3.out x (by omega))))
                    obtain ⟨a0, a1, a2, a3⟩ := CX.out w8 (B8.out b (by omega))
                    have r4 := CR.out w8 (B8.out _ (by omega))
                    have BX8 := hide ((B8.out B (by omega)).trans TI.out.box)
                    obtain ⟨-, -, -, -, c4⟩ := gra_cells (g := ⟨nam, ⟨va, cs.length, vc⟩, ui, uo, ⟨ea, en, ec⟩⟩) BX8.out
                    simp only at c4
                    obtain ⟨f0, f1, f2, f3, f4⟩ := gra_frozen BX8.out
                    refine hK.out _ _ (by first | assumption | go_keep) (fun hHeld => ?_)
                    clear hK K
                    try simp only [Act.put]
                    refine wpAnyH_take (i := 18) (v := ?_) rfl (by kernel_rfl) (by kernel_rfl) (by kernel_rfl) (fun _ _ _ h => h) (Or.inl ⟨by rfl, ?_⟩) (by assumption) ?_
                    rotate_left 1
                    · (intro w hSw; (try dsimp only at hSw); go_simp; (try with_reducible rfl))
                    try simp only [Act.put]
                    refine wpAnyH_ready (rs := [19]) (by kernel_rfl) (by simp) ?_
                    refine AllReadyH.cons rfl (fun K hK => ?_) ?_
                    · skip
                      go_simp
                      refine hK.out _ _ (by first | assumption | go_keep) (fun hHeld => ?_)
                      clear hK K
                      try simp only [Act.put]
                      refine wpAnyH_done (by kernel_rfl) ?_ _
                      obtain ⟨q1, q2, q3⟩ := put1 (j := 4) (.slice (some ⟨gg, 0, none⟩) (en + 1) cap) BX8.out
                      have ST := hide (InitInv.step TI.out HA.out hB2.1 hsr g3 hd ht nd nt hown8 hgrow hat (by simpa using q1) q2 q3)
                      clear hown8 hgrow hat hlt8 q1 q2 q3
                      go_wp2_with fail
                      obtain ⟨v', ts', hst⟩ := ST.out
                      go_roundw
                      case rel => exact ⟨en + 1, _, _, by omega, by go_num, hst⟩
                      case measure => simp [intOf]; omega
                    exact AllReadyH.nil
                  exact AllReadyH.nil
                exact AllReadyH.nil
              exact AllReadyH.nil
            exact AllReadyH.nil
          · obtain rfl : en = its.length := by omega
            have R1 := hide (BR.out wr (KO2.out wr TI.out.grown _ (by have := S0.out; omega)))
            obtain ⟨f0, f1, f2, f3, f4⟩ := gra_frozen R1.out
            obtain ⟨k0, k1, k2, k3, k4⟩ := zer_cells R1.out
            obtain ⟨c0, c1, c2, c3, c4⟩ := gra_cells (g := ⟨nam, ⟨va, cs.length, vc⟩, ui, uo, ⟨ea, its.length, ec⟩⟩) TI.out.box
            simp only at c0 c1 c2 c3 c4
            go_wp2_with fail
            obtain ⟨hX, gX⟩ := store5g (.string nam) (.slice va cs.length vc) (.slice ui.a ui.n ui.c) (.slice uo.a uo.n uo.c) (.slice ea its.length ec) R1.out
            refine bodyPost_ret (ret_gra rfl _ _ (w.heap.size + 1) rfl hX) rfl ?_
            have s0 := S0.out
            have hcg := HC.out
            have hB := BN.out
            have hB2 := B2.out
            have k1' := CI.out.key
            have k2' := TI.out.key
            rw [List.take_of_length_le (Nat.le_refl _)] at k1' k2'
            have gr1 := grown_same CI.out.grown TI.out.grown
            have s1 := hcg.grown.size
            have s2 := TI.out.grown.size
            refine ⟨⟨nam, ⟨va, cs.length, vc⟩, ui, uo, ⟨ea, its.length, ec⟩⟩, ms, vi, vo, ts, i0, i1, o0, o1, wc.heap.size, W2.heap.size, W2.heap.size, wr.heap.size, rfl, ⟨rfl, ?_, ?_, ?_, ?_, hcg.ki, hcg.ko, k1', k2', ⟨hcg.apt, hcg.ins.le, hcg.outs.le, Nat.le_refl _, hB2.2⟩, fun p hp => ?_, CI.out.sep, ?_, ?_⟩⟩
            · exact (hcg.ins.past valFeet gr1 (fun g e => by cases e; exact hcg.bi)).past valFeet gX (fun g e => by cases e; have := hcg.li; omega)
            · exact (hcg.outs.past valFeet gr1 (fun g e => by cases e; exact hcg.bo)).past valFeet gX (fun g e => by cases e; have := hcg.lo; omega)
            · exact (CI.out.own.past nodFeet TI.out.grown (fun g e => by cases e; omega)).past nodFeet gX (fun g e => by cases e; omega)
            · exact TI.out.own.past namFeet gX (fun g e => by cases e; omega)
            · refine (CI.out.nown p hp).kept fun b e => ?_
              have k := CI.out.own.new p hp b e
              exact (gX.block b (by omega) (fun e2 => by have := Option.some.inj e2; omega)).trans (TI.out.grown.block b k.2.1 (fun e2 => by have := Option.some.inj e2; omega))
            · have := hcg.li
              have := hcg.lo
              omega
            · exact grown_trans_row (grown_trans_row (grown_trans g0 hcg.grown) gr1 (fun r e => by cases e; omega)) gX (fun r e => by cases e; omega)
end Go.Proofs.YtmdpeckeliplkaaDoor
