/- Joined texts: NSame, NNode, GBase. -/
import Derived.Test.YtmdpeckeliplkaaDoorPartE
import Derived.Test.YtmdpeckeliplkaaDoorPartD
/- What Check answers hangs on no place where lists lie. -/
namespace Go.Proofs.YtmdpeckeliplkaaDoor
open Go.RowKit

theorem isA_strip (nm : ByteArray) (kd : Int) (a : Atr) : isA nm kd (strip a) = isA nm kd a := rfl

theorem find_strip (nm : ByteArray) (kd : Int) (xs : List Atr) : (xs.map strip).find? (isA nm kd) = (xs.find? (isA nm kd)).map strip := by
  rw [List.find?_map]
  rfl

theorem thenE_strip (o : Option Atr) : thenE (o.map strip) = thenE o := by cases o <;> rfl

theorem any_strip (nm : ByteArray) (l : List Atr) : (l.map strip).any (aheadA nm) = l.any (aheadA nm) := by
  rw [List.any_map]
  rfl

theorem chk1_strip (rs : List Ra) (xs : List Atr) : ∀ (l : List Atr) (i : Nat), chk1 rs (xs.map strip) (l.map strip) i = chk1 rs xs l i
  | [], _ => rfl
  | a :: l, i => by
    rw [List.map_cons, chk1, chk1, chk1_strip rs xs l (i + 1), ← List.map_take, any_strip]
    rfl

theorem lacks_strip (rs : List Ra) (xs : List Atr) : lacks rs (xs.map strip) = lacks rs xs := by
  unfold lacks
  congr 1
  funext r
  rw [find_strip]
  cases xs.find? (isA r.name r.kind) <;> rfl

theorem attrsE_strip (rs : List Ra) (xs : List Atr) : attrsE rs (xs.map strip) = attrsE rs xs := by
  unfold attrsE
  rw [chk1_strip, lacks_strip]

theorem checkE_strip (r : Option (Int × Int × List Ra)) (ins : List ByteArray) (out : ByteArray) (xs : List Atr) : checkE r ins out (xs.map strip) = checkE r ins out xs := by
  unfold checkE
  cases r with
  | none => rfl
  | some t =>
    obtain ⟨lo, hi, rs⟩ := t
    simp only
    rw [attrsE_strip, find_strip, thenE_strip]

theorem zip_strip : ∀ (xs : List Atr) (cs : List Cont) (P : Atr → Bool), (∀ a, P (strip a) = P a) → ((xs.map strip).zip cs).find? (fun p => P p.1) = ((xs.zip cs).find? (fun p => P p.1)).map (fun p => (strip p.1, p.2))
  | [], _, _, _ => by simp
  | x :: l, [], _, _ => by simp
  | x :: l, c :: cs, P, h => by
    rw [List.map_cons, List.zip_cons_cons, List.zip_cons_cons, List.find?_cons, List.find?_cons]
    simp only [h]
    cases P x
    · simpa using zip_strip l cs P h
    · rfl

theorem constE_strip (xs : List Atr) (cs : List Cont) : constE (xs.map strip) cs = constE xs cs := by
  unfold constE
  rw [zip_strip xs cs (isA ⟨#[118, 97, 108, 117, 101]⟩ 4) (fun _ => rfl)]
  cases (xs.zip cs).find? (fun p => isA ⟨#[118, 97, 108, 117, 101]⟩ 4 p.1) <;> rfl

theorem checkF_strip {r : Option (Int × Int × List Ra)} {op : ByteArray} {ins : List ByteArray} {out : ByteArray} {xs ys : List Atr} {cs : List Cont} (h : ys.map strip = xs.map strip) : checkF r op ins out ys cs = checkF r op ins out xs cs := by
  unfold checkF
  rw [← checkE_strip r ins out ys, ← constE_strip ys, h, checkE_strip, constE_strip]

/-- What a node that may be has. -/
theorem checkE_ok {r : Option (Int × Int × List Ra)} {ins : List ByteArray} {out : ByteArray} {xs : List Atr} (h : checkE r ins out xs = 0) :
    ∃ lo hi rs, r = some (lo, hi, rs) ∧ ¬ (ins.length : Int) < lo ∧ ¬ hi < (ins.length : Int) ∧ ((out.toList == []) || ins.any (isS ⟨#[]⟩)) = false ∧ attrsE rs xs = 0 ∧ thenE (xs.find? (isA ⟨#[116, 104, 101, 110]⟩ 3)) = 0 := by
  unfold checkE at h
  cases r with
  | none => simp at h
  | some t =>
    obtain ⟨lo, hi, rs⟩ := t
    simp only at h
    by_cases h1 : (ins.length : Int) < lo
    · rw [if_pos h1] at h; simp at h
    · rw [if_neg h1] at h
      by_cases h2 : hi < (ins.length : Int)
      · rw [if_pos h2] at h; simp at h
      · rw [if_neg h2] at h
        by_cases h3 : ((out.toList == []) || ins.any (isS ⟨#[]⟩)) = true
        · rw [if_pos h3] at h; simp at h
        · rw [if_neg h3] at h
          by_cases h4 : attrsE rs xs = 0
          · rw [if_pos h4] at h
            exact ⟨lo, hi, rs, rfl, h1, h2, by simpa using h3, h4, h⟩
          · rw [if_neg h4] at h
            exact absurd h h4

theorem attrsE_ok {rs : List Ra} {xs : List Atr} (h : attrsE rs xs = 0) : chk1 rs xs xs 0 = none ∧ lacks rs xs = false := by
  unfold attrsE at h
  cases hc : chk1 rs xs xs 0 with
  | some e =>
    rw [hc] at h
    have : ∀ (l : List Atr) (i : Nat) (e : Int), chk1 rs xs l i = some e → e ≠ 0 := by
      intro l
      induction l with
      | nil => intro i e h; cases h
      | cons a l ih =>
        intro i e h
        rw [chk1] at h
        cases hf : rs.find? (sameR a.name) with
        | none => rw [hf] at h; cases h; decide
        | some r =>
          rw [hf] at h
          simp only at h
          split at h
          · cases h; decide
          · split at h
            · cases h; decide
            · exact ih _ _ h
    exact absurd h (this _ _ _ hc)
  | none =>
    rw [hc] at h
    refine ⟨rfl, ?_⟩
    cases hl : lacks rs xs with
    | false => rfl
    | true => rw [hl] at h; simp at h

theorem chk1_append (rs : List Ra) (zs : List Atr) : ∀ (l m : List Atr) (i : Nat), chk1 rs zs l i = none → chk1 rs zs (l ++ m) i = chk1 rs zs m (i + l.length)
  | [], m, i, _ => rfl
  | a :: l, m, i, h => by
    rw [chk1] at h
    rw [List.cons_append, chk1]
    cases hf : rs.find? (sameR a.name) with
    | none => rw [hf] at h; cases h
    | some r =>
      rw [hf] at h
      simp only at h ⊢
      split at h
      · cases h
      · split at h
        · cases h
        · rename_i h1 h2
          rw [if_neg h1, if_neg h2, chk1_append rs zs l m (i + 1) h, List.length_cons]
          congr 1
          omega

/-- What stands behind makes no difference to what stands ahead. -/
theorem chk1_front (rs : List Ra) (xs zs : List Atr) : ∀ (l : List Atr) (i : Nat), i + l.length ≤ xs.length → chk1 rs (xs ++ zs) l i = chk1 rs xs l i
  | [], _, _ => rfl
  | a :: l, i, h => by
    rw [List.length_cons] at h
    rw [chk1, chk1, List.take_append_of_le_length (by omega), chk1_front rs xs zs l (i + 1) (by omega)]

/-- Each attribute that may be is one that the operator has. -/
theorem chk1_each (rs : List Ra) (xs : List Atr) : ∀ (l : List Atr) (i : Nat), chk1 rs xs l i = none → ∀ a ∈ l, rs.find? (sameR a.name) ≠ none
  | [], _, _, a, h => by cases h
  | x :: l, i, h, a, ha => by
    rw [chk1] at h
    cases hf : rs.find? (sameR x.name) with
    | none => rw [hf] at h; cases h
    | some r =>
      rw [hf] at h
      simp only at h
      split at h
      · cases h
      · split at h
        · cases h
        · rcases List.mem_cons.1 ha with rfl | ha
          · rw [hf]; simp
          · exact chk1_each rs xs l (i + 1) h a ha

theorem attrsE_twice {rs : List Ra} {xs : List Atr} {a : Atr} (h : attrsE rs xs = 0) (ha : a ∈ xs) : attrsE rs (xs ++ [a]) = 4 := by
  obtain ⟨h1, -⟩ := attrsE_ok h
  have h2 : chk1 rs (xs ++ [a]) xs 0 = none := by rw [chk1_front rs xs [a] xs 0 (by omega)]; exact h1
  refine attrsE_some ?_
  rw [chk1_append rs _ xs [a] 0 h2, chk1, Nat.zero_add, List.take_left]
  cases hf : rs.find? (sameR a.name) with
  | none => exact absurd hf (chk1_each rs xs xs 0 h1 a ha)
  | some r =>
    have : xs.any (aheadA a.name) = true := List.any_eq_true.2 ⟨a, ha, by simp [aheadA]⟩
    simp only [this, Bool.or_true, if_true]

theorem checkE_twice {r : Option (Int × Int × List Ra)} {op : ByteArray} {ins : List ByteArray} {out : ByteArray} {xs : List Atr} {cs ds : List Cont} {a : Atr} (h : checkF r op ins out xs cs = 0) (ha : a ∈ xs) : checkF r op ins out (xs ++ [a]) ds = 4 := by
  have h0 : checkE r ins out xs = 0 := by
    unfold checkF at h
    by_cases h1 : checkE r ins out xs = 0
    · exact h1
    · rw [if_pos h1] at h; exact h
  obtain ⟨lo, hi, rs, rfl, h1, h2, h3, h4, -⟩ := checkE_ok h0
  refine checkF_no ?_ (by decide)
  unfold checkE
  simp only
  rw [if_neg h1, if_neg h2, if_neg (by rw [h3]; decide), attrsE_twice h4 ha, if_neg (by decide)]
end Go.Proofs.YtmdpeckeliplkaaDoor

/- Nodes that come in, and their copies. -/
namespace Go.Proofs.YtmdpeckeliplkaaDoor
open Go.RowKit

/-- A node that comes in: its lists, and what its attributes' lists hold. -/
structure NodeIn (w : World) (n : Nod) (ins : List ByteArray) (xs : List Atr) (cs : List Cont) : Prop where
  ins : IsStrs w n.iv.v ins
  av : IsAttrs w n.av.v xs
  has : ∀ (j : Nat) (a : Atr), xs[j]? = some a → ∃ c, cs[j]? = some c ∧ Has w a c
  few : xs.length ≤ 2097152
  short : ∀ a ∈ xs, a.s.size ≤ 1048576

theorem NodeIn.more {w w' : World} {n : Nod} {ins : List ByteArray} {xs : List Atr} {cs : List Cont} (h : NodeIn w n ins xs cs) (hg : w.grownBy w' none) : NodeIn w' n ins xs cs :=
  ⟨h.ins.more hg, h.av.more hg, fun j a e => by obtain ⟨c, e1, e2⟩ := h.has j a e; exact ⟨c, e1, e2.more hg⟩, h.few, h.short⟩

theorem check_in (n : Nod) (ins : List ByteArray) (xs : List Atr) (cs : List Cont) (w : World) (hl : Laid w) (h : NodeIn w n ins xs cs) :
    Calls Tryd.prog 66 #[nval n] w fun e w' => e = .returned (.int .i64 (checkF (ruleF n.op) n.op ins n.out xs cs)) ∧ w.grownBy w' none :=
  check_all n xs cs ins w hl h.ins h.av h.has (fun a ha => by have := h.short a ha; omega)

theorem Copied.len {w w' : World} {n : Nod} {ins : List ByteArray} {xs : List Atr} {cs : List Cont} {iv av : Sl} {ys : List Atr} (h : Copied w w' n ins xs cs iv av ys) : ys.length = xs.length := by
  have := congrArg List.length h.eq
  simpa using this

theorem strip_s {xs ys : List Atr} (h : ys.map strip = xs.map strip) {m : Nat} (hs : ∀ a ∈ xs, a.s.size ≤ m) : ∀ a ∈ ys, a.s.size ≤ m := by
  intro a ha
  have h1 : strip a ∈ xs.map strip := by rw [← h]; exact List.mem_map_of_mem ha
  obtain ⟨b, hb, e⟩ := List.mem_map.1 h1
  have := hs b hb
  have e2 : (strip b).s = (strip a).s := by rw [e]
  have e3 : b.s = a.s := e2
  rw [← e3]
  exact this

/-- The node's copy, with attributes appended to its list. -/
theorem Copied.pushed {w w' W : World} {n : Nod} {ins : List ByteArray} {xs : List Atr} {cs : List Cont} {iv av v' : Sl} {ys es : List Atr} {ds : List Cont} {op nam out : ByteArray} (h : Copied w w' n ins xs cs iv av ys) (hn : NodeIn w n ins xs cs) (kp : ∀ b, b < w'.heap.size → av.v.ownBlock ≠ some b → W.heap[b]? = w'.heap[b]?)
    (hav : IsAttrs W v'.v (ys ++ es)) (hes : ∀ e ∈ es, e ∈ ys) (hds : ∀ (j : Nat) (a : Atr), es[j]? = some a → ∃ (i : Nat) (c : Cont), ds[j]? = some c ∧ ys[i]? = some a ∧ cs[i]? = some c) (hl : (ys ++ es).length ≤ 2097152) : NodeIn W ⟨op, nam, iv, out, v'⟩ ins (ys ++ es) (cs.take ys.length ++ ds) := by
  have hi := hn.ins.form
  obtain ⟨-, -, -, -, -, hi3⟩ := hi
  have hasW : ∀ (j : Nat) (a : Atr) (c : Cont), ys[j]? = some a → cs[j]? = some c → Has W a c := by
    intro j a c ha hc
    have hm := h.new a (List.mem_of_getElem? ha)
    exact (h.has j a c ha hc).kept fun b hb e => kp b hb (hm.2.1.any e)
  have hcs : ∀ (j : Nat), j < ys.length → ∃ c, cs[j]? = some c := by
    intro j hj
    rw [h.len] at hj
    obtain ⟨c, hc, -⟩ := hn.has j xs[j] (List.getElem?_eq_getElem hj)
    exact ⟨c, hc⟩
  have hcl : ys.length ≤ cs.length := by
    rcases Nat.lt_or_ge cs.length ys.length with hlt | hge
    · obtain ⟨c, hc⟩ := hcs cs.length hlt
      rw [List.getElem?_eq_none (Nat.le_refl _)] at hc
      cases hc
    · exact hge
  have htl : (cs.take ys.length).length = ys.length := by rw [List.length_take]; omega
  refine ⟨(h.ins.isL (bytes := 16) scell_len hi3).kept fun b hb e => kp b hb (h.apt b e), hav, ?_, hl, ?_⟩
  · intro j a ha
    by_cases hj : j < ys.length
    · rw [List.getElem?_append_left hj] at ha
      obtain ⟨c, hc⟩ := hcs j hj
      exact ⟨c, by rw [List.getElem?_append_left (by omega), List.getElem?_take_of_lt hj, hc], hasW j a c ha hc⟩
    · rw [List.getElem?_append_right (by omega)] at ha
      obtain ⟨i, c, h1, h2, h3⟩ := hds _ a ha
      exact ⟨c, by rw [List.getElem?_append_right (by omega), htl]; exact h1, hasW i a c h2 h3⟩
  · intro a ha
    have hys := strip_s h.eq hn.short
    rcases List.mem_append.1 ha with ha | ha
    · exact hys a ha
    · exact hys a (hes a ha)

end Go.Proofs.YtmdpeckeliplkaaDoor

/- Graphs: values, named tensors and nodes in lists. -/
namespace Go.Proofs.YtmdpeckeliplkaaDoor
open Go.RowKit

/-- A value, as its cells have it. -/
structure Val where
  name : ByteArray
  ty : Int
  dv : Sl

def vcells (v : Val) : List Value := [.string v.name, .int .i64 v.ty, .slice v.dv.a v.dv.n v.dv.c]

theorem vcells_len (v : Val) : (vcells v).length = 3 := rfl

/-- A named tensor, as its cells have it. -/
structure Nam where
  name : ByteArray
  ty : Int
  dv : Sl
  tv : Sl

def mcells (v : Nam) : List Value := [.string v.name, .int .i64 v.ty, .slice v.dv.a v.dv.n v.dv.c, .slice v.tv.a v.tv.n v.tv.c]

theorem mcells_len (v : Nam) : (mcells v).length = 4 := rfl

/-- A node's cells in a list. -/
def ncells (n : Nod) : List Value := [.string n.op, .string n.name, .slice n.iv.a n.iv.n n.iv.c, .string n.out, .slice n.av.a n.av.n n.av.c]

theorem ncells_len (n : Nod) : (ncells n).length = 5 := rfl

abbrev IsVals (w : World) (v : Value) (xs : List Val) : Prop := IsL 48 3 vcells w v xs
abbrev IsNams (w : World) (v : Value) (xs : List Nam) : Prop := IsL 72 4 mcells w v xs
abbrev IsNods (w : World) (v : Value) (xs : List Nod) : Prop := IsL 96 5 ncells w v xs

theorem IsL.val {w : World} {b off len cap : Nat} {xs : List Val} (h : IsL 48 3 vcells w (.slice (some ⟨b, off, none⟩) len cap) xs) (k : Nat) (hk : k < xs.length) :
    w.cell? ⟨b, off + k * 3, none⟩ = some (.string xs[k].name) ∧ w.cell? ⟨b, off + k * 3 + 1, none⟩ = some (.int .i64 xs[k].ty) ∧ w.cell? ⟨b, off + k * 3 + 2, none⟩ = some (.slice xs[k].dv.a xs[k].dv.n xs[k].dv.c) :=
  ⟨h.at k hk 0 (by omega), h.at k hk 1 (by omega), h.at k hk 2 (by omega)⟩

theorem IsL.nam {w : World} {b off len cap : Nat} {xs : List Nam} (h : IsL 72 4 mcells w (.slice (some ⟨b, off, none⟩) len cap) xs) (k : Nat) (hk : k < xs.length) :
    w.cell? ⟨b, off + k * 4, none⟩ = some (.string xs[k].name) ∧ w.cell? ⟨b, off + k * 4 + 1, none⟩ = some (.int .i64 xs[k].ty) ∧ w.cell? ⟨b, off + k * 4 + 2, none⟩ = some (.slice xs[k].dv.a xs[k].dv.n xs[k].dv.c) ∧ w.cell? ⟨b, off + k * 4 + 3, none⟩ = some (.slice xs[k].tv.a xs[k].tv.n xs[k].tv.c) :=
  ⟨h.at k hk 0 (by omega), h.at k hk 1 (by omega), h.at k hk 2 (by omega), h.at k hk 3 (by omega)⟩

theorem IsL.nod {w : World} {b off len cap : Nat} {xs : List Nod} (h : IsL 96 5 ncells w (.slice (some ⟨b, off, none⟩) len cap) xs) (k : Nat) (hk : k < xs.length) :
    w.cell? ⟨b, off + k * 5, none⟩ = some (.string xs[k].op) ∧ w.cell? ⟨b, off + k * 5 + 1, none⟩ = some (.string xs[k].name) ∧ w.cell? ⟨b, off + k * 5 + 2, none⟩ = some (.slice xs[k].iv.a xs[k].iv.n xs[k].iv.c) ∧ w.cell? ⟨b, off + k * 5 + 3, none⟩ = some (.string xs[k].out) ∧ w.cell? ⟨b, off + k * 5 + 4, none⟩ = some (.slice xs[k].av.a xs[k].av.n xs[k].av.c) :=
  ⟨h.at k hk 0 (by omega), h.at k hk 1 (by omega), h.at k hk 2 (by omega), h.at k hk 3 (by omega), h.at k hk 4 (by omega)⟩

/-- A graph, as its cells have it. -/
structure Gra where
  name : ByteArray
  nv : Sl
  iv : Sl
  ov : Sl
  tv : Sl

def gval (g : Gra) : Value := .agg #[.string g.name, .slice g.nv.a g.nv.n g.nv.c, .slice g.iv.a g.iv.n g.iv.c, .slice g.ov.a g.ov.n g.ov.c, .slice g.tv.a g.tv.n g.tv.c]

theorem gra_cells {w : World} {B : Nat} {g : Gra} {t : TypeId} (hb : w.heap[B]? = some (.cells #[.string g.name, .slice g.nv.a g.nv.n g.nv.c, .slice g.iv.a g.iv.n g.iv.c, .slice g.ov.a g.ov.n g.ov.c, .slice g.tv.a g.tv.n g.tv.c] t (0, 0))) :
    w.cell? ⟨B, 0, none⟩ = some (.string g.name) ∧ w.cell? ⟨B, 1, none⟩ = some (.slice g.nv.a g.nv.n g.nv.c) ∧ w.cell? ⟨B, 2, none⟩ = some (.slice g.iv.a g.iv.n g.iv.c) ∧ w.cell? ⟨B, 3, none⟩ = some (.slice g.ov.a g.ov.n g.ov.c) ∧ w.cell? ⟨B, 4, none⟩ = some (.slice g.tv.a g.tv.n g.tv.c) :=
  ⟨(cell_of_row _ _ 0 _ _ (0, 0) hb).trans rfl, (cell_of_row _ _ 1 _ _ (0, 0) hb).trans rfl, (cell_of_row _ _ 2 _ _ (0, 0) hb).trans rfl, (cell_of_row _ _ 3 _ _ (0, 0) hb).trans rfl, (cell_of_row _ _ 4 _ _ (0, 0) hb).trans rfl⟩

/-- A node that stands in a list: its inputs, its attributes, and what their lists hold. -/
structure Nc where
  n : Nod
  ins : List ByteArray
  xs : List Atr
  cs : List Cont

/-- A graph that comes in: what its lists hold. -/
structure GraphIn (w : World) (g : Gra) (nds : List Nc) (vin vout : List (Val × List Int)) (its : List (Nam × List Int × List Int)) : Prop where
  nodes : IsNods w g.nv.v (nds.map (·.n))
  ins : IsVals w g.iv.v (vin.map (·.1))
  outs : IsVals w g.ov.v (vout.map (·.1))
  inits : IsNams w g.tv.v (its.map (·.1))
  node : ∀ c ∈ nds, NodeIn w c.n c.ins c.xs c.cs
  din : ∀ p ∈ vin, IsInts w p.1.dv.v p.2
  dout : ∀ p ∈ vout, IsInts w p.1.dv.v p.2
  dinit : ∀ p ∈ its, IsInts w p.1.dv.v p.2.1 ∧ IsInts w p.1.tv.v p.2.2
  short : ∀ p ∈ vin, p.1.name.size ≤ 1048576
  few : nds.length ≤ 1048576 ∧ vin.length ≤ 1048576 ∧ vout.length ≤ 1048576 ∧ its.length ≤ 1048576

theorem GraphIn.more {w w' : World} {g : Gra} {nds : List Nc} {vin vout : List (Val × List Int)} {its : List (Nam × List Int × List Int)} (h : GraphIn w g nds vin vout its) (hg : w.grownBy w' none) : GraphIn w' g nds vin vout its :=
  ⟨h.nodes.more hg, h.ins.more hg, h.outs.more hg, h.inits.more hg, fun c hc => (h.node c hc).more hg, fun p hp => (h.din p hp).more hg, fun p hp => (h.dout p hp).more hg, fun p hp => ⟨(h.dinit p hp).1.more hg, (h.dinit p hp).2.more hg⟩, h.short, h.few⟩
end Go.Proofs.YtmdpeckeliplkaaDoor
