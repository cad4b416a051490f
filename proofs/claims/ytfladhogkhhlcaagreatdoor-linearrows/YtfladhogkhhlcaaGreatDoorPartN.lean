/- Joined texts: NSame, NNode, GBase, NReads. -/
import Derived.Test.YtfladhogkhhlcaaGreatDoorPartM
import Derived.Test.YtfladhogkhhlcaaGreatDoorPartL
/- What Check answers hangs on no place where lists lie. -/
namespace Go.Proofs.YtfladhogkhhlcaaGreatDoor
open Go.RowKit

theorem isA_strip (nm : ByteArray) (kd : Int) (a : Atr) : isA nm kd (strip a) = isA nm kd a := rfl

theorem find_strip (nm : ByteArray) (kd : Int) (xs : List Atr) : (xs.map strip).find? (isA nm kd) = (xs.find? (isA nm kd)).map strip := by
  rw [List.find?_map]
  rfl

theorem thenE_strip (o : Option Atr) : thenE (o.map strip) = thenE o := by cases o <;> rfl

theorem any_strip (nm : ByteArray) (l : List Atr) : (l.map strip).any (aheadA nm) = l.any (aheadA nm) := by
  rw [List.any_map]
  rfl

theorem chk1_strip (rs : List Ra) (xs : List Atr) : ∀ (l : List Atr) (i : Nat), chk1 rs (xs.map strip) (l.map strip) i = chk1 rs xs l i
  | [], _ => rfl
  | a :: l, i => by
    rw [List.map_cons, chk1, chk1, chk1_strip rs xs l (i + 1), ← List.map_take, any_strip]
    rfl

theorem lacks_strip (rs : List Ra) (xs : List Atr) : lacks rs (xs.map strip) = lacks rs xs := by
  unfold lacks
  congr 1
  funext r
  rw [find_strip]
  cases xs.find? (isA r.name r.kind) <;> rfl

theorem attrsE_strip (rs : List Ra) (xs : List Atr) : attrsE rs (xs.map strip) = attrsE rs xs := by
  unfold attrsE
  rw [chk1_strip, lacks_strip]

theorem checkE_strip (r : Option (Int × Int × List Ra)) (ins : List ByteArray) (out : ByteArray) (xs : List Atr) : checkE r ins out (xs.map strip) = checkE r ins out xs := by
  unfold checkE
  cases r with
  | none => rfl
  | some t =>
    obtain ⟨lo, hi, rs⟩ := t
    simp only
    rw [attrsE_strip, find_strip, thenE_strip]

theorem zip_strip : ∀ (xs : List Atr) (cs : List Cont) (P : Atr → Bool), (∀ a, P (strip a) = P a) → ((xs.map strip).zip cs).find? (fun p => P p.1) = ((xs.zip cs).find? (fun p => P p.1)).map (fun p => (strip p.1, p.2))
  | [], _, _, _ => by simp
  | x :: l, [], _, _ => by simp
  | x :: l, c :: cs, P, h => by
    rw [List.map_cons, List.zip_cons_cons, List.zip_cons_cons, List.find?_cons, List.find?_cons]
    simp only [h]
    cases P x
    · simpa using zip_strip l cs P h
    · rfl

theorem constE_strip (xs : List Atr) (cs : List Cont) : constE (xs.map strip) cs = constE xs cs := by
  unfold constE
  rw [zip_strip xs cs (isA ⟨#[118, 97, 108, 117, 101]⟩ 4) (fun _ => rfl)]
  cases (xs.zip cs).find? (fun p => isA ⟨#[118, 97, 108, 117, 101]⟩ 4 p.1) <;> rfl

theorem checkF_strip {r : Option (Int × Int × List Ra)} {op : ByteArray} {ins : List ByteArray} {out : ByteArray} {xs ys : List Atr} {cs : List Cont} (h : ys.map strip = xs.map strip) : checkF r op ins out ys cs = checkF r op ins out xs cs := by
  unfold checkF
  rw [← checkE_strip r ins out ys, ← constE_strip ys, h, checkE_strip, constE_strip]

/-- What a node that may be has. -/
theorem checkE_ok {r : Option (Int × Int × List Ra)} {ins : List ByteArray} {out : ByteArray} {xs : List Atr} (h : checkE r ins out xs = 0) :
    ∃ lo hi rs, r = some (lo, hi, rs) ∧ ¬ (ins.length : Int) < lo ∧ ¬ hi < (ins.length : Int) ∧ ((out.toList == []) || ins.any (isS ⟨#[]⟩)) = false ∧ attrsE rs xs = 0 ∧ thenE (xs.find? (isA ⟨#[116, 104, 101, 110]⟩ 3)) = 0 := by
  unfold checkE at h
  cases r with
  | none => simp at h
  | some t =>
    obtain ⟨lo, hi, rs⟩ := t
    simp only at h
    by_cases h1 : (ins.length : Int) < lo
    · rw [if_pos h1] at h; simp at h
    · rw [if_neg h1] at h
      by_cases h2 : hi < (ins.length : Int)
      · rw [if_pos h2] at h; simp at h
      · rw [if_neg h2] at h
        by_cases h3 : ((out.toList == []) || ins.any (isS ⟨#[]⟩)) = true
        · rw [if_pos h3] at h; simp at h
        · rw [if_neg h3] at h
          by_cases h4 : attrsE rs xs = 0
          · rw [if_pos h4] at h
            exact ⟨lo, hi, rs, rfl, h1, h2, by simpa using h3, h4, h⟩
          · rw [if_neg h4] at h
            exact absurd h h4

theorem attrsE_ok {rs : List Ra} {xs : List Atr} (h : attrsE rs xs = 0) : chk1 rs xs xs 0 = none ∧ lacks rs xs = false := by
  unfold attrsE at h
  cases hc : chk1 rs xs xs 0 with
  | some e =>
    rw [hc] at h
    have : ∀ (l : List Atr) (i : Nat) (e : Int), chk1 rs xs l i = some e → e ≠ 0 := by
      intro l
      induction l with
      | nil => intro i e h; cases h
      | cons a l ih =>
        intro i e h
        rw [chk1] at h
        cases hf : rs.find? (sameR a.name) with
        | none => rw [hf] at h; cases h; decide
        | some r =>
          rw [hf] at h
          simp only at h
          split at h
          · cases h; decide
          · split at h
            · cases h; decide
            · exact ih _ _ h
    exact absurd h (this _ _ _ hc)
  | none =>
    rw [hc] at h
    refine ⟨rfl, ?_⟩
    cases hl : lacks rs xs with
    | false => rfl
    | true => rw [hl] at h; simp at h

theorem chk1_append (rs : List Ra) (zs : List Atr) : ∀ (l m : List Atr) (i : Nat), chk1 rs zs l i = none → chk1 rs zs (l ++ m) i = chk1 rs zs m (i + l.length)
  | [], m, i, _ => rfl
  | a :: l, m, i, h => by
    rw [chk1] at h
    rw [List.cons_append, chk1]
    cases hf : rs.find? (sameR a.name) with
    | none => rw [hf] at h; cases h
    | some r =>
      rw [hf] at h
      simp only at h ⊢
      split at h
      · cases h
      · split at h
        · cases h
        · rename_i h1 h2
          rw [if_neg h1, if_neg h2, chk1_append rs zs l m (i + 1) h, List.length_cons]
          congr 1
          omega

/-- What stands behind makes no difference to what stands ahead. -/
theorem chk1_front (rs : List Ra) (xs zs : List Atr) : ∀ (l : List Atr) (i : Nat), i + l.length ≤ xs.length → chk1 rs (xs ++ zs) l i = chk1 rs xs l i
  | [], _, _ => rfl
  | a :: l, i, h => by
    rw [List.length_cons] at h
    rw [chk1, chk1, List.take_append_of_le_length (by omega), chk1_front rs xs zs l (i + 1) (by omega)]

/-- Each attribute that may be is one that the operator has. -/
theorem chk1_each (rs : List Ra) (xs : List Atr) : ∀ (l : List Atr) (i : Nat), chk1 rs xs l i = none → ∀ a ∈ l, rs.find? (sameR a.name) ≠ none
  | [], _, _, a, h => by cases h
  | x :: l, i, h, a, ha => by
    rw [chk1] at h
    cases hf : rs.find? (sameR x.name) with
    | none => rw [hf] at h; cases h
    | some r =>
      rw [hf] at h
      simp only at h
      split at h
      · cases h
      · split at h
        · cases h
        · rcases List.mem_cons.1 ha with rfl | ha
          · rw [hf]; simp
          · exact chk1_each rs xs l (i + 1) h a ha

theorem attrsE_twice {rs : List Ra} {xs : List Atr} {a : Atr} (h : attrsE rs xs = 0) (ha : a ∈ xs) : attrsE rs (xs ++ [a]) = 4 := by
  obtain ⟨h1, -⟩ := attrsE_ok h
  have h2 : chk1 rs (xs ++ [a]) xs 0 = none := by rw [chk1_front rs xs [a] xs 0 (by omega)]; exact h1
  refine attrsE_some ?_
  rw [chk1_append rs _ xs [a] 0 h2, chk1, Nat.zero_add, List.take_left]
  cases hf : rs.find? (sameR a.name) with
  | none => exact absurd hf (chk1_each rs xs xs 0 h1 a ha)
  | some r =>
    have : xs.any (aheadA a.name) = true := List.any_eq_true.2 ⟨a, ha, by simp [aheadA]⟩
    simp only [this, Bool.or_true, if_true]

theorem checkE_twice {r : Option (Int × Int × List Ra)} {op : ByteArray} {ins : List ByteArray} {out : ByteArray} {xs : List Atr} {cs ds : List Cont} {a : Atr} (h : checkF r op ins out xs cs = 0) (ha : a ∈ xs) : checkF r op ins out (xs ++ [a]) ds = 4 := by
  have h0 : checkE r ins out xs = 0 := by
    unfold checkF at h
    by_cases h1 : checkE r ins out xs = 0
    · exact h1
    · rw [if_pos h1] at h; exact h
  obtain ⟨lo, hi, rs, rfl, h1, h2, h3, h4, -⟩ := checkE_ok h0
  refine checkF_no ?_ (by decide)
  unfold checkE
  simp only
  rw [if_neg h1, if_neg h2, if_neg (by rw [h3]; decide), attrsE_twice h4 ha, if_neg (by decide)]
end Go.Proofs.YtfladhogkhhlcaaGreatDoor

/- Nodes that come in, and their copies. -/
namespace Go.Proofs.YtfladhogkhhlcaaGreatDoor
open Go.RowKit

/-- A node that comes in: its lists, and what its attributes' lists hold. -/
structure NodeIn (w : World) (n : Nod) (ins : List ByteArray) (xs : List Atr) (cs : List Cont) : Prop where
  ins : IsStrs w n.iv.v ins
  av : IsAttrs w n.av.v xs
  has : ∀ (j : Nat) (a : Atr), xs[j]? = some a → ∃ c, cs[j]? = some c ∧ Has w a c
  few : xs.length ≤ 2097152
  short : ∀ a ∈ xs, a.s.size ≤ 1048576

theorem NodeIn.more {w w' : World} {n : Nod} {ins : List ByteArray} {xs : List Atr} {cs : List Cont} (h : NodeIn w n ins xs cs) (hg : w.grownBy w' none) : NodeIn w' n ins xs cs :=
  ⟨h.ins.more hg, h.av.more hg, fun j a e => by obtain ⟨c, e1, e2⟩ := h.has j a e; exact ⟨c, e1, e2.more hg⟩, h.few, h.short⟩

theorem check_in (n : Nod) (ins : List ByteArray) (xs : List Atr) (cs : List Cont) (w : World) (hl : Laid w) (h : NodeIn w n ins xs cs) :
    Calls Tryz.prog 86 #[nval n] w fun e w' => e = .returned (.int .i64 (checkF (ruleF n.op) n.op ins n.out xs cs)) ∧ w.grownBy w' none :=
  check_all n xs cs ins w hl h.ins h.av h.has (fun a ha => by have := h.short a ha; omega)

theorem Copied.len {w w' : World} {n : Nod} {ins : List ByteArray} {xs : List Atr} {cs : List Cont} {iv av : Sl} {ys : List Atr} (h : Copied w w' n ins xs cs iv av ys) : ys.length = xs.length := by
  have := congrArg List.length h.eq
  simpa using this

theorem strip_s {xs ys : List Atr} (h : ys.map strip = xs.map strip) {m : Nat} (hs : ∀ a ∈ xs, a.s.size ≤ m) : ∀ a ∈ ys, a.s.size ≤ m := by
  intro a ha
  have h1 : strip a ∈ xs.map strip := by rw [← h]; exact List.mem_map_of_mem ha
  obtain ⟨b, hb, e⟩ := List.mem_map.1 h1
  have := hs b hb
  have e2 : (strip b).s = (strip a).s := by rw [e]
  have e3 : b.s = a.s := e2
  rw [← e3]
  exact this

/-- The node's copy, with attributes appended to its list. -/
theorem Copied.pushed {w w' W : World} {n : Nod} {ins : List ByteArray} {xs : List Atr} {cs : List Cont} {iv av v' : Sl} {ys es : List Atr} {ds : List Cont} {op nam out : ByteArray} (h : Copied w w' n ins xs cs iv av ys) (hn : NodeIn w n ins xs cs) (kp : ∀ b, b < w'.heap.size → av.v.ownBlock ≠ some b → W.heap[b]? = w'.heap[b]?)
    (hav : IsAttrs W v'.v (ys ++ es)) (hes : ∀ e ∈ es, e ∈ ys) (hds : ∀ (j : Nat) (a : Atr), es[j]? = some a → ∃ (i : Nat) (c : Cont), ds[j]? = some c ∧ ys[i]? = some a ∧ cs[i]? = some c) (hl : (ys ++ es).length ≤ 2097152) : NodeIn W ⟨op, nam, iv, out, v'⟩ ins (ys ++ es) (cs.take ys.length ++ ds) := by
  have hi := hn.ins.form
  obtain ⟨-, -, -, -, -, hi3⟩ := hi
  have hasW : ∀ (j : Nat) (a : Atr) (c : Cont), ys[j]? = some a → cs[j]? = some c → Has W a c := by
    intro j a c ha hc
    have hm := h.new a (List.mem_of_getElem? ha)
    exact (h.has j a c ha hc).kept fun b hb e => kp b hb (hm.2.1.any e)
  have hcs : ∀ (j : Nat), j < ys.length → ∃ c, cs[j]? = some c := by
    intro j hj
    rw [h.len] at hj
    obtain ⟨c, hc, -⟩ := hn.has j xs[j] (List.getElem?_eq_getElem hj)
    exact ⟨c, hc⟩
  have hcl : ys.length ≤ cs.length := by
    rcases Nat.lt_or_ge cs.length ys.length with hlt | hge
    · obtain ⟨c, hc⟩ := hcs cs.length hlt
      rw [List.getElem?_eq_none (Nat.le_refl _)] at hc
      cases hc
    · exact hge
  have htl : (cs.take ys.length).length = ys.length := by rw [List.length_take]; omega
  refine ⟨(h.ins.isL (bytes := 16) scell_len hi3).kept fun b hb e => kp b hb (h.apt b e), hav, ?_, hl, ?_⟩
  · intro j a ha
    by_cases hj : j < ys.length
    · rw [List.getElem?_append_left hj] at ha
      obtain ⟨c, hc⟩ := hcs j hj
      exact ⟨c, by rw [List.getElem?_append_left (by omega), List.getElem?_take_of_lt hj, hc], hasW j a c ha hc⟩
    · rw [List.getElem?_append_right (by omega)] at ha
      obtain ⟨i, c, h1, h2, h3⟩ := hds _ a ha
      exact ⟨c, by rw [List.getElem?_append_right (by omega), htl]; exact h1, hasW i a c h2 h3⟩
  · intro a ha
    have hys := strip_s h.eq hn.short
    rcases List.mem_append.1 ha with ha | ha
    · exact hys a ha
    · exact hys a (hes a ha)

end Go.Proofs.YtfladhogkhhlcaaGreatDoor

/- Graphs: values, named tensors and nodes in lists. -/
namespace Go.Proofs.YtfladhogkhhlcaaGreatDoor
open Go.RowKit

/-- A value, as its cells have it. -/
structure Val where
  name : ByteArray
  ty : Int
  dv : Sl

def vcells (v : Val) : List Value := [.string v.name, .int .i64 v.ty, .slice v.dv.a v.dv.n v.dv.c]

theorem vcells_len (v : Val) : (vcells v).length = 3 := rfl

/-- A named tensor, as its cells have it. -/
structure Nam where
  name : ByteArray
  ty : Int
  dv : Sl
  tv : Sl

def mcells (v : Nam) : List Value := [.string v.name, .int .i64 v.ty, .slice v.dv.a v.dv.n v.dv.c, .slice v.tv.a v.tv.n v.tv.c]

theorem mcells_len (v : Nam) : (mcells v).length = 4 := rfl

/-- A node's cells in a list. -/
def ncells (n : Nod) : List Value := [.string n.op, .string n.name, .slice n.iv.a n.iv.n n.iv.c, .string n.out, .slice n.av.a n.av.n n.av.c]

theorem ncells_len (n : Nod) : (ncells n).length = 5 := rfl

abbrev IsVals (w : World) (v : Value) (xs : List Val) : Prop := IsL 48 3 vcells w v xs
abbrev IsNams (w : World) (v : Value) (xs : List Nam) : Prop := IsL 72 4 mcells w v xs
abbrev IsNods (w : World) (v : Value) (xs : List Nod) : Prop := IsL 96 5 ncells w v xs

theorem IsL.val {w : World} {b off len cap : Nat} {xs : List Val} (h : IsL 48 3 vcells w (.slice (some ⟨b, off, none⟩) len cap) xs) (k : Nat) (hk : k < xs.length) :
    w.cell? ⟨b, off + k * 3, none⟩ = some (.string xs[k].name) ∧ w.cell? ⟨b, off + k * 3 + 1, none⟩ = some (.int .i64 xs[k].ty) ∧ w.cell? ⟨b, off + k * 3 + 2, none⟩ = some (.slice xs[k].dv.a xs[k].dv.n xs[k].dv.c) :=
  ⟨h.at k hk 0 (by omega), h.at k hk 1 (by omega), h.at k hk 2 (by omega)⟩

theorem IsL.nam {w : World} {b off len cap : Nat} {xs : List Nam} (h : IsL 72 4 mcells w (.slice (some ⟨b, off, none⟩) len cap) xs) (k : Nat) (hk : k < xs.length) :
    w.cell? ⟨b, off + k * 4, none⟩ = some (.string xs[k].name) ∧ w.cell? ⟨b, off + k * 4 + 1, none⟩ = some (.int .i64 xs[k].ty) ∧ w.cell? ⟨b, off + k * 4 + 2, none⟩ = some (.slice xs[k].dv.a xs[k].dv.n xs[k].dv.c) ∧ w.cell? ⟨b, off + k * 4 + 3, none⟩ = some (.slice xs[k].tv.a xs[k].tv.n xs[k].tv.c) :=
  ⟨h.at k hk 0 (by omega), h.at k hk 1 (by omega), h.at k hk 2 (by omega), h.at k hk 3 (by omega)⟩

theorem IsL.nod {w : World} {b off len cap : Nat} {xs : List Nod} (h : IsL 96 5 ncells w (.slice (some ⟨b, off, none⟩) len cap) xs) (k : Nat) (hk : k < xs.length) :
    w.cell? ⟨b, off + k * 5, none⟩ = some (.string xs[k].op) ∧ w.cell? ⟨b, off + k * 5 + 1, none⟩ = some (.string xs[k].name) ∧ w.cell? ⟨b, off + k * 5 + 2, none⟩ = some (.slice xs[k].iv.a xs[k].iv.n xs[k].iv.c) ∧ w.cell? ⟨b, off + k * 5 + 3, none⟩ = some (.string xs[k].out) ∧ w.cell? ⟨b, off + k * 5 + 4, none⟩ = some (.slice xs[k].av.a xs[k].av.n xs[k].av.c) :=
  ⟨h.at k hk 0 (by omega), h.at k hk 1 (by omega), h.at k hk 2 (by omega), h.at k hk 3 (by omega), h.at k hk 4 (by omega)⟩

/-- A graph, as its cells have it. -/
structure Gra where
  name : ByteArray
  nv : Sl
  iv : Sl
  ov : Sl
  tv : Sl

def gval (g : Gra) : Value := .agg #[.string g.name, .slice g.nv.a g.nv.n g.nv.c, .slice g.iv.a g.iv.n g.iv.c, .slice g.ov.a g.ov.n g.ov.c, .slice g.tv.a g.tv.n g.tv.c]

theorem gra_cells {w : World} {B : Nat} {g : Gra} {t : TypeId} (hb : w.heap[B]? = some (.cells #[.string g.name, .slice g.nv.a g.nv.n g.nv.c, .slice g.iv.a g.iv.n g.iv.c, .slice g.ov.a g.ov.n g.ov.c, .slice g.tv.a g.tv.n g.tv.c] t (0, 0))) :
    w.cell? ⟨B, 0, none⟩ = some (.string g.name) ∧ w.cell? ⟨B, 1, none⟩ = some (.slice g.nv.a g.nv.n g.nv.c) ∧ w.cell? ⟨B, 2, none⟩ = some (.slice g.iv.a g.iv.n g.iv.c) ∧ w.cell? ⟨B, 3, none⟩ = some (.slice g.ov.a g.ov.n g.ov.c) ∧ w.cell? ⟨B, 4, none⟩ = some (.slice g.tv.a g.tv.n g.tv.c) :=
  ⟨(cell_of_row _ _ 0 _ _ (0, 0) hb).trans rfl, (cell_of_row _ _ 1 _ _ (0, 0) hb).trans rfl, (cell_of_row _ _ 2 _ _ (0, 0) hb).trans rfl, (cell_of_row _ _ 3 _ _ (0, 0) hb).trans rfl, (cell_of_row _ _ 4 _ _ (0, 0) hb).trans rfl⟩

/-- A node that stands in a list: its inputs, its attributes, and what their lists hold. -/
structure Nc where
  n : Nod
  ins : List ByteArray
  xs : List Atr
  cs : List Cont

/-- A graph that comes in: what its lists hold. -/
structure GraphIn (w : World) (g : Gra) (nds : List Nc) (vin vout : List (Val × List Int)) (its : List (Nam × List Int × List Int)) : Prop where
  nodes : IsNods w g.nv.v (nds.map (·.n))
  ins : IsVals w g.iv.v (vin.map (·.1))
  outs : IsVals w g.ov.v (vout.map (·.1))
  inits : IsNams w g.tv.v (its.map (·.1))
  node : ∀ c ∈ nds, NodeIn w c.n c.ins c.xs c.cs
  din : ∀ p ∈ vin, IsInts w p.1.dv.v p.2
  dout : ∀ p ∈ vout, IsInts w p.1.dv.v p.2
  dinit : ∀ p ∈ its, IsInts w p.1.dv.v p.2.1 ∧ IsInts w p.1.tv.v p.2.2
  short : ∀ p ∈ vin, p.1.name.size ≤ 1048576
  few : nds.length ≤ 1048576 ∧ vin.length ≤ 1048576 ∧ vout.length ≤ 1048576 ∧ its.length ≤ 1048576

theorem GraphIn.more {w w' : World} {g : Gra} {nds : List Nc} {vin vout : List (Val × List Int)} {its : List (Nam × List Int × List Int)} (h : GraphIn w g nds vin vout its) (hg : w.grownBy w' none) : GraphIn w' g nds vin vout its :=
  ⟨h.nodes.more hg, h.ins.more hg, h.outs.more hg, h.inits.more hg, fun c hc => (h.node c hc).more hg, fun p hp => (h.din p hp).more hg, fun p hp => (h.dout p hp).more hg, fun p hp => ⟨(h.dinit p hp).1.more hg, (h.dinit p hp).2.more hg⟩, h.short, h.few⟩
end Go.Proofs.YtfladhogkhhlcaaGreatDoor

/- An attribute's value, or what stands for it, by the walk (mkReads.py). -/
namespace Go.Proofs.YtfladhogkhhlcaaGreatDoor
open Go.RowKit

/-- The numbers of the attribute that is so called, or others. -/
def intsV (xs : List Atr) (cs : List Cont) (nm : ByteArray) (zs : List Int) : List Int := match (xs.zip cs).find? (fun p => isA nm 7 p.1) with
  | some p => p.2.i
  | none => zs

def intV (xs : List Atr) (nm : ByteArray) (z : Int) : Int := match xs.find? (isA nm 2) with
  | some a => a.i
  | none => z

def bitsV (xs : List Atr) (nm : ByteArray) (z : Int) : Int := match xs.find? (isA nm 1) with
  | some a => a.f
  | none => z

theorem found_of {w : World} {xs : List Atr} {cs : List Cont} {nm : ByteArray} {kd : Int} (hc : ∀ (j : Nat) (a : Atr), xs[j]? = some a → ∃ c, cs[j]? = some c ∧ Has w a c) :
    ∃ (A : Atr) (b : Bool) (c : Cont), (xs.find? (isA nm kd)).getD noAtr = A ∧ (xs.find? (isA nm kd)).isSome = b ∧ (b = true → Has w A c) ∧ ((b = true → xs.find? (isA nm kd) = some A ∧ (xs.zip cs).find? (fun p => isA nm kd p.1) = some (A, c)) ∧ (b = false → xs.find? (isA nm kd) = none ∧ (xs.zip cs).find? (fun p => isA nm kd p.1) = none)) := by
  rcases find_zip (P := isA nm kd) hc with ⟨e1, e2⟩ | ⟨a, c, e1, e2, e3⟩
  · exact ⟨noAtr, false, ⟨[], [], []⟩, by rw [e1]; rfl, by rw [e1]; rfl, (fun h => by cases h), (fun h => by cases h), fun _ => ⟨e1, e2⟩⟩
  · exact ⟨a, true, c, by rw [e1]; rfl, by rw [e1]; rfl, (fun _ => e3), (fun _ => ⟨e1, e2⟩), (fun h => by cases h)⟩

theorem owns_empty (w : World) (te : TypeId) : OwnsL te 1 icell (w.alloc (.cells #[] te)) w.heap.size (.slice (some ⟨w.heap.size, 0, none⟩) 0 0) [] :=
  ⟨rfl, .inr ⟨w.heap.size, 0, #[], rfl, Nat.le_refl _, heap_alloc_new w _, Nat.le_refl _, by simp [maxLen], rfl, rfl⟩⟩

theorem eql_nil (w : World) (a : Option Addr) (l c : Nat) : (binOp .eql 23 (.slice a l c) (.slice none 0 0)).run Tryz.prog w = .ok (.bool a.isNone) w := by
  cases a <;> kernel_rfl

set_option maxRecDepth 100000 in
theorem clone_any (v : Value) (zs : List Int) (w : World) (h : IsInts w v zs) :
    Calls Tryz.prog 81 #[v] w fun e w' => ∃ u : Sl, e = .returned u.v ∧ OwnsL 2 1 icell w' w.heap.size u.v zs ∧ w.grownBy w' none := by
  obtain ⟨i0, hi, hz0, hz1, hz2⟩ := info_parts infoI64
  have H := hide (isL_ints h)
  obtain ⟨ao, cap, rfl, h1, h2, h3, h4, h5, h6⟩ := h
  cases ao with
  | none =>
    obtain ⟨rfl, rfl⟩ := h4 rfl
    have q := eql_nil w none 0 0
    go_enter Tryz.func81, Tryz.ntmps81
    go_wp2
    go_ret
    exact ⟨⟨none, 0, 0⟩, rfl, OwnsL.nil .., grown_refl _⟩
  | some ad =>
    clear h4 h6
    have H5 := hide h5
    clear h5
    have hnews : Hid (∀ o, ∀ j u, (zs.map (Value.int .i64))[j]? = some u → (w.alloc o).cell? (ad.add j) = some u) := by
      intro o j u hu
      have hj : j < zs.length := by have := (List.getElem?_eq_some_iff.1 hu).1; simpa using this
      obtain ⟨b, off, e, hc⟩ := H5.out (by omega)
      obtain rfl := Option.some.inj e
      rw [Addr.add_lit]
      refine cell_still ?_ (grown_new w o)
      rw [hc j hj]
      rw [List.getElem?_map, List.getElem?_eq_getElem hj] at hu
      simpa [List.getD, hj] using hu
    have q := eql_nil w (some ad) zs.length cap
    have OE := hide (owns_empty w 2)
    go_enter Tryz.func81, Tryz.ntmps81
    go_wp2_with (at_builtin; refine wpList_append_own _ rfl (.tmp 5) (.tmp 6) 23 rfl w.heap.size 2 i0 (.int .i64 0) 1 8 Tryz.underlying23 hi hz0 hz1 hz2 rfl (by decide) (.slice (some ⟨w.heap.size, 0, none⟩) 0 0) 0 [] rfl (by exact OE.out) ad zs.length cap (zs.map (Value.int .i64)) rfl (by simp) (by exact hnews.out _) (by intro u hu; obtain ⟨z, -, rfl⟩ := List.mem_map.1 hu; rfl) (by simp only [maxLen]; omega) (by omega) (by simp) ?_; intro v' w1 hown hgrow _)
    have o2 : OwnsL 2 1 icell w1 w.heap.size v' zs := by
      unfold OwnsL
      rw [icells]
      simpa using hown
    have HO := hide o2
    obtain ⟨xa, xc, rfl⟩ := OwnsL.form o2
    have HG : Hid (w.grownBy w1 none) := grown_trans_row (grown_new w (.cells #[] 2)) hgrow (fun r e => by have h : w.heap.size = r := Option.some.inj e; omega)
    clear o2 hown hgrow
    go_ret
    exact ⟨⟨xa, zs.length, xc⟩, rfl, HO.out, HG.out⟩

set_option maxRecDepth 100000 in
set_option maxHeartbeats 6400000 in
theorem sints_any (n : Nod) (xs : List Atr) (cs : List Cont) (nm : ByteArray) (other : Sl) (zs : List Int) (w : World) (hv : IsAttrs w n.av.v xs) (hc : ∀ (j : Nat) (a : Atr), xs[j]? = some a → ∃ c, cs[j]? = some c ∧ Has w a c) (ho : IsInts w other.v zs) :
    Calls Tryz.prog 58 #[nval n, .string nm, .slice other.a other.n other.c] w fun e w' => ∃ u : Sl, e = .returned u.v ∧ OwnsL 2 1 icell w' w.heap.size u.v (intsV xs cs nm zs) ∧ w.grownBy w' none := by
  have FN := hide (fun (p q : Nat) (wx : World) (hg : w.grownBy wx none) (hp : wx.heap[p]? = some (.cells #[.string nm] 9 (0, 0))) (hq : wx.heap[q]? = some (.cells #[.int .i64 7] 3 (0, 0))) => first_named n xs p q nm 7 wx (hv.more hg) hp hq)
  obtain ⟨A, bA, cA, hA1, hA2, hA3, hA4⟩ := found_of (nm := nm) (kd := 7) hc
  rw [hA1, hA2] at FN
  have HA3 := hide hA3
  have HA4 := hide hA4
  clear hA1 hA2 hA3 hA4 hc
  have HO := hide ho
  have HA5 : Hid ((bA = true → intsV xs cs nm zs = cA.i) ∧ (bA = false → intsV xs cs nm zs = zs)) := ⟨fun h => by unfold intsV; rw [(HA4.out.1 h).2], fun h => by unfold intsV; rw [(HA4.out.2 h).2]⟩
  clear HA4 ho
  obtain ⟨op, nam, ⟨ia, il, ic⟩, out, ⟨ao, al, cap⟩⟩ := n
  unfold nval at FN ⊢
  unfold aval at FN
  simp only at FN ⊢
  clear hv
  obtain ⟨w0, hw0⟩ : ∃ w0, w0 = w.alloc (.cells #[.string op, .string nam, .slice ia il ic, .string out, .slice ao al cap] 36) := ⟨_, rfl⟩
  have g0 : w.grownBy w0 none := by rw [hw0]; exact grown_new _ _
  have hb0 := heap_alloc_new w (.cells #[.string op, .string nam, .slice ia il ic, .string out, .slice ao al cap] 36)
  rw [← hw0] at hb0
  have HZ0 : Hid (w0.heap.size = w.heap.size + 1) := by rw [hw0]; simp [Hid]
  have BX : Hid (∀ wx, w0.grownBy wx none → wx.heap[w.heap.size]? = some (.cells #[.string op, .string nam, .slice ia il ic, .string out, .slice ao al cap] 36 (0, 0))) := fun wx hg => box_kept hb0 hg
  clear hb0
  go_enter Tryz.func58, Tryz.ntmps58
  go_wp2_with fail
  rw [← hw0]
  clear hw0
  go_cut [7, 8] from 9 to 15 (fun p b wx => ∃ N : Nat, p = .pointer (some ⟨N, 0, none⟩) ∧ b = .bool bA ∧ wx.heap[N]? = some (.cells #[.string A.name, .int .i64 A.kind, .int .i64 A.f, .int .i64 A.i, .string A.s, .int .i64 A.ty, .slice A.dv.a A.dv.n A.dv.c, .slice A.tv.a A.tv.n A.tv.c, .slice A.iv.a A.iv.n A.iv.c] 41 (0, 0)) ∧ w.grownBy wx none)
  case first =>
    obtain ⟨n0, n1, n2, n3, n4⟩ := nod_cells (n := ⟨op, nam, ⟨ia, il, ic⟩, out, ⟨ao, al, cap⟩⟩) (BX.out w0 (grown_refl _))
    have gd := grown_drew (grown_refl w0)
    go_region_held3 (fun w' => w'.cell? ⟨w.heap.size, 0, none⟩ = some (.string op) ∧ w'.cell? ⟨w.heap.size, 1, none⟩ = some (.string nam) ∧ w'.cell? ⟨w.heap.size, 2, none⟩ = some (.slice ia il ic) ∧ w'.cell? ⟨w.heap.size, 3, none⟩ = some (.string out) ∧ w'.cell? ⟨w.heap.size, 4, none⟩ = some (.slice ao al cap)) (go_keep) (first | (go_at_call 73; refine (named_any _ _ _).mono ?_; rintro e w1 ⟨rfl, hp1, hq1, hg1⟩; have g01 : w0.grownBy w1 none := (by first | exact grown_trans gd hg1 | exact grown_trans (grown_trans gd (grown_new _ _)) hg1); obtain ⟨n0, n1, n2, n3, n4⟩ := nod_cells (n := ⟨op, nam, ⟨ia, il, ic⟩, out, ⟨ao, al, cap⟩⟩) (BX.out w1 g01); have hz1 : w.heap.size ≠ w1.heap.size := (by have := g01.size; have := HZ0.out; omega); have hzz : w.heap.size ≠ w0.heap.size := (by have := HZ0.out; omega); have hz1' := hz1.symm; have hzz' := hzz.symm; try (have hp2 : w1.heap[w0.heap.size + 1]? = some (.cells #[.string nm] 9 (0, 0)) := (by have h := hp1; rw [show ((w0.alloc (.cells #[.string ⟨#[]⟩, .int .i64 0, .int .i64 0, .int .i64 0, .string ⟨#[]⟩, .int .i64 0, .slice none 0 0, .slice none 0 0, .slice none 0 0] 41)).drew).heap.size = w0.heap.size + 1 by simp] at h; exact h)); try (have hq2 : w1.heap[w0.heap.size + 1 + 1]? = some (.cells #[.int .i64 7] 3 (0, 0)) := (by have h := hq1; rw [show ((w0.alloc (.cells #[.string ⟨#[]⟩, .int .i64 0, .int .i64 0, .int .i64 0, .string ⟨#[]⟩, .int .i64 0, .slice none 0 0, .slice none 0 0, .slice none 0 0] 41)).drew).heap.size = w0.heap.size + 1 by simp] at h; exact h)); try (have kz : w1.heap[w0.heap.size]? = some (.cells #[.string ⟨#[]⟩, .int .i64 0, .int .i64 0, .int .i64 0, .string ⟨#[]⟩, .int .i64 0, .slice none 0 0, .slice none 0 0, .slice none 0 0] 41 (0, 0)) := box_kept (show ((w0.alloc (.cells #[.string ⟨#[]⟩, .int .i64 0, .int .i64 0, .int .i64 0, .string ⟨#[]⟩, .int .i64 0, .slice none 0 0, .slice none 0 0, .slice none 0 0] 41)).drew).heap[w0.heap.size]? = _ from heap_alloc_new w0 _) hg1)) | (go_at_call 72; refine (FN.out _ _ _ (by first | exact grown_trans g0 g01 | exact grown_trans (grown_trans g0 g01) (grown_new _ _)) (by first | exact hp1 | exact hp2 | exact box_kept hp1 (grown_new _ _)) (by first | exact hq1 | exact hq2 | exact box_kept hq1 (grown_new _ _))).mono ?_; rintro e w2 ⟨rfl, hg2⟩; have g02 : w0.grownBy w2 none := (by first | exact grown_trans g01 hg2 | exact grown_trans (grown_trans g01 (grown_new _ _)) hg2); obtain ⟨n0, n1, n2, n3, n4⟩ := nod_cells (n := ⟨op, nam, ⟨ia, il, ic⟩, out, ⟨ao, al, cap⟩⟩) (BX.out w2 g02); try (first | have kz2 := box_kept kz hg2 | have kz2 : w2.heap[w1.heap.size]? = some (.cells #[.string ⟨#[]⟩, .int .i64 0, .int .i64 0, .int .i64 0, .string ⟨#[]⟩, .int .i64 0, .slice none 0 0, .slice none 0 0, .slice none 0 0] 41 (0, 0)) := box_kept (heap_alloc_new w1 _) hg2); try (obtain ⟨f0, f1, f2, f3, f4, f5, f6, f7, f8⟩ := atr_frozen kz2); try (obtain ⟨k0, k1, k2, k3, k4, k5, k6, k7, k8⟩ := atr_cells (a := noAtr) kz2)))
    · have GG := hide (grown_trans g0 g02)
      go_wp2_with fail
      go_meet
      exact ⟨_, rfl, rfl, heap_alloc_new w2 _, grown_trans GG.out (grown_new w2 _)⟩
    · obtain ⟨hX, gX⟩ := store9 (.string A.name) (.int .i64 A.kind) (.int .i64 A.f) (.int .i64 A.i) (.string A.s) (.int .i64 A.ty) (.slice A.dv.a A.dv.n A.dv.c) (.slice A.tv.a A.tv.n A.tv.c) (.slice A.iv.a A.iv.n A.iv.c) (grown_trans g0 g02) (show w.heap.size ≤ w1.heap.size by have := g01.size; have := HZ0.out; omega) kz2
      have HX := hide hX
      have GX := hide gX
      clear hX gX
      go_wp2_with fail
      go_meet
      exact ⟨_, rfl, rfl, HX.out, GX.out⟩
    · obtain ⟨hX, gX⟩ := store9 (.string A.name) (.int .i64 A.kind) (.int .i64 A.f) (.int .i64 A.i) (.string A.s) (.int .i64 A.ty) (.slice A.dv.a A.dv.n A.dv.c) (.slice A.tv.a A.tv.n A.tv.c) (.slice A.iv.a A.iv.n A.iv.c) (grown_trans g0 g02) (show w.heap.size ≤ w0.heap.size by have := HZ0.out; omega) kz2
      have HX := hide hX
      have GX := hide gX
      clear hX gX
      go_wp2_with fail
      go_meet
      exact ⟨_, rfl, rfl, HX.out, GX.out⟩
  case rest =>
    obtain ⟨N, rfl, rfl, hN, hg⟩ := hcut
    obtain ⟨c0, c1, c2, c3, c4, c5, c6, c7, c8⟩ := atr_cells hN
    have HG := hide hg
    clear hN
    cases bA with
    | true =>
      have E : Hid (intsV xs cs nm zs = cA.i) := HA5.out.1 rfl
      have CL := hide (clone_any _ cA.i wc (HA3.out rfl |>.i.more hg))
      go_wp2_with fail
      refine CL.out.mono ?_
      rintro e w3 ⟨u, rfl, hu, hg3⟩
      go_wp2
      go_ret
      exact ⟨u, rfl, by rw [E.out]; exact hu.base_le HG.out.size, grown_trans HG.out hg3⟩
    | false =>
      have E : Hid (intsV xs cs nm zs = zs) := HA5.out.2 rfl
      have CL := hide (clone_any _ zs wc (HO.out.more hg))
      go_wp2_with fail
      refine CL.out.mono ?_
      rintro e w3 ⟨u, rfl, hu, hg3⟩
      go_wp2
      go_ret
      exact ⟨u, rfl, by rw [E.out]; exact hu.base_le HG.out.size, grown_trans HG.out hg3⟩

set_option maxRecDepth 100000 in
set_option maxHeartbeats 6400000 in
theorem sint_any (n : Nod) (xs : List Atr) (cs : List Cont) (nm : ByteArray) (z : Int) (w : World) (hv : IsAttrs w n.av.v xs) (hc : ∀ (j : Nat) (a : Atr), xs[j]? = some a → ∃ c, cs[j]? = some c ∧ Has w a c) :
    Calls Tryz.prog 42 #[nval n, .string nm, .int .i64 z] w fun e w' => e = .returned (.int .i64 (intV xs nm z)) ∧ w.grownBy w' none := by
  have FN := hide (fun (p q : Nat) (wx : World) (hg : w.grownBy wx none) (hp : wx.heap[p]? = some (.cells #[.string nm] 9 (0, 0))) (hq : wx.heap[q]? = some (.cells #[.int .i64 2] 3 (0, 0))) => first_named n xs p q nm 2 wx (hv.more hg) hp hq)
  obtain ⟨A, bA, cA, hA1, hA2, hA3, hA4⟩ := found_of (nm := nm) (kd := 2) hc
  rw [hA1, hA2] at FN
  have HA3 := hide hA3
  have HA4 := hide hA4
  clear hA1 hA2 hA3 hA4 hc
  have HA5 : Hid ((bA = true → intV xs nm z = A.i) ∧ (bA = false → intV xs nm z = z)) := ⟨fun h => by unfold intV; rw [(HA4.out.1 h).1], fun h => by unfold intV; rw [(HA4.out.2 h).1]⟩
  clear HA3 HA4
  obtain ⟨op, nam, ⟨ia, il, ic⟩, out, ⟨ao, al, cap⟩⟩ := n
  unfold nval at FN ⊢
  unfold aval at FN
  simp only at FN ⊢
  clear hv
  obtain ⟨w0, hw0⟩ : ∃ w0, w0 = w.alloc (.cells #[.string op, .string nam, .slice ia il ic, .string out, .slice ao al cap] 36) := ⟨_, rfl⟩
  have g0 : w.grownBy w0 none := by rw [hw0]; exact grown_new _ _
  have hb0 := heap_alloc_new w (.cells #[.string op, .string nam, .slice ia il ic, .string out, .slice ao al cap] 36)
  rw [← hw0] at hb0
  have HZ0 : Hid (w0.heap.size = w.heap.size + 1) := by rw [hw0]; simp [Hid]
  have BX : Hid (∀ wx, w0.grownBy wx none → wx.heap[w.heap.size]? = some (.cells #[.string op, .string nam, .slice ia il ic, .string out, .slice ao al cap] 36 (0, 0))) := fun wx hg => box_kept hb0 hg
  clear hb0
  go_enter Tryz.func42, Tryz.ntmps42
  go_wp2_with fail
  rw [← hw0]
  clear hw0
  go_cut [7, 8] from 9 to 15 (fun p b wx => ∃ N : Nat, p = .pointer (some ⟨N, 0, none⟩) ∧ b = .bool bA ∧ wx.heap[N]? = some (.cells #[.string A.name, .int .i64 A.kind, .int .i64 A.f, .int .i64 A.i, .string A.s, .int .i64 A.ty, .slice A.dv.a A.dv.n A.dv.c, .slice A.tv.a A.tv.n A.tv.c, .slice A.iv.a A.iv.n A.iv.c] 41 (0, 0)) ∧ w.grownBy wx none)
  case first =>
    obtain ⟨n0, n1, n2, n3, n4⟩ := nod_cells (n := ⟨op, nam, ⟨ia, il, ic⟩, out, ⟨ao, al, cap⟩⟩) (BX.out w0 (grown_refl _))
    have gd := grown_drew (grown_refl w0)
    go_region_held3 (fun w' => w'.cell? ⟨w.heap.size, 0, none⟩ = some (.string op) ∧ w'.cell? ⟨w.heap.size, 1, none⟩ = some (.string nam) ∧ w'.cell? ⟨w.heap.size, 2, none⟩ = some (.slice ia il ic) ∧ w'.cell? ⟨w.heap.size, 3, none⟩ = some (.string out) ∧ w'.cell? ⟨w.heap.size, 4, none⟩ = some (.slice ao al cap)) (go_keep) (first | (go_at_call 73; refine (named_any _ _ _).mono ?_; rintro e w1 ⟨rfl, hp1, hq1, hg1⟩; have g01 : w0.grownBy w1 none := (by first | exact grown_trans gd hg1 | exact grown_trans (grown_trans gd (grown_new _ _)) hg1); obtain ⟨n0, n1, n2, n3, n4⟩ := nod_cells (n := ⟨op, nam, ⟨ia, il, ic⟩, out, ⟨ao, al, cap⟩⟩) (BX.out w1 g01); have hz1 : w.heap.size ≠ w1.heap.size := (by have := g01.size; have := HZ0.out; omega); have hzz : w.heap.size ≠ w0.heap.size := (by have := HZ0.out; omega); have hz1' := hz1.symm; have hzz' := hzz.symm; try (have hp2 : w1.heap[w0.heap.size + 1]? = some (.cells #[.string nm] 9 (0, 0)) := (by have h := hp1; rw [show ((w0.alloc (.cells #[.string ⟨#[]⟩, .int .i64 0, .int .i64 0, .int .i64 0, .string ⟨#[]⟩, .int .i64 0, .slice none 0 0, .slice none 0 0, .slice none 0 0] 41)).drew).heap.size = w0.heap.size + 1 by simp] at h; exact h)); try (have hq2 : w1.heap[w0.heap.size + 1 + 1]? = some (.cells #[.int .i64 2] 3 (0, 0)) := (by have h := hq1; rw [show ((w0.alloc (.cells #[.string ⟨#[]⟩, .int .i64 0, .int .i64 0, .int .i64 0, .string ⟨#[]⟩, .int .i64 0, .slice none 0 0, .slice none 0 0, .slice none 0 0] 41)).drew).heap.size = w0.heap.size + 1 by simp] at h; exact h)); try (have kz : w1.heap[w0.heap.size]? = some (.cells #[.string ⟨#[]⟩, .int .i64 0, .int .i64 0, .int .i64 0, .string ⟨#[]⟩, .int .i64 0, .slice none 0 0, .slice none 0 0, .slice none 0 0] 41 (0, 0)) := box_kept (show ((w0.alloc (.cells #[.string ⟨#[]⟩, .int .i64 0, .int .i64 0, .int .i64 0, .string ⟨#[]⟩, .int .i64 0, .slice none 0 0, .slice none 0 0, .slice none 0 0] 41)).drew).heap[w0.heap.size]? = _ from heap_alloc_new w0 _) hg1)) | (go_at_call 72; refine (FN.out _ _ _ (by first | exact grown_trans g0 g01 | exact grown_trans (grown_trans g0 g01) (grown_new _ _)) (by first | exact hp1 | exact hp2 | exact box_kept hp1 (grown_new _ _)) (by first | exact hq1 | exact hq2 | exact box_kept hq1 (grown_new _ _))).mono ?_; rintro e w2 ⟨rfl, hg2⟩; have g02 : w0.grownBy w2 none := (by first | exact grown_trans g01 hg2 | exact grown_trans (grown_trans g01 (grown_new _ _)) hg2); obtain ⟨n0, n1, n2, n3, n4⟩ := nod_cells (n := ⟨op, nam, ⟨ia, il, ic⟩, out, ⟨ao, al, cap⟩⟩) (BX.out w2 g02); try (first | have kz2 := box_kept kz hg2 | have kz2 : w2.heap[w1.heap.size]? = some (.cells #[.string ⟨#[]⟩, .int .i64 0, .int .i64 0, .int .i64 0, .string ⟨#[]⟩, .int .i64 0, .slice none 0 0, .slice none 0 0, .slice none 0 0] 41 (0, 0)) := box_kept (heap_alloc_new w1 _) hg2); try (obtain ⟨f0, f1, f2, f3, f4, f5, f6, f7, f8⟩ := atr_frozen kz2); try (obtain ⟨k0, k1, k2, k3, k4, k5, k6, k7, k8⟩ := atr_cells (a := noAtr) kz2)))
    · have GG := hide (grown_trans g0 g02)
      go_wp2_with fail
      go_meet
      exact ⟨_, rfl, rfl, heap_alloc_new w2 _, grown_trans GG.out (grown_new w2 _)⟩
    · obtain ⟨hX, gX⟩ := store9 (.string A.name) (.int .i64 A.kind) (.int .i64 A.f) (.int .i64 A.i) (.string A.s) (.int .i64 A.ty) (.slice A.dv.a A.dv.n A.dv.c) (.slice A.tv.a A.tv.n A.tv.c) (.slice A.iv.a A.iv.n A.iv.c) (grown_trans g0 g02) (show w.heap.size ≤ w1.heap.size by have := g01.size; have := HZ0.out; omega) kz2
      have HX := hide hX
      have GX := hide gX
      clear hX gX
      go_wp2_with fail
      go_meet
      exact ⟨_, rfl, rfl, HX.out, GX.out⟩
    · obtain ⟨hX, gX⟩ := store9 (.string A.name) (.int .i64 A.kind) (.int .i64 A.f) (.int .i64 A.i) (.string A.s) (.int .i64 A.ty) (.slice A.dv.a A.dv.n A.dv.c) (.slice A.tv.a A.tv.n A.tv.c) (.slice A.iv.a A.iv.n A.iv.c) (grown_trans g0 g02) (show w.heap.size ≤ w0.heap.size by have := HZ0.out; omega) kz2
      have HX := hide hX
      have GX := hide gX
      clear hX gX
      go_wp2_with fail
      go_meet
      exact ⟨_, rfl, rfl, HX.out, GX.out⟩
  case rest =>
    obtain ⟨N, rfl, rfl, hN, hg⟩ := hcut
    obtain ⟨c0, c1, c2, c3, c4, c5, c6, c7, c8⟩ := atr_cells hN
    have HG := hide hg
    clear hN
    cases bA with
    | true =>
      have E : Hid (intV xs nm z = A.i) := HA5.out.1 rfl
      clear hg
      go_wp2
      go_ret
      exact ⟨by rw [E.out]; rfl, HG.out⟩
    | false =>
      have E : Hid (intV xs nm z = z) := HA5.out.2 rfl
      clear hg
      go_wp2
      go_ret
      exact ⟨by rw [E.out]; rfl, HG.out⟩

set_option maxRecDepth 100000 in
set_option maxHeartbeats 6400000 in
theorem sbits_any (n : Nod) (xs : List Atr) (cs : List Cont) (nm : ByteArray) (z : Int) (w : World) (hv : IsAttrs w n.av.v xs) (hc : ∀ (j : Nat) (a : Atr), xs[j]? = some a → ∃ c, cs[j]? = some c ∧ Has w a c) :
    Calls Tryz.prog 44 #[nval n, .string nm, .int .i64 z] w fun e w' => e = .returned (.int .i64 (bitsV xs nm z)) ∧ w.grownBy w' none := by
  have FN := hide (fun (p q : Nat) (wx : World) (hg : w.grownBy wx none) (hp : wx.heap[p]? = some (.cells #[.string nm] 9 (0, 0))) (hq : wx.heap[q]? = some (.cells #[.int .i64 1] 3 (0, 0))) => first_named n xs p q nm 1 wx (hv.more hg) hp hq)
  obtain ⟨A, bA, cA, hA1, hA2, hA3, hA4⟩ := found_of (nm := nm) (kd := 1) hc
  rw [hA1, hA2] at FN
  have HA3 := hide hA3
  have HA4 := hide hA4
  clear hA1 hA2 hA3 hA4 hc
  have HA5 : Hid ((bA = true → bitsV xs nm z = A.f) ∧ (bA = false → bitsV xs nm z = z)) := ⟨fun h => by unfold bitsV; rw [(HA4.out.1 h).1], fun h => by unfold bitsV; rw [(HA4.out.2 h).1]⟩
  clear HA3 HA4
  obtain ⟨op, nam, ⟨ia, il, ic⟩, out, ⟨ao, al, cap⟩⟩ := n
  unfold nval at FN ⊢
  unfold aval at FN
  simp only at FN ⊢
  clear hv
  obtain ⟨w0, hw0⟩ : ∃ w0, w0 = w.alloc (.cells #[.string op, .string nam, .slice ia il ic, .string out, .slice ao al cap] 36) := ⟨_, rfl⟩
  have g0 : w.grownBy w0 none := by rw [hw0]; exact grown_new _ _
  have hb0 := heap_alloc_new w (.cells #[.string op, .string nam, .slice ia il ic, .string out, .slice ao al cap] 36)
  rw [← hw0] at hb0
  have HZ0 : Hid (w0.heap.size = w.heap.size + 1) := by rw [hw0]; simp [Hid]
  have BX : Hid (∀ wx, w0.grownBy wx none → wx.heap[w.heap.size]? = some (.cells #[.string op, .string nam, .slice ia il ic, .string out, .slice ao al cap] 36 (0, 0))) := fun wx hg => box_kept hb0 hg
  clear hb0
  go_enter Tryz.func44, Tryz.ntmps44
  go_wp2_with fail
  rw [← hw0]
  clear hw0
  go_cut [7, 8] from 9 to 15 (fun p b wx => ∃ N : Nat, p = .pointer (some ⟨N, 0, none⟩) ∧ b = .bool bA ∧ wx.heap[N]? = some (.cells #[.string A.name, .int .i64 A.kind, .int .i64 A.f, .int .i64 A.i, .string A.s, .int .i64 A.ty, .slice A.dv.a A.dv.n A.dv.c, .slice A.tv.a A.tv.n A.tv.c, .slice A.iv.a A.iv.n A.iv.c] 41 (0, 0)) ∧ w.grownBy wx none)
  case first =>
    obtain ⟨n0, n1, n2, n3, n4⟩ := nod_cells (n := ⟨op, nam, ⟨ia, il, ic⟩, out, ⟨ao, al, cap⟩⟩) (BX.out w0 (grown_refl _))
    have gd := grown_drew (grown_refl w0)
    go_region_held3 (fun w' => w'.cell? ⟨w.heap.size, 0, none⟩ = some (.string op) ∧ w'.cell? ⟨w.heap.size, 1, none⟩ = some (.string nam) ∧ w'.cell? ⟨w.heap.size, 2, none⟩ = some (.slice ia il ic) ∧ w'.cell? ⟨w.heap.size, 3, none⟩ = some (.string out) ∧ w'.cell? ⟨w.heap.size, 4, none⟩ = some (.slice ao al cap)) (go_keep) (first | (go_at_call 73; refine (named_any _ _ _).mono ?_; rintro e w1 ⟨rfl, hp1, hq1, hg1⟩; have g01 : w0.grownBy w1 none := (by first | exact grown_trans gd hg1 | exact grown_trans (grown_trans gd (grown_new _ _)) hg1); obtain ⟨n0, n1, n2, n3, n4⟩ := nod_cells (n := ⟨op, nam, ⟨ia, il, ic⟩, out, ⟨ao, al, cap⟩⟩) (BX.out w1 g01); have hz1 : w.heap.size ≠ w1.heap.size := (by have := g01.size; have := HZ0.out; omega); have hzz : w.heap.size ≠ w0.heap.size := (by have := HZ0.out; omega); have hz1' := hz1.symm; have hzz' := hzz.symm; try (have hp2 : w1.heap[w0.heap.size + 1]? = some (.cells #[.string nm] 9 (0, 0)) := (by have h := hp1; rw [show ((w0.alloc (.cells #[.string ⟨#[]⟩, .int .i64 0, .int .i64 0, .int .i64 0, .string ⟨#[]⟩, .int .i64 0, .slice none 0 0, .slice none 0 0, .slice none 0 0] 41)).drew).heap.size = w0.heap.size + 1 by simp] at h; exact h)); try (have hq2 : w1.heap[w0.heap.size + 1 + 1]? = some (.cells #[.int .i64 1] 3 (0, 0)) := (by have h := hq1; rw [show ((w0.alloc (.cells #[.string ⟨#[]⟩, .int .i64 0, .int .i64 0, .int .i64 0, .string ⟨#[]⟩, .int .i64 0, .slice none 0 0, .slice none 0 0, .slice none 0 0] 41)).drew).heap.size = w0.heap.size + 1 by simp] at h; exact h)); try (have kz : w1.heap[w0.heap.size]? = some (.cells #[.string ⟨#[]⟩, .int .i64 0, .int .i64 0, .int .i64 0, .string ⟨#[]⟩, .int .i64 0, .slice none 0 0, .slice none 0 0, .slice none 0 0] 41 (0, 0)) := box_kept (show ((w0.alloc (.cells #[.string ⟨#[]⟩, .int .i64 0, .int .i64 0, .int .i64 0, .string ⟨#[]⟩, .int .i64 0, .slice none 0 0, .slice none 0 0, .slice none 0 0] 41)).drew).heap[w0.heap.size]? = _ from heap_alloc_new w0 _) hg1)) | (go_at_call 72; refine (FN.out _ _ _ (by first | exact grown_trans g0 g01 | exact grown_trans (grown_trans g0 g01) (grown_new _ _)) (by first | exact hp1 | exact hp2 | exact box_kept hp1 (grown_new _ _)) (by first | exact hq1 | exact hq2 | exact box_kept hq1 (grown_new _ _))).mono ?_; rintro e w2 ⟨rfl, hg2⟩; have g02 : w0.grownBy w2 none := (by first | exact grown_trans g01 hg2 | exact grown_trans (grown_trans g01 (grown_new _ _)) hg2); obtain ⟨n0, n1, n2, n3, n4⟩ := nod_cells (n := ⟨op, nam, ⟨ia, il, ic⟩, out, ⟨ao, al, cap⟩⟩) (BX.out w2 g02); try (first | have kz2 := box_kept kz hg2 | have kz2 : w2.heap[w1.heap.size]? = some (.cells #[.string ⟨#[]⟩, .int .i64 0, .int .i64 0, .int .i64 0, .string ⟨#[]⟩, .int .i64 0, .slice none 0 0, .slice none 0 0, .slice none 0 0] 41 (0, 0)) := box_kept (heap_alloc_new w1 _) hg2); try (obtain ⟨f0, f1, f2, f3, f4, f5, f6, f7, f8⟩ := atr_frozen kz2); try (obtain ⟨k0, k1, k2, k3, k4, k5, k6, k7, k8⟩ := atr_cells (a := noAtr) kz2)))
    · have GG := hide (grown_trans g0 g02)
      go_wp2_with fail
      go_meet
      exact ⟨_, rfl, rfl, heap_alloc_new w2 _, grown_trans GG.out (grown_new w2 _)⟩
    · obtain ⟨hX, gX⟩ := store9 (.string A.name) (.int .i64 A.kind) (.int .i64 A.f) (.int .i64 A.i) (.string A.s) (.int .i64 A.ty) (.slice A.dv.a A.dv.n A.dv.c) (.slice A.tv.a A.tv.n A.tv.c) (.slice A.iv.a A.iv.n A.iv.c) (grown_trans g0 g02) (show w.heap.size ≤ w1.heap.size by have := g01.size; have := HZ0.out; omega) kz2
      have HX := hide hX
      have GX := hide gX
      clear hX gX
      go_wp2_with fail
      go_meet
      exact ⟨_, rfl, rfl, HX.out, GX.out⟩
    · obtain ⟨hX, gX⟩ := store9 (.string A.name) (.int .i64 A.kind) (.int .i64 A.f) (.int .i64 A.i) (.string A.s) (.int .i64 A.ty) (.slice A.dv.a A.dv.n A.dv.c) (.slice A.tv.a A.tv.n A.tv.c) (.slice A.iv.a A.iv.n A.iv.c) (grown_trans g0 g02) (show w.heap.size ≤ w0.heap.size by have := HZ0.out; omega) kz2
      have HX := hide hX
      have GX := hide gX
      clear hX gX
      go_wp2_with fail
      go_meet
      exact ⟨_, rfl, rfl, HX.out, GX.out⟩
  case rest =>
    obtain ⟨N, rfl, rfl, hN, hg⟩ := hcut
    obtain ⟨c0, c1, c2, c3, c4, c5, c6, c7, c8⟩ := atr_cells hN
    have HG := hide hg
    clear hN
    cases bA with
    | true =>
      have E : Hid (bitsV xs nm z = A.f) := HA5.out.1 rfl
      clear hg
      go_wp2
      go_ret
      exact ⟨by rw [E.out]; rfl, HG.out⟩
    | false =>
      have E : Hid (bitsV xs nm z = z) := HA5.out.2 rfl
      clear hg
      go_wp2
      go_ret
      exact ⟨by rw [E.out]; rfl, HG.out⟩
end Go.Proofs.YtfladhogkhhlcaaGreatDoor
