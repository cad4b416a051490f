/- Nodes that come in, and their copies. -/
import Derived.Test.YteigfipgmghgmaaGreatDoorNSame
import Derived.Test.YteigfipgmghgmaaGreatDoorNLive
namespace Go.Proofs.YteigfipgmghgmaaGreatDoor
open Go.RowKit

/-- A node that comes in: its lists, and what its attributes' lists hold. -/
structure NodeIn (w : World) (n : Nod) (ins : List ByteArray) (xs : List Atr) (cs : List Cont) : Prop where
  ins : IsStrs w n.iv.v ins
  av : IsAttrs w n.av.v xs
  has : ∀ (j : Nat) (a : Atr), xs[j]? = some a → ∃ c, cs[j]? = some c ∧ Has w a c
  few : xs.length ≤ 2097152
  short : ∀ a ∈ xs, a.s.size ≤ 1048576

theorem NodeIn.more {w w' : World} {n : Nod} {ins : List ByteArray} {xs : List Atr} {cs : List Cont} (h : NodeIn w n ins xs cs) (hg : w.grownBy w' none) : NodeIn w' n ins xs cs :=
  ⟨h.ins.more hg, h.av.more hg, fun j a e => by obtain ⟨c, e1, e2⟩ := h.has j a e; exact ⟨c, e1, e2.more hg⟩, h.few, h.short⟩

theorem check_in (n : Nod) (ins : List ByteArray) (xs : List Atr) (cs : List Cont) (w : World) (hl : Laid w) (h : NodeIn w n ins xs cs) :
    Calls Tryz.prog 70 #[nval n] w fun e w' => e = .returned (.int .i64 (checkF (ruleF n.op) n.op ins n.out xs cs)) ∧ w.grownBy w' none :=
  check_all n xs cs ins w hl h.ins h.av h.has (fun a ha => by have := h.short a ha; omega)

theorem Copied.len {w w' : World} {n : Nod} {ins : List ByteArray} {xs : List Atr} {cs : List Cont} {iv av : Sl} {ys : List Atr} (h : Copied w w' n ins xs cs iv av ys) : ys.length = xs.length := by
  have := congrArg List.length h.eq
  simpa using this

theorem strip_s {xs ys : List Atr} (h : ys.map strip = xs.map strip) {m : Nat} (hs : ∀ a ∈ xs, a.s.size ≤ m) : ∀ a ∈ ys, a.s.size ≤ m := by
  intro a ha
  have h1 : strip a ∈ xs.map strip := by rw [← h]; exact List.mem_map_of_mem ha
  obtain ⟨b, hb, e⟩ := List.mem_map.1 h1
  have := hs b hb
  have e2 : (strip b).s = (strip a).s := by rw [e]
  have e3 : b.s = a.s := e2
  rw [← e3]
  exact this

/-- The node's copy, with attributes appended to its list. -/
theorem Copied.pushed {w w' W : World} {n : Nod} {ins : List ByteArray} {xs : List Atr} {cs : List Cont} {iv av v' : Sl} {ys es : List Atr} {ds : List Cont} {op nam out : ByteArray} (h : Copied w w' n ins xs cs iv av ys) (hn : NodeIn w n ins xs cs) (kp : ∀ b, b < w'.heap.size → av.v.ownBlock ≠ some b → W.heap[b]? = w'.heap[b]?)
    (hav : IsAttrs W v'.v (ys ++ es)) (hes : ∀ e ∈ es, e ∈ ys) (hds : ∀ (j : Nat) (a : Atr), es[j]? = some a → ∃ (i : Nat) (c : Cont), ds[j]? = some c ∧ ys[i]? = some a ∧ cs[i]? = some c) (hl : (ys ++ es).length ≤ 2097152) : NodeIn W ⟨op, nam, iv, out, v'⟩ ins (ys ++ es) (cs.take ys.length ++ ds) := by
  have hi := hn.ins.form
  obtain ⟨-, -, -, -, -, hi3⟩ := hi
  have hasW : ∀ (j : Nat) (a : Atr) (c : Cont), ys[j]? = some a → cs[j]? = some c → Has W a c := by
    intro j a c ha hc
    have hm := h.new a (List.mem_of_getElem? ha)
    exact (h.has j a c ha hc).kept fun b hb e => kp b hb (hm.2.1.any e)
  have hcs : ∀ (j : Nat), j < ys.length → ∃ c, cs[j]? = some c := by
    intro j hj
    rw [h.len] at hj
    obtain ⟨c, hc, -⟩ := hn.has j xs[j] (List.getElem?_eq_getElem hj)
    exact ⟨c, hc⟩
  have hcl : ys.length ≤ cs.length := by
    rcases Nat.lt_or_ge cs.length ys.length with hlt | hge
    · obtain ⟨c, hc⟩ := hcs cs.length hlt
      rw [List.getElem?_eq_none (Nat.le_refl _)] at hc
      cases hc
    · exact hge
  have htl : (cs.take ys.length).length = ys.length := by rw [List.length_take]; omega
  refine ⟨(h.ins.isL (bytes := 16) scell_len hi3).kept fun b hb e => kp b hb (h.apt b e), hav, ?_, hl, ?_⟩
  · intro j a ha
    by_cases hj : j < ys.length
    · rw [List.getElem?_append_left hj] at ha
      obtain ⟨c, hc⟩ := hcs j hj
      exact ⟨c, by rw [List.getElem?_append_left (by omega), List.getElem?_take_of_lt hj, hc], hasW j a c ha hc⟩
    · rw [List.getElem?_append_right (by omega)] at ha
      obtain ⟨i, c, h1, h2, h3⟩ := hds _ a ha
      exact ⟨c, by rw [List.getElem?_append_right (by omega), htl]; exact h1, hasW i a c h2 h3⟩
  · intro a ha
    have hys := strip_s h.eq hn.short
    rcases List.mem_append.1 ha with ha | ha
    · exact hys a ha
    · exact hys a (hes a ha)

end Go.Proofs.YteigfipgmghgmaaGreatDoor
