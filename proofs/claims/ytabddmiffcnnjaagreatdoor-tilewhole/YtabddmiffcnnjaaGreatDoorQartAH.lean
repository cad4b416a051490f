/- Joined texts: TMap. -/
import Derived.Test.YtabddmiffcnnjaaGreatDoorQartAB
import Derived.MapKept
import Derived.MapFrom
import Derived.Maps.Own
namespace Go.Proofs.YtabddmiffcnnjaaGreatDoor

open Go.RowKit

def FnMap (w : World) (b : Nat) (l : List (ByteArray × Value)) : Prop := ∃ (es : Array MapEntry) (clock : Nat), w.heap[b]? = some (.map es clock) ∧ es.toList.map (fun e => (e.key, e.val)) = l.map fun p => (Value.string p.1, p.2)

theorem FnMap.more {w w' : World} {b : Nat} {l : List (ByteArray × Value)} (h : FnMap w b l) (hg : w.grownBy w' none) : FnMap w' b l := by
  obtain ⟨es, clock, hb, he⟩ := h
  exact ⟨es, clock, (hg.block b (Array.getElem?_eq_some_iff.1 hb).1 (by simp)).trans hb, he⟩

theorem FnMap.lt {w : World} {b : Nat} {l : List (ByteArray × Value)} (h : FnMap w b l) : b < w.heap.size := by
  obtain ⟨es, clock, hb, -⟩ := h
  exact (Array.getElem?_eq_some_iff.1 hb).1

theorem fnmap_nil (w : World) : FnMap (w.alloc (.map #[] 0)) w.heap.size [] := ⟨#[], 0, heap_alloc_new w _, rfl⟩

theorem fn_keys {es : Array MapEntry} {l : List (ByteArray × Value)} (he : es.toList.map (fun e => (e.key, e.val)) = l.map fun p => (Value.string p.1, p.2)) {x : MapEntry} (hx : x ∈ es.toList) : ∃ p ∈ l, x.key = .string p.1 ∧ x.val = p.2 := by
  have h : (x.key, x.val) ∈ l.map fun p => (Value.string p.1, p.2) := by rw [← he]; exact List.mem_map.2 ⟨x, hx, rfl⟩
  obtain ⟨p, hp, e⟩ := List.mem_map.1 h
  simp only [Prod.mk.injEq] at e
  exact ⟨p, hp, e.1.symm, e.2.symm⟩

theorem FnMap.update {P : Program} {w : World} {b : Nat} {l : List (ByteArray × Value)} {t k e : TypeId} (h : FnMap w b l) (ht : P.underlying t = some (.map k e)) (hk : P.underlying k = some .string) {s : ByteArray} (v : Value) (hne : ∀ p ∈ l, p.1 ≠ s) :
    ∃ w', (Instr.mapUpdate t (.map (some b)) (.string s) v).run P w = .ok () w' ∧ FnMap w' b (l ++ [(s, v)]) ∧ w.grownBy w' (some b) := by
  obtain ⟨es, clock, hb, he⟩ := h
  have hks : ∀ x ∈ es.toList, MapKept.IsKey .string x.key := fun x hx => by
    obtain ⟨p, -, e, -⟩ := fn_keys he hx
    rw [e]; exact trivial
  rcases MapKept.findNow_spec (d := .string) (k := .string s) trivial es.toList 0 hks with ⟨h1, -⟩ | ⟨j, x, -, h2, h3⟩
  · refine ⟨{ w with heap := w.heap.setIfInBounds b (.map (es.push ⟨.string s, v, clock⟩) (clock + 1)) }, ?_, ⟨_, _, (MapKept.heap_set hb).1, ?_⟩, ⟨rfl, rfl, rfl, by simp, fun i _ hi => (MapKept.heap_set hb).2 i (fun e => hi (by rw [e]))⟩⟩
    · simp [Instr.mapUpdate, run_underlying ht, MapKept.run_getObj_map hb, MapKept.run_checkKey hk (k := .string s) trivial, MapKept.run_findKey hk h1, MapKept.run_setObj_map _ hb, Result.andThen]
    · rw [Array.toList_push, List.map_append, he, List.map_append]; rfl
  · exfalso
    obtain ⟨p, hp, e, -⟩ := fn_keys he (List.mem_of_getElem? h2)
    rw [h3] at e
    injection e with e
    exact hne p hp e.symm

theorem FnMap.found {P : Program} {w : World} {b : Nat} {l : List (ByteArray × Value)} {t k e : TypeId} (h : FnMap w b l) (ht : P.underlying t = some (.map k e)) (hk : P.underlying k = some .string) {s : ByteArray} {v : Value} (hin : ∃ p ∈ l, p.1 = s) (hv : ∀ p ∈ l, p.1 = s → p.2 = v) :
    (Instr.lookup t (.map (some b)) (.string s) true).run P w = .ok (.tuple #[v, .bool true]) w := by
  obtain ⟨es, clock, hb, he⟩ := h
  have hks : ∀ x ∈ es.toList, MapKept.IsKey .string x.key := fun x hx => by
    obtain ⟨p, -, e, -⟩ := fn_keys he hx
    rw [e]; exact trivial
  rcases MapKept.findNow_spec (d := .string) (k := .string s) trivial es.toList 0 hks with ⟨-, h2⟩ | ⟨j, x, h1, h2, h3⟩
  · exfalso
    obtain ⟨p, hp, rfl⟩ := hin
    have : (Value.string p.1, p.2) ∈ es.toList.map (fun e => (e.key, e.val)) := by rw [he]; exact List.mem_map.2 ⟨p, hp, rfl⟩
    obtain ⟨x, hx, e⟩ := List.mem_map.1 this
    simp only [Prod.mk.injEq] at e
    exact h2 x hx e.1
  · obtain ⟨p, hp, e, e2⟩ := fn_keys he (List.mem_of_getElem? h2)
    rw [h3] at e
    injection e with e
    have hval : x.val = v := by rw [e2]; exact hv p hp e.symm
    rw [hval] at h1
    simp [Instr.lookup, run_underlying ht, MapKept.run_getObj_map hb, MapKept.run_checkKey hk (k := .string s) trivial, MapKept.run_findKey hk h1, Result.andThen]

section

variable {P : Program} (w : World) {ops : Array Oper} {rest : List Oper} {o : Oper} {a : Act} {Q : Exit → Act → World → Prop}

theorem wpList_fnUpdate (hg : o.guard = none) (m x v : Operand) (t : TypeId) (hop : o.op = Op.mapUpdate t m x v) (k e : TypeId) (ht : P.underlying t = some (.map k e)) (hk : P.underlying k = some .string) (b : Nat) (l : List (ByteArray × Value)) (hm : a.eval m = .map (some b)) (h : FnMap w b l) (s : ByteArray) (val : Value) (hx : a.eval x = .string s) (hv : a.eval v = val) (hne : ∀ p ∈ l, p.1 ≠ s)
    (hK : ∀ w', FnMap w' b (l ++ [(s, val)]) → w.grownBy w' (some b) → wpList P ops Q rest (a.put o.dst undef) w') : wpList P ops Q (o :: rest) a w := by
  refine wpList_plain hg fun K' hK' => ?_
  obtain ⟨w', hrun, r1, r2⟩ := h.update ht hk val hne
  unfold Oper.wp
  simp [execOp, hop, hm, hx, hv, hrun, Result.andThen]
  exact hK' _ _ (hK w' r1 r2)

theorem wpList_fnLookup (hg : o.guard = none) (m x : Operand) (t : TypeId) (hop : o.op = Op.lookup t m x true) (k e : TypeId) (ht : P.underlying t = some (.map k e)) (hk : P.underlying k = some .string) (b : Nat) (l : List (ByteArray × Value)) (hm : a.eval m = .map (some b)) (h : FnMap w b l) (s : ByteArray) (v : Value) (hx : a.eval x = .string s) (hin : ∃ p ∈ l, p.1 = s) (hv : ∀ p ∈ l, p.1 = s → p.2 = v)
    (hK : wpList P ops Q rest (a.put o.dst (.tuple #[v, .bool true])) w) : wpList P ops Q (o :: rest) a w := by
  refine wpList_plain hg fun K' hK' => ?_
  unfold Oper.wp
  simp [execOp, hop, hm, hx, h.found ht hk hin hv, Result.andThen]
  exact hK' _ _ hK

end

end Go.Proofs.YtabddmiffcnnjaaGreatDoor
