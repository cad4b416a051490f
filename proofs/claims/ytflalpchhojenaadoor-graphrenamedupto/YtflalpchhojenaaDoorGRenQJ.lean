/- The copy with names written anew: what it holds in the end. -/
import Derived.Test.YtflalpchhojenaaDoorGRenJ
namespace Go.Proofs.YtflalpchhojenaaDoor
open Go.RowKit

def renN (f : ByteArray → ByteArray) (p : Nod × Ni) : Nod × Ni := (⟨p.1.op, p.1.name, p.1.iv, f p.1.out, p.1.av⟩, ⟨p.2.ins.map f, p.2.xs, p.2.cs⟩)

theorem renS_size {old nm x : ByteArray} {M : Nat} (h1 : nm.size ≤ M) (h2 : x.size ≤ M) : (renS old nm x).size ≤ M := by
  unfold renS
  split
  · exact h1
  · exact h2

/-- A list, of which the first k are turned. -/
def curF {α : Type} (g : α → α) (l : List α) (k : Nat) : List α := (l.take k).map g ++ l.drop k

theorem curF_len {α : Type} (g : α → α) (l : List α) (k : Nat) : (curF g l k).length = l.length := by
  unfold curF
  rw [List.length_append, List.length_map, List.length_take, List.length_drop]
  omega

theorem curF_zero {α : Type} (g : α → α) (l : List α) : curF g l 0 = l := by simp [curF]

theorem curF_full {α : Type} (g : α → α) {l : List α} {k : Nat} (h : l.length ≤ k) : curF g l k = l.map g := by
  unfold curF
  rw [List.take_of_length_le h, List.drop_of_length_le h, List.append_nil]

theorem curF_at {α : Type} (g : α → α) {l : List α} {k : Nat} (hk : k < l.length) : (curF g l k)[k]? = some l[k] := by
  unfold curF
  rw [List.getElem?_append_right (by simp; omega)]
  simp [List.length_take, Nat.min_eq_left (Nat.le_of_lt hk), hk]

theorem curF_step {α : Type} (g : α → α) {l : List α} {k : Nat} (hk : k < l.length) : (curF g l k).set k (g l[k]) = curF g l (k + 1) := by
  have hl : ((l.take k).map g).length = k := by rw [List.length_map, List.length_take]; omega
  unfold curF
  rw [List.set_append_right _ _ (by omega), hl, Nat.sub_self, List.drop_eq_getElem_cons hk, List.set_cons_zero, List.take_add_one, List.getElem?_eq_getElem hk, List.map_append, List.append_assoc]
  rfl

section
variable {w2 wr : World} {B : Nat} {h : Gra} {i0 i1 o0 o1 n0 n1 t0 t1 : Nat} {ms : List (Nod × Ni)} {vi vo : List (Val × List Int)} {ts : List (Nam × List Int × List Int)}

theorem RS.more {W : World} (r : RS w2 B h i0 i1 o0 o1 n0 n1 t0 t1 wr ms vi vo ts) (g : wr.grownBy W none) : RS w2 B h i0 i1 o0 o1 n0 n1 t0 t1 W ms vi vo ts :=
  ⟨box_kept r.box g, r.ins.more valFeet g, r.outs.more valFeet g, r.nodes.more nodFeet g, r.inits.more namFeet g, fun p hp => (r.nown p hp).kept fun b e => g.block b (Nat.lt_of_lt_of_le (r.nodes.new p hp b e).2.1 r.nodes.le) (by simp), r.sep, r.apt, r.low, r.hiB, grown_trans r.grown g⟩

/-- A list of the call's own that has elements: where it lies. -/
theorem own_at {α β : Type} {te : TypeId} {size : Nat} {f : α → List Value} {H : World → α → β → Prop} {foot : α → β → Nat → Prop} {w : World} {lo hi : Nat} {s : Sl} {ps : List (α × β)} (o : OwnD te size f H foot w lo hi s.v ps) {k : Nat} (hk : k < ps.length) : ∃ b, s = ⟨some ⟨b, 0, none⟩, ps.length, s.c⟩ := by
  obtain ⟨g, cap, e, -⟩ := World.ownsRow.form o.own (by rw [List.length_map]; omega)
  obtain ⟨sa, sn, sc⟩ := s
  simp only [Sl.v, Value.slice.injEq, List.length_map] at e
  obtain ⟨rfl, rfl, rfl⟩ := e
  exact ⟨g, rfl⟩

theorem own_n {α β : Type} {te : TypeId} {size : Nat} {f : α → List Value} {H : World → α → β → Prop} {foot : α → β → Nat → Prop} {w : World} {lo hi : Nat} {s : Sl} {ps : List (α × β)} (o : OwnD te size f H foot w lo hi s.v ps) : s.n = ps.length := by
  obtain ⟨pa, pc, e⟩ := OwnsL.form o.own
  simp only [Sl.v, Value.slice.injEq, List.length_map] at e
  exact e.2.1

/-- What the copy holds in the end is a graph that comes in. -/
theorem RS.ok {old nm : ByteArray} {cs : List Nc} {vin vout : List (Val × List Int)} {its : List (Nam × List Int × List Int)} {w g : _} {ms0 : List (Nod × Ni)} {vi0 vo0 : List (Val × List Int)} {ts0 : List (Nam × List Int × List Int)} (hs : SameG cs vin vout its (ms0.map toNc) vi0 vo0 ts0) (hg : GraphOk w g cs vin vout its) (hnm : nm.size ≤ 1048576)
    (r : RS w2 B h i0 i1 o0 o1 n0 n1 t0 t1 wr (ms0.map (renN (renS old nm))) (vi0.map (renV (renS old nm))) (vo0.map (renV (renS old nm))) (ts0.map (renT (renS old nm)))) : GraphOk wr h ((ms0.map toNc).map (renC (renS old nm))) (vi0.map (renV (renS old nm))) (vo0.map (renV (renS old nm))) (ts0.map (renT (renS old nm))) := by
  obtain ⟨f1, f2, f3, f4⟩ := hg.base.few
  have l1 := key_len hs.nodes
  have l2 := key_len hs.ins
  have l3 := key_len hs.outs
  have l4 := key_len hs.inits
  rw [List.length_map] at l1
  have em : (ms0.map (renN (renS old nm))).map toNc = (ms0.map toNc).map (renC (renS old nm)) := by
    rw [List.map_map, List.map_map]
    rfl
  have hvn : ∀ y ∈ vnames ((ms0.map toNc).map (renC (renS old nm))) (vi0.map (renV (renS old nm))) (ts0.map (renT (renS old nm))), y.size ≤ 1048576 := fun y hy => by
    rw [vnames_ren, hs.vnames] at hy
    obtain ⟨x, hx, rfl⟩ := List.mem_map.1 hy
    exact renS_size hnm (hg.vs x hx)
  refine ⟨?_, hvn, fun y hy => ?_, fun c hc => ?_⟩
  · rw [← em]
    refine graphIn_parts (r.nodes.isL ncells_len (by rw [List.length_map]; omega)) r.nodes.has (r.outs.isL vcells_len (by rw [List.length_map]; omega)) r.outs.has (r.inits.isL mcells_len (by rw [List.length_map]; omega)) r.inits.has (r.ins.isL vcells_len (by rw [List.length_map]; omega)) r.ins.has (fun p hp => ?_) ⟨by rw [List.length_map]; omega, by rw [List.length_map]; omega, by rw [List.length_map]; omega, by rw [List.length_map]; omega⟩
    exact hvn _ (by unfold vnames; simp only [List.mem_append]; exact Or.inl (Or.inl (List.mem_map_of_mem (List.mem_map_of_mem hp))))
  · rw [onames_ren, hs.onames] at hy
    obtain ⟨x, hx, rfl⟩ := List.mem_map.1 hy
    exact renS_size hnm (hg.os x hx)
  · obtain ⟨d, hd, rfl⟩ := List.mem_map.1 hc
    obtain ⟨e, he, e2⟩ := mem_key (key_ins hs.nodes) hd
    have := hg.is e he
    rw [e2] at this
    refine ⟨by simp only [renC, List.length_map]; exact this.1, fun x hx => ?_⟩
    simp only [renC] at hx
    obtain ⟨z, hz, rfl⟩ := List.mem_map.1 hx
    exact renS_size hnm (this.2 z hz)

theorem ren_same {f : ByteArray → ByteArray} {cs : List Nc} {vin vout : List (Val × List Int)} {its : List (Nam × List Int × List Int)} {cs' : List Nc} {vin' vout' : List (Val × List Int)} {its' : List (Nam × List Int × List Int)} (h : SameG cs vin vout its cs' vin' vout' its') : SameG (cs.map (renC f)) (vin.map (renV f)) (vout.map (renV f)) (its.map (renT f)) (cs'.map (renC f)) (vin'.map (renV f)) (vout'.map (renV f)) (its'.map (renT f)) := by
  refine ⟨?_, ?_, ?_, ?_⟩
  · rw [List.map_map, List.map_map]
    refine map_key (k := nkey) (fun a b e => ?_) h.nodes
    simp only [nkey, Prod.mk.injEq] at e
    obtain ⟨e1, e2, e3, e4, e5, e6⟩ := e
    simp only [Function.comp, nkey, renC]
    rw [e1, e2, e3, e4, e5, e6]
  · rw [List.map_map, List.map_map]
    refine map_key (k := vkey) (fun a b e => ?_) h.ins
    simp only [vkey, Prod.mk.injEq] at e
    obtain ⟨e1, e2, e3⟩ := e
    simp only [Function.comp, vkey, renV]
    rw [e1, e2, e3]
  · rw [List.map_map, List.map_map]
    refine map_key (k := vkey) (fun a b e => ?_) h.outs
    simp only [vkey, Prod.mk.injEq] at e
    obtain ⟨e1, e2, e3⟩ := e
    simp only [Function.comp, vkey, renV]
    rw [e1, e2, e3]
  · rw [List.map_map, List.map_map]
    refine map_key (k := mkey) (fun a b e => ?_) h.inits
    simp only [mkey, Prod.mk.injEq] at e
    obtain ⟨e1, e2, e3⟩ := e
    simp only [Function.comp, mkey, renT]
    rw [e1, e2, e3]
end

set_option maxRecDepth 100000 in
theorem turned_any (x old nm : ByteArray) (w : World) : Calls Tryd.prog 21 #[.string x, .string old, .string nm] w fun e w' => e = .returned (.string (renS old nm x)) ∧ w' = w := by
  by_cases h : (x.toList == old.toList) = true
  · have e : renS old nm x = nm := by unfold renS; rw [if_pos h]
    rw [e]
    go_enter Tryd.func21, Tryd.ntmps21
    go_wp2
    go_ret
    exact ⟨rfl, rfl⟩
  · have e : renS old nm x = x := by unfold renS; rw [if_neg h]
    have h' : (x.toList == old.toList) = false := by simpa using h
    clear h
    rw [e]
    go_enter Tryd.func21, Tryd.ntmps21
    go_wp2
    go_ret
    exact ⟨rfl, rfl⟩
end Go.Proofs.YtflalpchhojenaaDoor
