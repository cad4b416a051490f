/- Joined texts: LnStep, INode, IMore, IDims, IDim3, IDim4, IType. -/
import Derived.Test.YtaoplfpigjkgpaaGreatDoorPartAP
import Derived.Test.YtaoplfpigjkgpaaGreatDoorPartAQ
import Derived.Test.YtaoplfpigjkgpaaGreatDoorPartAZ
import Derived.Test.YtaoplfpigjkgpaaGreatDoorPartAJ
import Derived.BigQuiet
import Derived.Deep.RegionWith
namespace Go.Proofs.YtaoplfpigjkgpaaGreatDoor

open Go.RowKit

def StepB (op : ByteArray) (w : World) (p1 p2 : Nat) : Prop := w.heap[p1]? = some (.cells #[.string op] 9 (0, 0)) ∧ w.heap[p2]? = some (.cells #[.int .i64 1] 3 (0, 0))

theorem StepB.more {op : ByteArray} {w w' : World} {p1 p2 : Nat} (h : StepB op w p1 p2) (hg : w.grownBy w' none) : StepB op w' p1 p2 := ⟨box_kept h.1 hg, box_kept h.2 hg⟩

end Go.Proofs.YtaoplfpigjkgpaaGreatDoor

namespace Go.Proofs.YtaoplfpigjkgpaaGreatDoor

open Go.RowKit

structure NodeOk (w : World) (n : Nod) (A : At) : Prop where
  op : A.op = n.op
  attrs : IsAttrs w n.av.v A.xs
  has : ∀ (j : Nat) (a : Atr), A.xs[j]? = some a → ∃ c, A.cs[j]? = some c ∧ Has w a c
  rng : ∀ a ∈ A.xs, -9223372036854775808 ≤ a.i ∧ a.i ≤ 9223372036854775807

theorem NodeOk.more {w w' : World} {n : Nod} {A : At} (h : NodeOk w n A) (hg : w.grownBy w' none) : NodeOk w' n A :=
  ⟨h.op, h.attrs.more hg, fun j a e => by obtain ⟨c, e1, e2⟩ := h.has j a e; exact ⟨c, e1, e2.more hg⟩, h.rng⟩

theorem NodeOk.int {w : World} {n : Nod} {A : At} (h : NodeOk w n A) (nm : ByteArray) (z : Int) (hz : -9223372036854775808 ≤ z ∧ z ≤ 9223372036854775807) : -9223372036854775808 ≤ A.int nm z ∧ A.int nm z ≤ 9223372036854775807 := by
  unfold At.int intV
  cases hf : A.xs.find? (isA nm 2) with
  | none => exact hz
  | some a => exact h.rng a (List.mem_of_find?_eq_some hf)

theorem nint_any (n : Nod) (A : At) (nm : ByteArray) (z : Int) (w : World) (hn : NodeOk w n A) :
    Calls Tryz.prog 59 #[nval n, .string nm, .int .i64 z] w fun e w' => e = .returned (.int .i64 (A.int nm z)) ∧ w.grownBy w' none :=
  sint_any n A.xs A.cs nm z w hn.attrs hn.has

def OwnI (te : TypeId) (w : World) (base B : Nat) (zs : List Int) : Prop := w.ownsRow base te 1 (.slice (some ⟨B, 0, none⟩) zs.length zs.length) zs.length (zs.map (Value.int .i64))

theorem OwnI.at {te : TypeId} {w : World} {base B : Nat} {zs : List Int} (h : OwnI te w base B zs) {k : Nat} (hk : k < zs.length) : w.cell? ⟨B, k, none⟩ = some (.int .i64 (zs.getD k 0)) ∧ w.frozen? ⟨B, k, none⟩ = false := by
  refine ⟨?_, World.ownsRow.frozenAt h k⟩
  rw [World.ownsRow.cellAt h k (by omega), List.getElem?_map]
  simp [List.getD, hk]

theorem OwnI.set {te : TypeId} {w : World} {base B : Nat} {zs : List Int} (h : OwnI te w base B zs) (k : Nat) (x : Int) : OwnI te (w.setCell ⟨B, k, none⟩ (.int .i64 x)) base B (zs.set k x) ∧ w.grownBy (w.setCell ⟨B, k, none⟩ (.int .i64 x)) (some B) := by
  have s := World.ownsRow.stored h k (.int .i64 x)
  rw [← List.map_set] at s
  refine ⟨?_, s.2⟩
  unfold OwnI
  rw [List.length_set]
  exact s.1

theorem OwnI.new {te : TypeId} {w w' : World} {base B : Nat} {zs : List Int} (h : OwnI te w base B zs) (hg : w.grownBy w' none) : OwnI te w' base B zs := World.ownsRow.kept h hg (.inr (by simp [Value.ownBlock]))

theorem OwnI.ints {te : TypeId} {w : World} {base B : Nat} {zs : List Int} (h : OwnI te w base B zs) (hl : zs.length * 8 ≤ 140737488351232) (hz : ∀ z ∈ zs, -9223372036854775808 ≤ z ∧ z ≤ 9223372036854775807) : IsInts w (.slice (some ⟨B, 0, none⟩) zs.length zs.length) zs := by
  refine ⟨_, _, rfl, Nat.le_refl _, by omega, hl, (fun h => by cases h), fun _ => ⟨_, _, rfl, fun k hk => ?_⟩, hz⟩
  rw [Nat.zero_add]
  exact (h.at hk).1

theorem OwnI.base_le {te : TypeId} {w : World} {base b' B : Nat} {zs : List Int} (h : OwnI te w base B zs) (hb : b' ≤ base) : OwnI te w b' B zs := by
  refine ⟨h.1, ?_⟩
  rcases h.2 with h0 | ⟨g, cap, cur, e, hg, r⟩
  · exact .inl h0
  · exact .inr ⟨g, cap, cur, e, by omega, r⟩

theorem upToP_len (n : Nat) : (upToP n).length = n := by simp [upToP]

theorem upToP_mem {n : Nat} {z : Int} (h : z ∈ upToP n) : 0 ≤ z ∧ z < n := by
  unfold upToP at h
  obtain ⟨i, hi, rfl⟩ := List.mem_map.1 h
  have := List.mem_range.1 hi
  simp only [Int.ofNat_eq_natCast]
  omega

end Go.Proofs.YtaoplfpigjkgpaaGreatDoor

namespace Go.Proofs.YtaoplfpigjkgpaaGreatDoor

open Go.RowKit

theorem grown_drop {a b c : World} {B : Nat} (h : a.grownBy b none) (k : b.grownBy c (some B)) (hb : a.heap.size ≤ B) : a.grownBy c none := grown_trans_row h k (fun r e => by cases e; exact hb)

end Go.Proofs.YtaoplfpigjkgpaaGreatDoor

namespace Go.Proofs.YtaoplfpigjkgpaaGreatDoor

open Go.RowKit

def DimsQ (zs : List Int) (v : Value) (w' : World) : Prop := ∃ s : Sl, v = s.v ∧ IsInts w' s.v zs

end Go.Proofs.YtaoplfpigjkgpaaGreatDoor

namespace Go.Proofs.YtaoplfpigjkgpaaGreatDoor

open Go.RowKit

theorem eqlI_nil (w : World) (a : Option Addr) (l c : Nat) : (binOp .eql 29 (.slice a l c) (.slice none 0 0)).run Tryz.prog w = .ok (.bool a.isNone) w := by
  cases a <;> kernel_rfl

theorem ownsI_empty (w : World) : Owns (w.alloc (.cells #[] 3)) w.heap.size (.slice (some ⟨w.heap.size, 0, none⟩) 0 0) [] :=
  ⟨⟨rfl, .inr ⟨w.heap.size, 0, #[], rfl, Nat.le_refl _, heap_alloc_new w _, Nat.le_refl _, by simp [maxLen], rfl, rfl⟩⟩, by simp, fun z hz => by simp at hz⟩

set_option maxRecDepth 100000 in
theorem cloneI_any (u : Sl) (zs : List Int) (w : World) (h : IsInts w u.v zs) :
    Calls Tryz.prog 77 #[.slice u.a u.n u.c] w fun e w' => ∃ u : Sl, e = .returned (.slice u.a u.n u.c) ∧ Owns w' w.heap.size u.v zs ∧ w.grownBy w' none := by
  have H := hide h
  obtain ⟨ua, un, uc⟩ := u
  obtain ⟨ux, cc, eu, c1, c2, c3⟩ := h.sl
  simp only [Sl.v, Value.slice.injEq] at eu
  obtain ⟨rfl, rfl, rfl⟩ := eu
  simp only
  have q := eqlI_nil w ua zs.length uc
  cases ua with
  | none =>
    obtain ⟨ao, cap, e, h1, h2, h3, h4, h5, h6⟩ := h
    cases e
    obtain ⟨rfl, rfl⟩ := h4 rfl
    clear h4 h5 h6
    simp only [List.length_nil] at q ⊢
    go_enter Tryz.func77, Tryz.ntmps77
    go_wp2
    go_ret
    exact ⟨⟨none, 0, 0⟩, rfl, owns_nil _ _, grown_refl _⟩
  | some ad =>
    clear h
    go_enter Tryz.func77, Tryz.ntmps77
    have OE := hide (ownsI_empty w)
    have HM : Hid (∀ o, IsInts (w.alloc o) (.slice (some ad) zs.length uc) zs) := fun o => H.out.more (grown_new _ _)
    clear H
    go_wp2_with (at_builtin; refine wpList_app rfl (.tmp 5) (.tmp 6) rfl w.heap.size (.slice (some ⟨w.heap.size, 0, none⟩) 0 0) [] rfl OE.out (.slice (some ad) zs.length uc) zs rfl (HM.out _) ?_ ?_ ?_; (simpa using c3); simp; intro v' w1 hown hgrow)
    go_ret
    obtain ⟨s, rfl⟩ := hown.sl
    exact ⟨s, rfl, by simpa using hown, grown_trans_row (grown_new w (.cells #[] 3)) hgrow (fun r e => by cases e; exact Nat.le_refl _)⟩

theorem Owns.cells {w : World} {base g cap : Nat} {zs : List Int} (h : Owns w base (.slice (some ⟨g, 0, none⟩) zs.length cap) zs) {k : Nat} (hk : k < zs.length) : w.cell? ⟨g, k, none⟩ = some (.int .i64 (zs.getD k 0)) ∧ w.frozen? ⟨g, k, none⟩ = false := by
  refine ⟨?_, World.ownsRow.frozenAt h.1 k⟩
  obtain ⟨b, off, e, hc⟩ := h.ints.get hk
  cases e
  have := hc k hk
  rwa [Nat.zero_add] at this

theorem Owns.put {w : World} {base g cap : Nat} {zs : List Int} (h : Owns w base (.slice (some ⟨g, 0, none⟩) zs.length cap) zs) (k : Nat) (z : Int) (hz : -9223372036854775808 ≤ z ∧ z ≤ 9223372036854775807) : Owns (w.setCell ⟨g, k, none⟩ (.int .i64 z)) base (.slice (some ⟨g, 0, none⟩) zs.length cap) (zs.set k z) ∧ w.grownBy (w.setCell ⟨g, k, none⟩ (.int .i64 z)) (some g) := by
  have s := World.ownsRow.stored h.1 k (.int .i64 z)
  rw [← List.map_set] at s
  refine ⟨⟨?_, by rw [List.length_set]; exact h.2.1, fun y hy => ?_⟩, s.2⟩
  · rw [List.length_set]
    exact s.1
  · rcases List.mem_or_eq_of_mem_set hy with h1 | rfl
    · exact h.2.2 y h1
    · exact hz

end Go.Proofs.YtaoplfpigjkgpaaGreatDoor

namespace Go.Proofs.YtaoplfpigjkgpaaGreatDoor

open Go.RowKit

theorem Fine.take {zs : List Int} (h : Fine zs) (k : Nat) : Fine (zs.take k) :=
  ⟨pos_take h.pos k, by have := h.few; simp; omega, Int.le_trans (prod_take_le h.pos k) h.le⟩

theorem IsInts.front {w : World} {a : Option Addr} {n c : Nat} {zs : List Int} (h : IsInts w (.slice a n c) zs) {k : Nat} (hk : k ≤ zs.length) : IsInts w (.slice a k c) (zs.take k) := by
  obtain ⟨ao, cap, e, h1, h2, h3, h4, h5, h6⟩ := h
  cases e
  have hl : (zs.take k).length = k := by simp; omega
  refine ⟨a, c, by rw [hl], by rw [hl]; omega, h2, by rw [hl]; omega, fun h => ?_, fun hp => ?_, fun z hz => h6 z (List.mem_of_mem_take hz)⟩
  · obtain ⟨rfl, rfl⟩ := h4 h
    exact ⟨by simp, rfl⟩
  · rw [hl] at hp
    obtain ⟨b, off, rfl, hc⟩ := h5 (by omega)
    refine ⟨b, off, rfl, fun t ht => ?_⟩
    rw [hl] at ht
    rw [hc t (by omega)]
    simp [List.getD, ht]

theorem IsInts.back {w : World} {ad : Addr} {n c : Nat} {zs : List Int} (h : IsInts w (.slice (some ad) n c) zs) {k : Nat} (hk : k ≤ zs.length) : IsInts w (.slice (if c = k then some ad else some (ad.add k)) (n - k) (c - k)) (zs.drop k) := by
  obtain ⟨ao, cap, e, h1, h2, h3, h4, h5, h6⟩ := h
  cases e
  have hl : (zs.drop k).length = zs.length - k := by simp
  have hm : ∀ z ∈ zs.drop k, -9223372036854775808 ≤ z ∧ z ≤ 9223372036854775807 := fun z hz => h6 z (List.mem_of_mem_drop hz)
  by_cases hc : c = k
  · rw [if_pos hc]
    exact ⟨_, _, by rw [hl], by rw [hl]; omega, by omega, by rw [hl]; omega, (fun h => by cases h), fun h => (by rw [hl] at h; omega), hm⟩
  · rw [if_neg hc]
    refine ⟨_, _, by rw [hl], by rw [hl]; omega, by omega, by rw [hl]; omega, (fun h => by cases h), fun hp => ?_, hm⟩
    rw [hl] at hp
    obtain ⟨b', off', e', hcx⟩ := h5 (by omega)
    cases e'
    refine ⟨b', off' + k, by rw [Addr.add_lit], fun t ht => ?_⟩
    rw [hl] at ht
    rw [Nat.add_assoc, hcx (k + t) (by omega)]
    simp [List.getD]

end Go.Proofs.YtaoplfpigjkgpaaGreatDoor

namespace Go.Proofs.YtaoplfpigjkgpaaGreatDoor

open Go.RowKit

structure ValsIn (w : World) (v : Value) (vs : List (Val × List Int)) : Prop where
  vals : IsVals w v (vs.map (·.1))
  dims : ∀ p ∈ vs, IsInts w p.1.dv.v p.2

theorem ValsIn.more {w w' : World} {v : Value} {vs : List (Val × List Int)} (h : ValsIn w v vs) (hg : w.grownBy w' none) : ValsIn w' v vs := ⟨h.vals.more hg, fun p hp => (h.dims p hp).more hg⟩

end Go.Proofs.YtaoplfpigjkgpaaGreatDoor
