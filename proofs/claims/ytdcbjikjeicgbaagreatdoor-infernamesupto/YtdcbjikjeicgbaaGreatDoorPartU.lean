/- Joined texts: ILive, IErr. -/
import Derived.Test.YtdcbjikjeicgbaaGreatDoorIAllJ
import Derived.Test.YtdcbjikjeicgbaaGreatDoorGLitJ
import Derived.Test.YtdcbjikjeicgbaaGreatDoorPartH
/- The statements' own live, by the walk. -/
namespace Go.Proofs.YtdcbjikjeicgbaaGreatDoor
open Go.RowKit

theorem lit_ints (w : World) (zs : List Int) (hl : zs.length ≤ 1024) (hz : ∀ z ∈ zs, -1024 ≤ z ∧ z ≤ 1024) : IsInts (w.alloc (.cells (zs.map (Value.int .i64)).toArray 3)) (.slice (some ⟨w.heap.size, 0, none⟩) zs.length zs.length) zs := by
  refine Owns.ints (base := 0) ⟨⟨by simp, Or.inr ⟨w.heap.size, zs.length, _, rfl, Nat.zero_le _, heap_alloc_new w _, Nat.le_refl _, by simp only [maxLen]; omega, by simp, ?_⟩⟩, by omega, fun z h => by have := hz z h; omega⟩
  rw [List.take_of_length_le (by simp)]

theorem nodeall_bare (w : World) (op out : ByteArray) (iv : Sl) (ins : List ByteArray) (hi : IsStrs w iv.v ins) (ho : out.size ≤ 1048576) : NodeAll w ⟨op, ⟨#[]⟩, iv, out, nilS⟩ ins ⟨op, [], []⟩ :=
  ⟨⟨hi, OwnsL.isL (te := 57) (base := 0) acells_len (OwnsL.nil ..) (by simp), (fun j a h => by simp at h), by simp, (fun a h => by cases h)⟩, rfl, (fun a h => by cases h), (fun c h => by cases h), ho⟩

def mmVs (a b : Sl) : List (Val × List Int) := [(⟨⟨#[]⟩, 1, a⟩, [5, 2, 3]), (⟨⟨#[]⟩, 1, b⟩, [3, 4])]
def reVs : List (Val × List Int) := [(⟨⟨#[]⟩, 6, nilS⟩, [])]

theorem mm_out (s a b : Sl) : outF ⟨⟨#[77, 97, 116, 77, 117, 108]⟩, ⟨#[]⟩, s, ⟨#[99]⟩, nilS⟩ [⟨#[97]⟩, ⟨#[98]⟩] ⟨⟨#[77, 97, 116, 77, 117, 108]⟩, [], []⟩ (mmVs a b) = .ok (1, [5, 2, 4]) := by kernel_rfl

theorem re_out (s : Sl) : outF ⟨⟨#[82, 101, 108, 117]⟩, ⟨#[]⟩, s, ⟨#[99]⟩, nilS⟩ [⟨#[97]⟩] ⟨⟨#[82, 101, 108, 117]⟩, [], []⟩ reVs = .error 4 := by kernel_rfl

theorem four (w : World) (a b c d : Obj) : ∀ W, W = (((w.alloc a).alloc b).alloc c).alloc d →
    W.heap[w.heap.size]? = some a ∧ W.heap[w.heap.size + 1]? = some b ∧ W.heap[w.heap.size + 1 + 1]? = some c ∧ W.heap[w.heap.size + 1 + 1 + 1]? = some d ∧ w.grownBy W none := by
  rintro W rfl
  have z : ∀ (x : World) (o : Obj), (x.alloc o).heap.size = x.heap.size + 1 := fun x o => by simp
  have k1 := heap_alloc_new w a
  have k2 := heap_alloc_new (w.alloc a) b
  have k3 := heap_alloc_new ((w.alloc a).alloc b) c
  have k4 := heap_alloc_new (((w.alloc a).alloc b).alloc c) d
  rw [z] at k2
  rw [z, z] at k3
  rw [z, z, z] at k4
  have up : ∀ {x : World} {i : Nat} {o : Obj} (p : Obj), x.heap[i]? = some o → (x.alloc p).heap[i]? = some o := fun {x i o} p h => ((grown_new x p).block i (Array.getElem?_eq_some_iff.1 h).1 (by simp)).trans h
  exact ⟨up _ (up _ (up _ k1)), up _ (up _ k2), up _ k3, k4, grown_trans (grown_trans (grown_trans (grown_new _ _) (grown_new _ _)) (grown_new _ _)) (grown_new _ _)⟩

theorem mm_in (w : World) (W : World) (hW : W = (((w.alloc (.cells #[.string ⟨#[97]⟩, .string ⟨#[98]⟩] 9)).alloc (.cells #[.int .i64 5, .int .i64 2, .int .i64 3] 3)).alloc (.cells #[.int .i64 3, .int .i64 4] 3)).alloc (.cells #[.string ⟨#[]⟩, .int .i64 1, .slice (some ⟨w.heap.size + 1, 0, none⟩) 3 3, .string ⟨#[]⟩, .int .i64 1, .slice (some ⟨w.heap.size + 1 + 1, 0, none⟩) 2 2] 31)) :
    w.grownBy W none ∧ NodeAll W ⟨⟨#[77, 97, 116, 77, 117, 108]⟩, ⟨#[]⟩, ⟨some ⟨w.heap.size, 0, none⟩, 2, 2⟩, ⟨#[99]⟩, nilS⟩ [⟨#[97]⟩, ⟨#[98]⟩] ⟨⟨#[77, 97, 116, 77, 117, 108]⟩, [], []⟩ ∧ ValsIn W (.slice (some ⟨w.heap.size + 1 + 1 + 1, 0, none⟩) 2 2) (mmVs ⟨some ⟨w.heap.size + 1, 0, none⟩, 3, 3⟩ ⟨some ⟨w.heap.size + 1 + 1, 0, none⟩, 2, 2⟩) := by
  obtain ⟨h0, h1, h2, h3, hg⟩ := four w _ _ _ _ W hW
  have ii : ∀ (B : Nat) (zs : List Int), W.heap[B]? = some (.cells (zs.map (Value.int .i64)).toArray 3 (0, 0)) → zs.length ≤ 1024 → (∀ z ∈ zs, -1024 ≤ z ∧ z ≤ 1024) → IsInts W (.slice (some ⟨B, 0, none⟩) zs.length zs.length) zs := by
    intro B zs hb hl hz
    refine Owns.ints (base := 0) ⟨⟨by simp, Or.inr ⟨B, zs.length, _, rfl, Nat.zero_le _, hb, Nat.le_refl _, by simp only [maxLen]; omega, by simp, ?_⟩⟩, by omega, fun z h => by have := hz z h; omega⟩
    rw [List.take_of_length_le (by simp)]
  refine ⟨hg, nodeall_bare W _ _ _ _ (lit_isLG (te := 9) (bytes := 16) (xs := [⟨#[97]⟩, ⟨#[98]⟩]) scell_len h0 rfl rfl (Nat.le_of_ble_eq_true rfl) (Nat.le_of_ble_eq_true rfl)) (by decide), ⟨?_, fun p hp => ?_⟩⟩
  · exact lit_isLG (te := 31) (bytes := 48) (xs := (mmVs ⟨some ⟨w.heap.size + 1, 0, none⟩, 3, 3⟩ ⟨some ⟨w.heap.size + 1 + 1, 0, none⟩, 2, 2⟩).map (·.1)) vcells_len h3 rfl rfl (Nat.le_of_ble_eq_true rfl) (Nat.le_of_ble_eq_true rfl)
  · simp only [mmVs, List.mem_cons, List.not_mem_nil, or_false] at hp
    rcases hp with rfl | rfl
    · exact ii _ [5, 2, 3] h1 (by simp) (by simp)
    · exact ii _ [3, 4] h2 (by simp) (by simp)

theorem re_in (w : World) (W : World) (hW : W = (w.alloc (.cells #[.string ⟨#[97]⟩] 9)).alloc (.cells #[.string ⟨#[]⟩, .int .i64 6, .slice none 0 0] 31)) :
    w.grownBy W none ∧ NodeAll W ⟨⟨#[82, 101, 108, 117]⟩, ⟨#[]⟩, ⟨some ⟨w.heap.size, 0, none⟩, 1, 1⟩, ⟨#[99]⟩, nilS⟩ [⟨#[97]⟩] ⟨⟨#[82, 101, 108, 117]⟩, [], []⟩ ∧ ValsIn W (.slice (some ⟨w.heap.size + 1, 0, none⟩) 1 1) reVs := by
  subst hW
  obtain ⟨h0, h1⟩ := two_boxes w (.cells #[.string ⟨#[97]⟩] 9) (.cells #[.string ⟨#[]⟩, .int .i64 6, .slice none 0 0] 31)
  refine ⟨grown_trans (grown_new _ _) (grown_new _ _), nodeall_bare _ _ _ _ _ (lit_isLG (te := 9) (bytes := 16) (xs := [⟨#[97]⟩]) scell_len h0 rfl rfl (Nat.le_of_ble_eq_true rfl) (Nat.le_of_ble_eq_true rfl)) (by decide), ⟨?_, fun p hp => ?_⟩⟩
  · exact lit_isLG (te := 31) (bytes := 48) (xs := reVs.map (·.1)) vcells_len h1 rfl rfl (Nat.le_of_ble_eq_true rfl) (Nat.le_of_ble_eq_true rfl)
  · simp only [reVs, List.mem_cons, List.not_mem_nil, or_false] at hp
    subst hp
    exact ints_nil _

set_option maxRecDepth 100000 in
set_option maxHeartbeats 6400000 in
theorem ilive_any (w : World) (hl : Laid w) : Calls Tryz.prog 14 #[] w fun e w' => e = .returned (.bool true) ∧ w.grownBy w' none := by
  have HL := hide hl
  clear hl
  obtain ⟨W, hW⟩ : ∃ W, W = (((w.alloc (.cells #[.string ⟨#[97]⟩, .string ⟨#[98]⟩] 9)).alloc (.cells #[.int .i64 5, .int .i64 2, .int .i64 3] 3)).alloc (.cells #[.int .i64 3, .int .i64 4] 3)).alloc (.cells #[.string ⟨#[]⟩, .int .i64 1, .slice (some ⟨w.heap.size + 1, 0, none⟩) 3 3, .string ⟨#[]⟩, .int .i64 1, .slice (some ⟨w.heap.size + 1 + 1, 0, none⟩) 2 2] 31) := ⟨_, rfl⟩
  obtain ⟨gW, nW, vW⟩ := mm_in w W hW
  have GW := hide gW
  have O1 := hide (out_of _ _ _ ⟨some ⟨w.heap.size + 1 + 1 + 1, 0, none⟩, 2, 2⟩ _ W (HL.out.more gW) nW vW)
  rw [mm_out] at O1
  unfold nval nilS at O1
  simp only at O1
  clear gW nW vW
  go_enter Tryz.func14, Tryz.ntmps14
  go_wp2_with fail
  rw [← hW]
  clear hW
  refine O1.out.mono ?_
  rintro e w1 ⟨hg1, ⟨sa, sn, sc⟩, rfl, ho⟩
  have G1 := hide (grown_trans GW.out hg1)
  clear hg1 O1
  have HO := hide ho.ints
  clear ho
  unfold Sl.v at HO
  simp only at HO ⊢
  obtain ⟨w2, hw2⟩ : ∃ w2, w2 = w1.alloc (.cells #[.string ⟨#[99]⟩, .int .i64 1, .slice sa sn sc] 31) := ⟨_, rfl⟩
  have B2 := heap_alloc_new w1 (.cells #[.string ⟨#[99]⟩, .int .i64 1, .slice sa sn sc] 31)
  rw [← hw2] at B2
  have G2 : Hid (w1.grownBy w2 none) := by show w1.grownBy w2 none; rw [hw2]; exact grown_new _ _
  obtain ⟨V, hV⟩ : ∃ V, V = (w2.alloc (.cells #[.string ⟨#[97]⟩] 9)).alloc (.cells #[.string ⟨#[]⟩, .int .i64 6, .slice none 0 0] 31) := ⟨_, rfl⟩
  obtain ⟨gV, nV, vV⟩ := re_in w2 V hV
  have GV := hide gV
  have O2 := hide (out_of _ _ _ ⟨some ⟨w2.heap.size + 1, 0, none⟩, 1, 1⟩ _ V (HL.out.more (grown_trans (grown_trans G1.out G2.out) gV)) nV vV)
  rw [re_out, show w2.heap.size = w1.heap.size + 1 from by rw [hw2]; simp] at O2
  unfold nval nilS at O2
  simp only at O2
  have BB := hide B2
  clear gV nV vV B2
  go_wp2_with fail
  rw [← hw2, ← hV]
  clear hw2 hV
  refine O2.out.mono ?_
  rintro e w3 ⟨hg3, rfl⟩
  have G3 := hide (grown_trans GV.out hg3)
  clear hg3 O2
  have B4 := box_kept BB.out (grown_trans G3.out (grown_new w3 (.cells #[.string ⟨#[]⟩, .int .i64 0, .slice none 0 0] 31)))
  have c0 := (cell_of_row _ _ 0 _ _ (0, 0) B4).trans rfl
  have c1 := (cell_of_row _ _ 1 _ _ (0, 0) B4).trans rfl
  have c2 := (cell_of_row _ _ 2 _ _ (0, 0) B4).trans rfl
  have SA := hide (same_any _ _ [5, 2, 4] [5, 2, 4] ((w3.alloc (.cells #[.string ⟨#[]⟩, .int .i64 0, .slice none 0 0] 31)).alloc (.cells #[.int .i64 5, .int .i64 2, .int .i64 4] 3)) (HO.out.more (grown_trans (grown_trans (grown_trans G2.out G3.out) (grown_new _ _)) (grown_new _ _))) (lit_ints (w3.alloc (.cells #[.string ⟨#[]⟩, .int .i64 0, .slice none 0 0] 31)) [5, 2, 4] (by simp) (by simp)))
  obtain ⟨w5, hw5⟩ : ∃ w5, w5 = (w3.alloc (.cells #[.string ⟨#[]⟩, .int .i64 0, .slice none 0 0] 31)).alloc (.cells #[.int .i64 5, .int .i64 2, .int .i64 4] 3) := ⟨_, rfl⟩
  have G5 : Hid (w.grownBy w5 none) := by show w.grownBy w5 none; rw [hw5]; exact grown_trans (grown_trans (grown_trans (grown_trans G1.out G2.out) G3.out) (grown_new _ _)) (grown_new _ _)
  have Z5 : Hid ((w3.alloc (.cells #[.string ⟨#[]⟩, .int .i64 0, .slice none 0 0] 31)).heap.size = w3.heap.size + 1) := by show _ = _; simp
  rw [← hw5, Z5.out] at SA
  clear B4 BB Z5
  go_wp2_with fail
  rw [← hw5]
  clear hw5
  refine SA.out.mono ?_
  rintro e w6 ⟨rfl, hg6⟩
  rw [show decide True = true from rfl]
  go_wp2
  go_ret
  exact ⟨rfl, grown_trans G5.out hg6⟩
end Go.Proofs.YtdcbjikjeicgbaaGreatDoor

/- What infer answers, in plain facts: errors are not nought; names and places make no difference; two in either order. -/
namespace Go.Proofs.YtdcbjikjeicgbaaGreatDoor

/-- An error is never nought. -/
def NZ {α : Type} (r : R α) : Prop := ∀ c, r = .error c → c ≠ 0

theorem NZ.ok {α : Type} {a : α} : NZ (.ok a : R α) := fun c h => by cases h
theorem NZ.err {α : Type} {c : Int} (h : c ≠ 0) : NZ (.error c : R α) := fun d e => by cases e; exact h
theorem NZ.bind {α β : Type} {r : R α} {f : α → R β} (h : NZ r) (hf : ∀ a, r = .ok a → NZ (f a)) : NZ (r.bind f) := by
  cases r with
  | error c => exact fun d e => h d (by cases e; rfl)
  | ok a => exact hf a rfl
theorem NZ.must {b : Bool} : NZ (mustP b) := by
  unfold mustP
  split
  · exact .ok
  · exact .err (by decide)
theorem NZ.stop {e : Int} : NZ (stopP e) := by
  unfold stopP
  split
  · exact .ok
  · exact .err (by assumption)
theorem NZ.typ {t : Int} : NZ (typP t) := by
  unfold typP
  split
  · exact .ok
  · exact .err (by decide)
theorem NZ.count {zs : List Int} : NZ (countP zs) := by
  unfold countP
  split
  · exact .ok
  · exact .err (by assumption)
theorem NZ.spread {a b : List Int} : NZ (spreadP a b) := by
  unfold spreadP
  split
  · exact .ok
  · exact .err (by assumption)
theorem NZ.axis {a : Int} {r : Nat} : NZ (axisP a r) := by
  unfold axisP
  split
  · exact .ok
  · exact .err (by decide)
theorem NZ.axes {l : List Int} {r : Nat} : NZ (axesP l r) := by
  unfold axesP
  split
  · exact .ok
  · exact .err (by decide)
theorem NZ.isOn {x : Int} : NZ (isOnP x) := by
  unfold isOnP
  split
  · exact .ok
  · split
    · exact .ok
    · exact .err (by decide)
theorem NZ.same {l : List Int} : NZ (sameP l) := by
  cases l with
  | nil => exact .ok
  | cons t l =>
    simp only [sameP]
    split
    · exact .ok
    · exact .err (by decide)

theorem NZ.shape {x : List Int} {count : Int} : ∀ {l : List Int} {i : Nat} {left : Option Nat} {known : Int} {dims : List Int}, NZ (shapeP x count l i left known dims)
  | [], _, _, _, _ => .ok
  | d :: l, i, left, known, dims => by
    unfold shapeP
    refine NZ.bind ?_ fun a _ => NZ.bind .must fun _ _ => NZ.bind .must fun _ _ => NZ.shape
    split
    · split
      · exact .ok
      · exact .err (by decide)
    · split
      · split
        · exact .ok
        · exact .err (by decide)
      · exact .ok

theorem NZ.map {α β : Type} {r : R α} {f : α → β} (h : NZ r) : NZ (r.map f) := by
  cases r with
  | error c => exact fun d e => h d (by cases e; rfl)
  | ok a => exact .ok

theorem NZ.perm {x : List Int} : ∀ {l : List Int}, NZ (permL x l)
  | [] => .ok
  | p :: l => by
    unfold permL
    split
    · exact NZ.map NZ.perm
    · exact .err (by decide)

theorem NZ.join {a : Nat} : ∀ {l : List (List Int)} {d : List Int}, NZ (joinL a l d)
  | [], _ => .ok
  | _ :: _, _ => NZ.bind .must fun _ _ => NZ.bind .must fun _ _ => NZ.join

theorem NZ.slice {x : List Int} : ∀ {al ss es d : List Int}, NZ (sliceL x al ss es d)
  | [], _, _, _ => by unfold sliceL; exact .ok
  | _ :: _, [], _, _ => by unfold sliceL; exact .ok
  | _ :: _, _ :: _, [], _ => by unfold sliceL; exact .ok
  | _ :: _, _ :: _, _ :: _, _ => NZ.bind .axis fun _ _ => NZ.bind .must fun _ _ => NZ.slice

theorem NZ.pad {r : Nat} : ∀ {l : List Int} {i : Nat} {d : List Int}, NZ (padL r l i d)
  | [], _, _ => .ok
  | _ :: _, _, _ => NZ.bind .must fun _ _ => NZ.pad

theorem NZ.squeeze : ∀ {l : List Int} {g : List Bool}, NZ (squeezeL l g)
  | [], _ => by unfold squeezeL; exact .ok
  | _ :: _, [] => by unfold squeezeL; exact .ok
  | d :: l, g :: gs => by
    unfold squeezeL
    split
    · split
      · exact NZ.squeeze
      · exact .err (by decide)
    · exact NZ.map NZ.squeeze

theorem NZ.within {l : List Int} {m : Nat} {b : Int} : NZ (withinP l m b) := NZ.bind .must fun _ _ => NZ.bind .must fun _ _ => .ok

theorem NZ.places {A : At} {x k : List Int} {n : Nat} : NZ (placesP A x k n) := NZ.bind .within fun _ _ => NZ.bind .within fun _ _ => NZ.bind .within fun _ _ => NZ.bind .must fun _ _ => .ok

theorem NZ.product {x y : List Int} : NZ (productP x y) := NZ.bind .must fun _ _ => NZ.bind .must fun _ _ => NZ.bind .spread fun _ _ => .ok

theorem NZ.turned {x : List Int} {t : Int} : NZ (turnedP x t) := NZ.bind .must fun _ _ => NZ.bind .isOn fun _ _ => .ok

theorem NZ.gemm {A : At} {x y : List Int} {z : Option (List Int)} : NZ (gemmP A x y z) := by
  refine NZ.bind .turned fun _ _ => NZ.bind .turned fun _ _ => NZ.bind .product fun _ _ => ?_
  cases z with
  | none => exact .ok
  | some c => exact NZ.bind .spread fun _ _ => NZ.bind .must fun _ _ => .ok

theorem NZ.conv {A : At} {x y : List Int} {z : Option (List Int)} : NZ (convolvedP A x y z) := NZ.bind .must fun _ _ => NZ.bind .must fun _ _ => NZ.bind .must fun _ _ => NZ.bind .must fun _ _ => NZ.bind .places fun _ _ => NZ.bind .places fun _ _ => .ok

theorem NZ.dims {A : At} {D : List (List Int)} {g : Nat} : NZ (dimsG A D g) := by
  match g with
  | 0 => exact .ok
  | 1 => exact .ok
  | 2 => exact .spread
  | 3 => exact NZ.bind .spread fun _ _ => .spread
  | 4 => exact NZ.bind .axes fun _ _ => .ok
  | 5 => exact NZ.bind .isOn fun _ _ => NZ.bind .axes fun _ _ => .ok
  | 6 => exact NZ.bind .count fun _ _ => NZ.bind .shape fun _ _ => NZ.bind .must fun _ _ => .ok
  | 7 => exact .spread
  | 8 => exact NZ.bind .must fun _ _ => NZ.bind .axes fun _ _ => .perm
  | 9 => exact NZ.bind .axis fun _ _ => .join
  | 10 => exact NZ.bind .must fun _ _ => NZ.bind .axes fun _ _ => .slice
  | 11 => exact NZ.bind .axis fun _ _ => .ok
  | 12 => exact NZ.bind .must fun _ _ => .pad
  | 13 => exact NZ.bind .axes fun _ _ => .squeeze
  | 14 => exact NZ.bind .axes fun _ _ => .ok
  | 15 => exact NZ.bind .must fun _ _ => NZ.bind .count fun _ _ => NZ.bind .count fun _ _ => .ok
  | 16 => exact .product
  | 17 => exact .gemm
  | 18 => exact .conv
  | 19 => exact NZ.bind .must fun _ _ => NZ.bind .within fun _ _ => NZ.bind .within fun _ _ => NZ.bind .must fun _ _ => NZ.bind .places fun _ _ => NZ.bind .places fun _ _ => .ok
  | 20 => exact NZ.bind .must fun _ _ => .ok
  | 21 => exact NZ.bind .must fun _ _ => NZ.bind .must fun _ _ => .ok
  | n + 22 => exact .err (by decide)

theorem NZ.type {A : At} {ts : List Int} {g : Nat} : NZ (typeG A ts g) := by
  match g with
  | 0 => exact .ok
  | 1 => exact NZ.bind .typ fun _ _ => .ok
  | 2 => exact NZ.bind .must fun _ _ => .same
  | 3 => exact .same
  | 4 => exact NZ.bind .must fun _ _ => .ok
  | 5 => exact NZ.bind .must fun _ _ => .ok
  | 6 => exact NZ.bind .must fun _ _ => .ok
  | 7 => exact NZ.bind .same fun _ _ => NZ.bind .must fun _ _ => .ok
  | 8 => exact NZ.bind .same fun _ _ => NZ.bind .must fun _ _ => .ok
  | 9 => exact NZ.bind .same fun _ _ => NZ.bind .must fun _ _ => .ok
  | 10 => exact NZ.bind .same fun _ _ => NZ.bind .must fun _ _ => .ok
  | n + 11 => exact .err (by decide)

theorem NZ.vin : ∀ {vs : List (Val × List Int)}, NZ (vinP vs)
  | [] => .ok
  | _ :: _ => NZ.bind .typ fun _ _ => NZ.bind .count fun _ _ => NZ.vin

theorem NZ.thens {t : Int} : ∀ {os : List ByteArray}, NZ (thenP t os)
  | [] => .ok
  | _ :: _ => NZ.bind .must fun _ _ => NZ.thens

theorem outF_err {n : Nod} {ins : List ByteArray} {A : At} {vs : List (Val × List Int)} {c : Int} (h : outF n ins A vs = .error c) : c ≠ 0 :=
  (NZ.bind .stop fun _ _ => NZ.bind .must fun _ _ => NZ.bind .vin fun _ _ => NZ.bind .type fun _ _ => NZ.bind .dims fun _ _ => NZ.bind .count fun _ _ => NZ.bind .thens fun _ _ => .ok : NZ (outF n ins A vs)) c h

/-- What an answer says. -/
structure OutOk (n : Nod) (ins : List ByteArray) (A : At) (vs : List (Val × List Int)) (r : Int × List Int) : Prop where
  chk : checkF (ruleF n.op) n.op ins n.out A.xs A.cs = 0
  len : vs.length = ins.length
  vin : vinP vs = .ok ()
  typ : typeG A (tysOf vs) (grp n.op).1 = .ok r.1
  dim : dimsG A (dimsOf vs) (grp n.op).2 = .ok r.2
  cnt : cntE r.2 = 0
  thn : thenP r.1 (thenL (A.xs.find? (isA ⟨#[116, 104, 101, 110]⟩ 3))) = .ok ()

theorem must_ok {b : Bool} {u : Unit} (h : mustP b = .ok u) : b = true := by
  unfold mustP at h
  split at h
  · assumption
  · cases h

theorem stop_ok' {e : Int} {u : Unit} (h : stopP e = .ok u) : e = 0 := by
  unfold stopP at h
  split at h
  · assumption
  · cases h

theorem count_ok' {zs : List Int} {c : Int} (h : countP zs = .ok c) : cntE zs = 0 := by
  unfold countP at h
  split at h
  · assumption
  · cases h

theorem outF_ok {n : Nod} {ins : List ByteArray} {A : At} {vs : List (Val × List Int)} {r : Int × List Int} (h : outF n ins A vs = .ok r) : OutOk n ins A vs r := by
  unfold outF valueP at h
  obtain ⟨_, h1, h⟩ := bind_ok h
  obtain ⟨_, h2, h⟩ := bind_ok h
  obtain ⟨_, h3, h⟩ := bind_ok h
  obtain ⟨t, h4, h⟩ := bind_ok h
  obtain ⟨d, h5, h⟩ := bind_ok h
  obtain ⟨_, h6, h⟩ := bind_ok h
  obtain ⟨_, h7, h⟩ := bind_ok h
  cases h
  exact ⟨stop_ok' h1, of_decide_eq_true (must_ok h2), h3, h4, h5, count_ok' h6, h7⟩

theorem OutOk.eq {n : Nod} {ins : List ByteArray} {A : At} {vs : List (Val × List Int)} {r : Int × List Int} (h : OutOk n ins A vs r) : outF n ins A vs = .ok r := by
  unfold outF valueP
  have e1 : stopP (checkF (ruleF n.op) n.op ins n.out A.xs A.cs) = .ok () := by rw [h.chk]; rfl
  have e2 : mustP (decide (vs.length = ins.length)) = .ok () := by rw [decide_eq_true h.len]; rfl
  have e3 : countP r.2 = .ok (prod r.2) := by unfold countP; rw [if_pos h.cnt]
  rw [e1, e2, h.vin, h.typ, h.dim]
  show (countP r.2).bind _ = _
  rw [e3]
  show (thenP r.1 _).bind _ = _
  rw [h.thn]
  rfl

theorem OutOk.typed {n : Nod} {ins : List ByteArray} {A : At} {vs : List (Val × List Int)} {r : Int × List Int} {w : World} {u : Sl} (h : OutOk n ins A vs r) (hn : NodeAll w n ins A) (hv : ValsIn w u.v vs) : isTypeP r.1 = true := by
  obtain ⟨q, hr, h1, h2, h3⟩ := checkF_zero h.chk
  have hall := vinP_all h.vin
  have ht : ∀ s ∈ tysOf vs, isTypeP s = true := by
    intro s hs
    obtain ⟨p, hp, rfl⟩ := List.mem_map.1 hs
    exact (hall p hp).1
  rw [← h.len] at h2 h3
  obtain ⟨a1, a2, a3, a4, a5⟩ := each_all q hr n ins A u vs w h1.symm hn hv ht (fun p hp => (hall p hp).2) h2 h3
  have hlen : (tysOf vs).length = vs.length := List.length_map ..
  exact typeG_ok h.typ (fun h0 => const_type hn.node h.chk (a3 h0)) ht (fun x y => by rw [hlen]; exact a4 x y) (fun x => by rw [hlen]; exact a5 x)
end Go.Proofs.YtdcbjikjeicgbaaGreatDoor
