/- The statements' own live, by the walk. -/
import Derived.Test.YtdcbjikjeicgbaaGreatDoorIAllJ
import Derived.Test.YtdcbjikjeicgbaaGreatDoorPartE
namespace Go.Proofs.YtdcbjikjeicgbaaGreatDoor
open Go.RowKit

theorem lit_ints (w : World) (zs : List Int) (hl : zs.length ≤ 1024) (hz : ∀ z ∈ zs, -1024 ≤ z ∧ z ≤ 1024) : IsInts (w.alloc (.cells (zs.map (Value.int .i64)).toArray 3)) (.slice (some ⟨w.heap.size, 0, none⟩) zs.length zs.length) zs := by
  refine Owns.ints (base := 0) ⟨⟨by simp, Or.inr ⟨w.heap.size, zs.length, _, rfl, Nat.zero_le _, heap_alloc_new w _, Nat.le_refl _, by simp only [maxLen]; omega, by simp, ?_⟩⟩, by omega, fun z h => by have := hz z h; omega⟩
  rw [List.take_of_length_le (by simp)]

theorem nodeall_bare (w : World) (op out : ByteArray) (iv : Sl) (ins : List ByteArray) (hi : IsStrs w iv.v ins) (ho : out.size ≤ 1048576) : NodeAll w ⟨op, ⟨#[]⟩, iv, out, nilS⟩ ins ⟨op, [], []⟩ :=
  ⟨⟨hi, OwnsL.isL (te := 57) (base := 0) acells_len (OwnsL.nil ..) (by simp), (fun j a h => by simp at h), by simp, (fun a h => by cases h)⟩, rfl, (fun a h => by cases h), (fun c h => by cases h), ho⟩

def mmVs (a b : Sl) : List (Val × List Int) := [(⟨⟨#[]⟩, 1, a⟩, [5, 2, 3]), (⟨⟨#[]⟩, 1, b⟩, [3, 4])]
def reVs : List (Val × List Int) := [(⟨⟨#[]⟩, 6, nilS⟩, [])]

theorem mm_out (s a b : Sl) : outF ⟨⟨#[77, 97, 116, 77, 117, 108]⟩, ⟨#[]⟩, s, ⟨#[99]⟩, nilS⟩ [⟨#[97]⟩, ⟨#[98]⟩] ⟨⟨#[77, 97, 116, 77, 117, 108]⟩, [], []⟩ (mmVs a b) = .ok (1, [5, 2, 4]) := by kernel_rfl

theorem re_out (s : Sl) : outF ⟨⟨#[82, 101, 108, 117]⟩, ⟨#[]⟩, s, ⟨#[99]⟩, nilS⟩ [⟨#[97]⟩] ⟨⟨#[82, 101, 108, 117]⟩, [], []⟩ reVs = .error 4 := by kernel_rfl

theorem four (w : World) (a b c d : Obj) : ∀ W, W = (((w.alloc a).alloc b).alloc c).alloc d →
    W.heap[w.heap.size]? = some a ∧ W.heap[w.heap.size + 1]? = some b ∧ W.heap[w.heap.size + 1 + 1]? = some c ∧ W.heap[w.heap.size + 1 + 1 + 1]? = some d ∧ w.grownBy W none := by
  rintro W rfl
  have z : ∀ (x : World) (o : Obj), (x.alloc o).heap.size = x.heap.size + 1 := fun x o => by simp
  have k1 := heap_alloc_new w a
  have k2 := heap_alloc_new (w.alloc a) b
  have k3 := heap_alloc_new ((w.alloc a).alloc b) c
  have k4 := heap_alloc_new (((w.alloc a).alloc b).alloc c) d
  rw [z] at k2
  rw [z, z] at k3
  rw [z, z, z] at k4
  have up : ∀ {x : World} {i : Nat} {o : Obj} (p : Obj), x.heap[i]? = some o → (x.alloc p).heap[i]? = some o := fun {x i o} p h => ((grown_new x p).block i (Array.getElem?_eq_some_iff.1 h).1 (by simp)).trans h
  exact ⟨up _ (up _ (up _ k1)), up _ (up _ k2), up _ k3, k4, grown_trans (grown_trans (grown_trans (grown_new _ _) (grown_new _ _)) (grown_new _ _)) (grown_new _ _)⟩

theorem mm_in (w : World) (W : World) (hW : W = (((w.alloc (.cells #[.string ⟨#[97]⟩, .string ⟨#[98]⟩] 9)).alloc (.cells #[.int .i64 5, .int .i64 2, .int .i64 3] 3)).alloc (.cells #[.int .i64 3, .int .i64 4] 3)).alloc (.cells #[.string ⟨#[]⟩, .int .i64 1, .slice (some ⟨w.heap.size + 1, 0, none⟩) 3 3, .string ⟨#[]⟩, .int .i64 1, .slice (some ⟨w.heap.size + 1 + 1, 0, none⟩) 2 2] 31)) :
    w.grownBy W none ∧ NodeAll W ⟨⟨#[77, 97, 116, 77, 117, 108]⟩, ⟨#[]⟩, ⟨some ⟨w.heap.size, 0, none⟩, 2, 2⟩, ⟨#[99]⟩, nilS⟩ [⟨#[97]⟩, ⟨#[98]⟩] ⟨⟨#[77, 97, 116, 77, 117, 108]⟩, [], []⟩ ∧ ValsIn W (.slice (some ⟨w.heap.size + 1 + 1 + 1, 0, none⟩) 2 2) (mmVs ⟨some ⟨w.heap.size + 1, 0, none⟩, 3, 3⟩ ⟨some ⟨w.heap.size + 1 + 1, 0, none⟩, 2, 2⟩) := by
  obtain ⟨h0, h1, h2, h3, hg⟩ := four w _ _ _ _ W hW
  have ii : ∀ (B : Nat) (zs : List Int), W.heap[B]? = some (.cells (zs.map (Value.int .i64)).toArray 3 (0, 0)) → zs.length ≤ 1024 → (∀ z ∈ zs, -1024 ≤ z ∧ z ≤ 1024) → IsInts W (.slice (some ⟨B, 0, none⟩) zs.length zs.length) zs := by
    intro B zs hb hl hz
    refine Owns.ints (base := 0) ⟨⟨by simp, Or.inr ⟨B, zs.length, _, rfl, Nat.zero_le _, hb, Nat.le_refl _, by simp only [maxLen]; omega, by simp, ?_⟩⟩, by omega, fun z h => by have := hz z h; omega⟩
    rw [List.take_of_length_le (by simp)]
  refine ⟨hg, nodeall_bare W _ _ _ _ (lit_isLG (te := 9) (bytes := 16) (xs := [⟨#[97]⟩, ⟨#[98]⟩]) scell_len h0 rfl rfl (Nat.le_of_ble_eq_true rfl) (Nat.le_of_ble_eq_true rfl)) (by decide), ⟨?_, fun p hp => ?_⟩⟩
  · exact lit_isLG (te := 31) (bytes := 48) (xs := (mmVs ⟨some ⟨w.heap.size + 1, 0, none⟩, 3, 3⟩ ⟨some ⟨w.heap.size + 1 + 1, 0, none⟩, 2, 2⟩).map (·.1)) vcells_len h3 rfl rfl (Nat.le_of_ble_eq_true rfl) (Nat.le_of_ble_eq_true rfl)
  · simp only [mmVs, List.mem_cons, List.not_mem_nil, or_false] at hp
    rcases hp with rfl | rfl
    · exact ii _ [5, 2, 3] h1 (by simp) (by simp)
    · exact ii _ [3, 4] h2 (by simp) (by simp)

theorem re_in (w : World) (W : World) (hW : W = (w.alloc (.cells #[.string ⟨#[97]⟩] 9)).alloc (.cells #[.string ⟨#[]⟩, .int .i64 6, .slice none 0 0] 31)) :
    w.grownBy W none ∧ NodeAll W ⟨⟨#[82, 101, 108, 117]⟩, ⟨#[]⟩, ⟨some ⟨w.heap.size, 0, none⟩, 1, 1⟩, ⟨#[99]⟩, nilS⟩ [⟨#[97]⟩] ⟨⟨#[82, 101, 108, 117]⟩, [], []⟩ ∧ ValsIn W (.slice (some ⟨w.heap.size + 1, 0, none⟩) 1 1) reVs := by
  subst hW
  obtain ⟨h0, h1⟩ := two_boxes w (.cells #[.string ⟨#[97]⟩] 9) (.cells #[.string ⟨#[]⟩, .int .i64 6, .slice none 0 0] 31)
  refine ⟨grown_trans (grown_new _ _) (grown_new _ _), nodeall_bare _ _ _ _ _ (lit_isLG (te := 9) (bytes := 16) (xs := [⟨#[97]⟩]) scell_len h0 rfl rfl (Nat.le_of_ble_eq_true rfl) (Nat.le_of_ble_eq_true rfl)) (by decide), ⟨?_, fun p hp => ?_⟩⟩
  · exact lit_isLG (te := 31) (bytes := 48) (xs := reVs.map (·.1)) vcells_len h1 rfl rfl (Nat.le_of_ble_eq_true rfl) (Nat.le_of_ble_eq_true rfl)
  · simp only [reVs, List.mem_cons, List.not_mem_nil, or_false] at hp
    subst hp
    exact ints_nil _

set_option maxRecDepth 100000 in
set_option maxHeartbeats 6400000 in
theorem ilive_any (w : World) (hl : Laid w) : Calls Tryz.prog 14 #[] w fun e w' => e = .returned (.bool true) ∧ w.grownBy w' none := by
  have HL := hide hl
  clear hl
  obtain ⟨W, hW⟩ : ∃ W, W = (((w.alloc (.cells #[.string ⟨#[97]⟩, .string ⟨#[98]⟩] 9)).alloc (.cells #[.int .i64 5, .int .i64 2, .int .i64 3] 3)).alloc (.cells #[.int .i64 3, .int .i64 4] 3)).alloc (.cells #[.string ⟨#[]⟩, .int .i64 1, .slice (some ⟨w.heap.size + 1, 0, none⟩) 3 3, .string ⟨#[]⟩, .int .i64 1, .slice (some ⟨w.heap.size + 1 + 1, 0, none⟩) 2 2] 31) := ⟨_, rfl⟩
  obtain ⟨gW, nW, vW⟩ := mm_in w W hW
  have GW := hide gW
  have O1 := hide (out_of _ _ _ ⟨some ⟨w.heap.size + 1 + 1 + 1, 0, none⟩, 2, 2⟩ _ W (HL.out.more gW) nW vW)
  rw [mm_out] at O1
  unfold nval nilS at O1
  simp only at O1
  clear gW nW vW
  go_enter Tryz.func14, Tryz.ntmps14
  go_wp2_with fail
  rw [← hW]
  clear hW
  refine O1.out.mono ?_
  rintro e w1 ⟨hg1, ⟨sa, sn, sc⟩, rfl, ho⟩
  have G1 := hide (grown_trans GW.out hg1)
  clear hg1 O1
  have HO := hide ho.ints
  clear ho
  unfold Sl.v at HO
  simp only at HO ⊢
  obtain ⟨w2, hw2⟩ : ∃ w2, w2 = w1.alloc (.cells #[.string ⟨#[99]⟩, .int .i64 1, .slice sa sn sc] 31) := ⟨_, rfl⟩
  have B2 := heap_alloc_new w1 (.cells #[.string ⟨#[99]⟩, .int .i64 1, .slice sa sn sc] 31)
  rw [← hw2] at B2
  have G2 : Hid (w1.grownBy w2 none) := by show w1.grownBy w2 none; rw [hw2]; exact grown_new _ _
  obtain ⟨V, hV⟩ : ∃ V, V = (w2.alloc (.cells #[.string ⟨#[97]⟩] 9)).alloc (.cells #[.string ⟨#[]⟩, .int .i64 6, .slice none 0 0] 31) := ⟨_, rfl⟩
  obtain ⟨gV, nV, vV⟩ := re_in w2 V hV
  have GV := hide gV
  have O2 := hide (out_of _ _ _ ⟨some ⟨w2.heap.size + 1, 0, none⟩, 1, 1⟩ _ V (HL.out.more (grown_trans (grown_trans G1.out G2.out) gV)) nV vV)
  rw [re_out, show w2.heap.size = w1.heap.size + 1 from by rw [hw2]; simp] at O2
  unfold nval nilS at O2
  simp only at O2
  have BB := hide B2
  clear gV nV vV B2
  go_wp2_with fail
  rw [← hw2, ← hV]
  clear hw2 hV
  refine O2.out.mono ?_
  rintro e w3 ⟨hg3, rfl⟩
  have G3 := hide (grown_trans GV.out hg3)
  clear hg3 O2
  have B4 := box_kept BB.out (grown_trans G3.out (grown_new w3 (.cells #[.string ⟨#[]⟩, .int .i64 0, .slice none 0 0] 31)))
  have c0 := (cell_of_row _ _ 0 _ _ (0, 0) B4).trans rfl
  have c1 := (cell_of_row _ _ 1 _ _ (0, 0) B4).trans rfl
  have c2 := (cell_of_row _ _ 2 _ _ (0, 0) B4).trans rfl
  have SA := hide (same_any _ _ [5, 2, 4] [5, 2, 4] ((w3.alloc (.cells #[.string ⟨#[]⟩, .int .i64 0, .slice none 0 0] 31)).alloc (.cells #[.int .i64 5, .int .i64 2, .int .i64 4] 3)) (HO.out.more (grown_trans (grown_trans (grown_trans G2.out G3.out) (grown_new _ _)) (grown_new _ _))) (lit_ints (w3.alloc (.cells #[.string ⟨#[]⟩, .int .i64 0, .slice none 0 0] 31)) [5, 2, 4] (by simp) (by simp)))
  obtain ⟨w5, hw5⟩ : ∃ w5, w5 = (w3.alloc (.cells #[.string ⟨#[]⟩, .int .i64 0, .slice none 0 0] 31)).alloc (.cells #[.int .i64 5, .int .i64 2, .int .i64 4] 3) := ⟨_, rfl⟩
  have G5 : Hid (w.grownBy w5 none) := by show w.grownBy w5 none; rw [hw5]; exact grown_trans (grown_trans (grown_trans (grown_trans G1.out G2.out) G3.out) (grown_new _ _)) (grown_new _ _)
  have Z5 : Hid ((w3.alloc (.cells #[.string ⟨#[]⟩, .int .i64 0, .slice none 0 0] 31)).heap.size = w3.heap.size + 1) := by show _ = _; simp
  rw [← hw5, Z5.out] at SA
  clear B4 BB Z5
  go_wp2_with fail
  rw [← hw5]
  clear hw5
  refine SA.out.mono ?_
  rintro e w6 ⟨rfl, hg6⟩
  rw [show decide True = true from rfl]
  go_wp2
  go_ret
  exact ⟨rfl, grown_trans G5.out hg6⟩
end Go.Proofs.YtdcbjikjeicgbaaGreatDoor
