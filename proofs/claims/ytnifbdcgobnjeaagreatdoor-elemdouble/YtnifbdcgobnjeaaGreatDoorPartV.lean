/- Joined texts: ELive, ELiveW, LENotW. -/
import Derived.Test.YtnifbdcgobnjeaaGreatDoorPartU
import Derived.Test.YtnifbdcgobnjeaaGreatDoorPartO
import Derived.Test.YtnifbdcgobnjeaaGreatDoorPartS
/- mandrellaw09.live, by the walk. -/
namespace Go.Proofs.YtnifbdcgobnjeaaGreatDoor
open Go.RowKit

theorem w64_le (n : Int) : -9223372036854775808 ≤ wrap64 n ∧ wrap64 n ≤ 9223372036854775807 := by
  unfold wrap64
  omega

theorem add6 (a b : Int) : -9223372036854775808 ≤ (Nu.bin 0 6 a b).1 ∧ (Nu.bin 0 6 a b).1 ≤ 9223372036854775807 := by
  unfold Nu.bin
  split
  · exact w64_le _
  · simp

theorem div6 (a b : Int) : -9223372036854775808 ≤ (Nu.bin 3 6 a b).1 ∧ (Nu.bin 3 6 a b).1 ≤ 9223372036854775807 := by
  unfold Nu.bin
  split
  · show _ ∧ _
    by_cases hb : b = 0
    · simp [Nu.binIn, hb]
    · simp only [Nu.binIn, hb, if_false]
      exact w64_le _
  · simp

theorem wAdd : Work2 ⟨#[65, 100, 100]⟩ 0 := fun n hop p1 p2 B ub uo un uc ty x y w hn hi hun ht hx hy => work2_Add n hop p1 p2 B ub uo un uc ty x y w hn hi hun ht hx hy
theorem wDiv : Work2 ⟨#[68, 105, 118]⟩ 3 := fun n hop p1 p2 B ub uo un uc ty x y w hn hi hun ht hx hy => work2_Div n hop p1 p2 B ub uo un uc ty x y w hn hi hun ht hx hy
theorem wAnd : Work2 ⟨#[65, 110, 100]⟩ 6 := fun n hop p1 p2 B ub uo un uc ty x y w hn hi hun ht hx hy => work2_And n hop p1 p2 B ub uo un uc ty x y w hn hi hun ht hx hy
theorem wOr : Work2 ⟨#[79, 114]⟩ 7 := fun n hop p1 p2 B ub uo un uc ty x y w hn hi hun ht hx hy => work2_Or n hop p1 p2 B ub uo un uc ty x y w hn hi hun ht hx hy
theorem wNot : Work1 ⟨#[78, 111, 116]⟩ 3 := fun n hop p1 p2 B ub uo un uc ty x w hn hi hun ht hx => work1_Not n hop p1 p2 B ub uo un uc ty x w hn hi hun ht hx

theorem live_add : el2 ⟨#[65, 100, 100]⟩ 0 6 6 [1, 3] [2, 1] [1, 2, 3] [10, 0] = .ok (6, [2, 3], [11, 12, 13, 1, 2, 3]) := by kernel_rfl
theorem live_div : el2 ⟨#[68, 105, 118]⟩ 3 6 6 [1, 3] [2, 1] [1, 2, 3] [10, 0] = .error 7 := by kernel_rfl

/-- A list of numbers that lies in a block. -/
theorem blk_ints {w : World} {B te : Nat} {zs : List Int} (h : w.heap[B]? = some (.cells (zs.map (Value.int .i64)).toArray te (0, 0))) (hl : zs.length ≤ 1000) (hz : ∀ z ∈ zs, -1000 ≤ z ∧ z ≤ 1000) : IsInts w (.slice (some ⟨B, 0, none⟩) zs.length zs.length) zs := by
  refine ⟨_, _, rfl, Nat.le_refl _, by omega, by omega, (fun h => by cases h), fun _ => ⟨B, 0, rfl, fun t ht => ?_⟩, fun z h => by have := hz z h; omega⟩
  rw [Nat.zero_add, cell_of_row _ _ t _ _ (0, 0) h]
  simp [List.getD, ht]

theorem blk_tens {w : World} {B : Nat} {cur : Array Value} {ps : List (Ten × Tq)} (h : w.heap[B]? = some (.cells cur 25 (0, 0))) (hc : cur.toList = (ps.map (·.1)).flatMap tcells) (hs : cur.size = ps.length * 3) (hl : ps.length ≤ 1000) (hh : ∀ p ∈ ps, IsInts w p.1.dv.v p.2.1 ∧ IsInts w p.1.tv.v p.2.2) : TensIn w (.slice (some ⟨B, 0, none⟩) ps.length ps.length) ps := by
  refine ⟨?_, hh⟩
  have e : ps.length = (ps.map (·.1)).length := by rw [List.length_map]
  rw [e]
  exact lit_isLG (te := 25) (bytes := 56) tcells_len h hc (by rw [hs, e]) (by rw [← e]; omega) (by rw [← e]; omega)
end Go.Proofs.YtnifbdcgobnjeaaGreatDoor

/- mandrellaw09.live, by the walk. -/
namespace Go.Proofs.YtnifbdcgobnjeaaGreatDoor
open Go.RowKit

theorem up_alloc {x : World} {i : Nat} {o : Obj} (p : Obj) (h : x.heap[i]? = some o) : (x.alloc p).heap[i]? = some o := ((grown_new x p).block i (Array.getElem?_eq_some_iff.1 h).1 (by simp)).trans h

theorem new_alloc {x : World} {i : Nat} (p : Obj) (h : x.heap.size = i) : (x.alloc p).heap[i]? = some p ∧ (x.alloc p).heap.size = i + 1 := by
  subst h
  exact ⟨heap_alloc_new x p, by simp⟩

theorem kept_set {x : World} {i B : Nat} {o : Obj} {v : Value} (h : x.heap[i]? = some o) (hne : i ≠ B) : (x.setCell ⟨B, 0, none⟩ v).heap[i]? = some o := by
  rw [← h]
  exact Below.heap_setCell _ _ _ _ (fun e => hne (by rw [e]))

theorem grown_set (x : World) (B : Nat) (v : Value) : x.grownBy (x.setCell ⟨B, 0, none⟩ v) (some B) :=
  ⟨rfl, rfl, rfl, by simp [World.setCell], fun k _ hk => Below.heap_setCell _ _ _ _ (fun e => hk (by rw [e]))⟩

theorem eight (w : World) (o0 o1 o2 o3 o4 o5 o6 o7 : Obj) : ∀ W, W = (((((((w.alloc o0).alloc o1).alloc o2).alloc o3).alloc o4).alloc o5).alloc o6).alloc o7 →
    W.heap[w.heap.size]? = some o0 ∧ W.heap[w.heap.size + 1]? = some o1 ∧ W.heap[w.heap.size + 1 + 1]? = some o2 ∧ W.heap[w.heap.size + 1 + 1 + 1]? = some o3 ∧ W.heap[w.heap.size + 1 + 1 + 1 + 1]? = some o4 ∧ W.heap[w.heap.size + 1 + 1 + 1 + 1 + 1]? = some o5 ∧ W.heap[w.heap.size + 1 + 1 + 1 + 1 + 1 + 1]? = some o6 ∧ W.heap[w.heap.size + 1 + 1 + 1 + 1 + 1 + 1 + 1]? = some o7 ∧ W.heap.size = w.heap.size + 1 + 1 + 1 + 1 + 1 + 1 + 1 + 1 ∧ w.grownBy W none := by
  rintro W rfl
  obtain ⟨a0, z0⟩ := new_alloc o0 (x := w) rfl
  obtain ⟨a1, z1⟩ := new_alloc o1 z0
  obtain ⟨a2, z2⟩ := new_alloc o2 z1
  obtain ⟨a3, z3⟩ := new_alloc o3 z2
  obtain ⟨a4, z4⟩ := new_alloc o4 z3
  obtain ⟨a5, z5⟩ := new_alloc o5 z4
  obtain ⟨a6, z6⟩ := new_alloc o6 z5
  obtain ⟨a7, z7⟩ := new_alloc o7 z6
  refine ⟨?_, ?_, ?_, ?_, ?_, ?_, ?_, a7, z7, ?_⟩
  · exact up_alloc _ (up_alloc _ (up_alloc _ (up_alloc _ (up_alloc _ (up_alloc _ (up_alloc _ a0))))))
  · exact up_alloc _ (up_alloc _ (up_alloc _ (up_alloc _ (up_alloc _ (up_alloc _ a1)))))
  · exact up_alloc _ (up_alloc _ (up_alloc _ (up_alloc _ (up_alloc _ a2))))
  · exact up_alloc _ (up_alloc _ (up_alloc _ (up_alloc _ a3)))
  · exact up_alloc _ (up_alloc _ (up_alloc _ a4))
  · exact up_alloc _ (up_alloc _ a5)
  · exact up_alloc _ a6
  · exact grown_trans (grown_trans (grown_trans (grown_trans (grown_trans (grown_trans (grown_trans (grown_new _ _) (grown_new _ _)) (grown_new _ _)) (grown_new _ _)) (grown_new _ _)) (grown_new _ _)) (grown_new _ _)) (grown_new _ _)

/-- The two tensors of live, from where their parts lie. -/
theorem live_tens {w : World} {b B : Nat} (h0 : w.heap[b]? = some (.cells #[.int .i64 1, .int .i64 3] 3 (0, 0))) (h1 : w.heap[b + 1]? = some (.cells #[.int .i64 1, .int .i64 2, .int .i64 3] 2 (0, 0))) (h3 : w.heap[b + 1 + 1 + 1]? = some (.cells #[.int .i64 2, .int .i64 1] 3 (0, 0))) (h4 : w.heap[b + 1 + 1 + 1 + 1]? = some (.cells #[.int .i64 10, .int .i64 0] 2 (0, 0)))
    (hB : w.heap[B]? = some (.cells #[.int .i64 6, .slice (some ⟨b, 0, none⟩) 2 2, .slice (some ⟨b + 1, 0, none⟩) 3 3, .int .i64 6, .slice (some ⟨b + 1 + 1 + 1, 0, none⟩) 2 2, .slice (some ⟨b + 1 + 1 + 1 + 1, 0, none⟩) 2 2] 25 (0, 0))) :
    TensIn w (.slice (some ⟨B, 0, none⟩) 2 2) [(⟨6, ⟨some ⟨b, 0, none⟩, 2, 2⟩, ⟨some ⟨b + 1, 0, none⟩, 3, 3⟩⟩, ([1, 3], [1, 2, 3])), (⟨6, ⟨some ⟨b + 1 + 1 + 1, 0, none⟩, 2, 2⟩, ⟨some ⟨b + 1 + 1 + 1 + 1, 0, none⟩, 2, 2⟩⟩, ([2, 1], [10, 0]))] := by
  refine blk_tens (ps := [(⟨6, ⟨some ⟨b, 0, none⟩, 2, 2⟩, ⟨some ⟨b + 1, 0, none⟩, 3, 3⟩⟩, ([1, 3], [1, 2, 3])), (⟨6, ⟨some ⟨b + 1 + 1 + 1, 0, none⟩, 2, 2⟩, ⟨some ⟨b + 1 + 1 + 1 + 1, 0, none⟩, 2, 2⟩⟩, ([2, 1], [10, 0]))]) hB rfl rfl (by simp) fun p hp => ?_
  simp only [List.mem_cons, List.not_mem_nil, or_false] at hp
  rcases hp with rfl | rfl
  · exact ⟨blk_ints (zs := [1, 3]) h0 (by simp) (by simp), blk_ints (zs := [1, 2, 3]) h1 (by simp) (by simp)⟩
  · exact ⟨blk_ints (zs := [2, 1]) h3 (by simp) (by simp), blk_ints (zs := [10, 0]) h4 (by simp) (by simp)⟩

set_option maxRecDepth 100000 in
set_option maxHeartbeats 8000000 in
theorem live9_any (w : World) (hl : Laid w) : Calls Tryz.prog 6 #[] w fun e w' => e = .returned (.bool true) ∧ w.grownBy w' none := by
  have HL := hide hl
  clear hl
  obtain ⟨W, hW⟩ : ∃ W, W = (((((((w.alloc (.cells #[.int .i64 1, .int .i64 3] 3)).alloc (.cells #[.int .i64 1, .int .i64 2, .int .i64 3] 2)).alloc (.cells #[.int .i64 6, .slice (some ⟨w.heap.size, 0, none⟩) 2 2, .slice (some ⟨w.heap.size + 1, 0, none⟩) 3 3] 25)).alloc (.cells #[.int .i64 2, .int .i64 1] 3)).alloc (.cells #[.int .i64 10, .int .i64 0] 2)).alloc (.cells #[.int .i64 6, .slice (some ⟨w.heap.size + 1 + 1 + 1, 0, none⟩) 2 2, .slice (some ⟨w.heap.size + 1 + 1 + 1 + 1, 0, none⟩) 2 2] 25)).alloc (.cells #[.string ⟨#[97]⟩, .string ⟨#[98]⟩] 9)).alloc (.cells #[.string ⟨#[65, 100, 100]⟩, .string ⟨#[]⟩, .slice (some ⟨w.heap.size + 1 + 1 + 1 + 1 + 1 + 1, 0, none⟩) 2 2, .string ⟨#[99]⟩, .slice none 0 0] 35) := ⟨_, rfl⟩
  obtain ⟨b0, b1, b2, b3, b4, b5, b6, b7, zW, gW⟩ := eight w _ _ _ _ _ _ _ _ W hW
  obtain ⟨V, hV⟩ : ∃ V, V = W.alloc (.cells #[.int .i64 6, .slice (some ⟨w.heap.size, 0, none⟩) 2 2, .slice (some ⟨w.heap.size + 1, 0, none⟩) 3 3, .int .i64 6, .slice (some ⟨w.heap.size + 1 + 1 + 1, 0, none⟩) 2 2, .slice (some ⟨w.heap.size + 1 + 1 + 1 + 1, 0, none⟩) 2 2] 25) := ⟨_, rfl⟩
  obtain ⟨b8, zV⟩ := new_alloc (.cells #[.int .i64 6, .slice (some ⟨w.heap.size, 0, none⟩) 2 2, .slice (some ⟨w.heap.size + 1, 0, none⟩) 3 3, .int .i64 6, .slice (some ⟨w.heap.size + 1 + 1 + 1, 0, none⟩) 2 2, .slice (some ⟨w.heap.size + 1 + 1 + 1 + 1, 0, none⟩) 2 2] 25) zW
  rw [← hV] at b8 zV
  have gV : W.grownBy V none := by rw [hV]; exact grown_new _ _
  have c0 := box_kept b0 gV
  have c1 := box_kept b1 gV
  have c2 := box_kept b2 gV
  have c3 := box_kept b3 gV
  have c4 := box_kept b4 gV
  have c5 := box_kept b5 gV
  have c6 := box_kept b6 gV
  have c7 := box_kept b7 gV
  have GV := hide (grown_trans gW gV)
  have E1 := hide (elem2 ⟨#[65, 100, 100]⟩ ⟨#[99]⟩ ⟨some ⟨w.heap.size + 1 + 1 + 1 + 1 + 1 + 1, 0, none⟩, 2, 2⟩ ⟨#[97]⟩ ⟨#[98]⟩ 0 (by simp) wAdd (by kernel_rfl) (by decide) ⟨some ⟨w.heap.size + 1 + 1 + 1 + 1 + 1 + 1 + 1 + 1, 0, none⟩, 2, 2⟩ _ _ _ _ _ _ V (HL.out.more GV.out) (lit_isLG (te := 9) (bytes := 16) (xs := [⟨#[97]⟩, ⟨#[98]⟩]) scell_len c6 rfl rfl (Nat.le_of_ble_eq_true rfl) (Nat.le_of_ble_eq_true rfl)) (live_tens c0 c1 c3 c4 b8) add6)
  rw [show el2 ⟨#[65, 100, 100]⟩ 0 (Ten.ty ⟨6, ⟨some ⟨w.heap.size, 0, none⟩, 2, 2⟩, ⟨some ⟨w.heap.size + 1, 0, none⟩, 3, 3⟩⟩) (Ten.ty ⟨6, ⟨some ⟨w.heap.size + 1 + 1 + 1, 0, none⟩, 2, 2⟩, ⟨some ⟨w.heap.size + 1 + 1 + 1 + 1, 0, none⟩, 2, 2⟩⟩) [1, 3] [2, 1] [1, 2, 3] [10, 0] = .ok (6, [2, 3], [11, 12, 13, 1, 2, 3]) from live_add] at E1
  unfold nval nilS at E1
  simp only at E1
  have BC : Hid (∀ wx, V.grownBy wx none → wx.heap[w.heap.size]? = some (.cells #[.int .i64 1, .int .i64 3] 3 (0, 0)) ∧ wx.heap[w.heap.size + 1]? = some (.cells #[.int .i64 1, .int .i64 2, .int .i64 3] 2 (0, 0)) ∧ wx.heap[w.heap.size + 1 + 1]? = some (.cells #[.int .i64 6, .slice (some ⟨w.heap.size, 0, none⟩) 2 2, .slice (some ⟨w.heap.size + 1, 0, none⟩) 3 3] 25 (0, 0)) ∧ wx.heap[w.heap.size + 1 + 1 + 1]? = some (.cells #[.int .i64 2, .int .i64 1] 3 (0, 0)) ∧ wx.heap[w.heap.size + 1 + 1 + 1 + 1]? = some (.cells #[.int .i64 10, .int .i64 0] 2 (0, 0)) ∧ wx.heap[w.heap.size + 1 + 1 + 1 + 1 + 1]? = some (.cells #[.int .i64 6, .slice (some ⟨w.heap.size + 1 + 1 + 1, 0, none⟩) 2 2, .slice (some ⟨w.heap.size + 1 + 1 + 1 + 1, 0, none⟩) 2 2] 25 (0, 0)) ∧ wx.heap[w.heap.size + 1 + 1 + 1 + 1 + 1 + 1]? = some (.cells #[.string ⟨#[97]⟩, .string ⟨#[98]⟩] 9 (0, 0)) ∧ wx.heap[w.heap.size + 1 + 1 + 1 + 1 + 1 + 1 + 1]? = some (.cells #[.string ⟨#[65, 100, 100]⟩, .string ⟨#[]⟩, .slice (some ⟨w.heap.size + 1 + 1 + 1 + 1 + 1 + 1, 0, none⟩) 2 2, .string ⟨#[99]⟩, .slice none 0 0] 35 (0, 0))) := fun wx hx => ⟨box_kept c0 hx, box_kept c1 hx, box_kept c2 hx, box_kept c3 hx, box_kept c4 hx, box_kept c5 hx, box_kept c6 hx, box_kept c7 hx⟩
  have ZV := hide zV
  clear b0 b1 b2 b3 b4 b5 b6 b7 b8 c0 c1 c2 c3 c4 c5 c6 c7 zW zV gW gV
  go_enter Tryz.func6, Tryz.ntmps6
  go_wp2_with fail
  rw [← hW, ← hV]
  clear hW hV
  refine E1.out.mono ?_
  rintro e w1 ⟨hg1, ⟨ty, ⟨da, dn, dc⟩, ⟨ta, tn, tc⟩⟩, ht, rfl, od, ot⟩
  simp only at ht
  subst ht
  unfold tval
  simp only
  obtain ⟨wA, hwA⟩ : ∃ wA, wA = w1.alloc (.cells #[.int .i64 6, .slice da dn dc, .slice ta tn tc] 25) := ⟨_, rfl⟩
  have gA : w1.grownBy wA none := by rw [hwA]; exact grown_new _ _
  obtain ⟨bA, zA⟩ := new_alloc (.cells #[.int .i64 6, .slice da dn dc, .slice ta tn tc] 25) (x := w1) rfl
  rw [← hwA] at bA zA
  obtain ⟨c0, c1, c2, c3, c4, c5, c6, c7⟩ := BC.out wA (grown_trans hg1 gA)
  have s1 := hg1.size
  have s2 := ZV.out
  obtain ⟨N, hN⟩ : ∃ N, N = w.heap.size + 1 + 1 + 1 + 1 + 1 + 1 + 1 := ⟨_, rfl⟩
  obtain ⟨wB, hwB⟩ : ∃ wB, wB = wA.setCell ⟨w.heap.size + 1 + 1 + 1 + 1 + 1 + 1 + 1, 0, none⟩ (.string ⟨#[68, 105, 118]⟩) := ⟨_, rfl⟩
  have k7 : wA.cell? ⟨w.heap.size + 1 + 1 + 1 + 1 + 1 + 1 + 1, 0, none⟩ = some (.string ⟨#[65, 100, 100]⟩) := (cell_of_row _ _ 0 _ _ (0, 0) c7).trans rfl
  have f7 := frozen_of_row wA (w.heap.size + 1 + 1 + 1 + 1 + 1 + 1 + 1) 0 _ _ c7
  have nB : wB.heap[w.heap.size + 1 + 1 + 1 + 1 + 1 + 1 + 1]? = some (.cells #[.string ⟨#[68, 105, 118]⟩, .string ⟨#[]⟩, .slice (some ⟨w.heap.size + 1 + 1 + 1 + 1 + 1 + 1, 0, none⟩) 2 2, .string ⟨#[99]⟩, .slice none 0 0] 35 (0, 0)) := by
    rw [hwB]
    simpa using heap_setCell_same wA (w.heap.size + 1 + 1 + 1 + 1 + 1 + 1 + 1) 0 _ _ (.string ⟨#[68, 105, 118]⟩) c7
  have d0 := kept_set (B := w.heap.size + 1 + 1 + 1 + 1 + 1 + 1 + 1) (v := .string ⟨#[68, 105, 118]⟩) c0 (by omega)
  have d1 := kept_set (B := w.heap.size + 1 + 1 + 1 + 1 + 1 + 1 + 1) (v := .string ⟨#[68, 105, 118]⟩) c1 (by omega)
  have d2 := kept_set (B := w.heap.size + 1 + 1 + 1 + 1 + 1 + 1 + 1) (v := .string ⟨#[68, 105, 118]⟩) c2 (by omega)
  have d3 := kept_set (B := w.heap.size + 1 + 1 + 1 + 1 + 1 + 1 + 1) (v := .string ⟨#[68, 105, 118]⟩) c3 (by omega)
  have d4 := kept_set (B := w.heap.size + 1 + 1 + 1 + 1 + 1 + 1 + 1) (v := .string ⟨#[68, 105, 118]⟩) c4 (by omega)
  have d5 := kept_set (B := w.heap.size + 1 + 1 + 1 + 1 + 1 + 1 + 1) (v := .string ⟨#[68, 105, 118]⟩) c5 (by omega)
  have d6 := kept_set (B := w.heap.size + 1 + 1 + 1 + 1 + 1 + 1 + 1) (v := .string ⟨#[68, 105, 118]⟩) c6 (by omega)
  have dA := kept_set (B := w.heap.size + 1 + 1 + 1 + 1 + 1 + 1 + 1) (v := .string ⟨#[68, 105, 118]⟩) bA (by omega)
  rw [← hwB] at d0 d1 d2 d3 d4 d5 d6 dA
  have zB : wB.heap.size = w1.heap.size + 1 := by rw [hwB, ← zA]; simp [World.setCell]
  have gB : wA.grownBy wB (some (w.heap.size + 1 + 1 + 1 + 1 + 1 + 1 + 1)) := by rw [hwB]; exact grown_set _ _ _
  have GB := hide (grown_drop (grown_trans GV.out (grown_trans hg1 gA)) gB (by omega))
  have OD := hide ((od.more gA (by cases (Sl.v ⟨da, dn, dc⟩).ownBlock <;> simp)).more gB (row_lt od.1 (by omega)))
  have OT := hide ((ot.more gA (by cases (Sl.v ⟨ta, tn, tc⟩).ownBlock <;> simp)).more gB (row_lt ot.1 (by omega)))
  obtain ⟨wC, hwC⟩ : ∃ wC, wC = wB.alloc (.cells #[.int .i64 6, .slice (some ⟨w.heap.size, 0, none⟩) 2 2, .slice (some ⟨w.heap.size + 1, 0, none⟩) 3 3, .int .i64 6, .slice (some ⟨w.heap.size + 1 + 1 + 1, 0, none⟩) 2 2, .slice (some ⟨w.heap.size + 1 + 1 + 1 + 1, 0, none⟩) 2 2] 25) := ⟨_, rfl⟩
  obtain ⟨b8, -⟩ := new_alloc (.cells #[.int .i64 6, .slice (some ⟨w.heap.size, 0, none⟩) 2 2, .slice (some ⟨w.heap.size + 1, 0, none⟩) 3 3, .int .i64 6, .slice (some ⟨w.heap.size + 1 + 1 + 1, 0, none⟩) 2 2, .slice (some ⟨w.heap.size + 1 + 1 + 1 + 1, 0, none⟩) 2 2] 25) zB
  rw [← hwC] at b8
  have gC : wB.grownBy wC none := by rw [hwC]; exact grown_new _ _
  have E2 := hide (elem2 ⟨#[68, 105, 118]⟩ ⟨#[99]⟩ ⟨some ⟨w.heap.size + 1 + 1 + 1 + 1 + 1 + 1, 0, none⟩, 2, 2⟩ ⟨#[97]⟩ ⟨#[98]⟩ 3 (by simp) wDiv (by kernel_rfl) (by decide) ⟨some ⟨w1.heap.size + 1, 0, none⟩, 2, 2⟩ _ _ _ _ _ _ wC (HL.out.more (grown_trans GB.out gC)) (lit_isLG (te := 9) (bytes := 16) (xs := [⟨#[97]⟩, ⟨#[98]⟩]) scell_len (box_kept d6 gC) rfl rfl (Nat.le_of_ble_eq_true rfl) (Nat.le_of_ble_eq_true rfl)) (live_tens (box_kept d0 gC) (box_kept d1 gC) (box_kept d3 gC) (box_kept d4 gC) b8) div6)
  rw [show el2 ⟨#[68, 105, 118]⟩ 3 (Ten.ty ⟨6, ⟨some ⟨w.heap.size, 0, none⟩, 2, 2⟩, ⟨some ⟨w.heap.size + 1, 0, none⟩, 3, 3⟩⟩) (Ten.ty ⟨6, ⟨some ⟨w.heap.size + 1 + 1 + 1, 0, none⟩, 2, 2⟩, ⟨some ⟨w.heap.size + 1 + 1 + 1 + 1, 0, none⟩, 2, 2⟩⟩) [1, 3] [2, 1] [1, 2, 3] [10, 0] = .error 7 from live_div] at E2
  unfold nval nilS at E2
  simp only at E2
  obtain ⟨n0, n1, n2, n3, n4⟩ := nod_cells (n := ⟨⟨#[68, 105, 118]⟩, ⟨#[]⟩, ⟨some ⟨w.heap.size + 1 + 1 + 1 + 1 + 1 + 1, 0, none⟩, 2, 2⟩, ⟨#[99]⟩, ⟨none, 0, 0⟩⟩) nB
  obtain ⟨x0, x1, x2⟩ := ten_cells d2
  obtain ⟨y0, y1, y2⟩ := ten_cells d5
  simp only at n0 n1 n2 n3 n4
  rw [hwB, hwA] at n0 n1 n2 n3 n4 x0 x1 x2 y0 y1 y2
  rw [hwA] at k7 f7
  have DA := hide dA
  have GC := hide gC
  clear c0 c1 c2 c3 c4 c5 c6 c7 d0 d1 d2 d3 d4 d5 d6 dA nB b8 gC gB gA bA zA s1 s2 od ot hg1 E1 hN
  go_wp2_with fail
  rw [← hwA, ← hwB, ← hwC]
  clear hwA hwB hwC n0 n1 n2 n3 n4 x0 x1 x2 y0 y1 y2 k7 f7
  refine E2.out.mono ?_
  rintro e w2 ⟨hg2, rfl⟩
  have G2 := hide (grown_trans (grown_trans GB.out GC.out) hg2)
  obtain ⟨wD, hwD⟩ : ∃ wD, wD = w2.alloc (.cells #[.int .i64 0, .slice none 0 0, .slice none 0 0] 25) := ⟨_, rfl⟩
  obtain ⟨wE, hwE⟩ : ∃ wE, wE = wD.alloc (.cells #[.int .i64 2, .int .i64 3] 3) := ⟨_, rfl⟩
  obtain ⟨wF, hwF⟩ : ∃ wF, wF = wE.alloc (.cells #[.int .i64 11, .int .i64 12, .int .i64 13, .int .i64 1, .int .i64 2, .int .i64 3] 2) := ⟨_, rfl⟩
  have gD : w2.grownBy wD none := by rw [hwD]; exact grown_new _ _
  have gE : wD.grownBy wE none := by rw [hwE]; exact grown_new _ _
  have gF : wE.grownBy wF none := by rw [hwF]; exact grown_new _ _
  obtain ⟨-, zD⟩ := new_alloc (.cells #[.int .i64 0, .slice none 0 0, .slice none 0 0] 25) (x := w2) rfl
  rw [← hwD] at zD
  obtain ⟨bE, zE⟩ := new_alloc (.cells #[.int .i64 2, .int .i64 3] 3) zD
  rw [← hwE] at bE zE
  obtain ⟨bF, -⟩ := new_alloc (.cells #[.int .i64 11, .int .i64 12, .int .i64 13, .int .i64 1, .int .i64 2, .int .i64 3] 2) zE
  rw [← hwF] at bF
  have gB2 := grown_trans (grown_trans (grown_trans (grown_trans GC.out hg2) gD) gE) gF
  have SA := hide (sameten_eq 6 _ _ _ _ [2, 3] [11, 12, 13, 1, 2, 3] wF (OD.out.ints.more gB2) (OT.out.ints.more gB2) (blk_ints (zs := [2, 3]) (box_kept bE gF) (by simp) (by simp)) (blk_ints (zs := [11, 12, 13, 1, 2, 3]) bF (by simp) (by simp)))
  simp only [Sl.v, List.length_cons, List.length_nil, Nat.zero_add, Nat.reduceAdd] at SA
  obtain ⟨y0, y1, y2⟩ := ten_cells (box_kept DA.out (grown_trans (grown_trans GC.out hg2) gD))
  rw [hwD] at y0 y1 y2
  have GF := hide (grown_trans (grown_trans (grown_trans G2.out gD) gE) gF)
  clear gB2 gD gE gF zD zE bE bF hg2 E2
  go_wp2_with fail
  rw [← hwD, ← hwE, ← hwF]
  clear hwD hwE hwF y0 y1 y2
  refine SA.out.mono ?_
  rintro e w6 ⟨rfl, hg6⟩
  go_wp2
  go_ret
  exact ⟨rfl, grown_trans GF.out hg6⟩
end Go.Proofs.YtnifbdcgobnjeaaGreatDoor

/- Law ElemNot, by the walk. -/
namespace Go.Proofs.YtnifbdcgobnjeaaGreatDoor
open Go.RowKit

theorem nz_do {r : R (Int × List Int)} {M : List Int → R (List Int)} (h : Nz r) (k : ∀ l, Nz (M l)) : Nz (doR r M) := by
  unfold doR
  split
  · rename_i ty l
    intro c hc
    cases hm : M l with
    | error d => rw [hm] at hc; cases hc; exact k l _ hm
    | ok a => rw [hm] at hc; cases hc
  · rename_i d
    intro c hc
    cases hc
    exact h d rfl

theorem nz_el2 (op : ByteArray) (k : Nat) (t0 t1 : Int) (x y xs ys : List Int) : Nz (el2 op k t0 t1 x y xs ys) := nz_do (nz_node (nz_out2 _ _ _ _ _)) (fun _ => nz_made _ _ _ _)

theorem and_rng (t a b : Int) : -9223372036854775808 ≤ (Nu.bin 6 t a b).1 ∧ (Nu.bin 6 t a b).1 ≤ 9223372036854775807 := by
  unfold Nu.bin
  split
  · rename_i h
    split
    · simp [Nu.binFl]
    · split
      · rename_i h9
        subst h9
        rw [Bool.and_eq_true_iff, nchk9, nchk9] at h
        obtain ⟨p, q⟩ := h
        unfold bit at p q
        simp only [Nu.binBo]
        rcases p with p | p <;> rcases q with q | q <;> rw [p, q] <;> decide
      · simp [Nu.binIn]
  · simp

theorem or_rng (t a b : Int) : -9223372036854775808 ≤ (Nu.bin 7 t a b).1 ∧ (Nu.bin 7 t a b).1 ≤ 9223372036854775807 := by
  unfold Nu.bin
  split
  · rename_i h
    split
    · simp [Nu.binFl]
    · split
      · rename_i h9
        subst h9
        rw [Bool.and_eq_true_iff, nchk9, nchk9] at h
        obtain ⟨p, q⟩ := h
        unfold bit at p q
        simp only [Nu.binBo]
        rcases p with p | p <;> rcases q with q | q <;> rw [p, q] <;> decide
      · simp [Nu.binIn]
  · simp

theorem not_rng (t a : Int) : -9223372036854775808 ≤ (Nu.un 3 t a).1 ∧ (Nu.un 3 t a).1 ≤ 9223372036854775807 := by
  unfold Nu.un
  split
  · rename_i h
    rw [if_neg (by decide)]
    split
    · simp [Nu.unFl]
    · split
      · rename_i h9
        subst h9
        rw [nchk9] at h
        unfold bit at h
        simp only [Nu.unBo]
        omega
      · simp [Nu.unIn]
  · simp

theorem two_call {V : World} {S B k : Nat} (op : ByteArray) (hop : op ∈ ([⟨#[65, 100, 100]⟩, ⟨#[68, 105, 118]⟩, ⟨#[65, 110, 100]⟩, ⟨#[79, 114]⟩, ⟨#[77, 117, 108]⟩] : List ByteArray)) (WK : Work2 op k) (hck : checkF (ruleF op) op [⟨#[120]⟩, ⟨#[121]⟩] ⟨#[122]⟩ [] [] = 0) (hl : Laid V) (hs : V.heap[S]? = some (.cells #[.string ⟨#[120]⟩, .string ⟨#[121]⟩] 9 (0, 0))) (T0 T1 : Ten) (x y xs ys : List Int)
    (hB : V.heap[B]? = some (.cells #[.int .i64 T0.ty, .slice T0.dv.a T0.dv.n T0.dv.c, .slice T0.tv.a T0.tv.n T0.tv.c, .int .i64 T1.ty, .slice T1.dv.a T1.dv.n T1.dv.c, .slice T1.tv.a T1.tv.n T1.tv.c] 25 (0, 0))) (h0 : IsInts V T0.dv.v x) (h1 : IsInts V T0.tv.v xs) (h2 : IsInts V T1.dv.v y) (h3 : IsInts V T1.tv.v ys) (hF : ∀ a b, -9223372036854775808 ≤ (Nu.bin k T0.ty a b).1 ∧ (Nu.bin k T0.ty a b).1 ≤ 9223372036854775807) :
    Calls Tryz.prog 7 #[.agg #[.string op, .string ⟨#[]⟩, .slice (some ⟨S, 0, none⟩) 2 2, .string ⟨#[122]⟩, .slice none 0 0], .slice (some ⟨B, 0, none⟩) 2 2] V (DoQ V (el2 op k T0.ty T1.ty x y xs ys)) :=
  elem2 op ⟨#[122]⟩ ⟨some ⟨S, 0, none⟩, 2, 2⟩ ⟨#[120]⟩ ⟨#[121]⟩ k hop WK hck (by decide) ⟨some ⟨B, 0, none⟩, 2, 2⟩ T0 T1 x y xs ys V hl (lit_isLG (te := 9) (bytes := 16) (xs := [⟨#[120]⟩, ⟨#[121]⟩]) scell_len hs rfl rfl (Nat.le_of_ble_eq_true rfl) (Nat.le_of_ble_eq_true rfl)) (blk_tens (ps := [(T0, (x, xs)), (T1, (y, ys))]) hB rfl rfl (by simp) fun p hp => by
    simp only [List.mem_cons, List.not_mem_nil, or_false] at hp
    rcases hp with rfl | rfl
    · exact ⟨h0, h1⟩
    · exact ⟨h2, h3⟩) hF

theorem not_call {V : World} {S B : Nat} (hl : Laid V) (hs : V.heap[S]? = some (.cells #[.string ⟨#[120]⟩] 9 (0, 0))) (T0 : Ten) (x xs : List Int) (hB : V.heap[B]? = some (.cells #[.int .i64 T0.ty, .slice T0.dv.a T0.dv.n T0.dv.c, .slice T0.tv.a T0.tv.n T0.tv.c] 25 (0, 0))) (h0 : IsInts V T0.dv.v x) (h1 : IsInts V T0.tv.v xs) :
    Calls Tryz.prog 7 #[.agg #[.string ⟨#[78, 111, 116]⟩, .string ⟨#[]⟩, .slice (some ⟨S, 0, none⟩) 1 1, .string ⟨#[122]⟩, .slice none 0 0], .slice (some ⟨B, 0, none⟩) 1 1] V (DoQ V (el1 ⟨#[78, 111, 116]⟩ 3 T0.ty x xs)) :=
  elem1 ⟨#[78, 111, 116]⟩ ⟨#[122]⟩ ⟨some ⟨S, 0, none⟩, 1, 1⟩ ⟨#[120]⟩ 3 (by simp) wNot (by kernel_rfl) (by decide) ⟨some ⟨B, 0, none⟩, 1, 1⟩ T0 x xs V hl (lit_isLG (te := 9) (bytes := 16) (xs := [⟨#[120]⟩]) scell_len hs rfl rfl (Nat.le_of_ble_eq_true rfl) (Nat.le_of_ble_eq_true rfl)) (blk_tens (ps := [(T0, (x, xs))]) hB rfl rfl (by simp) fun p hp => by
    simp only [List.mem_cons, List.not_mem_nil, or_false] at hp
    subst hp
    exact ⟨h0, h1⟩) (not_rng _)

set_option maxRecDepth 100000 in
set_option maxHeartbeats 16000000 in
theorem elemNot_walk (X Y : Ten) {x xs y ys : List Int} (w : World) (hl : Laid w) (hx : IsInts w X.dv.v x) (hxs : IsInts w X.tv.v xs) (hy : IsInts w Y.dv.v y) (hys : IsInts w Y.tv.v ys) : Calls Tryz.prog 4 #[tval X, tval Y] w fun e w' => e = .returned (.bool true) ∧ w.grownBy w' none := by
  have HL := hide hl
  have HX := hide hx
  have HXS := hide hxs
  have HY := hide hy
  have HYS := hide hys
  clear hl hx hxs hy hys
  obtain ⟨tx, ⟨xa, xn, xc⟩, ⟨ua, un, uc⟩⟩ := X
  obtain ⟨ty, ⟨ya, yn, yc⟩, ⟨va, vn, vc⟩⟩ := Y
  unfold tval
  simp only [Sl.v] at HX HXS HY HYS ⊢
  obtain ⟨w0, hw0⟩ : ∃ w0, w0 = (w.alloc (.cells #[.int .i64 tx, .slice xa xn xc, .slice ua un uc] 25)).alloc (.cells #[.int .i64 ty, .slice ya yn yc, .slice va vn vc] 25) := ⟨_, rfl⟩
  obtain ⟨b0, b1⟩ := two_boxes w (.cells #[.int .i64 tx, .slice xa xn xc, .slice ua un uc] 25) (.cells #[.int .i64 ty, .slice ya yn yc, .slice va vn vc] 25)
  rw [← hw0] at b0 b1
  have g0 : w.grownBy w0 none := by rw [hw0]; exact grown_trans (grown_new _ _) (grown_new _ _)
  have z0 : w0.heap.size = w.heap.size + 1 + 1 := by rw [hw0]; simp
  have BX : Hid (∀ wx, w0.grownBy wx none → wx.heap[w.heap.size]? = some (.cells #[.int .i64 tx, .slice xa xn xc, .slice ua un uc] 25 (0, 0)) ∧ wx.heap[w.heap.size + 1]? = some (.cells #[.int .i64 ty, .slice ya yn yc, .slice va vn vc] 25 (0, 0))) := fun wx hx => ⟨box_kept b0 hx, box_kept b1 hx⟩
  obtain ⟨wS, hwS⟩ : ∃ wS, wS = w0.alloc (.cells #[.int .i64 tx, .slice xa xn xc, .slice ua un uc, .int .i64 ty, .slice ya yn yc, .slice va vn vc] 25) := ⟨_, rfl⟩
  obtain ⟨bS, -⟩ := new_alloc (.cells #[.int .i64 tx, .slice xa xn xc, .slice ua un uc, .int .i64 ty, .slice ya yn yc, .slice va vn vc] 25) z0
  rw [← hwS] at bS
  have gS : w0.grownBy wS none := by rw [hwS]; exact grown_new _ _
  have GS := hide (grown_trans g0 gS)
  have GS0 := hide gS
  have SM := hide (small9_any ⟨some ⟨w.heap.size + 1 + 1, 0, none⟩, 2, 2⟩ [(⟨tx, ⟨xa, xn, xc⟩, ⟨ua, un, uc⟩⟩, (x, xs)), (⟨ty, ⟨ya, yn, yc⟩, ⟨va, vn, vc⟩⟩, (y, ys))] wS (blk_tens (ps := [(⟨tx, ⟨xa, xn, xc⟩, ⟨ua, un, uc⟩⟩, (x, xs)), (⟨ty, ⟨ya, yn, yc⟩, ⟨va, vn, vc⟩⟩, (y, ys))]) bS rfl rfl (by simp) fun p hp => by
    simp only [List.mem_cons, List.not_mem_nil, or_false] at hp
    rcases hp with rfl | rfl
    · exact ⟨HX.out.more GS.out, HXS.out.more GS.out⟩
    · exact ⟨HY.out.more GS.out, HYS.out.more GS.out⟩))
  simp only at SM
  have LV : Hid (∀ wx, w.grownBy wx none → Calls Tryz.prog 6 #[] wx fun e w' => e = .returned (.bool true) ∧ wx.grownBy w' none) := fun wx hx => live9_any wx (HL.out.more hx)
  clear b0 b1 bS z0 g0 gS
  go_enter Tryz.func4, Tryz.ntmps4
  go_wp2_with fail
  rw [← hw0, ← hwS]
  clear hw0 hwS
  refine SM.out.mono ?_
  rintro e w1 ⟨b, rfl, hg1⟩
  have G1 := hide (grown_trans GS.out hg1)
  have L1 := hide (LV.out w1 G1.out)
  cases b with
  | false =>
    clear hg1 SM
    go_wp2_with fail
    refine L1.out.mono ?_
    rintro e w2 ⟨rfl, hg2⟩
    go_wp2
    go_ret
    exact ⟨rfl, grown_trans G1.out hg2⟩
  | true =>
    obtain ⟨c0, c1⟩ := BX.out w1 (grown_trans GS0.out hg1)
    obtain ⟨wN, hwN⟩ : ∃ wN, wN = (w1.alloc (.cells #[.string ⟨#[120]⟩] 9)).alloc (.cells #[.string ⟨#[78, 111, 116]⟩, .string ⟨#[]⟩, .slice (some ⟨w1.heap.size, 0, none⟩) 1 1, .string ⟨#[122]⟩, .slice none 0 0] 35) := ⟨_, rfl⟩
    obtain ⟨n0, n1⟩ := two_boxes w1 (.cells #[.string ⟨#[120]⟩] 9) (.cells #[.string ⟨#[78, 111, 116]⟩, .string ⟨#[]⟩, .slice (some ⟨w1.heap.size, 0, none⟩) 1 1, .string ⟨#[122]⟩, .slice none 0 0] 35)
    rw [← hwN] at n0 n1
    have gN : w1.grownBy wN none := by rw [hwN]; exact grown_trans (grown_new _ _) (grown_new _ _)
    have zN : wN.heap.size = w1.heap.size + 1 + 1 := by rw [hwN]; simp
    obtain ⟨wT, hwT⟩ : ∃ wT, wT = wN.alloc (.cells #[.string ⟨#[120]⟩, .string ⟨#[121]⟩] 9) := ⟨_, rfl⟩
    obtain ⟨bT, zT⟩ := new_alloc (.cells #[.string ⟨#[120]⟩, .string ⟨#[121]⟩] 9) zN
    rw [← hwT] at bT zT
    have gT : wN.grownBy wT none := by rw [hwT]; exact grown_new _ _
    obtain ⟨wV, hwV⟩ : ∃ wV, wV = wT.alloc (.cells #[.int .i64 tx, .slice xa xn xc, .slice ua un uc, .int .i64 ty, .slice ya yn yc, .slice va vn vc] 25) := ⟨_, rfl⟩
    obtain ⟨bV, zV⟩ := new_alloc (.cells #[.int .i64 tx, .slice xa xn xc, .slice ua un uc, .int .i64 ty, .slice ya yn yc, .slice va vn vc] 25) zT
    rw [← hwV] at bV zV
    have gV : wT.grownBy wV none := by rw [hwV]; exact grown_new _ _
    have GV := hide (grown_trans G1.out (grown_trans (grown_trans gN gT) gV))
    have KX : Hid (∀ wx, wV.grownBy wx none → (wx.heap[w.heap.size]? = some (.cells #[.int .i64 tx, .slice xa xn xc, .slice ua un uc] 25 (0, 0)) ∧ wx.heap[w.heap.size + 1]? = some (.cells #[.int .i64 ty, .slice ya yn yc, .slice va vn vc] 25 (0, 0))) ∧ wx.heap[w1.heap.size]? = some (.cells #[.string ⟨#[120]⟩] 9 (0, 0)) ∧ wx.heap[w1.heap.size + 1]? = some (.cells #[.string ⟨#[78, 111, 116]⟩, .string ⟨#[]⟩, .slice (some ⟨w1.heap.size, 0, none⟩) 1 1, .string ⟨#[122]⟩, .slice none 0 0] 35 (0, 0))) := fun wx hx => ⟨BX.out wx (grown_trans GS0.out (grown_trans hg1 (grown_trans (grown_trans (grown_trans gN gT) gV) hx))), box_kept n0 (grown_trans (grown_trans gT gV) hx), box_kept n1 (grown_trans (grown_trans gT gV) hx)⟩
    have E1 := hide (two_call (B := w1.heap.size + 1 + 1 + 1) ⟨#[65, 110, 100]⟩ (by simp) wAnd (by kernel_rfl) (HL.out.more GV.out) (box_kept bT gV) ⟨tx, ⟨xa, xn, xc⟩, ⟨ua, un, uc⟩⟩ ⟨ty, ⟨ya, yn, yc⟩, ⟨va, vn, vc⟩⟩ x y xs ys bV (HX.out.more GV.out) (HXS.out.more GV.out) (HY.out.more GV.out) (HYS.out.more GV.out) (and_rng _))
    simp only at E1
    obtain ⟨x0, x1, x2⟩ := ten_cells (box_kept c0 (grown_trans gN gT))
    obtain ⟨y0, y1, y2⟩ := ten_cells (box_kept c1 (grown_trans gN gT))
    rw [hwT, hwN] at x0 x1 x2 y0 y1 y2
    clear c0 c1 n0 n1 gN zN bT zT gT bV zV gV hg1 SM
    go_wp2_with fail
    rw [← hwN, ← hwT, ← hwV]
    clear hwN hwT hwV x0 x1 x2 y0 y1 y2
    refine E1.out.mono ?_
    rintro e w2 ⟨hg2, hq⟩
    have G2 := hide (grown_trans GV.out hg2)
    have V2 := hide hg2
    obtain ⟨r, hr⟩ : ∃ r, r = el2 ⟨#[65, 110, 100]⟩ 6 tx ty x y xs ys := ⟨_, rfl⟩
    rw [← hr] at hq
    cases r with
    | error c =>
      obtain rfl := hq
      have hc : c ≠ 0 := nz_el2 _ _ _ _ _ _ _ _ c hr.symm
      have bc : (c != 0) = true := by simpa using hc
      have L2 := hide (LV.out (w2.alloc (.cells #[.int .i64 0, .slice none 0 0, .slice none 0 0] 25)) (grown_trans G2.out (grown_new _ _)))
      obtain ⟨w3, hw3⟩ : ∃ w3, w3 = w2.alloc (.cells #[.int .i64 0, .slice none 0 0, .slice none 0 0] 25) := ⟨_, rfl⟩
      have G3 : Hid (w.grownBy w3 none) := by show w.grownBy w3 none; rw [hw3]; exact grown_trans G2.out (grown_new _ _)
      rw [← hw3] at L2
      clear hc hr hg2 E1
      go_wp2_with fail
      rw [← hw3]
      clear hw3
      refine L2.out.mono ?_
      rintro e w4 ⟨rfl, hg4⟩
      go_wp2
      go_ret
      exact ⟨rfl, grown_trans G3.out hg4⟩
    | ok rr =>
      obtain ⟨t, l, zs⟩ := rr
      obtain ⟨⟨ta, ⟨aa, an, ac⟩, ⟨ad, am, ak⟩⟩, ht, rfl, od, ot⟩ := hq
      obtain ⟨rfl, rfl, rfl, e1, e2, e3, e4⟩ := not_law hr.symm
      simp only at ht
      subst ht
      unfold tval
      simp only
      have HA := hide od.ints
      have HAS := hide ot.ints
      clear od ot hr hg2 E1
      obtain ⟨p2, hp2⟩ : ∃ W, W = w2.alloc (.cells #[.int .i64 9, .slice aa an ac, .slice ad am ak] 25) := ⟨_, rfl⟩
      obtain ⟨q2, hq2⟩ : ∃ W, W = p2.alloc (.cells #[.int .i64 9, .slice aa an ac, .slice ad am ak] 25) := ⟨_, rfl⟩
      obtain ⟨bp2, zp2⟩ := new_alloc (.cells #[.int .i64 9, .slice aa an ac, .slice ad am ak] 25) (x := w2) rfl
      rw [← hp2] at bp2 zp2
      obtain ⟨bq2, -⟩ := new_alloc (.cells #[.int .i64 9, .slice aa an ac, .slice ad am ak] 25) zp2
      rw [← hq2] at bq2
      have gp2 : w2.grownBy p2 none := by rw [hp2]; exact grown_new _ _
      have gq2 : p2.grownBy q2 none := by rw [hq2]; exact grown_new _ _
      have GP2 := hide (grown_trans V2.out gp2)
      have GQ2 := hide (grown_trans GP2.out gq2)
      have GD2 := hide (grown_trans gp2 gq2)
      obtain ⟨⟨bx, by'⟩, bs, bn⟩ := KX.out p2 GP2.out
      have BP2 := hide (box_kept bp2 gq2)
      have E2 := hide (not_call (B := w2.heap.size + 1) (HL.out.more (grown_trans G2.out GD2.out)) (box_kept bs gq2) ⟨9, ⟨aa, an, ac⟩, ⟨ad, am, ak⟩⟩ l zs bq2 (HA.out.more GD2.out) (HAS.out.more GD2.out))
      simp only at E2
      rw [e1] at E2
      obtain ⟨n0, n1, n2, n3, n4⟩ := nod_cells (n := ⟨⟨#[78, 111, 116]⟩, ⟨#[]⟩, ⟨some ⟨w1.heap.size, 0, none⟩, 1, 1⟩, ⟨#[122]⟩, ⟨none, 0, 0⟩⟩) bn
      simp only at n0 n1 n2 n3 n4
      obtain ⟨x0, x1, x2⟩ := ten_cells bp2
      rw [hp2] at n0 n1 n2 n3 n4 x0 x1 x2
      clear bx by' bs bn bp2 bq2 zp2 gp2 gq2
      go_wp2_with fail
      rw [← hp2, ← hq2]
      clear hp2 hq2 n0 n1 n2 n3 n4 x0 x1 x2
      refine E2.out.mono ?_
      rintro e w3 ⟨hg, ⟨tt, ⟨ba, bn, bc⟩, ⟨bd, bm, bk⟩⟩, ht, rfl, od, ot⟩
      simp only at ht
      subst ht
      unfold tval
      simp only
      have G3 := hide (grown_trans (grown_trans G2.out GD2.out) hg)
      have V3 := hide (grown_trans GQ2.out hg)
      have D2 := hide (grown_trans GD2.out hg)
      have BQ2 := hide (box_kept BP2.out hg)
      have Ib := hide od.ints
      have Jb := hide ot.ints
      clear od ot hg E2
      obtain ⟨p3, hp3⟩ : ∃ W, W = w3.alloc (.cells #[.int .i64 9, .slice ba bn bc, .slice bd bm bk] 25) := ⟨_, rfl⟩
      obtain ⟨q3, hq3⟩ : ∃ W, W = p3.alloc (.cells #[.int .i64 9, .slice xa xn xc, .slice ua un uc] 25) := ⟨_, rfl⟩
      obtain ⟨bp3, zp3⟩ := new_alloc (.cells #[.int .i64 9, .slice ba bn bc, .slice bd bm bk] 25) (x := w3) rfl
      rw [← hp3] at bp3 zp3
      obtain ⟨bq3, -⟩ := new_alloc (.cells #[.int .i64 9, .slice xa xn xc, .slice ua un uc] 25) zp3
      rw [← hq3] at bq3
      have gp3 : w3.grownBy p3 none := by rw [hp3]; exact grown_new _ _
      have gq3 : p3.grownBy q3 none := by rw [hq3]; exact grown_new _ _
      have GP3 := hide (grown_trans V3.out gp3)
      have GQ3 := hide (grown_trans GP3.out gq3)
      have GD3 := hide (grown_trans gp3 gq3)
      obtain ⟨⟨bx, by'⟩, bs, bn⟩ := KX.out p3 GP3.out
      have BP3 := hide (box_kept bp3 gq3)
      have E3 := hide (not_call (B := w3.heap.size + 1) (HL.out.more (grown_trans G3.out GD3.out)) (box_kept bs gq3) ⟨9, ⟨xa, xn, xc⟩, ⟨ua, un, uc⟩⟩ x xs bq3 (HX.out.more (grown_trans G3.out GD3.out)) (HXS.out.more (grown_trans G3.out GD3.out)))
      simp only at E3
      rw [e2] at E3
      obtain ⟨n0, n1, n2, n3, n4⟩ := nod_cells (n := ⟨⟨#[78, 111, 116]⟩, ⟨#[]⟩, ⟨some ⟨w1.heap.size, 0, none⟩, 1, 1⟩, ⟨#[122]⟩, ⟨none, 0, 0⟩⟩) bn
      simp only at n0 n1 n2 n3 n4
      obtain ⟨x0, x1, x2⟩ := ten_cells bx
      rw [hp3] at n0 n1 n2 n3 n4 x0 x1 x2
      clear bx by' bs bn bp3 bq3 zp3 gp3 gq3
      go_wp2_with fail
      rw [← hp3, ← hq3]
      clear hp3 hq3 n0 n1 n2 n3 n4 x0 x1 x2
      refine E3.out.mono ?_
      rintro e w4 ⟨hg, ⟨tt, ⟨fa, fn, fc⟩, ⟨fd, fm, fk⟩⟩, ht, rfl, od, ot⟩
      simp only at ht
      subst ht
      unfold tval
      simp only
      have G4 := hide (grown_trans (grown_trans G3.out GD3.out) hg)
      have V4 := hide (grown_trans GQ3.out hg)
      have D3 := hide (grown_trans GD3.out hg)
      have BQ3 := hide (box_kept BP3.out hg)
      have If := hide od.ints
      have Jf := hide ot.ints
      clear od ot hg E3
      obtain ⟨p4, hp4⟩ : ∃ W, W = w4.alloc (.cells #[.int .i64 9, .slice fa fn fc, .slice fd fm fk] 25) := ⟨_, rfl⟩
      obtain ⟨q4, hq4⟩ : ∃ W, W = p4.alloc (.cells #[.int .i64 9, .slice ya yn yc, .slice va vn vc] 25) := ⟨_, rfl⟩
      obtain ⟨bp4, zp4⟩ := new_alloc (.cells #[.int .i64 9, .slice fa fn fc, .slice fd fm fk] 25) (x := w4) rfl
      rw [← hp4] at bp4 zp4
      obtain ⟨bq4, -⟩ := new_alloc (.cells #[.int .i64 9, .slice ya yn yc, .slice va vn vc] 25) zp4
      rw [← hq4] at bq4
      have gp4 : w4.grownBy p4 none := by rw [hp4]; exact grown_new _ _
      have gq4 : p4.grownBy q4 none := by rw [hq4]; exact grown_new _ _
      have GP4 := hide (grown_trans V4.out gp4)
      have GQ4 := hide (grown_trans GP4.out gq4)
      have GD4 := hide (grown_trans gp4 gq4)
      obtain ⟨⟨bx, by'⟩, bs, bn⟩ := KX.out p4 GP4.out
      have BP4 := hide (box_kept bp4 gq4)
      have E4 := hide (not_call (B := w4.heap.size + 1) (HL.out.more (grown_trans G4.out GD4.out)) (box_kept bs gq4) ⟨9, ⟨ya, yn, yc⟩, ⟨va, vn, vc⟩⟩ y ys bq4 (HY.out.more (grown_trans G4.out GD4.out)) (HYS.out.more (grown_trans G4.out GD4.out)))
      simp only at E4
      rw [e3] at E4
      obtain ⟨n0, n1, n2, n3, n4⟩ := nod_cells (n := ⟨⟨#[78, 111, 116]⟩, ⟨#[]⟩, ⟨some ⟨w1.heap.size, 0, none⟩, 1, 1⟩, ⟨#[122]⟩, ⟨none, 0, 0⟩⟩) bn
      simp only at n0 n1 n2 n3 n4
      obtain ⟨x0, x1, x2⟩ := ten_cells by'
      rw [hp4] at n0 n1 n2 n3 n4 x0 x1 x2
      clear bx by' bs bn bp4 bq4 zp4 gp4 gq4
      go_wp2_with fail
      rw [← hp4, ← hq4]
      clear hp4 hq4 n0 n1 n2 n3 n4 x0 x1 x2
      refine E4.out.mono ?_
      rintro e w5 ⟨hg, ⟨tt, ⟨ga, gn, gc⟩, ⟨gd, gm, gk⟩⟩, ht, rfl, od, ot⟩
      simp only at ht
      subst ht
      unfold tval
      simp only
      have G5 := hide (grown_trans (grown_trans G4.out GD4.out) hg)
      have V5 := hide (grown_trans GQ4.out hg)
      have D4 := hide (grown_trans GD4.out hg)
      have BQ4 := hide (box_kept BP4.out hg)
      have Ig := hide od.ints
      have Jg := hide ot.ints
      clear od ot hg E4
      obtain ⟨p5, hp5⟩ : ∃ W, W = w5.alloc (.cells #[.int .i64 9, .slice ga gn gc, .slice gd gm gk] 25) := ⟨_, rfl⟩
      obtain ⟨q5, hq5⟩ : ∃ W, W = p5.alloc (.cells #[.string ⟨#[120]⟩, .string ⟨#[121]⟩] 9) := ⟨_, rfl⟩
      obtain ⟨r5, hr5⟩ : ∃ W, W = q5.alloc (.cells #[.int .i64 9, .slice fa fn fc, .slice fd fm fk, .int .i64 9, .slice ga gn gc, .slice gd gm gk] 25) := ⟨_, rfl⟩
      obtain ⟨bp5, zp5⟩ := new_alloc (.cells #[.int .i64 9, .slice ga gn gc, .slice gd gm gk] 25) (x := w5) rfl
      rw [← hp5] at bp5 zp5
      obtain ⟨bq5, zq5⟩ := new_alloc (.cells #[.string ⟨#[120]⟩, .string ⟨#[121]⟩] 9) zp5
      rw [← hq5] at bq5 zq5
      obtain ⟨br5, -⟩ := new_alloc (.cells #[.int .i64 9, .slice fa fn fc, .slice fd fm fk, .int .i64 9, .slice ga gn gc, .slice gd gm gk] 25) zq5
      rw [← hr5] at br5
      have gp5 : w5.grownBy p5 none := by rw [hp5]; exact grown_new _ _
      have gq5 : p5.grownBy q5 none := by rw [hq5]; exact grown_new _ _
      have gr5 : q5.grownBy r5 none := by rw [hr5]; exact grown_new _ _
      have GD5 := hide (grown_trans (grown_trans gp5 gq5) gr5)
      have E5 := hide (two_call (B := w5.heap.size + 1 + 1) ⟨#[79, 114]⟩ (by simp) wOr (by kernel_rfl) (HL.out.more (grown_trans G5.out GD5.out)) (box_kept bq5 gr5) ⟨9, ⟨fa, fn, fc⟩, ⟨fd, fm, fk⟩⟩ ⟨9, ⟨ga, gn, gc⟩, ⟨gd, gm, gk⟩⟩ x y _ _ br5 (If.out.more (grown_trans D4.out GD5.out)) (Jf.out.more (grown_trans D4.out GD5.out)) (Ig.out.more GD5.out) (Jg.out.more GD5.out) (or_rng _))
      simp only at E5
      rw [e4] at E5
      obtain ⟨x0, x1, x2⟩ := ten_cells (box_kept BQ4.out (grown_trans gp5 gq5))
      obtain ⟨y0, y1, y2⟩ := ten_cells (box_kept bp5 gq5)
      rw [hq5, hp5] at x0 x1 x2 y0 y1 y2
      clear bp5 bq5 br5 zp5 zq5 gp5 gq5 gr5
      go_wp2_with fail
      rw [← hp5, ← hq5, ← hr5]
      clear hp5 hq5 hr5 x0 x1 x2 y0 y1 y2
      refine E5.out.mono ?_
      rintro e w6 ⟨hg, ⟨tt, ⟨ha, hn, hc⟩, ⟨hd, hm, hk⟩⟩, ht, rfl, od, ot⟩
      simp only at ht
      subst ht
      unfold tval
      simp only
      have G6 := hide (grown_trans (grown_trans G5.out GD5.out) hg)
      have D5 := hide (grown_trans GD5.out hg)
      have IH := hide od.ints
      have JH := hide ot.ints
      clear od ot hg E5
      obtain ⟨p6, hp6⟩ : ∃ W, W = w6.alloc (.cells #[.int .i64 9, .slice ha hn hc, .slice hd hm hk] 25) := ⟨_, rfl⟩
      have bp6 := heap_alloc_new w6 (.cells #[.int .i64 9, .slice ha hn hc, .slice hd hm hk] 25)
      rw [← hp6] at bp6
      have gp6 : w6.grownBy p6 none := by rw [hp6]; exact grown_new _ _
      have D35 := hide (grown_trans (grown_trans (grown_trans D3.out D4.out) D5.out) gp6)
      have SA := hide (sameten_eq 9 _ _ _ _ l (zs.map nt) p6 (Ib.out.more D35.out) (Jb.out.more D35.out) (IH.out.more gp6) (JH.out.more gp6))
      simp only [Sl.v] at SA
      obtain ⟨x0, x1, x2⟩ := ten_cells (box_kept BQ3.out (grown_trans (grown_trans D4.out D5.out) gp6))
      obtain ⟨y0, y1, y2⟩ := ten_cells bp6
      rw [hp6] at x0 x1 x2 y0 y1 y2
      have GP := hide (grown_trans G6.out gp6)
      clear bp6 gp6
      go_wp2_with (first | (go_at_call 8; rw [← hp6]; refine SA.out.mono ?_; rintro e w7 ⟨rfl, hg7⟩; have L7 := hide (LV.out w7 (grown_trans GP.out hg7))) | fail)
      refine L7.out.mono ?_
      rintro e w8 ⟨rfl, hg8⟩
      go_wp2
      go_ret
      exact ⟨rfl, grown_trans (grown_trans GP.out hg7) hg8⟩

theorem elemNot_law (X Y : Ten) {x xs y ys : List Int} (w : World) (hl : Laid w) (hx : IsInts w X.dv.v x) (hxs : IsInts w X.tv.v xs) (hy : IsInts w Y.dv.v y) (hys : IsInts w Y.tv.v ys) : Calls Tryz.prog 4 #[tval X, tval Y] w fun e w' => e = .returned (.bool true) ∧ Below w.heap.size w w' :=
  (elemNot_walk X Y w hl hx hxs hy hys).mono fun _ _ h => ⟨h.1, grown_below h.2⟩
end Go.Proofs.YtnifbdcgobnjeaaGreatDoor
