/- mandrellaw09.live, by the walk (mkEpLv.py). -/
import Derived.Test.YteigfipgmghgmaaGreatDoorEpDo
import Derived.Test.YteigfipgmghgmaaGreatDoorNSameN
namespace Go.Proofs.YteigfipgmghgmaaGreatDoor
open Go.RowKit

/-- A list of numbers that lies in a block. -/
theorem blk_ints {w : World} {B te : Nat} {zs : List Int} (h : w.heap[B]? = some (.cells (zs.map (Value.int .i64)).toArray te (0, 0))) (hl : zs.length ≤ 1000) (hz : ∀ z ∈ zs, -1000 ≤ z ∧ z ≤ 1000) : IsInts w (.slice (some ⟨B, 0, none⟩) zs.length zs.length) zs := by
  refine ⟨_, _, rfl, Nat.le_refl _, by omega, by omega, (fun h => by cases h), fun _ => ⟨B, 0, rfl, fun t ht => ?_⟩, fun z h => by have := hz z h; omega⟩
  rw [Nat.zero_add, cell_of_row _ _ t _ _ (0, 0) h]
  simp [List.getD, ht]

theorem blk_tens {w : World} {B : Nat} {cur : Array Value} {ps : List (Ten × Tq)} (h : w.heap[B]? = some (.cells cur 32 (0, 0))) (hc : cur.toList = (ps.map (·.1)).flatMap tcells) (hs : cur.size = ps.length * 3) (hl : ps.length ≤ 1000) (hh : ∀ p ∈ ps, IsInts w p.1.dv.v p.2.1 ∧ IsInts w p.1.tv.v p.2.2) : TensIn w (.slice (some ⟨B, 0, none⟩) ps.length ps.length) ps := by
  refine ⟨?_, hh⟩
  have e : ps.length = (ps.map (·.1)).length := by rw [List.length_map]
  rw [e]
  exact lit_isLG (te := 32) (bytes := 56) tcells_len h hc (by rw [hs, e]) (by rw [← e]; omega) (by rw [← e]; omega)
theorem bare_inX (w : World) (op out : ByteArray) (iv : Sl) (ins : List ByteArray) (hi : IsStrs w iv.v ins) : NodeIn w ⟨op, ⟨#[]⟩, iv, out, nilS⟩ ins [] [] :=
  ⟨hi, OwnsL.isL (te := 92) (base := 0) acells_len (OwnsL.nil ..) (by simp), (fun j a h => by simp at h), by simp, (fun a h => by cases h)⟩

/-- What Do answers of two tensors. -/
def elX (op out i1 i2 : ByteArray) (k : Nat) (t0 t1 : Int) (x y xs ys : List Int) : R (Int × List Int × List Int) :=
  doR (nodeP [tq t0 x xs, tq t1 y ys] (outF ⟨op, ⟨#[]⟩, nilS, out, nilS⟩ [i1, i2] ⟨op, [], []⟩ [tv t0 x, tv t1 y])) fun l => madeR (F2 k t0) [tq t0 x xs, tq t1 y ys] l (prod l).toNat

theorem elem2x (op out : ByteArray) (iv : Sl) (i1 i2 : ByteArray) (k : Nat) (hk : kOf op = some k) (ho : out.size ≤ 1048576) (u : Sl) (T0 T1 : Ten) (x y xs ys : List Int) (w : World) (hl : Laid w) (hi : IsStrs w iv.v [i1, i2]) (hv : TensIn w u.v [(T0, (x, xs)), (T1, (y, ys))]) :
    Calls Tryz.prog 8 #[nval ⟨op, ⟨#[]⟩, iv, out, nilS⟩, .slice u.a u.n u.c] w (DoQ w (elX op out i1 i2 k T0.ty T1.ty x y xs ys)) := by
  have hn : ∀ wx, w.grownBy wx none → NodeAll wx ⟨op, ⟨#[]⟩, iv, out, nilS⟩ [i1, i2] ⟨op, [], []⟩ := fun wx hx => ⟨bare_inX wx op out iv _ (hi.more hx), rfl, (fun a h => by cases h), (fun a h => by cases h), ho⟩
  refine edo_any _ u _ w fun wx hx => bdo_any _ u (nodeP [tq T0.ty x xs, tq T1.ty y ys] (outF ⟨op, ⟨#[]⟩, iv, out, nilS⟩ [i1, i2] ⟨op, [], []⟩ [tv T0.ty x, tv T1.ty y])) _ wx (nz_node fun c h => outF_err h) (fun l => nz_made _ _ _ _) (fun wy hy => ?_) (fun wy ty dv l hy hr hd => ?_)
  · refine bnode_any _ u [(T0, (x, xs)), (T1, (y, ys))] _ wy (hv.more (grown_trans hx hy)) (by simp) fun wz s vs hz hvs h1 h2 => ?_
    have key := out_of _ [i1, i2] ⟨op, [], []⟩ s vs wz (hl.more (grown_trans (grown_trans hx hy) hz)) (hn wz (grown_trans (grown_trans hx hy) hz)) hvs
    rw [outF_same (us := [tv T0.ty x, tv T1.ty y]) h1 h2] at key
    exact key
  · have hvy := hv.more (grown_trans hx hy)
    exact made_xof _ u [(T0, (x, xs)), (T1, (y, ys))] _ ty dv l (F2 k T0.ty) wy hvy (by simp) (by simp) hd (outF_ok (node_inv hr).2).cnt (fun wz hz => wofx_2 _ k hk u [(T0, (x, xs)), (T1, (y, ys))] _ ty dv wz (hvy.more hz) (by simp) T0.ty rfl)

theorem live_addX : elX ⟨#[65, 100, 100]⟩ ⟨#[99]⟩ ⟨#[97]⟩ ⟨#[98]⟩ 0 6 6 [1, 3] [2, 1] [1, 2, 3] [10, 0] = .ok (6, [2, 3], [11, 12, 13, 1, 2, 3]) := by kernel_rfl
theorem live_divX : elX ⟨#[68, 105, 118]⟩ ⟨#[99]⟩ ⟨#[97]⟩ ⟨#[98]⟩ 3 6 6 [1, 3] [2, 1] [1, 2, 3] [10, 0] = .error 7 := by kernel_rfl

theorem up_alloc {x : World} {i : Nat} {o : Obj} (p : Obj) (h : x.heap[i]? = some o) : (x.alloc p).heap[i]? = some o := ((grown_new x p).block i (Array.getElem?_eq_some_iff.1 h).1 (by simp)).trans h

theorem new_alloc {x : World} {i : Nat} (p : Obj) (h : x.heap.size = i) : (x.alloc p).heap[i]? = some p ∧ (x.alloc p).heap.size = i + 1 := by
  subst h
  exact ⟨heap_alloc_new x p, by simp⟩

theorem kept_set {x : World} {i B : Nat} {o : Obj} {v : Value} (h : x.heap[i]? = some o) (hne : i ≠ B) : (x.setCell ⟨B, 0, none⟩ v).heap[i]? = some o := by
  rw [← h]
  exact Below.heap_setCell _ _ _ _ (fun e => hne (by rw [e]))

theorem grown_set (x : World) (B : Nat) (v : Value) : x.grownBy (x.setCell ⟨B, 0, none⟩ v) (some B) :=
  ⟨rfl, rfl, rfl, by simp [World.setCell], fun k _ hk => Below.heap_setCell _ _ _ _ (fun e => hk (by rw [e]))⟩

theorem eight (w : World) (o0 o1 o2 o3 o4 o5 o6 o7 : Obj) : ∀ W, W = (((((((w.alloc o0).alloc o1).alloc o2).alloc o3).alloc o4).alloc o5).alloc o6).alloc o7 →
    W.heap[w.heap.size]? = some o0 ∧ W.heap[w.heap.size + 1]? = some o1 ∧ W.heap[w.heap.size + 1 + 1]? = some o2 ∧ W.heap[w.heap.size + 1 + 1 + 1]? = some o3 ∧ W.heap[w.heap.size + 1 + 1 + 1 + 1]? = some o4 ∧ W.heap[w.heap.size + 1 + 1 + 1 + 1 + 1]? = some o5 ∧ W.heap[w.heap.size + 1 + 1 + 1 + 1 + 1 + 1]? = some o6 ∧ W.heap[w.heap.size + 1 + 1 + 1 + 1 + 1 + 1 + 1]? = some o7 ∧ W.heap.size = w.heap.size + 1 + 1 + 1 + 1 + 1 + 1 + 1 + 1 ∧ w.grownBy W none := by
  rintro W rfl
  obtain ⟨a0, z0⟩ := new_alloc o0 (x := w) rfl
  obtain ⟨a1, z1⟩ := new_alloc o1 z0
  obtain ⟨a2, z2⟩ := new_alloc o2 z1
  obtain ⟨a3, z3⟩ := new_alloc o3 z2
  obtain ⟨a4, z4⟩ := new_alloc o4 z3
  obtain ⟨a5, z5⟩ := new_alloc o5 z4
  obtain ⟨a6, z6⟩ := new_alloc o6 z5
  obtain ⟨a7, z7⟩ := new_alloc o7 z6
  refine ⟨?_, ?_, ?_, ?_, ?_, ?_, ?_, a7, z7, ?_⟩
  · exact up_alloc _ (up_alloc _ (up_alloc _ (up_alloc _ (up_alloc _ (up_alloc _ (up_alloc _ a0))))))
  · exact up_alloc _ (up_alloc _ (up_alloc _ (up_alloc _ (up_alloc _ (up_alloc _ a1)))))
  · exact up_alloc _ (up_alloc _ (up_alloc _ (up_alloc _ (up_alloc _ a2))))
  · exact up_alloc _ (up_alloc _ (up_alloc _ (up_alloc _ a3)))
  · exact up_alloc _ (up_alloc _ (up_alloc _ a4))
  · exact up_alloc _ (up_alloc _ a5)
  · exact up_alloc _ a6
  · exact grown_trans (grown_trans (grown_trans (grown_trans (grown_trans (grown_trans (grown_trans (grown_new _ _) (grown_new _ _)) (grown_new _ _)) (grown_new _ _)) (grown_new _ _)) (grown_new _ _)) (grown_new _ _)) (grown_new _ _)

/-- The two tensors of live, from where their parts lie. -/
theorem live_tens {w : World} {b B : Nat} (h0 : w.heap[b]? = some (.cells #[.int .i64 1, .int .i64 3] 3 (0, 0))) (h1 : w.heap[b + 1]? = some (.cells #[.int .i64 1, .int .i64 2, .int .i64 3] 2 (0, 0))) (h3 : w.heap[b + 1 + 1 + 1]? = some (.cells #[.int .i64 2, .int .i64 1] 3 (0, 0))) (h4 : w.heap[b + 1 + 1 + 1 + 1]? = some (.cells #[.int .i64 10, .int .i64 0] 2 (0, 0)))
    (hB : w.heap[B]? = some (.cells #[.int .i64 6, .slice (some ⟨b, 0, none⟩) 2 2, .slice (some ⟨b + 1, 0, none⟩) 3 3, .int .i64 6, .slice (some ⟨b + 1 + 1 + 1, 0, none⟩) 2 2, .slice (some ⟨b + 1 + 1 + 1 + 1, 0, none⟩) 2 2] 32 (0, 0))) :
    TensIn w (.slice (some ⟨B, 0, none⟩) 2 2) [(⟨6, ⟨some ⟨b, 0, none⟩, 2, 2⟩, ⟨some ⟨b + 1, 0, none⟩, 3, 3⟩⟩, ([1, 3], [1, 2, 3])), (⟨6, ⟨some ⟨b + 1 + 1 + 1, 0, none⟩, 2, 2⟩, ⟨some ⟨b + 1 + 1 + 1 + 1, 0, none⟩, 2, 2⟩⟩, ([2, 1], [10, 0]))] := by
  refine blk_tens (ps := [(⟨6, ⟨some ⟨b, 0, none⟩, 2, 2⟩, ⟨some ⟨b + 1, 0, none⟩, 3, 3⟩⟩, ([1, 3], [1, 2, 3])), (⟨6, ⟨some ⟨b + 1 + 1 + 1, 0, none⟩, 2, 2⟩, ⟨some ⟨b + 1 + 1 + 1 + 1, 0, none⟩, 2, 2⟩⟩, ([2, 1], [10, 0]))]) hB rfl rfl (by simp) fun p hp => ?_
  simp only [List.mem_cons, List.not_mem_nil, or_false] at hp
  rcases hp with rfl | rfl
  · exact ⟨blk_ints (zs := [1, 3]) h0 (by simp) (by simp), blk_ints (zs := [1, 2, 3]) h1 (by simp) (by simp)⟩
  · exact ⟨blk_ints (zs := [2, 1]) h3 (by simp) (by simp), blk_ints (zs := [10, 0]) h4 (by simp) (by simp)⟩

set_option maxRecDepth 100000 in
set_option maxHeartbeats 8000000 in
theorem live9_any (w : World) (hl : Laid w) : Calls Tryz.prog 7 #[] w fun e w' => e = .returned (.bool true) ∧ w.grownBy w' none := by
  have HL := hide hl
  clear hl
  obtain ⟨W, hW⟩ : ∃ W, W = (((((((w.alloc (.cells #[.int .i64 1, .int .i64 3] 3)).alloc (.cells #[.int .i64 1, .int .i64 2, .int .i64 3] 2)).alloc (.cells #[.int .i64 6, .slice (some ⟨w.heap.size, 0, none⟩) 2 2, .slice (some ⟨w.heap.size + 1, 0, none⟩) 3 3] 32)).alloc (.cells #[.int .i64 2, .int .i64 1] 3)).alloc (.cells #[.int .i64 10, .int .i64 0] 2)).alloc (.cells #[.int .i64 6, .slice (some ⟨w.heap.size + 1 + 1 + 1, 0, none⟩) 2 2, .slice (some ⟨w.heap.size + 1 + 1 + 1 + 1, 0, none⟩) 2 2] 32)).alloc (.cells #[.string ⟨#[97]⟩, .string ⟨#[98]⟩] 9)).alloc (.cells #[.string ⟨#[65, 100, 100]⟩, .string ⟨#[]⟩, .slice (some ⟨w.heap.size + 1 + 1 + 1 + 1 + 1 + 1, 0, none⟩) 2 2, .string ⟨#[99]⟩, .slice none 0 0] 25) := ⟨_, rfl⟩
  obtain ⟨b0, b1, b2, b3, b4, b5, b6, b7, zW, gW⟩ := eight w _ _ _ _ _ _ _ _ W hW
  obtain ⟨V, hV⟩ : ∃ V, V = W.alloc (.cells #[.int .i64 6, .slice (some ⟨w.heap.size, 0, none⟩) 2 2, .slice (some ⟨w.heap.size + 1, 0, none⟩) 3 3, .int .i64 6, .slice (some ⟨w.heap.size + 1 + 1 + 1, 0, none⟩) 2 2, .slice (some ⟨w.heap.size + 1 + 1 + 1 + 1, 0, none⟩) 2 2] 32) := ⟨_, rfl⟩
  obtain ⟨b8, zV⟩ := new_alloc (.cells #[.int .i64 6, .slice (some ⟨w.heap.size, 0, none⟩) 2 2, .slice (some ⟨w.heap.size + 1, 0, none⟩) 3 3, .int .i64 6, .slice (some ⟨w.heap.size + 1 + 1 + 1, 0, none⟩) 2 2, .slice (some ⟨w.heap.size + 1 + 1 + 1 + 1, 0, none⟩) 2 2] 32) zW
  rw [← hV] at b8 zV
  have gV : W.grownBy V none := by rw [hV]; exact grown_new _ _
  have c0 := box_kept b0 gV
  have c1 := box_kept b1 gV
  have c2 := box_kept b2 gV
  have c3 := box_kept b3 gV
  have c4 := box_kept b4 gV
  have c5 := box_kept b5 gV
  have c6 := box_kept b6 gV
  have c7 := box_kept b7 gV
  have GV := hide (grown_trans gW gV)
  have E1 := hide (elem2x ⟨#[65, 100, 100]⟩ ⟨#[99]⟩ ⟨some ⟨w.heap.size + 1 + 1 + 1 + 1 + 1 + 1, 0, none⟩, 2, 2⟩ ⟨#[97]⟩ ⟨#[98]⟩ 0 (by kernel_rfl) (by decide) ⟨some ⟨w.heap.size + 1 + 1 + 1 + 1 + 1 + 1 + 1 + 1, 0, none⟩, 2, 2⟩ _ _ _ _ _ _ V (HL.out.more GV.out) (lit_isLG (te := 9) (bytes := 16) (xs := [⟨#[97]⟩, ⟨#[98]⟩]) scell_len c6 rfl rfl (Nat.le_of_ble_eq_true rfl) (Nat.le_of_ble_eq_true rfl)) (live_tens c0 c1 c3 c4 b8))
  rw [show elX ⟨#[65, 100, 100]⟩ ⟨#[99]⟩ ⟨#[97]⟩ ⟨#[98]⟩ 0 (Ten.ty ⟨6, ⟨some ⟨w.heap.size, 0, none⟩, 2, 2⟩, ⟨some ⟨w.heap.size + 1, 0, none⟩, 3, 3⟩⟩) (Ten.ty ⟨6, ⟨some ⟨w.heap.size + 1 + 1 + 1, 0, none⟩, 2, 2⟩, ⟨some ⟨w.heap.size + 1 + 1 + 1 + 1, 0, none⟩, 2, 2⟩⟩) [1, 3] [2, 1] [1, 2, 3] [10, 0] = .ok (6, [2, 3], [11, 12, 13, 1, 2, 3]) from live_addX] at E1
  unfold nval nilS at E1
  simp only at E1
  have BC : Hid (∀ wx, V.grownBy wx none → wx.heap[w.heap.size]? = some (.cells #[.int .i64 1, .int .i64 3] 3 (0, 0)) ∧ wx.heap[w.heap.size + 1]? = some (.cells #[.int .i64 1, .int .i64 2, .int .i64 3] 2 (0, 0)) ∧ wx.heap[w.heap.size + 1 + 1]? = some (.cells #[.int .i64 6, .slice (some ⟨w.heap.size, 0, none⟩) 2 2, .slice (some ⟨w.heap.size + 1, 0, none⟩) 3 3] 32 (0, 0)) ∧ wx.heap[w.heap.size + 1 + 1 + 1]? = some (.cells #[.int .i64 2, .int .i64 1] 3 (0, 0)) ∧ wx.heap[w.heap.size + 1 + 1 + 1 + 1]? = some (.cells #[.int .i64 10, .int .i64 0] 2 (0, 0)) ∧ wx.heap[w.heap.size + 1 + 1 + 1 + 1 + 1]? = some (.cells #[.int .i64 6, .slice (some ⟨w.heap.size + 1 + 1 + 1, 0, none⟩) 2 2, .slice (some ⟨w.heap.size + 1 + 1 + 1 + 1, 0, none⟩) 2 2] 32 (0, 0)) ∧ wx.heap[w.heap.size + 1 + 1 + 1 + 1 + 1 + 1]? = some (.cells #[.string ⟨#[97]⟩, .string ⟨#[98]⟩] 9 (0, 0)) ∧ wx.heap[w.heap.size + 1 + 1 + 1 + 1 + 1 + 1 + 1]? = some (.cells #[.string ⟨#[65, 100, 100]⟩, .string ⟨#[]⟩, .slice (some ⟨w.heap.size + 1 + 1 + 1 + 1 + 1 + 1, 0, none⟩) 2 2, .string ⟨#[99]⟩, .slice none 0 0] 25 (0, 0))) := fun wx hx => ⟨box_kept c0 hx, box_kept c1 hx, box_kept c2 hx, box_kept c3 hx, box_kept c4 hx, box_kept c5 hx, box_kept c6 hx, box_kept c7 hx⟩
  have ZV := hide zV
  clear b0 b1 b2 b3 b4 b5 b6 b7 b8 c0 c1 c2 c3 c4 c5 c6 c7 zW zV gW gV
  go_enter Tryz.func7, Tryz.ntmps7
  go_wp2_with fail
  rw [← hW, ← hV]
  clear hW hV
  refine E1.out.mono ?_
  rintro e w1 ⟨hg1, ⟨ty, ⟨da, dn, dc⟩, ⟨ta, tn, tc⟩⟩, ht, rfl, od, ot⟩
  simp only at ht
  subst ht
  unfold tval
  simp only
  obtain ⟨wA, hwA⟩ : ∃ wA, wA = w1.alloc (.cells #[.int .i64 6, .slice da dn dc, .slice ta tn tc] 32) := ⟨_, rfl⟩
  have gA : w1.grownBy wA none := by rw [hwA]; exact grown_new _ _
  obtain ⟨bA, zA⟩ := new_alloc (.cells #[.int .i64 6, .slice da dn dc, .slice ta tn tc] 32) (x := w1) rfl
  rw [← hwA] at bA zA
  obtain ⟨c0, c1, c2, c3, c4, c5, c6, c7⟩ := BC.out wA (grown_trans hg1 gA)
  have s1 := hg1.size
  have s2 := ZV.out
  obtain ⟨N, hN⟩ : ∃ N, N = w.heap.size + 1 + 1 + 1 + 1 + 1 + 1 + 1 := ⟨_, rfl⟩
  obtain ⟨wB, hwB⟩ : ∃ wB, wB = wA.setCell ⟨w.heap.size + 1 + 1 + 1 + 1 + 1 + 1 + 1, 0, none⟩ (.string ⟨#[68, 105, 118]⟩) := ⟨_, rfl⟩
  have k7 : wA.cell? ⟨w.heap.size + 1 + 1 + 1 + 1 + 1 + 1 + 1, 0, none⟩ = some (.string ⟨#[65, 100, 100]⟩) := (cell_of_row _ _ 0 _ _ (0, 0) c7).trans rfl
  have f7 := frozen_of_row wA (w.heap.size + 1 + 1 + 1 + 1 + 1 + 1 + 1) 0 _ _ c7
  have nB : wB.heap[w.heap.size + 1 + 1 + 1 + 1 + 1 + 1 + 1]? = some (.cells #[.string ⟨#[68, 105, 118]⟩, .string ⟨#[]⟩, .slice (some ⟨w.heap.size + 1 + 1 + 1 + 1 + 1 + 1, 0, none⟩) 2 2, .string ⟨#[99]⟩, .slice none 0 0] 25 (0, 0)) := by
    rw [hwB]
    simpa using heap_setCell_same wA (w.heap.size + 1 + 1 + 1 + 1 + 1 + 1 + 1) 0 _ _ (.string ⟨#[68, 105, 118]⟩) c7
  have d0 := kept_set (B := w.heap.size + 1 + 1 + 1 + 1 + 1 + 1 + 1) (v := .string ⟨#[68, 105, 118]⟩) c0 (by omega)
  have d1 := kept_set (B := w.heap.size + 1 + 1 + 1 + 1 + 1 + 1 + 1) (v := .string ⟨#[68, 105, 118]⟩) c1 (by omega)
  have d2 := kept_set (B := w.heap.size + 1 + 1 + 1 + 1 + 1 + 1 + 1) (v := .string ⟨#[68, 105, 118]⟩) c2 (by omega)
  have d3 := kept_set (B := w.heap.size + 1 + 1 + 1 + 1 + 1 + 1 + 1) (v := .string ⟨#[68, 105, 118]⟩) c3 (by omega)
  have d4 := kept_set (B := w.heap.size + 1 + 1 + 1 + 1 + 1 + 1 + 1) (v := .string ⟨#[68, 105, 118]⟩) c4 (by omega)
  have d5 := kept_set (B := w.heap.size + 1 + 1 + 1 + 1 + 1 + 1 + 1) (v := .string ⟨#[68, 105, 118]⟩) c5 (by omega)
  have d6 := kept_set (B := w.heap.size + 1 + 1 + 1 + 1 + 1 + 1 + 1) (v := .string ⟨#[68, 105, 118]⟩) c6 (by omega)
  have dA := kept_set (B := w.heap.size + 1 + 1 + 1 + 1 + 1 + 1 + 1) (v := .string ⟨#[68, 105, 118]⟩) bA (by omega)
  rw [← hwB] at d0 d1 d2 d3 d4 d5 d6 dA
  have zB : wB.heap.size = w1.heap.size + 1 := by rw [hwB, ← zA]; simp [World.setCell]
  have gB : wA.grownBy wB (some (w.heap.size + 1 + 1 + 1 + 1 + 1 + 1 + 1)) := by rw [hwB]; exact grown_set _ _ _
  have GB := hide (grown_drop (grown_trans GV.out (grown_trans hg1 gA)) gB (by omega))
  have OD := hide ((od.more gA (by cases (Sl.v ⟨da, dn, dc⟩).ownBlock <;> simp)).more gB (row_lt od.1 (by omega)))
  have OT := hide ((ot.more gA (by cases (Sl.v ⟨ta, tn, tc⟩).ownBlock <;> simp)).more gB (row_lt ot.1 (by omega)))
  obtain ⟨wC, hwC⟩ : ∃ wC, wC = wB.alloc (.cells #[.int .i64 6, .slice (some ⟨w.heap.size, 0, none⟩) 2 2, .slice (some ⟨w.heap.size + 1, 0, none⟩) 3 3, .int .i64 6, .slice (some ⟨w.heap.size + 1 + 1 + 1, 0, none⟩) 2 2, .slice (some ⟨w.heap.size + 1 + 1 + 1 + 1, 0, none⟩) 2 2] 32) := ⟨_, rfl⟩
  obtain ⟨b8, -⟩ := new_alloc (.cells #[.int .i64 6, .slice (some ⟨w.heap.size, 0, none⟩) 2 2, .slice (some ⟨w.heap.size + 1, 0, none⟩) 3 3, .int .i64 6, .slice (some ⟨w.heap.size + 1 + 1 + 1, 0, none⟩) 2 2, .slice (some ⟨w.heap.size + 1 + 1 + 1 + 1, 0, none⟩) 2 2] 32) zB
  rw [← hwC] at b8
  have gC : wB.grownBy wC none := by rw [hwC]; exact grown_new _ _
  have E2 := hide (elem2x ⟨#[68, 105, 118]⟩ ⟨#[99]⟩ ⟨some ⟨w.heap.size + 1 + 1 + 1 + 1 + 1 + 1, 0, none⟩, 2, 2⟩ ⟨#[97]⟩ ⟨#[98]⟩ 3 (by kernel_rfl) (by decide) ⟨some ⟨w1.heap.size + 1, 0, none⟩, 2, 2⟩ _ _ _ _ _ _ wC (HL.out.more (grown_trans GB.out gC)) (lit_isLG (te := 9) (bytes := 16) (xs := [⟨#[97]⟩, ⟨#[98]⟩]) scell_len (box_kept d6 gC) rfl rfl (Nat.le_of_ble_eq_true rfl) (Nat.le_of_ble_eq_true rfl)) (live_tens (box_kept d0 gC) (box_kept d1 gC) (box_kept d3 gC) (box_kept d4 gC) b8))
  rw [show elX ⟨#[68, 105, 118]⟩ ⟨#[99]⟩ ⟨#[97]⟩ ⟨#[98]⟩ 3 (Ten.ty ⟨6, ⟨some ⟨w.heap.size, 0, none⟩, 2, 2⟩, ⟨some ⟨w.heap.size + 1, 0, none⟩, 3, 3⟩⟩) (Ten.ty ⟨6, ⟨some ⟨w.heap.size + 1 + 1 + 1, 0, none⟩, 2, 2⟩, ⟨some ⟨w.heap.size + 1 + 1 + 1 + 1, 0, none⟩, 2, 2⟩⟩) [1, 3] [2, 1] [1, 2, 3] [10, 0] = .error 7 from live_divX] at E2
  unfold nval nilS at E2
  simp only at E2
  obtain ⟨n0, n1, n2, n3, n4⟩ := nod_cells (n := ⟨⟨#[68, 105, 118]⟩, ⟨#[]⟩, ⟨some ⟨w.heap.size + 1 + 1 + 1 + 1 + 1 + 1, 0, none⟩, 2, 2⟩, ⟨#[99]⟩, ⟨none, 0, 0⟩⟩) nB
  obtain ⟨x0, x1, x2⟩ := ten_cells d2
  obtain ⟨y0, y1, y2⟩ := ten_cells d5
  simp only at n0 n1 n2 n3 n4
  rw [hwB, hwA] at n0 n1 n2 n3 n4 x0 x1 x2 y0 y1 y2
  rw [hwA] at k7 f7
  have DA := hide dA
  have GC := hide gC
  clear c0 c1 c2 c3 c4 c5 c6 c7 d0 d1 d2 d3 d4 d5 d6 dA nB b8 gC gB gA bA zA s1 s2 od ot hg1 E1 hN
  go_wp2_with fail
  rw [← hwA, ← hwB, ← hwC]
  clear hwA hwB hwC n0 n1 n2 n3 n4 x0 x1 x2 y0 y1 y2 k7 f7
  refine E2.out.mono ?_
  rintro e w2 ⟨hg2, rfl⟩
  have G2 := hide (grown_trans (grown_trans GB.out GC.out) hg2)
  obtain ⟨wD, hwD⟩ : ∃ wD, wD = w2.alloc (.cells #[.int .i64 0, .slice none 0 0, .slice none 0 0] 32) := ⟨_, rfl⟩
  obtain ⟨wE, hwE⟩ : ∃ wE, wE = wD.alloc (.cells #[.int .i64 2, .int .i64 3] 3) := ⟨_, rfl⟩
  obtain ⟨wF, hwF⟩ : ∃ wF, wF = wE.alloc (.cells #[.int .i64 11, .int .i64 12, .int .i64 13, .int .i64 1, .int .i64 2, .int .i64 3] 2) := ⟨_, rfl⟩
  have gD : w2.grownBy wD none := by rw [hwD]; exact grown_new _ _
  have gE : wD.grownBy wE none := by rw [hwE]; exact grown_new _ _
  have gF : wE.grownBy wF none := by rw [hwF]; exact grown_new _ _
  obtain ⟨-, zD⟩ := new_alloc (.cells #[.int .i64 0, .slice none 0 0, .slice none 0 0] 32) (x := w2) rfl
  rw [← hwD] at zD
  obtain ⟨bE, zE⟩ := new_alloc (.cells #[.int .i64 2, .int .i64 3] 3) zD
  rw [← hwE] at bE zE
  obtain ⟨bF, -⟩ := new_alloc (.cells #[.int .i64 11, .int .i64 12, .int .i64 13, .int .i64 1, .int .i64 2, .int .i64 3] 2) zE
  rw [← hwF] at bF
  have gB2 := grown_trans (grown_trans (grown_trans (grown_trans GC.out hg2) gD) gE) gF
  have SA := hide (sameten_eq 6 _ _ _ _ [2, 3] [11, 12, 13, 1, 2, 3] wF (OD.out.ints.more gB2) (OT.out.ints.more gB2) (blk_ints (zs := [2, 3]) (box_kept bE gF) (by simp) (by simp)) (blk_ints (zs := [11, 12, 13, 1, 2, 3]) bF (by simp) (by simp)))
  simp only [Sl.v, List.length_cons, List.length_nil, Nat.zero_add, Nat.reduceAdd] at SA
  obtain ⟨y0, y1, y2⟩ := ten_cells (box_kept DA.out (grown_trans (grown_trans GC.out hg2) gD))
  rw [hwD] at y0 y1 y2
  have GF := hide (grown_trans (grown_trans (grown_trans G2.out gD) gE) gF)
  clear gB2 gD gE gF zD zE bE bF hg2 E2
  go_wp2_with fail
  rw [← hwD, ← hwE, ← hwF]
  clear hwD hwE hwF y0 y1 y2
  refine SA.out.mono ?_
  rintro e w6 ⟨rfl, hg6⟩
  go_wp2
  go_ret
  exact ⟨rfl, grown_trans GF.out hg6⟩
end Go.Proofs.YteigfipgmghgmaaGreatDoor
