/- Joined texts: LnKit, LnLive. -/
import Derived.Test.YtfladhogkhhlcaaGreatDoorPartW
import Derived.Test.YtfladhogkhhlcaaGreatDoorPartO
/- What the laws of package linear share: lists in new blocks, how Do ends, small. -/
namespace Go.Proofs.YtfladhogkhhlcaaGreatDoor
open Go.RowKit

theorem up_alloc {x : World} {i : Nat} {o : Obj} (p : Obj) (h : x.heap[i]? = some o) : (x.alloc p).heap[i]? = some o := ((grown_new x p).block i (Array.getElem?_eq_some_iff.1 h).1 (by simp)).trans h

theorem new_alloc {x : World} {i : Nat} (p : Obj) (h : x.heap.size = i) : (x.alloc p).heap[i]? = some p ∧ (x.alloc p).heap.size = i + 1 := by
  subst h
  exact ⟨heap_alloc_new x p, by simp⟩

/-- A list of numbers that lies in a block. -/
theorem blk_ints {w : World} {B te : Nat} {zs : List Int} (h : w.heap[B]? = some (.cells (zs.map (Value.int .i64)).toArray te (0, 0))) (hl : zs.length ≤ 1000) (hz : ∀ z ∈ zs, -9223372036854775808 ≤ z ∧ z ≤ 9223372036854775807) : IsInts w (.slice (some ⟨B, 0, none⟩) zs.length zs.length) zs := by
  refine ⟨_, _, rfl, Nat.le_refl _, by omega, by omega, (fun h => by cases h), fun _ => ⟨B, 0, rfl, fun t ht => ?_⟩, hz⟩
  rw [Nat.zero_add, cell_of_row _ _ t _ _ (0, 0) h]
  simp [List.getD, ht]

theorem blk_tens {w : World} {B : Nat} {cur : Array Value} {ps : List (Ten × Tq)} (h : w.heap[B]? = some (.cells cur 25 (0, 0))) (hc : cur.toList = (ps.map (·.1)).flatMap tcells) (hs : cur.size = ps.length * 3) (hl : ps.length ≤ 1000) (hh : ∀ p ∈ ps, IsInts w p.1.dv.v p.2.1 ∧ IsInts w p.1.tv.v p.2.2) : TensIn w (.slice (some ⟨B, 0, none⟩) ps.length ps.length) ps := by
  refine ⟨?_, hh⟩
  have e : ps.length = (ps.map (·.1)).length := by rw [List.length_map]
  rw [e]
  exact lit_isLG (te := 25) (bytes := 56) tcells_len h hc (by rw [hs, e]) (by rw [← e]; omega) (by rw [← e]; omega)

theorem two_tens {w : World} {B : Nat} (X Y : Ten) {x y xs ys : List Int} (h : w.heap[B]? = some (.cells #[.int .i64 X.ty, .slice X.dv.a X.dv.n X.dv.c, .slice X.tv.a X.tv.n X.tv.c, .int .i64 Y.ty, .slice Y.dv.a Y.dv.n Y.dv.c, .slice Y.tv.a Y.tv.n Y.tv.c] 25 (0, 0))) (h1 : IsInts w X.dv.v x) (h2 : IsInts w X.tv.v xs) (h3 : IsInts w Y.dv.v y) (h4 : IsInts w Y.tv.v ys) : TensIn w (.slice (some ⟨B, 0, none⟩) 2 2) [(X, (x, xs)), (Y, (y, ys))] := by
  refine blk_tens (ps := [(X, (x, xs)), (Y, (y, ys))]) h rfl rfl (by simp) fun p hp => ?_
  simp only [List.mem_cons, List.not_mem_nil, or_false] at hp
  rcases hp with rfl | rfl
  · exact ⟨h1, h2⟩
  · exact ⟨h3, h4⟩

theorem one_ten {w : World} {B : Nat} (X : Ten) {x xs : List Int} (h : w.heap[B]? = some (.cells #[.int .i64 X.ty, .slice X.dv.a X.dv.n X.dv.c, .slice X.tv.a X.tv.n X.tv.c] 25 (0, 0))) (h1 : IsInts w X.dv.v x) (h2 : IsInts w X.tv.v xs) : TensIn w (.slice (some ⟨B, 0, none⟩) 1 1) [(X, (x, xs))] := by
  refine blk_tens (ps := [(X, (x, xs))]) h rfl rfl (by simp) fun p hp => ?_
  simp only [List.mem_cons, List.not_mem_nil, or_false] at hp
  subst hp
  exact ⟨h1, h2⟩

theorem xy_strs {w : World} {B : Nat} (h : w.heap[B]? = some (.cells #[.string ⟨#[120]⟩, .string ⟨#[121]⟩] 9 (0, 0))) : IsStrs w (.slice (some ⟨B, 0, none⟩) 2 2) [⟨#[120]⟩, ⟨#[121]⟩] := lit_isLG (te := 9) (bytes := 16) (xs := [⟨#[120]⟩, ⟨#[121]⟩]) scell_len h rfl rfl (Nat.le_of_ble_eq_true rfl) (Nat.le_of_ble_eq_true rfl)

def rTy : R (Int × List Int × List Int) → Int
  | .ok (t, _, _) => t
  | .error _ => 0
def rL : R (Int × List Int × List Int) → List Int
  | .ok (_, l, _) => l
  | .error _ => []
def rZ : R (Int × List Int × List Int) → List Int
  | .ok (_, _, z) => z
  | .error _ => []
def rC : R (Int × List Int × List Int) → Int
  | .ok _ => 0
  | .error c => c

/-- However Do ends: a tensor, and a code. -/
theorem do_any {w w' : World} {r : R (Int × List Int × List Int)} {e : Ending} (h : DoQ w r e w') : w.grownBy w' none ∧ ∃ d t : Sl, e = .returned (.tuple #[.agg #[.int .i64 (rTy r), .slice d.a d.n d.c, .slice t.a t.n t.c], .int .i64 (rC r)]) ∧ IsInts w' d.v (rL r) ∧ IsInts w' t.v (rZ r) := by
  obtain ⟨hg, h⟩ := h
  refine ⟨hg, ?_⟩
  cases r with
  | error c => exact ⟨⟨none, 0, 0⟩, ⟨none, 0, 0⟩, h, (owns_nil w' 0).ints, (owns_nil w' 0).ints⟩
  | ok rr =>
    obtain ⟨ty, l, zs⟩ := rr
    obtain ⟨⟨ty', d, t⟩, e1, e2, od, ot⟩ := h
    simp only at e1
    subst e1
    exact ⟨d, t, e2, od.ints, ot.ints⟩

def Told (w : World) (e : Ending) (w' : World) : Prop := ∃ b, e = .returned (.bool b) ∧ w.grownBy w' none

set_option maxRecDepth 100000 in
set_option maxHeartbeats 4000000 in
theorem small12_any (u : Sl) (ps : List (Ten × Tq)) (w : World) (hv : TensIn w u.v ps) : Calls Tryz.prog 8 #[.slice u.a u.n u.c] w (Told w) := by
  obtain ⟨xa, xc, e1, p1, p2, p3⟩ := hv.vals.form
  rw [List.length_map] at e1 p1 p3
  obtain ⟨ua, un, uc⟩ := u
  simp only [Sl.v, Value.slice.injEq] at e1
  obtain ⟨rfl, rfl, rfl⟩ := e1
  have HV := hide hv
  clear hv
  go_enter Tryz.func8, Tryz.ntmps8
  go_wp2_with fail
  go_loopw [3] (fun i wr => w.grownBy wr none ∧ ∃ (k : Nat), k ≤ ps.length ∧ i = .int .i64 k) (fun i _ => ps.length - (intOf i).toNat)
  case atStart => exact ⟨grown_refl _, 0, Nat.zero_le _, rfl⟩
  case round =>
    obtain ⟨hg, k, hk, rfl⟩ := hrel
    have HG := hide hg
    by_cases hlt : k < ps.length
    · obtain ⟨b, off, rfl⟩ := HV.out.vals.addr (k := k) (by rw [List.length_map]; exact hlt)
      obtain ⟨-, -, a2⟩ := (HV.out.more hg).at k hlt
      obtain ⟨⟨ta, tn, tc⟩, hp⟩ : ∃ p, p = ps[k].1.tv := ⟨_, rfl⟩
      rw [← hp] at a2
      simp only at a2
      clear hp hg
      by_cases hb : 600 < tn
      · have hb' : (600 : Int) < tn := by omega
        go_wp2
        go_ret
        exact ⟨_, rfl, HG.out⟩
      · have hb' : ¬ (600 : Int) < tn := by omega
        go_wp2_with fail
        go_roundw
        case rel => exact ⟨HG.out, k + 1, by omega, by go_num⟩
        case measure => simp [intOf]; omega
    · obtain rfl : k = ps.length := by omega
      clear hg
      go_wp2
      go_ret
      exact ⟨_, rfl, HG.out⟩
end Go.Proofs.YtfladhogkhhlcaaGreatDoor

/- mandrellaw12.live, by the walk. -/
namespace Go.Proofs.YtfladhogkhhlcaaGreatDoor
open Go.RowKit

theorem live_mm : mmR 1 1 [1, 2] [2, 1] [1065353216, 1073741824] [1077936128, 1082130432] = .ok (1, [1, 1], [1093664768]) := by kernel_rfl

theorem six (w : World) (o0 o1 o2 o3 o4 o5 : Obj) : ∀ W, W = (((((w.alloc o0).alloc o1).alloc o2).alloc o3).alloc o4).alloc o5 →
    W.heap[w.heap.size]? = some o0 ∧ W.heap[w.heap.size + 1]? = some o1 ∧ W.heap[w.heap.size + 1 + 1]? = some o2 ∧ W.heap[w.heap.size + 1 + 1 + 1]? = some o3 ∧ W.heap[w.heap.size + 1 + 1 + 1 + 1]? = some o4 ∧ W.heap[w.heap.size + 1 + 1 + 1 + 1 + 1]? = some o5 ∧ w.grownBy W none := by
  rintro W rfl
  obtain ⟨a0, z0⟩ := new_alloc o0 (x := w) rfl
  obtain ⟨a1, z1⟩ := new_alloc o1 z0
  obtain ⟨a2, z2⟩ := new_alloc o2 z1
  obtain ⟨a3, z3⟩ := new_alloc o3 z2
  obtain ⟨a4, z4⟩ := new_alloc o4 z3
  obtain ⟨a5, z5⟩ := new_alloc o5 z4
  refine ⟨?_, ?_, ?_, ?_, ?_, a5, ?_⟩
  · exact up_alloc _ (up_alloc _ (up_alloc _ (up_alloc _ (up_alloc _ a0))))
  · exact up_alloc _ (up_alloc _ (up_alloc _ (up_alloc _ a1)))
  · exact up_alloc _ (up_alloc _ (up_alloc _ a2))
  · exact up_alloc _ (up_alloc _ a3)
  · exact up_alloc _ a4
  · exact grown_trans (grown_trans (grown_trans (grown_trans (grown_trans (grown_new _ _) (grown_new _ _)) (grown_new _ _)) (grown_new _ _)) (grown_new _ _)) (grown_new _ _)

set_option maxRecDepth 100000 in
set_option maxHeartbeats 8000000 in
theorem live12_any (w : World) (hl : Laid w) : Calls Tryz.prog 9 #[] w fun e w' => e = .returned (.bool true) ∧ w.grownBy w' none := by
  have HL := hide hl
  clear hl
  obtain ⟨W, hW⟩ : ∃ W, W = (((((w.alloc (.cells #[.string ⟨#[120]⟩, .string ⟨#[121]⟩] 9)).alloc (.cells #[.int .i64 1, .int .i64 2] 3)).alloc (.cells #[.int .i64 1065353216, .int .i64 1073741824] 2)).alloc (.cells #[.int .i64 2, .int .i64 1] 3)).alloc (.cells #[.int .i64 1077936128, .int .i64 1082130432] 2)).alloc (.cells #[.int .i64 1, .slice (some ⟨w.heap.size + 1, 0, none⟩) 2 2, .slice (some ⟨w.heap.size + 1 + 1, 0, none⟩) 2 2, .int .i64 1, .slice (some ⟨w.heap.size + 1 + 1 + 1, 0, none⟩) 2 2, .slice (some ⟨w.heap.size + 1 + 1 + 1 + 1, 0, none⟩) 2 2] 25) := ⟨_, rfl⟩
  obtain ⟨b0, b1, b2, b3, b4, b5, gW⟩ := six w _ _ _ _ _ _ W hW
  have GW := hide gW
  have E1 := hide (matmul_do ⟨#[122]⟩ ⟨some ⟨w.heap.size, 0, none⟩, 2, 2⟩ ⟨#[120]⟩ ⟨#[121]⟩ (by kernel_rfl) (by decide) ⟨some ⟨w.heap.size + 1 + 1 + 1 + 1 + 1, 0, none⟩, 2, 2⟩ ⟨1, ⟨some ⟨w.heap.size + 1, 0, none⟩, 2, 2⟩, ⟨some ⟨w.heap.size + 1 + 1, 0, none⟩, 2, 2⟩⟩ ⟨1, ⟨some ⟨w.heap.size + 1 + 1 + 1, 0, none⟩, 2, 2⟩, ⟨some ⟨w.heap.size + 1 + 1 + 1 + 1, 0, none⟩, 2, 2⟩⟩ [1, 2] [2, 1] [1065353216, 1073741824] [1077936128, 1082130432] W ⟨[], 1, 2, 2, 1, by simp, rfl, rfl⟩ (HL.out.more gW) (xy_strs b0) (two_tens _ _ b5 (blk_ints (zs := [1, 2]) b1 (by simp) (by simp)) (blk_ints (zs := [1065353216, 1073741824]) b2 (by simp) (by simp)) (blk_ints (zs := [2, 1]) b3 (by simp) (by simp)) (blk_ints (zs := [1077936128, 1082130432]) b4 (by simp) (by simp))))
  rw [show mmR (Ten.ty ⟨1, ⟨some ⟨w.heap.size + 1, 0, none⟩, 2, 2⟩, ⟨some ⟨w.heap.size + 1 + 1, 0, none⟩, 2, 2⟩⟩) (Ten.ty ⟨1, ⟨some ⟨w.heap.size + 1 + 1 + 1, 0, none⟩, 2, 2⟩, ⟨some ⟨w.heap.size + 1 + 1 + 1 + 1, 0, none⟩, 2, 2⟩⟩) [1, 2] [2, 1] [1065353216, 1073741824] [1077936128, 1082130432] = .ok (1, [1, 1], [1093664768]) from live_mm] at E1
  unfold nval nilS at E1
  simp only at E1
  clear b0 b1 b2 b3 b4 b5 gW
  go_enter Tryz.func9, Tryz.ntmps9
  go_wp2_with fail
  rw [← hW]
  clear hW
  refine E1.out.mono ?_
  rintro e w1 ⟨hg1, ⟨ty, ⟨da, dn, dc⟩, ⟨ta, tn, tc⟩⟩, ht, rfl, od, ot⟩
  simp only at ht
  subst ht
  unfold tval
  simp only
  obtain ⟨p, hp⟩ : ∃ p, p = ((w1.alloc (.cells #[.int .i64 1, .slice da dn dc, .slice ta tn tc] 25)).alloc (.cells #[.int .i64 1, .int .i64 1] 3)).alloc (.cells #[.int .i64 1093664768] 2) := ⟨_, rfl⟩
  obtain ⟨c0, c1, c2⟩ := three_boxes w1 (.cells #[.int .i64 1, .slice da dn dc, .slice ta tn tc] 25) (.cells #[.int .i64 1, .int .i64 1] 3) (.cells #[.int .i64 1093664768] 2)
  have gp : w1.grownBy p none := by rw [hp]; exact grown_trans (grown_trans (grown_new _ _) (grown_new _ _)) (grown_new _ _)
  rw [← hp] at c0 c1 c2
  have x0 := ten_cells (heap_alloc_new w1 (.cells #[.int .i64 1, .slice da dn dc, .slice ta tn tc] 25))
  obtain ⟨x0, x1, x2⟩ := x0
  have SA := hide (sameten_eq 1 _ _ _ _ [1, 1] [1093664768] p (od.ints.more gp) (ot.ints.more gp) (blk_ints (zs := [1, 1]) c1 (by simp) (by simp)) (blk_ints (zs := [1093664768]) c2 (by simp) (by simp)))
  simp only [Sl.v, List.length_cons, List.length_nil] at SA
  have GP := hide (grown_trans (grown_trans GW.out hg1) gp)
  clear c0 c1 c2 gp hg1 od ot E1
  go_wp2_with (first | (go_at_call 12; rw [← hp]; refine SA.out.mono ?_; rintro e w7 ⟨rfl, hg7⟩) | fail)
  go_ret
  exact ⟨rfl, grown_trans GP.out hg7⟩
end Go.Proofs.YtfladhogkhhlcaaGreatDoor
