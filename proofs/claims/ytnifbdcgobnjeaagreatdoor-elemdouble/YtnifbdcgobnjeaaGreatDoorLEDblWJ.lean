/- Law ElemDouble, by the walk. -/
import Derived.Test.YtnifbdcgobnjeaaGreatDoorEDblJ
namespace Go.Proofs.YtnifbdcgobnjeaaGreatDoor
open Go.RowKit

def rTy : R (Int × List Int × List Int) → Int
  | .ok (t, _, _) => t
  | .error _ => 0
def rL : R (Int × List Int × List Int) → List Int
  | .ok (_, l, _) => l
  | .error _ => []
def rZ : R (Int × List Int × List Int) → List Int
  | .ok (_, _, z) => z
  | .error _ => []
def rC : R (Int × List Int × List Int) → Int
  | .ok _ => 0
  | .error c => c

/-- However Do ends: a tensor, and a code. -/
theorem do_any {w w' : World} {r : R (Int × List Int × List Int)} {e : Ending} (h : DoQ w r e w') : w.grownBy w' none ∧ ∃ d t : Sl, e = .returned (.tuple #[.agg #[.int .i64 (rTy r), .slice d.a d.n d.c, .slice t.a t.n t.c], .int .i64 (rC r)]) ∧ IsInts w' d.v (rL r) ∧ IsInts w' t.v (rZ r) := by
  obtain ⟨hg, h⟩ := h
  refine ⟨hg, ?_⟩
  cases r with
  | error c => exact ⟨⟨none, 0, 0⟩, ⟨none, 0, 0⟩, h, (owns_nil w' 0).ints, (owns_nil w' 0).ints⟩
  | ok rr =>
    obtain ⟨ty, l, zs⟩ := rr
    obtain ⟨⟨ty', d, t⟩, e1, e2, od, ot⟩ := h
    simp only at e1
    subst e1
    exact ⟨d, t, e2, od.ints, ot.ints⟩

set_option maxRecDepth 100000 in
set_option maxHeartbeats 16000000 in
theorem elemDouble_walk (X : Ten) {x xs : List Int} (w : World) (hl : Laid w) (hx : IsInts w X.dv.v x) (hxs : IsInts w X.tv.v xs) : Calls Tryz.prog 3 #[tval X] w fun e w' => e = .returned (.bool true) ∧ Below w.heap.size w w' := by
  have HL := hide hl
  have HX := hide hx
  have HXS := hide hxs
  clear hl hx hxs
  obtain ⟨tx, ⟨xa, xn, xc⟩, ⟨ua, un, uc⟩⟩ := X
  unfold tval
  simp only [Sl.v] at HX HXS ⊢
  obtain ⟨w0, hw0⟩ : ∃ w0, w0 = w.alloc (.cells #[.int .i64 tx, .slice xa xn xc, .slice ua un uc] 25) := ⟨_, rfl⟩
  obtain ⟨b0, z0⟩ := new_alloc (.cells #[.int .i64 tx, .slice xa xn xc, .slice ua un uc] 25) (x := w) rfl
  rw [← hw0] at b0 z0
  have g0 : w.grownBy w0 none := by rw [hw0]; exact grown_new _ _
  have G0 := hide g0
  have BX : Hid (∀ wx, w0.grownBy wx none → wx.heap[w.heap.size]? = some (.cells #[.int .i64 tx, .slice xa xn xc, .slice ua un uc] 25 (0, 0))) := fun wx hx => box_kept b0 hx
  have LV : Hid (∀ wx, w.grownBy wx none → Calls Tryz.prog 6 #[] wx fun e w' => e = .returned (.bool true) ∧ wx.grownBy w' none) := fun wx hx => live9_any wx (HL.out.more hx)
  by_cases ht : tx = 1
  · subst ht
    obtain ⟨wS, hwS⟩ : ∃ wS, wS = w0.alloc (.cells #[.int .i64 1, .slice xa xn xc, .slice ua un uc] 25) := ⟨_, rfl⟩
    obtain ⟨bS, -⟩ := new_alloc (.cells #[.int .i64 1, .slice xa xn xc, .slice ua un uc] 25) z0
    rw [← hwS] at bS
    have gS : w0.grownBy wS none := by rw [hwS]; exact grown_new _ _
    have GS := hide (grown_trans g0 gS)
    have GS0 := hide gS
    have SM := hide (small9_any ⟨some ⟨w.heap.size + 1, 0, none⟩, 1, 1⟩ [(⟨1, ⟨xa, xn, xc⟩, ⟨ua, un, uc⟩⟩, (x, xs))] wS (blk_tens (ps := [(⟨1, ⟨xa, xn, xc⟩, ⟨ua, un, uc⟩⟩, (x, xs))]) bS rfl rfl (by simp) fun p hp => by
      simp only [List.mem_cons, List.not_mem_nil, or_false] at hp
      subst hp
      exact ⟨HX.out.more GS.out, HXS.out.more GS.out⟩))
    simp only at SM
    clear b0 bS z0 g0 gS
    go_enter Tryz.func3, Tryz.ntmps3
    go_wp2_with fail
    rw [← hw0, ← hwS]
    clear hw0 hwS
    refine SM.out.mono ?_
    rintro e w1 ⟨b, rfl, hg1⟩
    have G1 := hide (grown_trans GS.out hg1)
    have G01 := hide (grown_trans GS0.out hg1)
    have L1 := hide (LV.out w1 G1.out)
    clear hg1 SM
    cases b with
    | false =>
      go_wp2_with fail
      refine L1.out.mono ?_
      rintro e w2 ⟨rfl, hg2⟩
      go_wp2
      go_ret
      exact ⟨rfl, grown_below (grown_trans G1.out hg2)⟩
    | true =>
      obtain ⟨wT, hwT⟩ : ∃ wT, wT = w1.alloc (.cells #[.string ⟨#[120]⟩, .string ⟨#[121]⟩] 9) := ⟨_, rfl⟩
      obtain ⟨bT, zT⟩ := new_alloc (.cells #[.string ⟨#[120]⟩, .string ⟨#[121]⟩] 9) (x := w1) rfl
      rw [← hwT] at bT zT
      have gT : w1.grownBy wT none := by rw [hwT]; exact grown_new _ _
      obtain ⟨wV, hwV⟩ : ∃ wV, wV = wT.alloc (.cells #[.int .i64 1, .slice xa xn xc, .slice ua un uc, .int .i64 1, .slice xa xn xc, .slice ua un uc] 25) := ⟨_, rfl⟩
      obtain ⟨bV, zV⟩ := new_alloc (.cells #[.int .i64 1, .slice xa xn xc, .slice ua un uc, .int .i64 1, .slice xa xn xc, .slice ua un uc] 25) zT
      rw [← hwV] at bV zV
      have gV : wT.grownBy wV none := by rw [hwV]; exact grown_new _ _
      have GV := hide (grown_trans G1.out (grown_trans gT gV))
      have G0V := hide (grown_trans G01.out (grown_trans gT gV))
      have E1 := hide (two_call (B := w1.heap.size + 1) ⟨#[65, 100, 100]⟩ (by simp) wAdd (by kernel_rfl) (HL.out.more GV.out) (box_kept bT gV) ⟨1, ⟨xa, xn, xc⟩, ⟨ua, un, uc⟩⟩ ⟨1, ⟨xa, xn, xc⟩, ⟨ua, un, uc⟩⟩ x x xs xs bV (HX.out.more GV.out) (HXS.out.more GV.out) (HX.out.more GV.out) (HXS.out.more GV.out) add1_rng)
      simp only at E1
      rw [dbl_law] at E1
      obtain ⟨x0, x1, x2⟩ := ten_cells (BX.out wT (grown_trans G01.out gT))
      rw [hwT] at x0 x1 x2
      obtain ⟨r, hr⟩ : ∃ r, r = el2 ⟨#[77, 117, 108]⟩ 2 1 1 x [] xs [1073741824] := ⟨_, rfl⟩
      have HR := hide hr
      rw [← hr] at E1
      clear bT zT gT bV zV gV hr
      go_wp2_with fail
      rw [← hwT, ← hwV]
      clear hwT hwV x0 x1 x2
      refine E1.out.mono ?_
      intro e w2 hq
      obtain ⟨hg2, ⟨aa, an, ac⟩, ⟨ad, am, ak⟩, rfl, ia, ja⟩ := do_any hq
      have IA := hide ia
      have JA := hide ja
      have G2 := hide (grown_trans GV.out hg2)
      have G02 := hide (grown_trans G0V.out hg2)
      clear hq hg2 E1 ia ja
      simp only
      obtain ⟨p2, hp2⟩ : ∃ W, W = w2.alloc (.cells #[.int .i64 (rTy r), .slice aa an ac, .slice ad am ak] 25) := ⟨_, rfl⟩
      obtain ⟨q2, hq2⟩ : ∃ W, W = p2.alloc (.cells #[.string ⟨#[120]⟩, .string ⟨#[121]⟩] 9) := ⟨_, rfl⟩
      obtain ⟨r2, hr2⟩ : ∃ W, W = q2.alloc (.cells #[.int .i64 1073741824] 2) := ⟨_, rfl⟩
      obtain ⟨s2, hs2⟩ : ∃ W, W = r2.alloc (.cells #[.int .i64 1, .slice xa xn xc, .slice ua un uc, .int .i64 1, .slice none 0 0, .slice (some ⟨w2.heap.size + 1 + 1, 0, none⟩) 1 1] 25) := ⟨_, rfl⟩
      obtain ⟨bp, zp⟩ := new_alloc (.cells #[.int .i64 (rTy r), .slice aa an ac, .slice ad am ak] 25) (x := w2) rfl
      rw [← hp2] at bp zp
      obtain ⟨bq, zq⟩ := new_alloc (.cells #[.string ⟨#[120]⟩, .string ⟨#[121]⟩] 9) zp
      rw [← hq2] at bq zq
      obtain ⟨br, zr⟩ := new_alloc (.cells #[.int .i64 1073741824] 2) zq
      rw [← hr2] at br zr
      obtain ⟨bs, -⟩ := new_alloc (.cells #[.int .i64 1, .slice xa xn xc, .slice ua un uc, .int .i64 1, .slice none 0 0, .slice (some ⟨w2.heap.size + 1 + 1, 0, none⟩) 1 1] 25) zr
      rw [← hs2] at bs
      have gp : w2.grownBy p2 none := by rw [hp2]; exact grown_new _ _
      have gq : p2.grownBy q2 none := by rw [hq2]; exact grown_new _ _
      have gr : q2.grownBy r2 none := by rw [hr2]; exact grown_new _ _
      have gs : r2.grownBy s2 none := by rw [hs2]; exact grown_new _ _
      have GD := hide (grown_trans (grown_trans (grown_trans gp gq) gr) gs)
      have GA := hide (grown_trans G2.out GD.out)
      have i1 : IsInts s2 (.slice (some ⟨w2.heap.size + 1 + 1, 0, none⟩) 1 1) [1073741824] := by
        refine ⟨_, _, rfl, Nat.le_refl _, by decide, by decide, (fun h => by cases h), fun _ => ⟨w2.heap.size + 1 + 1, 0, rfl, fun t ht => ?_⟩, fun z h => by simp at h; omega⟩
        obtain rfl : t = 0 := by simp at ht; omega
        exact (cell_of_row _ _ 0 _ _ (0, 0) (box_kept br gs)).trans rfl
      have E2 := hide (two_call (B := w2.heap.size + 1 + 1 + 1) ⟨#[77, 117, 108]⟩ (by simp) wMul (by kernel_rfl) (HL.out.more GA.out) (box_kept bq (grown_trans gr gs)) ⟨1, ⟨xa, xn, xc⟩, ⟨ua, un, uc⟩⟩ ⟨1, ⟨none, 0, 0⟩, ⟨some ⟨w2.heap.size + 1 + 1, 0, none⟩, 1, 1⟩⟩ x [] xs [1073741824] bs (HX.out.more GA.out) (HXS.out.more GA.out) (owns_nil s2 0).ints i1 mul1_rng)
      simp only at E2
      rw [← HR.out] at E2
      obtain ⟨x0, x1, x2⟩ := ten_cells (BX.out q2 (grown_trans G02.out (grown_trans gp gq)))
      rw [hq2, hp2] at x0 x1 x2
      have BP := hide (box_kept bp (grown_trans (grown_trans gq gr) gs))
      clear bp bq br bs zp zq zr gp gq gr gs i1
      go_wp2_with fail
      rw [← hp2, ← hq2, ← hr2, ← hs2]
      clear hp2 hq2 hr2 hs2 x0 x1 x2
      refine E2.out.mono ?_
      intro e w3 hq
      obtain ⟨hg3, ⟨ba, bn, bc⟩, ⟨bd, bm, bk⟩, rfl, ib, jb⟩ := do_any hq
      simp only
      obtain ⟨p3, hp3⟩ : ∃ W, W = w3.alloc (.cells #[.int .i64 (rTy r), .slice ba bn bc, .slice bd bm bk] 25) := ⟨_, rfl⟩
      have bp3 := heap_alloc_new w3 (.cells #[.int .i64 (rTy r), .slice ba bn bc, .slice bd bm bk] 25)
      rw [← hp3] at bp3
      have gp3 : w3.grownBy p3 none := by rw [hp3]; exact grown_new _ _
      have D3 := grown_trans (grown_trans GD.out hg3) gp3
      have SA := hide (sameten_eq (rTy r) _ _ _ _ (rL r) (rZ r) p3 (IA.out.more D3) (JA.out.more D3) (ib.more gp3) (jb.more gp3))
      simp only [Sl.v] at SA
      obtain ⟨x0, x1, x2⟩ := ten_cells (box_kept BP.out (grown_trans hg3 gp3))
      obtain ⟨y0, y1, y2⟩ := ten_cells bp3
      rw [hp3] at x0 x1 x2 y0 y1 y2
      have GP := hide (grown_trans (grown_trans GA.out hg3) gp3)
      clear bp3 gp3 hg3 hq ib jb D3 E2
      go_wp2_with (first | (go_at_call 8; rw [← hp3]; refine SA.out.mono ?_; rintro e w7 ⟨rfl, hg7⟩; have L7 := hide (LV.out w7 (grown_trans GP.out hg7))) | fail)
      refine L7.out.mono ?_
      rintro e w8 ⟨rfl, hg8⟩
      go_wp2
      go_ret
      exact ⟨rfl, grown_below (grown_trans (grown_trans GP.out hg7) hg8)⟩
  · have hb : (tx != 1) = true := by simpa using ht
    have L1 := hide (LV.out w0 g0)
    clear b0 z0 ht
    go_enter Tryz.func3, Tryz.ntmps3
    go_wp2_with fail
    rw [← hw0]
    clear hw0
    refine L1.out.mono ?_
    rintro e w2 ⟨rfl, hg2⟩
    go_wp2
    go_ret
    exact ⟨rfl, grown_below (grown_trans G0.out hg2)⟩
end Go.Proofs.YtnifbdcgobnjeaaGreatDoor
