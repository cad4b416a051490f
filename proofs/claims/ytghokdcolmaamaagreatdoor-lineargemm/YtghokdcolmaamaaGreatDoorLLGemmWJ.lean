/- Law LinearGemm, by the walk. -/
import Derived.Test.YtghokdcolmaamaaGreatDoorPartX
import Derived.Test.YtghokdcolmaamaaGreatDoorPartY
namespace Go.Proofs.YtghokdcolmaamaaGreatDoor
open Go.RowKit

set_option maxRecDepth 100000 in
set_option maxHeartbeats 16000000 in
theorem linearGemm_walk (X : Ten) {x xs : List Int} (Y : Ten) {y ys : List Int} (w : World) (hl : Laid w) (hx : IsInts w X.dv.v x) (hxs : IsInts w X.tv.v xs) (hy : IsInts w Y.dv.v y) (hys : IsInts w Y.tv.v ys) : Calls Tryz.prog 5 #[tval X, tval Y] w fun e w' => e = .returned (.bool true) ∧ Below w.heap.size w w' := by
  have HL := hide hl
  have HX := hide hx
  have HXS := hide hxs
  have HY := hide hy
  have HYS := hide hys
  obtain ⟨_, _, ex, -⟩ := hx.sl
  obtain ⟨_, _, ey, -⟩ := hy.sl
  clear hl hx hxs hy hys
  obtain ⟨tx, ⟨xa, xn, xc⟩, ⟨ua, un, uc⟩⟩ := X
  obtain ⟨ty, ⟨ya, yn, yc⟩, ⟨va, vn, vc⟩⟩ := Y
  simp only [Sl.v, Value.slice.injEq] at ex ey
  obtain ⟨-, rfl, -⟩ := ex
  obtain ⟨-, rfl, -⟩ := ey
  unfold tval
  simp only [Sl.v] at HX HXS HY HYS ⊢
  obtain ⟨w0, hw0⟩ : ∃ w0, w0 = (w.alloc (.cells #[.int .i64 tx, .slice xa x.length xc, .slice ua un uc] 25)).alloc (.cells #[.int .i64 ty, .slice ya y.length yc, .slice va vn vc] 25) := ⟨_, rfl⟩
  have hbx := two_boxes w (.cells #[.int .i64 tx, .slice xa x.length xc, .slice ua un uc] 25) (.cells #[.int .i64 ty, .slice ya y.length yc, .slice va vn vc] 25)
  rw [← hw0] at hbx
  have g0 : w.grownBy w0 none := by rw [hw0]; exact grown_trans (grown_new _ _) (grown_new _ _)
  have Z0 : w0.heap.size = w.heap.size + 1 + 1 := by rw [hw0]; simp
  have BX : Hid (∀ wx, w0.grownBy wx none → wx.heap[w.heap.size]? = some (.cells #[.int .i64 tx, .slice xa x.length xc, .slice ua un uc] 25 (0, 0)) ∧ wx.heap[w.heap.size + 1]? = some (.cells #[.int .i64 ty, .slice ya y.length yc, .slice va vn vc] 25 (0, 0))) := fun wx hx => ⟨box_kept hbx.1 hx, box_kept hbx.2 hx⟩
  have LV : Hid (∀ wx, w.grownBy wx none → Calls Tryz.prog 9 #[] wx fun e w' => e = .returned (.bool true) ∧ wx.grownBy w' none) := fun wx hx => live12_any wx (HL.out.more hx)
  obtain ⟨wS, hwS⟩ : ∃ wS, wS = w0.alloc (.cells #[.int .i64 tx, .slice xa x.length xc, .slice ua un uc, .int .i64 ty, .slice ya y.length yc, .slice va vn vc] 25) := ⟨_, rfl⟩
  obtain ⟨bS, -⟩ := new_alloc (.cells #[.int .i64 tx, .slice xa x.length xc, .slice ua un uc, .int .i64 ty, .slice ya y.length yc, .slice va vn vc] 25) Z0
  rw [← hwS] at bS
  have gS : w0.grownBy wS none := by rw [hwS]; exact grown_new _ _
  have GS := hide (grown_trans g0 gS)
  have GS0 := hide gS
  have SM := hide (small12_any ⟨some ⟨w.heap.size + 1 + 1, 0, none⟩, 2, 2⟩ _ wS (two_tens ⟨tx, ⟨xa, x.length, xc⟩, ⟨ua, un, uc⟩⟩ ⟨ty, ⟨ya, y.length, yc⟩, ⟨va, vn, vc⟩⟩ bS (HX.out.more GS.out) (HXS.out.more GS.out) (HY.out.more GS.out) (HYS.out.more GS.out)))
  simp only at SM
  obtain ⟨x0, x1, x2⟩ := ten_cells hbx.1
  obtain ⟨y0, y1, y2⟩ := ten_cells hbx.2
  rw [hw0] at x0 x1 x2 y0 y1 y2
  have G0 := hide g0
  clear hbx bS Z0 g0 gS
  go_enter Tryz.func5, Tryz.ntmps5
  go_wp2_with fail
  rw [← hw0, ← hwS]
  clear hw0 hwS x0 x1 x2 y0 y1 y2
  refine SM.out.mono ?_
  rintro e w1 ⟨bb, rfl, hg1⟩
  have G1 := hide (grown_trans GS.out hg1)
  have G01 := hide (grown_trans GS0.out hg1)
  have L1 := hide (LV.out w1 G1.out)
  obtain ⟨x0, x1, x2⟩ := ten_cells (BX.out w1 G01.out).1
  obtain ⟨y0, y1, y2⟩ := ten_cells (BX.out w1 G01.out).2
  clear hg1 SM
  by_cases hgo : bb = true ∧ x.length = 2 ∧ y.length = 2
  · obtain ⟨rfl, h1, h2⟩ := hgo
    have X2 := hide h1
    have Y2 := hide h2
    have b1 : ((x.length : Int) != 2) = false := by simp [h1]
    have b2 : ((y.length : Int) != 2) = false := by simp [h2]
    obtain ⟨wT, hwT⟩ : ∃ wT, wT = (w1.alloc (.cells #[.string ⟨#[120]⟩, .string ⟨#[121]⟩] 9)).alloc (.cells #[.int .i64 tx, .slice xa x.length xc, .slice ua un uc, .int .i64 ty, .slice ya y.length yc, .slice va vn vc] 25) := ⟨_, rfl⟩
    have hbT := two_boxes w1 (.cells #[.string ⟨#[120]⟩, .string ⟨#[121]⟩] 9) (.cells #[.int .i64 tx, .slice xa x.length xc, .slice ua un uc, .int .i64 ty, .slice ya y.length yc, .slice va vn vc] 25)
    rw [← hwT] at hbT
    have gT : w1.grownBy wT none := by rw [hwT]; exact grown_trans (grown_new _ _) (grown_new _ _)
    have GT := hide (grown_trans G1.out gT)
    have ht : Twin x y := by
      match x, y, h1, h2 with
      | [p0, q0], [p1, q1], _, _ => exact ⟨[], p0, q0, p1, q1, by simp, rfl, rfl⟩
    have E1 := hide (matmul_do ⟨#[122]⟩ ⟨some ⟨w1.heap.size, 0, none⟩, 2, 2⟩ ⟨#[120]⟩ ⟨#[121]⟩ (by kernel_rfl) (by decide) ⟨some ⟨w1.heap.size + 1, 0, none⟩, 2, 2⟩ ⟨tx, ⟨xa, x.length, xc⟩, ⟨ua, un, uc⟩⟩ ⟨ty, ⟨ya, y.length, yc⟩, ⟨va, vn, vc⟩⟩ x y xs ys wT ht (HL.out.more GT.out) (xy_strs hbT.1) (two_tens _ _ hbT.2 (HX.out.more GT.out) (HXS.out.more GT.out) (HY.out.more GT.out) (HYS.out.more GT.out)))
    unfold nval nilS at E1
    simp only at E1
    obtain ⟨r, hr⟩ : ∃ r, r = mmR tx ty x y xs ys := ⟨_, rfl⟩
    have HR := hide hr
    rw [← hr] at E1
    have G0T := hide (grown_trans G01.out gT)
    obtain ⟨a0, a1, a2⟩ := ten_cells (BX.out _ (grown_trans G01.out (grown_new w1 (.cells #[.string ⟨#[120]⟩, .string ⟨#[121]⟩] 9)))).1
    obtain ⟨c0, c1, c2⟩ := ten_cells (BX.out _ (grown_trans G01.out (grown_new w1 (.cells #[.string ⟨#[120]⟩, .string ⟨#[121]⟩] 9)))).2
    clear hr hbT gT h1 h2 ht
    go_wp2_with fail
    rw [← hwT]
    clear hwT x0 x1 x2 y0 y1 y2 a0 a1 a2 c0 c1 c2
    refine E1.out.mono ?_
    intro e w2 hq
    obtain ⟨hg2, ⟨aa, an, ac⟩, ⟨ad, am, ak⟩, rfl, ia, ja⟩ := do_any hq
    have IA := hide ia
    have JA := hide ja
    have G2 := hide (grown_trans GT.out hg2)
    have G02 := hide (grown_trans G0T.out hg2)
    clear hq hg2 E1 ia ja
    simp only
    obtain ⟨p2, hp2⟩ : ∃ W, W = w2.alloc (.cells #[.int .i64 (rTy r), .slice aa an ac, .slice ad am ak] 25) := ⟨_, rfl⟩
    obtain ⟨q2, hq2⟩ : ∃ W, W = p2.alloc (.cells #[.string ⟨#[120]⟩, .string ⟨#[121]⟩] 9) := ⟨_, rfl⟩
    obtain ⟨s2, hs2⟩ : ∃ W, W = q2.alloc (.cells #[.int .i64 tx, .slice xa x.length xc, .slice ua un uc, .int .i64 ty, .slice ya y.length yc, .slice va vn vc] 25) := ⟨_, rfl⟩
    obtain ⟨bp, zp⟩ := new_alloc (.cells #[.int .i64 (rTy r), .slice aa an ac, .slice ad am ak] 25) (x := w2) rfl
    rw [← hp2] at bp zp
    obtain ⟨bq, zq⟩ := new_alloc (.cells #[.string ⟨#[120]⟩, .string ⟨#[121]⟩] 9) zp
    rw [← hq2] at bq zq
    obtain ⟨bs, -⟩ := new_alloc (.cells #[.int .i64 tx, .slice xa x.length xc, .slice ua un uc, .int .i64 ty, .slice ya y.length yc, .slice va vn vc] 25) zq
    rw [← hs2] at bs
    have gp : w2.grownBy p2 none := by rw [hp2]; exact grown_new _ _
    have gq : p2.grownBy q2 none := by rw [hq2]; exact grown_new _ _
    have gs : q2.grownBy s2 none := by rw [hs2]; exact grown_new _ _
    have GD := hide (grown_trans (grown_trans gp gq) gs)
    have GA := hide (grown_trans G2.out GD.out)
    have E2 := hide (gemm_do ⟨#[122]⟩ ⟨some ⟨w2.heap.size + 1, 0, none⟩, 2, 2⟩ ⟨#[120]⟩ ⟨#[121]⟩ (by kernel_rfl) (by decide) ⟨some ⟨w2.heap.size + 1 + 1, 0, none⟩, 2, 2⟩ ⟨tx, ⟨xa, x.length, xc⟩, ⟨ua, un, uc⟩⟩ ⟨ty, ⟨ya, y.length, yc⟩, ⟨va, vn, vc⟩⟩ x y xs ys s2 X2.out Y2.out (HL.out.more GA.out) (xy_strs (box_kept bq gs)) (two_tens _ _ bs (HX.out.more GA.out) (HXS.out.more GA.out) (HY.out.more GA.out) (HYS.out.more GA.out)))
    unfold nval nilS at E2
    simp only at E2
    rw [← HR.out] at E2
    obtain ⟨x0, x1, x2⟩ := ten_cells (BX.out q2 (grown_trans G02.out (grown_trans gp gq))).1
    obtain ⟨y0, y1, y2⟩ := ten_cells (BX.out q2 (grown_trans G02.out (grown_trans gp gq))).2
    rw [hq2, hp2] at x0 x1 x2 y0 y1 y2
    have BP := hide (box_kept bp (grown_trans gq gs))
    clear bp bq bs zp zq gp gq gs
    go_wp2_with fail
    rw [← hp2, ← hq2, ← hs2]
    clear hp2 hq2 hs2 x0 x1 x2 y0 y1 y2
    refine E2.out.mono ?_
    intro e w3 hq
    obtain ⟨hg3, ⟨ba, bn, bc⟩, ⟨bd, bm, bk⟩, rfl, ib, jb⟩ := do_any hq
    simp only
    obtain ⟨p3, hp3⟩ : ∃ W, W = w3.alloc (.cells #[.int .i64 (rTy r), .slice ba bn bc, .slice bd bm bk] 25) := ⟨_, rfl⟩
    have bp3 := heap_alloc_new w3 (.cells #[.int .i64 (rTy r), .slice ba bn bc, .slice bd bm bk] 25)
    rw [← hp3] at bp3
    have gp3 : w3.grownBy p3 none := by rw [hp3]; exact grown_new _ _
    have D3 := grown_trans (grown_trans GD.out hg3) gp3
    have SA := hide (sameten_eq (rTy r) _ _ _ _ (rL r) (rZ r) p3 (IA.out.more D3) (JA.out.more D3) (ib.more gp3) (jb.more gp3))
    simp only [Sl.v] at SA
    obtain ⟨x0, x1, x2⟩ := ten_cells (box_kept BP.out (grown_trans hg3 gp3))
    obtain ⟨y0, y1, y2⟩ := ten_cells bp3
    rw [hp3] at x0 x1 x2 y0 y1 y2
    have GP := hide (grown_trans (grown_trans GA.out hg3) gp3)
    clear bp3 gp3 hg3 hq ib jb D3 E2
    go_wp2_with (first | (go_at_call 12; rw [← hp3]; refine SA.out.mono ?_; rintro e w7 ⟨rfl, hg7⟩; have L7 := hide (LV.out w7 (grown_trans GP.out hg7))) | fail)
    refine L7.out.mono ?_
    rintro e w8 ⟨rfl, hg8⟩
    go_wp2
    go_ret
    exact ⟨rfl, grown_below (grown_trans (grown_trans GP.out hg7) hg8)⟩
  · have hcase : bb = false ∨ (bb = true ∧ ((x.length : Int) != 2) = true) ∨ (bb = true ∧ ((x.length : Int) != 2) = false ∧ ((y.length : Int) != 2) = true) := by
      cases bb with
      | false => exact .inl rfl
      | true =>
        by_cases h1 : x.length = 2
        · by_cases h2 : y.length = 2
          · exact absurd ⟨rfl, h1, h2⟩ hgo
          · exact .inr (.inr ⟨rfl, by simp [h1], by simpa using (fun h => h2 (by omega) : ¬ (y.length : Int) = 2)⟩)
        · exact .inr (.inl ⟨rfl, by simpa using (fun h => h1 (by omega) : ¬ (x.length : Int) = 2)⟩)
    clear hgo
    rcases hcase with rfl | ⟨rfl, b1⟩ | ⟨rfl, b1, b2⟩
    all_goals
      go_wp2_with fail
      refine L1.out.mono ?_
      rintro e w2 ⟨rfl, hg2⟩
      go_wp2
      go_ret
      exact ⟨rfl, grown_below (grown_trans G1.out hg2)⟩
end Go.Proofs.YtghokdcolmaamaaGreatDoor
