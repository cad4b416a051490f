/- ViewTurns, by the walk. -/
import Derived.Test.YtankpkbneojgdaaVRTrans
import Derived.Test.YtankpkbneojgdaaVRShape
import Derived.Test.YtankpkbneojgdaaVRWhole
import Derived.Test.YtankpkbneojgdaaVSpoil
import Derived.Test.YtankpkbneojgdaaVLive
namespace Go.Proofs.Ytankpkbneojgdaa
open Go.RowKit

set_option maxHeartbeats 800000 in
theorem vsame_any (a b : Value) (off : Int) (ds ss : List Int) (w : World) (ha : IsView w a off ds ss) (hb : IsView w b off ds ss) :
    Calls Try.prog 11 #[a, b] w fun e w' => e = .returned (.bool true) ∧ w.grownBy w' none := by
  obtain ⟨d1, s1, rfl, hd1, hs1, -, -⟩ := ha
  obtain ⟨d2, s2, rfl, hd2, hs2, -, -⟩ := hb
  obtain ⟨w0, hw0⟩ : ∃ w0, w0 = (w.alloc (.cells #[.int .i64 off, d1, s1] 24)).alloc (.cells #[.int .i64 off, d2, s2] 24) := ⟨_, rfl⟩
  have g0 : w.grownBy w0 none := by rw [hw0]; exact grown_trans (grown_new _ _) (grown_new _ _)
  have hbx := two_boxes w (.cells #[.int .i64 off, d1, s1] 24) (.cells #[.int .i64 off, d2, s2] 24)
  rw [← hw0] at hbx
  have c1 := same_any d1 d2 ds ds w0 (hd1.more g0) (hd2.more g0)
  rw [decide_eq_true rfl] at c1
  have C1 := hide c1
  have HS1 := hide hs1
  have HS2 := hide hs2
  have BX := hide hbx
  clear c1 hs1 hs2 hd1 hd2 hbx
  go_enter Try.func11, Try.ntmps11
  go_wp2_with fail
  rw [← hw0]
  clear hw0
  refine C1.out.mono ?_
  rintro e w1 ⟨rfl, hg1⟩
  obtain ⟨x0, x1, x2, -, -, -⟩ := box_cells (box_kept BX.out.1 hg1)
  obtain ⟨y0, y1, y2, -, -, -⟩ := box_cells (box_kept BX.out.2 hg1)
  have c2 := same_any s1 s2 ss ss w1 (HS1.out.more (grown_trans g0 hg1)) (HS2.out.more (grown_trans g0 hg1))
  rw [decide_eq_true rfl] at c2
  have C2 := hide c2
  clear c2
  go_wp2_with fail
  refine C2.out.mono ?_
  rintro e w2 ⟨rfl, hg2⟩
  go_wp2
  go_ret
  exact ⟨rfl, grown_trans g0 (grown_trans hg1 hg2)⟩

theorem turned_det {off : Int} {ds ss l : List Int} {E E' o o' : Int} {d d' s s' : List Int} (h : Turned off ds ss l E o d s) (h' : Turned off ds ss l E' o' d' s') : E = E' ∧ o = o' ∧ d = d' ∧ s = s' := by
  rcases h with ⟨a1, rfl, rfl, rfl, rfl⟩ | ⟨a1, a2, rfl, rfl, rfl, rfl⟩ | ⟨a1, a2, rfl, rfl, rfl, rfl⟩ <;>
  rcases h' with ⟨b1, rfl, rfl, rfl, rfl⟩ | ⟨b1, b2, rfl, rfl, rfl, rfl⟩ | ⟨b1, b2, rfl, rfl, rfl, rfl⟩ <;>
  first | exact ⟨rfl, rfl, rfl, rfl⟩ | exact absurd a1 b1 | exact absurd b1 a1 | exact absurd a2 b2 | exact absurd b2 a2

theorem fine_zero {l : List Int} (h : Fine l) : cntE l = 0 := h.ok

theorem reshaped_det {off : Int} {ds ss l : List Int} {E E' o o' : Int} {d d' s s' : List Int} (h : Reshaped off ds ss l E o d s) (h' : Reshaped off ds ss l E' o' d' s') : E = E' ∧ o = o' ∧ d = d' ∧ s = s' := by
  rcases h with ⟨a1, rfl, rfl, rfl, rfl⟩ | ⟨a1, a2, rfl, rfl, rfl, rfl⟩ | ⟨a1, a2, a3, rfl, rfl, rfl, rfl⟩ | ⟨a1, a2, a3, a4, rfl, rfl, rfl, rfl⟩ | ⟨a1, a2, a3, a4, rfl, rfl, rfl, rfl⟩ <;>
  rcases h' with ⟨b1, rfl, rfl, rfl, rfl⟩ | ⟨b1, b2, rfl, rfl, rfl, rfl⟩ | ⟨b1, b2, b3, rfl, rfl, rfl, rfl⟩ | ⟨b1, b2, b3, b4, rfl, rfl, rfl, rfl⟩ | ⟨b1, b2, b3, b4, rfl, rfl, rfl, rfl⟩ <;>
  first | exact ⟨rfl, rfl, rfl, rfl⟩ | exact absurd a1 b1 | exact absurd b1 a1 | exact absurd (fine_zero a2) b2 | exact absurd (fine_zero b2) a2 | exact absurd a3 b3 | exact absurd b3 a3 | exact absurd a4 b4 | exact absurd b4 a4

set_option maxRecDepth 100000 in
set_option maxHeartbeats 6400000 in
theorem vturns_walk (v : Value) (z : Int × List Int × List Int) (lv : Value) (l : List Int) (w : World) (h : IsView w v z.1 z.2.1 z.2.2) (hl : IsInts w lv l) :
    Calls Try.prog 3 #[v, lv] w fun e w' => e = .returned (.bool true) ∧ Below w.heap.size w w' := by
  obtain ⟨off, ds, ss⟩ := z
  have h : IsView w v off ds ss := h
  have HV := hide h
  have HL := hide hl
  obtain ⟨dv, sv, rfl, -, -, ho1, ho2⟩ := h
  obtain ⟨la, lc, rfl, hl1, hl2, hl3, -, -, -⟩ := hl
  obtain ⟨w0, hw0⟩ : ∃ w0, w0 = w.alloc (.cells #[.int .i64 off, dv, sv] 24) := ⟨_, rfl⟩
  have g0 : w.grownBy w0 none := by rw [hw0]; exact grown_new _ _
  have hbx := heap_alloc_new w (.cells #[.int .i64 off, dv, sv] 24)
  rw [← hw0] at hbx
  have BX : Hid (∀ wx, w0.grownBy wx none → wx.heap[w.heap.size]? = some (.cells #[.int .i64 off, dv, sv] 24 (0, 0))) := fun wx hg => box_kept hbx hg
  have CP := hide (vcopy_any _ off ds ss w0 (HV.out.more g0))
  clear hbx
  go_enter Try.func3, Try.ntmps3
  go_wp2_with fail
  rw [← hw0]
  clear hw0
  refine CP.out.mono ?_
  rintro e w1 ⟨u, rfl, ou, hg1⟩
  obtain ⟨do_, so_, rfl, od, os, -, -, -⟩ := ou
  obtain ⟨oda, odc, rfl, -, -, -, -, -, -⟩ := od.ints
  obtain ⟨osa, osc, rfl, -, -, -, -, -, -⟩ := os.ints
  have VO : Hid (IsView w1 (.agg #[.int .i64 off, .slice oda ds.length odc, .slice osa ss.length osc]) off ds ss) := ⟨_, _, rfl, od.ints, os.ints, ho1, ho2⟩
  clear od os
  obtain ⟨W1, hW1⟩ : ∃ W1, W1 = w1.alloc (.cells #[.int .i64 off, .slice oda ds.length odc, .slice osa ss.length osc] 24) := ⟨_, rfl⟩
  have G1 := grown_new w1 (.cells #[.int .i64 off, .slice oda ds.length odc, .slice osa ss.length osc] 24)
  have B1 := heap_alloc_new w1 (.cells #[.int .i64 off, .slice oda ds.length odc, .slice osa ss.length osc] 24)
  obtain ⟨b0, b1, b2, -, -, -⟩ := box_cells (BX.out _ (grown_trans hg1 G1))
  obtain ⟨o0, o1, o2, -, -, -⟩ := box_cells B1
  go_wp2_with fail
  clear b0 b1 b2 o0 o1 o2
  rw [← hW1] at G1 B1
  rw [← hW1]
  have hz1 : W1.heap.size = w1.heap.size + 1 := by rw [hW1]; simp
  clear hW1
  have OB : Hid (∀ wx, W1.grownBy wx none → wx.heap[w1.heap.size]? = some (.cells #[.int .i64 off, .slice oda ds.length odc, .slice osa ss.length osc] 24 (0, 0))) := fun wx hg => box_kept B1 hg
  have g01 := grown_trans hg1 G1
  have g11 : W1.grownBy W1 none := ⟨rfl, rfl, rfl, Nat.le_refl _, fun _ _ _ => rfl⟩
  have VO1 := hide (VO.out.more G1)
  clear B1

  refine (transpose_any _ _ off ds ss l W1 VO1.out (HL.out.more (grown_trans g0 g01))).mono ?_
  rintro e w2 ⟨u2, E2, p2, d2, s2, rfl, ht2, ou2, hg2⟩
  have HT2 := hide ht2
  clear ht2
  obtain ⟨D2, S2, rfl, od2, os2, lo2, hi2, ap2⟩ := ou2
  obtain ⟨x2, c2, rfl, -, -, -, -, -, -⟩ := od2.ints
  obtain ⟨y2, e2, rfl, -, -, -, -, -, -⟩ := os2.ints
  have V2 : Hid (IsView w2 (.agg #[.int .i64 p2, .slice x2 d2.length c2, .slice y2 s2.length e2]) p2 d2 s2) := ⟨_, _, rfl, od2.ints, os2.ints, lo2, hi2⟩
  have OD2 := hide od2
  have OS2 := hide os2
  have AP2 := hide ap2
  clear od2 os2 ap2 lo2 hi2
  obtain ⟨W2, hW2⟩ : ∃ W2, W2 = w2.alloc (.cells #[.int .i64 p2, .slice x2 d2.length c2, .slice y2 s2.length e2] 24) := ⟨_, rfl⟩
  have G2 := grown_new w2 (.cells #[.int .i64 p2, .slice x2 d2.length c2, .slice y2 s2.length e2] 24)
  have B2 := heap_alloc_new w2 (.cells #[.int .i64 p2, .slice x2 d2.length c2, .slice y2 s2.length e2] 24)
  have g02' := grown_trans g01 (grown_trans hg2 G2)
  have g12' := grown_trans g11 (grown_trans hg2 G2)
  obtain ⟨b0, b1, b2, -, -, -⟩ := box_cells (BX.out _ g02')
  obtain ⟨o0, o1, o2, -, -, -⟩ := box_cells (OB.out _ g12')
  go_wp2_with fail
  clear b0 b1 b2 o0 o1 o2
  rw [← hW2] at G2 B2 g02' g12'
  rw [← hW2]
  have hz2 : W2.heap.size = w2.heap.size + 1 := by rw [hW2]; simp
  clear hW2
  have g02 := g02'
  have g12 := g12'
  clear g02' g12'
  have AB2 : Hid (∀ wx, W2.grownBy wx none → wx.heap[w2.heap.size]? = some (.cells #[.int .i64 p2, .slice x2 d2.length c2, .slice y2 s2.length e2] 24 (0, 0))) := fun wx hg => box_kept B2 hg
  clear B2
  refine (reftranspose_any _ _ off ds ss l W2 (HV.out.more (grown_trans g0 g02)) (HL.out.more (grown_trans g0 g02))).mono ?_
  rintro e w3 ⟨u3, E3, p3, d3, s3, rfl, ht3, ou3, hg3⟩
  obtain ⟨rfl, rfl, rfl, rfl⟩ := turned_det HT2.out ht3
  clear ht3
  obtain ⟨D3, S3, rfl, od3, os3, lo3, hi3, ap3⟩ := ou3
  obtain ⟨x3, c3, rfl, -, -, -, -, -, -⟩ := od3.ints
  obtain ⟨y3, e3, rfl, -, -, -, -, -, -⟩ := os3.ints
  have V3 : Hid (IsView w3 (.agg #[.int .i64 p2, .slice x3 d2.length c3, .slice y3 s2.length e3]) p2 d2 s2) := ⟨_, _, rfl, od3.ints, os3.ints, lo3, hi3⟩
  clear od3 os3 ap3 lo3 hi3
  obtain ⟨W3, hW3⟩ : ∃ W3, W3 = w3.alloc (.cells #[.int .i64 p2, .slice x3 d2.length c3, .slice y3 s2.length e3] 24) := ⟨_, rfl⟩
  have G3 := grown_new w3 (.cells #[.int .i64 p2, .slice x3 d2.length c3, .slice y3 s2.length e3] 24)
  have B3 := heap_alloc_new w3 (.cells #[.int .i64 p2, .slice x3 d2.length c3, .slice y3 s2.length e3] 24)
  have g03' := grown_trans g02 (grown_trans hg3 G3)
  have g13' := grown_trans g12 (grown_trans hg3 G3)
  have g23' := grown_trans hg3 G3
  obtain ⟨b0, b1, b2, -, -, -⟩ := box_cells (BX.out _ g03')
  obtain ⟨o0, o1, o2, -, -, -⟩ := box_cells (OB.out _ g13')
  go_wp2_with fail
  clear b0 b1 b2 o0 o1 o2
  rw [← hW3] at G3 B3 g03' g13' g23'
  rw [← hW3]
  have hz3 : W3.heap.size = w3.heap.size + 1 := by rw [hW3]; simp
  clear hW3
  have g03 := g03'
  have g13 := g13'
  have g23 := g23'
  clear g03' g13' g23'
  have AB3 : Hid (∀ wx, W3.grownBy wx none → wx.heap[w3.heap.size]? = some (.cells #[.int .i64 p2, .slice x3 d2.length c3, .slice y3 s2.length e3] 24 (0, 0))) := fun wx hg => box_kept B3 hg
  clear B3
  refine (reshape_any _ _ off ds ss l W3 (VO1.out.more g13) (HL.out.more (grown_trans g0 g03))).mono ?_
  rintro e w4 ⟨u4, E4, p4, d4, s4, rfl, ht4, ou4, hg4⟩
  have HT4 := hide ht4
  clear ht4
  obtain ⟨D4, S4, rfl, od4, os4, lo4, hi4, ap4⟩ := ou4
  obtain ⟨x4, c4, rfl, -, -, -, -, -, -⟩ := od4.ints
  obtain ⟨y4, e4, rfl, -, -, -, -, -, -⟩ := os4.ints
  have V4 : Hid (IsView w4 (.agg #[.int .i64 p4, .slice x4 d4.length c4, .slice y4 s4.length e4]) p4 d4 s4) := ⟨_, _, rfl, od4.ints, os4.ints, lo4, hi4⟩
  have OD4 := hide od4
  have OS4 := hide os4
  have AP4 := hide ap4
  clear od4 os4 ap4 lo4 hi4
  obtain ⟨W4, hW4⟩ : ∃ W4, W4 = w4.alloc (.cells #[.int .i64 p4, .slice x4 d4.length c4, .slice y4 s4.length e4] 24) := ⟨_, rfl⟩
  have G4 := grown_new w4 (.cells #[.int .i64 p4, .slice x4 d4.length c4, .slice y4 s4.length e4] 24)
  have B4 := heap_alloc_new w4 (.cells #[.int .i64 p4, .slice x4 d4.length c4, .slice y4 s4.length e4] 24)
  have g04' := grown_trans g03 (grown_trans hg4 G4)
  have g14' := grown_trans g13 (grown_trans hg4 G4)
  have g24' := grown_trans g23 (grown_trans hg4 G4)
  have g34' := grown_trans hg4 G4
  obtain ⟨b0, b1, b2, -, -, -⟩ := box_cells (BX.out _ g04')
  obtain ⟨o0, o1, o2, -, -, -⟩ := box_cells (OB.out _ g14')
  go_wp2_with fail
  clear b0 b1 b2 o0 o1 o2
  rw [← hW4] at G4 B4 g04' g14' g24' g34'
  rw [← hW4]
  have hz4 : W4.heap.size = w4.heap.size + 1 := by rw [hW4]; simp
  clear hW4
  have g04 := g04'
  have g14 := g14'
  have g24 := g24'
  have g34 := g34'
  clear g04' g14' g24' g34'
  have AB4 : Hid (∀ wx, W4.grownBy wx none → wx.heap[w4.heap.size]? = some (.cells #[.int .i64 p4, .slice x4 d4.length c4, .slice y4 s4.length e4] 24 (0, 0))) := fun wx hg => box_kept B4 hg
  clear B4
  refine (refreshape_any _ _ off ds ss l W4 (HV.out.more (grown_trans g0 g04)) (HL.out.more (grown_trans g0 g04))).mono ?_
  rintro e w5 ⟨u5, E5, p5, d5, s5, rfl, ht5, ou5, hg5⟩
  obtain ⟨rfl, rfl, rfl, rfl⟩ := reshaped_det HT4.out ht5
  clear ht5
  obtain ⟨D5, S5, rfl, od5, os5, lo5, hi5, ap5⟩ := ou5
  obtain ⟨x5, c5, rfl, -, -, -, -, -, -⟩ := od5.ints
  obtain ⟨y5, e5, rfl, -, -, -, -, -, -⟩ := os5.ints
  have V5 : Hid (IsView w5 (.agg #[.int .i64 p4, .slice x5 d4.length c5, .slice y5 s4.length e5]) p4 d4 s4) := ⟨_, _, rfl, od5.ints, os5.ints, lo5, hi5⟩
  clear od5 os5 ap5 lo5 hi5
  obtain ⟨W5, hW5⟩ : ∃ W5, W5 = w5.alloc (.cells #[.int .i64 p4, .slice x5 d4.length c5, .slice y5 s4.length e5] 24) := ⟨_, rfl⟩
  have G5 := grown_new w5 (.cells #[.int .i64 p4, .slice x5 d4.length c5, .slice y5 s4.length e5] 24)
  have B5 := heap_alloc_new w5 (.cells #[.int .i64 p4, .slice x5 d4.length c5, .slice y5 s4.length e5] 24)
  have g05' := grown_trans g04 (grown_trans hg5 G5)
  have g15' := grown_trans g14 (grown_trans hg5 G5)
  have g25' := grown_trans g24 (grown_trans hg5 G5)
  have g35' := grown_trans g34 (grown_trans hg5 G5)
  have g45' := grown_trans hg5 G5
  obtain ⟨b0, b1, b2, -, -, -⟩ := box_cells (BX.out _ g05')
  obtain ⟨o0, o1, o2, -, -, -⟩ := box_cells (OB.out _ g15')
  go_wp2_with fail
  clear b0 b1 b2 o0 o1 o2
  rw [← hW5] at G5 B5 g05' g15' g25' g35' g45'
  rw [← hW5]
  have hz5 : W5.heap.size = w5.heap.size + 1 := by rw [hW5]; simp
  clear hW5
  have g05 := g05'
  have g15 := g15'
  have g25 := g25'
  have g35 := g35'
  have g45 := g45'
  clear g05' g15' g25' g35' g45'
  have AB5 : Hid (∀ wx, W5.grownBy wx none → wx.heap[w5.heap.size]? = some (.cells #[.int .i64 p4, .slice x5 d4.length c5, .slice y5 s4.length e5] 24 (0, 0))) := fun wx hg => box_kept B5 hg
  clear B5
  refine (whole_any _ l W5 (HL.out.more (grown_trans g0 g05))).mono ?_
  rintro e w6 ⟨u6, rfl, ou6, hg6⟩
  obtain ⟨p6, hp6⟩ : ∃ p6 : Int, p6 = 0 := ⟨_, rfl⟩
  obtain ⟨d6, hd6⟩ : ∃ d6, d6 = rowDs l := ⟨_, rfl⟩
  obtain ⟨s6, hs6⟩ : ∃ s6, s6 = strdE l := ⟨_, rfl⟩
  obtain ⟨E6, hE6⟩ : ∃ E6, E6 = cntE l := ⟨_, rfl⟩
  rw [← hp6, ← hd6, ← hs6] at ou6
  rw [← hE6]
  have HP6 := hide hp6
  have HDD6 := hide hd6
  have HSS6 := hide hs6
  have HEE6 := hide hE6
  clear hp6 hd6 hs6 hE6
  obtain ⟨D6, S6, rfl, od6, os6, lo6, hi6, ap6⟩ := ou6
  obtain ⟨x6, c6, rfl, -, -, -, -, -, -⟩ := od6.ints
  obtain ⟨y6, e6, rfl, -, -, -, -, -, -⟩ := os6.ints
  have V6 : Hid (IsView w6 (.agg #[.int .i64 p6, .slice x6 d6.length c6, .slice y6 s6.length e6]) p6 d6 s6) := ⟨_, _, rfl, od6.ints, os6.ints, lo6, hi6⟩
  have OD6 := hide od6
  have OS6 := hide os6
  have AP6 := hide ap6
  clear od6 os6 ap6 lo6 hi6
  obtain ⟨W6, hW6⟩ : ∃ W6, W6 = w6.alloc (.cells #[.int .i64 p6, .slice x6 d6.length c6, .slice y6 s6.length e6] 24) := ⟨_, rfl⟩
  have G6 := grown_new w6 (.cells #[.int .i64 p6, .slice x6 d6.length c6, .slice y6 s6.length e6] 24)
  have B6 := heap_alloc_new w6 (.cells #[.int .i64 p6, .slice x6 d6.length c6, .slice y6 s6.length e6] 24)
  have g06' := grown_trans g05 (grown_trans hg6 G6)
  have g16' := grown_trans g15 (grown_trans hg6 G6)
  have g26' := grown_trans g25 (grown_trans hg6 G6)
  have g36' := grown_trans g35 (grown_trans hg6 G6)
  have g46' := grown_trans g45 (grown_trans hg6 G6)
  have g56' := grown_trans hg6 G6
  obtain ⟨b0, b1, b2, -, -, -⟩ := box_cells (BX.out _ g06')
  obtain ⟨o0, o1, o2, -, -, -⟩ := box_cells (OB.out _ g16')
  go_wp2_with fail
  clear b0 b1 b2 o0 o1 o2
  rw [← hW6] at G6 B6 g06' g16' g26' g36' g46' g56'
  rw [← hW6]
  have hz6 : W6.heap.size = w6.heap.size + 1 := by rw [hW6]; simp
  clear hW6
  have g06 := g06'
  have g16 := g16'
  have g26 := g26'
  have g36 := g36'
  have g46 := g46'
  have g56 := g56'
  clear g06' g16' g26' g36' g46' g56'
  have AB6 : Hid (∀ wx, W6.grownBy wx none → wx.heap[w6.heap.size]? = some (.cells #[.int .i64 p6, .slice x6 d6.length c6, .slice y6 s6.length e6] 24 (0, 0))) := fun wx hg => box_kept B6 hg
  clear B6
  refine (refwhole_any _ l W6 (HL.out.more (grown_trans g0 g06))).mono ?_
  rintro e w7 ⟨u7, rfl, ou7, hg7⟩
  have hp6 := HP6.out
  have hd6 := HDD6.out
  have hs6 := HSS6.out
  have hE6 := HEE6.out
  rw [← hp6, ← hd6, ← hs6] at ou7
  rw [← hE6]
  clear hp6 hd6 hs6 hE6
  obtain ⟨D7, S7, rfl, od7, os7, lo7, hi7, ap7⟩ := ou7
  obtain ⟨x7, c7, rfl, -, -, -, -, -, -⟩ := od7.ints
  obtain ⟨y7, e7, rfl, -, -, -, -, -, -⟩ := os7.ints
  have V7 : Hid (IsView w7 (.agg #[.int .i64 p6, .slice x7 d6.length c7, .slice y7 s6.length e7]) p6 d6 s6) := ⟨_, _, rfl, od7.ints, os7.ints, lo7, hi7⟩
  clear od7 os7 ap7 lo7 hi7
  obtain ⟨W7, hW7⟩ : ∃ W7, W7 = w7.alloc (.cells #[.int .i64 p6, .slice x7 d6.length c7, .slice y7 s6.length e7] 24) := ⟨_, rfl⟩
  have G7 := grown_new w7 (.cells #[.int .i64 p6, .slice x7 d6.length c7, .slice y7 s6.length e7] 24)
  have B7 := heap_alloc_new w7 (.cells #[.int .i64 p6, .slice x7 d6.length c7, .slice y7 s6.length e7] 24)
  have g07' := grown_trans g06 (grown_trans hg7 G7)
  have g17' := grown_trans g16 (grown_trans hg7 G7)
  have g27' := grown_trans g26 (grown_trans hg7 G7)
  have g37' := grown_trans g36 (grown_trans hg7 G7)
  have g47' := grown_trans g46 (grown_trans hg7 G7)
  have g57' := grown_trans g56 (grown_trans hg7 G7)
  have g67' := grown_trans hg7 G7
  have hE2 : (E2 != E2) = false := by simp
  have hE4 : (E4 != E4) = false := by simp
  have hE6 : (E6 != E6) = false := by simp
  obtain ⟨b0, b1, b2, -, -, -⟩ := box_cells (AB2.out _ g27')
  obtain ⟨o0, o1, o2, -, -, -⟩ := box_cells (AB3.out _ g37')
  go_wp2_with fail
  clear b0 b1 b2 o0 o1 o2
  rw [← hW7] at G7 B7 g07' g17' g27' g37' g47' g57' g67'
  rw [← hW7]
  have hz7 : W7.heap.size = w7.heap.size + 1 := by rw [hW7]; simp
  clear hW7
  have g07 := g07'
  have g17 := g17'
  have g27 := g27'
  have g37 := g37'
  have g47 := g47'
  have g57 := g57'
  have g67 := g67'
  clear g07' g17' g27' g37' g47' g57' g67'
  have AB7 : Hid (∀ wx, W7.grownBy wx none → wx.heap[w7.heap.size]? = some (.cells #[.int .i64 p6, .slice x7 d6.length c7, .slice y7 s6.length e7] 24 (0, 0))) := fun wx hg => box_kept B7 hg
  clear B7
  refine (vsame_any _ _ p2 d2 s2 W7 (V2.out.more (grown_trans G2 g27)) (V3.out.more (grown_trans G3 g37))).mono ?_
  rintro e w8 ⟨rfl, hg8⟩
  obtain ⟨b0, b1, b2, -, -, -⟩ := box_cells (AB4.out _ (grown_trans g47 hg8))
  obtain ⟨o0, o1, o2, -, -, -⟩ := box_cells (AB5.out _ (grown_trans g57 hg8))
  go_wp2_with fail
  clear b0 b1 b2 o0 o1 o2
  refine (vsame_any _ _ p4 d4 s4 w8 (V4.out.more (grown_trans G4 (grown_trans g47 hg8))) (V5.out.more (grown_trans G5 (grown_trans g57 hg8)))).mono ?_
  rintro e w9 ⟨rfl, hg9⟩
  have g79 := grown_trans hg8 hg9
  obtain ⟨b0, b1, b2, -, -, -⟩ := box_cells (AB6.out _ (grown_trans g67 g79))
  obtain ⟨o0, o1, o2, -, -, -⟩ := box_cells (AB7.out _ g79)
  go_wp2_with fail
  clear b0 b1 b2 o0 o1 o2
  refine (vsame_any _ _ p6 d6 s6 w9 (V6.out.more (grown_trans G6 (grown_trans g67 g79))) (V7.out.more (grown_trans G7 g79))).mono ?_
  rintro e wa ⟨rfl, hga⟩
  have g7a := grown_trans g79 hga
  have g1a := grown_trans g17 g7a
  have g2a := grown_trans g27 g7a
  have g3a := grown_trans g37 g7a
  have g4a := grown_trans g47 g7a
  have g5a := grown_trans g57 g7a
  have g6a := grown_trans g67 g7a
  obtain ⟨b0, b1, b2, -, -, -⟩ := box_cells (AB2.out _ g2a)
  go_wp2_with fail
  clear b0 b1 b2
  have z2 := g2a.size
  have zz2 := hg2.size
  have z3 := g3a.size
  have zz3 := hg3.size
  have z4 := g4a.size
  have zz4 := hg4.size
  have z5 := g5a.size
  have zz5 := hg5.size
  have z6 := g6a.size
  have zz6 := hg6.size
  have zz7 := hg7.size
  refine (vspoil_all _ _ W1.heap.size p2 d2 s2 wa (OD2.out.new (grown_trans G2 g2a)) (OS2.out.new (grown_trans G2 g2a)) AP2.out).mono ?_
  rintro e wb ⟨rfl, hspb⟩
  have g1b := hspb.below g1a (fun k hk => (OD2.out.lt k hk).1) (fun k hk => (OS2.out.lt k hk).1)
  have KPb : ∀ k, w2.heap.size ≤ k → k < wa.heap.size → wb.heap[k]? = wa.heap[k]? := fun k h1 h2 => hspb.2 k h2 (fun e => by have := (OD2.out.lt k e).2; omega) (fun e => by have := (OS2.out.lt k e).2; omega)
  have OD4b := hide ((OD4.out.new (grown_trans G4 g4a)).stays (fun k hk => KPb k (by have := (OD4.out.lt k hk).1; omega) (by have := ((OD4.out.new (grown_trans G4 g4a)).lt k hk).2; omega)))
  have OS4b := hide ((OS4.out.new (grown_trans G4 g4a)).stays (fun k hk => KPb k (by have := (OS4.out.lt k hk).1; omega) (by have := ((OS4.out.new (grown_trans G4 g4a)).lt k hk).2; omega)))
  have bx4b := (KPb w4.heap.size (by omega) (by omega)).trans (AB4.out _ g4a)
  have OD6b := hide ((OD6.out.new (grown_trans G6 g6a)).stays (fun k hk => KPb k (by have := (OD6.out.lt k hk).1; omega) (by have := ((OD6.out.new (grown_trans G6 g6a)).lt k hk).2; omega)))
  have OS6b := hide ((OS6.out.new (grown_trans G6 g6a)).stays (fun k hk => KPb k (by have := (OS6.out.lt k hk).1; omega) (by have := ((OS6.out.new (grown_trans G6 g6a)).lt k hk).2; omega)))
  have bx6b := (KPb w6.heap.size (by omega) (by omega)).trans (AB6.out _ g6a)
  have BX6B := hide bx6b
  obtain ⟨b0, b1, b2, -, -, -⟩ := box_cells bx4b
  clear bx6b bx4b
  go_wp2_with fail
  clear b0 b1 b2
  refine (vspoil_all _ _ W3.heap.size p4 d4 s4 wb OD4b.out OS4b.out AP4.out).mono ?_
  rintro e wc ⟨rfl, hspc⟩
  have z13 := g13.size
  have z15 := g15.size
  have g1c := hspc.below g1b (fun k hk => by have := (OD4.out.lt k hk).1; omega) (fun k hk => by have := (OS4.out.lt k hk).1; omega)
  have KPc : ∀ k, w4.heap.size ≤ k → k < wb.heap.size → wc.heap[k]? = wb.heap[k]? := fun k h1 h2 => hspc.2 k h2 (fun e => by have := (OD4.out.lt k e).2; omega) (fun e => by have := (OS4.out.lt k e).2; omega)
  have OD6c := hide (OD6b.out.stays (fun k hk => KPc k (by have := (OD6.out.lt k hk).1; omega) (OD6b.out.lt k hk).2))
  have OS6c := hide (OS6b.out.stays (fun k hk => KPc k (by have := (OS6.out.lt k hk).1; omega) (OS6b.out.lt k hk).2))
  have bx6c := (KPc w6.heap.size (by omega) (Array.getElem?_eq_some_iff.1 BX6B.out).1).trans BX6B.out
  obtain ⟨b0, b1, b2, -, -, -⟩ := box_cells bx6c
  clear bx6c
  go_wp2_with fail
  clear b0 b1 b2
  refine (vspoil_all _ _ W5.heap.size p6 d6 s6 wc OD6c.out OS6c.out AP6.out).mono ?_
  rintro e wd ⟨rfl, hspd⟩
  have g1d := hspd.below g1c (fun k hk => by have := (OD6.out.lt k hk).1; omega) (fun k hk => by have := (OS6.out.lt k hk).1; omega)
  have g0d := grown_trans g01 g1d
  obtain ⟨b0, b1, b2, -, -, -⟩ := box_cells (BX.out _ g0d)
  obtain ⟨o0, o1, o2, -, -, -⟩ := box_cells (OB.out _ g1d)
  go_wp2_with fail
  clear b0 b1 b2 o0 o1 o2
  refine (vsame_any _ _ off ds ss wd (VO1.out.more g1d) (HV.out.more (grown_trans g0 g0d))).mono ?_
  rintro e we ⟨rfl, hge⟩
  go_wp2_with fail
  refine (vlive_any _).mono ?_
  rintro e wf ⟨rfl, hgf⟩
  go_wp2
  go_ret
  exact ⟨rfl, grown_below (grown_trans (grown_trans g0 g0d) (grown_trans hge hgf))⟩
end Go.Proofs.Ytankpkbneojgdaa
