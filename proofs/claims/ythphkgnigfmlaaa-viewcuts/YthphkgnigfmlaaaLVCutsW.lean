/- ViewCuts, by the walk. -/
import Derived.Test.YthphkgnigfmlaaaVRSlice
import Derived.Test.YthphkgnigfmlaaaVRSpread
import Derived.Test.YthphkgnigfmlaaaVSpoil
import Derived.Test.YthphkgnigfmlaaaVLive
import Derived.Test.YthphkgnigfmlaaaSRStr
namespace Go.Proofs.Ythphkgnigfmlaaa
open Go.RowKit

set_option maxHeartbeats 800000 in
theorem vsame_any (a b : Value) (off : Int) (ds ss : List Int) (w : World) (ha : IsView w a off ds ss) (hb : IsView w b off ds ss) :
    Calls Try.prog 14 #[a, b] w fun e w' => e = .returned (.bool true) ∧ w.grownBy w' none := by
  obtain ⟨d1, s1, rfl, hd1, hs1, -, -⟩ := ha
  obtain ⟨d2, s2, rfl, hd2, hs2, -, -⟩ := hb
  obtain ⟨w0, hw0⟩ : ∃ w0, w0 = (w.alloc (.cells #[.int .i64 off, d1, s1] 24)).alloc (.cells #[.int .i64 off, d2, s2] 24) := ⟨_, rfl⟩
  have g0 : w.grownBy w0 none := by rw [hw0]; exact grown_trans (grown_new _ _) (grown_new _ _)
  have hbx := two_boxes w (.cells #[.int .i64 off, d1, s1] 24) (.cells #[.int .i64 off, d2, s2] 24)
  rw [← hw0] at hbx
  have c1 := same_any d1 d2 ds ds w0 (hd1.more g0) (hd2.more g0)
  rw [decide_eq_true rfl] at c1
  have C1 := hide c1
  have HS1 := hide hs1
  have HS2 := hide hs2
  have BX := hide hbx
  clear c1 hs1 hs2 hd1 hd2 hbx
  go_enter Try.func14, Try.ntmps14
  go_wp2_with fail
  rw [← hw0]
  clear hw0
  refine C1.out.mono ?_
  rintro e w1 ⟨rfl, hg1⟩
  obtain ⟨x0, x1, x2, -, -, -⟩ := box_cells (box_kept BX.out.1 hg1)
  obtain ⟨y0, y1, y2, -, -, -⟩ := box_cells (box_kept BX.out.2 hg1)
  have c2 := same_any s1 s2 ss ss w1 (HS1.out.more (grown_trans g0 hg1)) (HS2.out.more (grown_trans g0 hg1))
  rw [decide_eq_true rfl] at c2
  have C2 := hide c2
  clear c2
  go_wp2_with fail
  refine C2.out.mono ?_
  rintro e w2 ⟨rfl, hg2⟩
  go_wp2
  go_ret
  exact ⟨rfl, grown_trans g0 (grown_trans hg1 hg2)⟩

theorem sliced_det {off : Int} {ds ss : List Int} {ax fr to : Int} {E E' o o' : Int} {d d' s s' : List Int} (h : Sliced off ds ss ax fr to E o d s) (h' : Sliced off ds ss ax fr to E' o' d' s') : E = E' ∧ o = o' ∧ d = d' ∧ s = s' := by
  rcases h with ⟨a1, rfl, rfl, rfl, rfl⟩ | ⟨a1, a2, rfl, rfl, rfl, rfl⟩ | ⟨a1, a2, a3, rfl, rfl, rfl, rfl⟩ | ⟨a1, a2, a3, rfl, rfl, rfl, rfl⟩ <;>
  rcases h' with ⟨b1, rfl, rfl, rfl, rfl⟩ | ⟨b1, b2, rfl, rfl, rfl, rfl⟩ | ⟨b1, b2, b3, rfl, rfl, rfl, rfl⟩ | ⟨b1, b2, b3, rfl, rfl, rfl, rfl⟩ <;>
  first | exact ⟨rfl, rfl, rfl, rfl⟩ | exact absurd a1 b1 | exact absurd b1 a1 | exact absurd a2 b2 | exact absurd b2 a2 | omega

theorem spreaded_det {off : Int} {ds ss l : List Int} {E E' o o' : Int} {d d' s s' : List Int} (h : Spreaded off ds ss l E o d s) (h' : Spreaded off ds ss l E' o' d' s') : E = E' ∧ o = o' ∧ d = d' ∧ s = s' := by
  rcases h with ⟨a1, rfl, rfl, rfl, rfl⟩ | ⟨a1, a2, rfl, rfl, rfl, rfl⟩ | ⟨a1, a2, a3, rfl, rfl, rfl, rfl⟩ | ⟨a1, a2, a3, rfl, rfl, rfl, rfl⟩ <;>
  rcases h' with ⟨b1, rfl, rfl, rfl, rfl⟩ | ⟨b1, b2, rfl, rfl, rfl, rfl⟩ | ⟨b1, b2, b3, rfl, rfl, rfl, rfl⟩ | ⟨b1, b2, b3, rfl, rfl, rfl, rfl⟩ <;>
  first | exact ⟨rfl, rfl, rfl, rfl⟩ | exact absurd a1 b1 | exact absurd b1 a1 | exact absurd a2 b2 | exact absurd b2 a2 | exact absurd a3 b3 | exact absurd b3 a3

theorem cut_cells {w : World} {B : Nat} {a b c : Value} (hb : w.heap[B]? = some (.cells #[a, b, c] 35 (0, 0))) :
    w.cell? ⟨B, 0, none⟩ = some a ∧ w.cell? ⟨B, 1, none⟩ = some b ∧ w.cell? ⟨B, 2, none⟩ = some c :=
  ⟨(cell_of_row _ _ 0 _ _ (0, 0) hb).trans rfl, (cell_of_row _ _ 1 _ _ (0, 0) hb).trans rfl, (cell_of_row _ _ 2 _ _ (0, 0) hb).trans rfl⟩

set_option maxRecDepth 100000 in
set_option maxHeartbeats 6400000 in
theorem vcuts_walk (v : Value) (z : Int × List Int × List Int) (ax fr to : Int) (hax : -9223372036854775808 ≤ ax ∧ ax ≤ 9223372036854775807) (hfr : -9223372036854775808 ≤ fr ∧ fr ≤ 9223372036854775807) (hto : -9223372036854775808 ≤ to ∧ to ≤ 9223372036854775807) (lv : Value) (l : List Int) (w : World) (h : IsView w v z.1 z.2.1 z.2.2) (hl : IsInts w lv l) :
    Calls Try.prog 4 #[v, .agg #[.int .i64 ax, .int .i64 fr, .int .i64 to], lv] w fun e w' => e = .returned (.bool true) ∧ Below w.heap.size w w' := by
  obtain ⟨off, ds, ss⟩ := z
  have h : IsView w v off ds ss := h
  have HV := hide h
  have HL := hide hl
  obtain ⟨dv, sv, rfl, -, -, ho1, ho2⟩ := h
  obtain ⟨la, lc, rfl, hl1, hl2, hl3, -, -, -⟩ := hl
  obtain ⟨w0, hw0⟩ : ∃ w0, w0 = (w.alloc (.cells #[.int .i64 off, dv, sv] 24)).alloc (.cells #[.int .i64 ax, .int .i64 fr, .int .i64 to] 35) := ⟨_, rfl⟩
  have g0 : w.grownBy w0 none := by rw [hw0]; exact grown_trans (grown_new _ _) (grown_new _ _)
  have hbx := two_boxes w (.cells #[.int .i64 off, dv, sv] 24) (.cells #[.int .i64 ax, .int .i64 fr, .int .i64 to] 35)
  rw [← hw0] at hbx
  have BX : Hid (∀ wx, w0.grownBy wx none → wx.heap[w.heap.size]? = some (.cells #[.int .i64 off, dv, sv] 24 (0, 0)) ∧ wx.heap[w.heap.size + 1]? = some (.cells #[.int .i64 ax, .int .i64 fr, .int .i64 to] 35 (0, 0))) :=
    fun wx hg => ⟨box_kept hbx.1 hg, box_kept hbx.2 hg⟩
  have CP := hide (vcopy_any _ off ds ss w0 (HV.out.more g0))
  clear hbx
  go_enter Try.func4, Try.ntmps4
  go_wp2_with fail
  rw [← hw0]
  clear hw0
  refine CP.out.mono ?_
  rintro e w1 ⟨u, rfl, ou, hg1⟩
  obtain ⟨do_, so_, rfl, od, os, -, -, -⟩ := ou
  obtain ⟨oda, odc, rfl, -, -, -, -, -, -⟩ := od.ints
  obtain ⟨osa, osc, rfl, -, -, -, -, -, -⟩ := os.ints
  have VO : Hid (IsView w1 (.agg #[.int .i64 off, .slice oda ds.length odc, .slice osa ss.length osc]) off ds ss) := ⟨_, _, rfl, od.ints, os.ints, ho1, ho2⟩
  clear od os
  obtain ⟨W1, hW1⟩ : ∃ W1, W1 = w1.alloc (.cells #[.int .i64 off, .slice oda ds.length odc, .slice osa ss.length osc] 24) := ⟨_, rfl⟩
  have G1 := grown_new w1 (.cells #[.int .i64 off, .slice oda ds.length odc, .slice osa ss.length osc] 24)
  have B1 := heap_alloc_new w1 (.cells #[.int .i64 off, .slice oda ds.length odc, .slice osa ss.length osc] 24)
  obtain ⟨b0, b1, b2, -, -, -⟩ := box_cells (BX.out _ (grown_trans hg1 G1)).1
  obtain ⟨c0, c1, c2⟩ := cut_cells (BX.out _ (grown_trans hg1 G1)).2
  obtain ⟨o0, o1, o2, -, -, -⟩ := box_cells B1
  go_wp2_with fail
  clear b0 b1 b2 c0 c1 c2 o0 o1 o2
  rw [← hW1] at G1 B1
  rw [← hW1]
  have hz1 : W1.heap.size = w1.heap.size + 1 := by rw [hW1]; simp
  clear hW1
  have OB : Hid (∀ wx, W1.grownBy wx none → wx.heap[w1.heap.size]? = some (.cells #[.int .i64 off, .slice oda ds.length odc, .slice osa ss.length osc] 24 (0, 0))) := fun wx hg => box_kept B1 hg
  have g01 := grown_trans hg1 G1
  have VO1 := hide (VO.out.more G1)
  clear B1
  refine (slice_any _ ax fr to off ds ss W1 VO1.out hax.1 hax.2 hfr.1 hfr.2 hto.1 hto.2).mono ?_
  rintro e w2 ⟨a, E1, p1, d1, s1, rfl, hs1, oa, hg2⟩
  obtain ⟨ad, as_, rfl, oad, oas, -, -, apA⟩ := oa
  obtain ⟨ada, adc, rfl, -, -, -, -, -, -⟩ := oad.ints
  obtain ⟨asa, asc, rfl, -, -, -, -, -, -⟩ := oas.ints
  have OAD := hide oad
  have OAS := hide oas
  have HS1 := hide hs1
  have APA := hide apA
  clear oad oas hs1 apA
  obtain ⟨W2, hW2⟩ : ∃ W2, W2 = w2.alloc (.cells #[.int .i64 p1, .slice ada d1.length adc, .slice asa s1.length asc] 24) := ⟨_, rfl⟩
  have G2 := grown_new w2 (.cells #[.int .i64 p1, .slice ada d1.length adc, .slice asa s1.length asc] 24)
  have B2 := heap_alloc_new w2 (.cells #[.int .i64 p1, .slice ada d1.length adc, .slice asa s1.length asc] 24)
  have g02' := grown_trans g01 (grown_trans hg2 G2)
  have g12' := grown_trans hg2 G2
  obtain ⟨b0, b1, b2, -, -, -⟩ := box_cells (BX.out _ g02').1
  obtain ⟨c0, c1, c2⟩ := cut_cells (BX.out _ g02').2
  obtain ⟨o0, o1, o2, -, -, -⟩ := box_cells (OB.out _ g12')
  go_wp2_with fail
  clear b0 b1 b2 c0 c1 c2 o0 o1 o2
  rw [← hW2] at G2 B2 g02' g12'
  rw [← hW2]
  have hz2 : W2.heap.size = w2.heap.size + 1 := by rw [hW2]; simp
  clear hW2
  have g02 := g02'
  have g12 := g12'
  clear g02' g12'
  have AB : Hid (∀ wx, W2.grownBy wx none → wx.heap[w2.heap.size]? = some (.cells #[.int .i64 p1, .slice ada d1.length adc, .slice asa s1.length asc] 24 (0, 0))) := fun wx hg => box_kept B2 hg
  clear B2
  refine (refslice_any _ ax fr to off ds ss W2 (HV.out.more (grown_trans g0 g02)) hax.1 hax.2 hfr.1 hfr.2 hto.1 hto.2).mono ?_
  rintro e w3 ⟨b, E2, p2, d2, s2, rfl, hs2, ob, hg3⟩
  obtain ⟨rfl, rfl, rfl, rfl⟩ := sliced_det HS1.out hs2
  obtain ⟨bd, bs_, rfl, obd, obs, hp1, hp2, -⟩ := ob
  obtain ⟨bda, bdc, rfl, -, -, -, -, -, -⟩ := obd.ints
  obtain ⟨bsa, bsc, rfl, -, -, -, -, -, -⟩ := obs.ints
  have VB : Hid (IsView w3 (.agg #[.int .i64 p1, .slice bda d1.length bdc, .slice bsa s1.length bsc]) p1 d1 s1) := ⟨_, _, rfl, obd.ints, obs.ints, hp1, hp2⟩
  clear obd obs hs2
  obtain ⟨W3, hW3⟩ : ∃ W3, W3 = w3.alloc (.cells #[.int .i64 p1, .slice bda d1.length bdc, .slice bsa s1.length bsc] 24) := ⟨_, rfl⟩
  have G3 := grown_new w3 (.cells #[.int .i64 p1, .slice bda d1.length bdc, .slice bsa s1.length bsc] 24)
  have B3 := heap_alloc_new w3 (.cells #[.int .i64 p1, .slice bda d1.length bdc, .slice bsa s1.length bsc] 24)
  have g03' := grown_trans g02 (grown_trans hg3 G3)
  have g13' := grown_trans g12 (grown_trans hg3 G3)
  obtain ⟨b0, b1, b2, -, -, -⟩ := box_cells (BX.out _ g03').1
  obtain ⟨c0, c1, c2⟩ := cut_cells (BX.out _ g03').2
  obtain ⟨o0, o1, o2, -, -, -⟩ := box_cells (OB.out _ g13')
  go_wp2_with fail
  clear b0 b1 b2 c0 c1 c2 o0 o1 o2
  rw [← hW3] at G3 B3 g03' g13'
  rw [← hW3]
  have hz3 : W3.heap.size = w3.heap.size + 1 := by rw [hW3]; simp
  clear hW3
  have g03 := g03'
  have g13 := g13'
  clear g03' g13'
  have BB : Hid (∀ wx, W3.grownBy wx none → wx.heap[w3.heap.size]? = some (.cells #[.int .i64 p1, .slice bda d1.length bdc, .slice bsa s1.length bsc] 24 (0, 0))) := fun wx hg => box_kept B3 hg
  clear B3
  refine (spread_any _ _ off ds ss l W3 (VO1.out.more g13) (HL.out.more (grown_trans g0 g03))).mono ?_
  rintro e w4 ⟨x, E3, p3, d3, s3, rfl, hs3, ox, hg4⟩
  obtain ⟨xd, xs_, rfl, oxd, oxs, hp3, hp4, apX⟩ := ox
  obtain ⟨xda, xdc, rfl, -, -, -, -, -, -⟩ := oxd.ints
  obtain ⟨xsa, xsc, rfl, -, -, -, -, -, -⟩ := oxs.ints
  have OXD := hide oxd
  have OXS := hide oxs
  have HS3 := hide hs3
  have APX := hide apX
  clear oxd oxs hs3 apX
  obtain ⟨W4, hW4⟩ : ∃ W4, W4 = w4.alloc (.cells #[.int .i64 p3, .slice xda d3.length xdc, .slice xsa s3.length xsc] 24) := ⟨_, rfl⟩
  have G4 := grown_new w4 (.cells #[.int .i64 p3, .slice xda d3.length xdc, .slice xsa s3.length xsc] 24)
  have B4 := heap_alloc_new w4 (.cells #[.int .i64 p3, .slice xda d3.length xdc, .slice xsa s3.length xsc] 24)
  have g04' := grown_trans g03 (grown_trans hg4 G4)
  have g14' := grown_trans g13 (grown_trans hg4 G4)
  obtain ⟨b0, b1, b2, -, -, -⟩ := box_cells (BX.out _ g04').1
  obtain ⟨c0, c1, c2⟩ := cut_cells (BX.out _ g04').2
  obtain ⟨o0, o1, o2, -, -, -⟩ := box_cells (OB.out _ g14')
  go_wp2_with fail
  clear b0 b1 b2 c0 c1 c2 o0 o1 o2
  rw [← hW4] at G4 B4 g04' g14'
  rw [← hW4]
  have hz4 : W4.heap.size = w4.heap.size + 1 := by rw [hW4]; simp
  clear hW4
  have g04 := g04'
  have g14 := g14'
  clear g04' g14'
  have XB : Hid (∀ wx, W4.grownBy wx none → wx.heap[w4.heap.size]? = some (.cells #[.int .i64 p3, .slice xda d3.length xdc, .slice xsa s3.length xsc] 24 (0, 0))) := fun wx hg => box_kept B4 hg
  clear B4
  refine (refspread_any _ _ off ds ss l W4 (HV.out.more (grown_trans g0 g04)) (HL.out.more (grown_trans g0 g04))).mono ?_
  rintro e w5 ⟨y, E4, p4, d4, s4, rfl, hs4, oy, hg5⟩
  obtain ⟨rfl, rfl, rfl, rfl⟩ := spreaded_det HS3.out hs4
  obtain ⟨yd, ys_, rfl, oyd, oys, -, -, -⟩ := oy
  obtain ⟨yda, ydc, rfl, -, -, -, -, -, -⟩ := oyd.ints
  obtain ⟨ysa, ysc, rfl, -, -, -, -, -, -⟩ := oys.ints
  have VY : Hid (IsView w5 (.agg #[.int .i64 p3, .slice yda d3.length ydc, .slice ysa s3.length ysc]) p3 d3 s3) := ⟨_, _, rfl, oyd.ints, oys.ints, hp3, hp4⟩
  clear oyd oys hs4
  have hE1 : (E1 != E1) = false := by simp
  have hE3 : (E3 != E3) = false := by simp
  obtain ⟨W5, hW5⟩ : ∃ W5, W5 = w5.alloc (.cells #[.int .i64 p3, .slice yda d3.length ydc, .slice ysa s3.length ysc] 24) := ⟨_, rfl⟩
  have G5 := grown_new w5 (.cells #[.int .i64 p3, .slice yda d3.length ydc, .slice ysa s3.length ysc] 24)
  have B5 := heap_alloc_new w5 (.cells #[.int .i64 p3, .slice yda d3.length ydc, .slice ysa s3.length ysc] 24)
  have g05' := grown_trans g04 (grown_trans hg5 G5)
  have g15' := grown_trans g14 (grown_trans hg5 G5)
  obtain ⟨b0, b1, b2, -, -, -⟩ := box_cells (AB.out _ (grown_trans (grown_trans hg3 G3) (grown_trans (grown_trans hg4 G4) (grown_trans hg5 G5))))
  obtain ⟨c0, c1, c2, -, -, -⟩ := box_cells (BB.out _ (grown_trans (grown_trans hg4 G4) (grown_trans hg5 G5)))
  obtain ⟨o0, o1, o2, -, -, -⟩ := box_cells B5
  go_wp2_with fail
  clear b0 b1 b2 c0 c1 c2 o0 o1 o2
  rw [← hW5] at G5 B5 g05' g15'
  rw [← hW5]
  have hz5 : W5.heap.size = w5.heap.size + 1 := by rw [hW5]; simp
  clear hW5
  have g05 := g05'
  have g15 := g15'
  clear g05' g15'
  have YB : Hid (∀ wx, W5.grownBy wx none → wx.heap[w5.heap.size]? = some (.cells #[.int .i64 p3, .slice yda d3.length ydc, .slice ysa s3.length ysc] 24 (0, 0))) := fun wx hg => box_kept B5 hg
  clear B5
  have g45 := grown_trans hg5 G5
  have g35 := grown_trans (grown_trans hg4 G4) g45
  have g25 := grown_trans (grown_trans hg3 G3) g35
  refine (vsame_any _ _ p1 d1 s1 W5 (show IsView W5 (.agg #[.int .i64 p1, .slice ada d1.length adc, .slice asa s1.length asc]) p1 d1 s1 from ⟨_, _, rfl, OAD.out.ints.more (grown_trans G2 g25), OAS.out.ints.more (grown_trans G2 g25), hp1, hp2⟩) (VB.out.more (grown_trans G3 g35))).mono ?_
  rintro e w6 ⟨rfl, hg6⟩
  obtain ⟨b0, b1, b2, -, -, -⟩ := box_cells (XB.out _ (grown_trans g45 hg6))
  obtain ⟨c0, c1, c2, -, -, -⟩ := box_cells (YB.out _ hg6)
  go_wp2_with fail
  clear b0 b1 b2 c0 c1 c2
  refine (vsame_any _ _ p3 d3 s3 w6 (show IsView w6 (.agg #[.int .i64 p3, .slice xda d3.length xdc, .slice xsa s3.length xsc]) p3 d3 s3 from ⟨_, _, rfl, OXD.out.ints.more (grown_trans G4 (grown_trans g45 hg6)), OXS.out.ints.more (grown_trans G4 (grown_trans g45 hg6)), hp3, hp4⟩) (VY.out.more (grown_trans G5 hg6))).mono ?_
  rintro e w7 ⟨rfl, hg7⟩
  have g57 := grown_trans hg6 hg7
  have g47 := grown_trans g45 g57
  have g27 := grown_trans g25 g57
  obtain ⟨b0, b1, b2, -, -, -⟩ := box_cells (AB.out _ g27)
  go_wp2_with fail
  clear b0 b1 b2
  refine (vspoil_all _ _ W1.heap.size p1 d1 s1 w7 (OAD.out.new (grown_trans G2 g27)) (OAS.out.new (grown_trans G2 g27)) APA.out).mono ?_
  rintro e w8 ⟨rfl, hsp8⟩
  have g17 := grown_trans g15 g57
  have g18 := hsp8.below g17 (fun k hk => (OAD.out.lt k hk).1) (fun k hk => (OAS.out.lt k hk).1)
  have z2 := (grown_trans hg3 G3).size
  have z4 := (grown_trans hg4 G4).size
  have z7 := g47.size
  have KP : ∀ k, w2.heap.size ≤ k → k < w7.heap.size → w8.heap[k]? = w7.heap[k]? := fun k h1 h2 => hsp8.2 k h2 (fun e => by have := (OAD.out.lt k e).2; omega) (fun e => by have := (OAS.out.lt k e).2; omega)
  have OXD8 := hide ((OXD.out.new (grown_trans G4 g47)).stays (fun k hk => KP k (by have := (OXD.out.lt k hk).1; omega) (by have := ((OXD.out.new (grown_trans G4 g47)).lt k hk).2; omega)))
  have OXS8 := hide ((OXS.out.new (grown_trans G4 g47)).stays (fun k hk => KP k (by have := (OXS.out.lt k hk).1; omega) (by have := ((OXS.out.new (grown_trans G4 g47)).lt k hk).2; omega)))
  have zw4 := hg4.size
  have bx8 := (KP w4.heap.size (by omega) (by omega)).trans (XB.out _ g47)
  obtain ⟨b0, b1, b2, -, -, -⟩ := box_cells bx8
  go_wp2_with fail
  clear b0 b1 b2
  refine (vspoil_all _ _ W3.heap.size p3 d3 s3 w8 OXD8.out OXS8.out APX.out).mono ?_
  rintro e w9 ⟨rfl, hsp9⟩
  have z13 := g13.size
  have g19 := hsp9.below g18 (fun k hk => by have := (OXD.out.lt k hk).1; omega) (fun k hk => by have := (OXS.out.lt k hk).1; omega)
  have g09 := grown_trans g01 g19
  obtain ⟨b0, b1, b2, -, -, -⟩ := box_cells (BX.out _ g09).1
  obtain ⟨o0, o1, o2, -, -, -⟩ := box_cells (OB.out _ g19)
  go_wp2_with fail
  clear b0 b1 b2 o0 o1 o2
  refine (vsame_any _ _ off ds ss w9 (VO1.out.more g19) (HV.out.more (grown_trans g0 g09))).mono ?_
  rintro e w10 ⟨rfl, hg10⟩
  go_wp2_with fail
  refine (vlive_any _).mono ?_
  rintro e w11 ⟨rfl, hg11⟩
  go_wp2
  go_ret
  exact ⟨rfl, grown_below (grown_trans (grown_trans g0 g09) (grown_trans hg10 hg11))⟩
end Go.Proofs.Ythphkgnigfmlaaa
