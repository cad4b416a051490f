/- The document's Slice, by the walk. -/
import Derived.Test.YthphkgnigfmlaaaVSlice
import Derived.Test.YthphkgnigfmlaaaVCopy
import Derived.Test.YthphkgnigfmlaaaVRMay
import Derived.Deep.RegionWith
namespace Go.Proofs.Ythphkgnigfmlaaa
open Go.RowKit

set_option maxHeartbeats 6400000 in
theorem refslice_any (v : Value) (axis fr to off : Int) (ds ss : List Int) (w : World) (h : IsView w v off ds ss) (ha1 : -9223372036854775808 ≤ axis) (ha2 : axis ≤ 9223372036854775807) (hf1 : -9223372036854775808 ≤ fr) (hf2 : fr ≤ 9223372036854775807) (ht1 : -9223372036854775808 ≤ to) (ht2 : to ≤ 9223372036854775807) :
    Calls Try.prog 18 #[v, .int .i64 axis, .int .i64 fr, .int .i64 to] w fun e w' => ∃ u E off' ds' ss', e = .returned (.tuple #[u, .int .i64 E]) ∧ Sliced off ds ss axis fr to E off' ds' ss' ∧ OwnView w' w.heap.size u off' ds' ss' ∧ w.grownBy w' none := by
  have hv := h
  obtain ⟨dv, sv, rfl, hd, hs, ho1, ho2⟩ := h
  obtain ⟨w0, hw0⟩ : ∃ w0, w0 = (w.alloc (.cells #[.int .i64 off, dv, sv] 24)).alloc (.cells #[.int .i64 0, .slice none 0 0, .slice none 0 0] 24) := ⟨_, rfl⟩
  have g0 : w.grownBy w0 none := by rw [hw0]; exact grown_trans (grown_new _ _) (grown_new _ _)
  have hs0 : w0.heap.size = w.heap.size + 2 := by rw [hw0]; simp
  have hbx := two_boxes w (.cells #[.int .i64 off, dv, sv] 24) (.cells #[.int .i64 0, .slice none 0 0, .slice none 0 0] 24)
  rw [← hw0] at hbx
  have BX : Hid (∀ wx, w0.grownBy wx none → wx.heap[w.heap.size]? = some (.cells #[.int .i64 off, dv, sv] 24 (0, 0)) ∧ wx.heap[w.heap.size + 1]? = some (.cells #[.int .i64 0, .slice none 0 0, .slice none 0 0] 24 (0, 0)) ∧ w.heap.size + 2 ≤ wx.heap.size) :=
    fun wx hg => ⟨box_kept hbx.1 hg, box_kept hbx.2 hg, by have := hg.size; omega⟩
  have MB := hide (refmay_any _ off ds ss w0 (hv.more g0))
  have HD := hide hd
  have HS := hide hs
  obtain ⟨x0, x1, x2, -, -, -⟩ := box_cells hbx.1
  have FAIL : Hid (∀ wx, w0.grownBy wx none → (((wx.setCell ⟨w.heap.size + 1, 0, none⟩ (.int .i64 0)).setCell ⟨w.heap.size + 1, 1, none⟩ (.slice none 0 0)).setCell ⟨w.heap.size + 1, 2, none⟩ (.slice none 0 0)).heap[w.heap.size + 1]? = some (.cells #[.int .i64 0, .slice none 0 0, .slice none 0 0] 24 (0, 0)) ∧ w.grownBy (((wx.setCell ⟨w.heap.size + 1, 0, none⟩ (.int .i64 0)).setCell ⟨w.heap.size + 1, 1, none⟩ (.slice none 0 0)).setCell ⟨w.heap.size + 1, 2, none⟩ (.slice none 0 0)) none) := fun wx hg => by
    obtain ⟨hX, gX, _⟩ := store3 (.int .i64 0) (.slice none 0 0) (.slice none 0 0) (grown_trans g0 hg) (show w.heap.size ≤ w.heap.size + 1 by omega) (BX.out wx hg).2.1
    exact ⟨hX, gX⟩
  obtain ⟨da, dc, rfl, hd1, hd2, hd3, -, -, -⟩ := hd
  obtain ⟨sa, sc, rfl, hs1, hs2, hs3, -, -, -⟩ := hs
  have HV := hide hv
  clear hv hbx
  by_cases hM : mayB off ds ss = true
  · rw [hM] at MB
    have HMV := hide (mayB_iff.1 hM)
    have hlo := HMV.out.lo
    have hhi := HMV.out.hi
    have hll : ds.length ≤ ss.length := by have := HMV.out.len; omega
    clear hM
    go_enter Try.func18, Try.ntmps18
    go_wp2_with fail
    rw [← hw0]
    clear hw0 x0 x1 x2
    refine MB.out.mono ?_
    rintro e w1 ⟨rfl, hg1⟩
    obtain ⟨y0, y1, y2, -, -, -⟩ := box_cells (BX.out w1 hg1).1
    obtain ⟨k0, k1, k2, f0, f1, f2⟩ := box_cells (BX.out w1 hg1).2.1
    have g01 := grown_trans g0 hg1
    have BAD : Hid (¬ PartOk ds axis fr to → ∃ u E off' ds' ss', Ending.returned (.tuple #[.agg #[.int .i64 0, .slice none 0 0, .slice none 0 0], .int .i64 4]) = .returned (.tuple #[u, .int .i64 E]) ∧ Sliced off ds ss axis fr to E off' ds' ss' ∧ OwnView (((w1.setCell ⟨w.heap.size + 1, 0, none⟩ (.int .i64 0)).setCell ⟨w.heap.size + 1, 1, none⟩ (.slice none 0 0)).setCell ⟨w.heap.size + 1, 2, none⟩ (.slice none 0 0)) w.heap.size u off' ds' ss' ∧ w.grownBy (((w1.setCell ⟨w.heap.size + 1, 0, none⟩ (.int .i64 0)).setCell ⟨w.heap.size + 1, 1, none⟩ (.slice none 0 0)).setCell ⟨w.heap.size + 1, 2, none⟩ (.slice none 0 0)) none) :=
      fun hn => ⟨_, 4, 0, [], [], rfl, Or.inr (Or.inl ⟨HMV.out, hn, rfl, rfl, rfl, rfl⟩), OwnView.nil _ _, (FAIL.out w1 hg1).2⟩
    by_cases ha0 : axis < 0
    · have HB := hide (BAD.out (fun h => by have := h.1; omega))
      go_wp2
      refine bodyPost_ret (ret_view rfl _ _ (w.heap.size + 1) rfl (FAIL.out w1 hg1).1) rfl ?_
      exact HB.out
    · by_cases ha3 : (ds.length : Int) ≤ axis
      · have HB := hide (BAD.out (fun h => by have := h.2.1; omega))
        go_wp2
        refine bodyPost_ret (ret_view rfl _ _ (w.heap.size + 1) rfl (FAIL.out w1 hg1).1) rfl ?_
        exact HB.out
      · obtain ⟨an, rfl⟩ : ∃ an : Nat, axis = an := ⟨axis.toNat, by omega⟩
        have han : an < ds.length := by omega
        have hans : an < ss.length := by omega
        by_cases hf0 : fr < 0
        · have HB := hide (BAD.out (fun h => by have := h.2.2.1; omega))
          go_wp2
          refine bodyPost_ret (ret_view rfl _ _ (w.heap.size + 1) rfl (FAIL.out w1 hg1).1) rfl ?_
          exact HB.out
        · obtain ⟨bd, od, rfl⟩ := addr_of HD.out (by omega)
          obtain ⟨bs, os, rfl⟩ := addr_of HS.out (by omega)
          have cd := item_at (HD.out.more g01) han
          have cs := item_at (HS.out.more g01) hans
          have hat1 := HMV.out.fine.at an han
          have hat2 := le_prod HMV.out.fine.pos (ds.getD an 0) (by rw [List.getD, List.getElem?_eq_getElem han]; simp)
          have hat3 := HMV.out.fine.le
          have hst := HMV.out.str (ss.getD an 0) (by rw [List.getD, List.getElem?_eq_getElem hans]; simp)
          obtain ⟨D, hD⟩ : ∃ D, D = ds.getD an 0 := ⟨_, rfl⟩
          obtain ⟨S, hS⟩ : ∃ S, S = ss.getD an 0 := ⟨_, rfl⟩
          rw [← hD] at cd hat1 hat2
          rw [← hS] at cs hst
          have HDD := hide hD
          have HSS := hide hS
          obtain ⟨hst1, hst2⟩ := hst
          clear hD hS
          by_cases ht0 : D < to
          · have HB := hide (BAD.out (fun h => by have := h.2.2.2.1; rw [Int.toNat_natCast, ← HDD.out] at this; omega))
            go_wp2
            refine bodyPost_ret (ret_view rfl _ _ (w.heap.size + 1) rfl (FAIL.out w1 hg1).1) rfl ?_
            exact HB.out
          · by_cases hft : to ≤ fr
            · have HB := hide (BAD.out (fun h => by have := h.2.2.2.2; omega))
              go_wp2
              refine bodyPost_ret (ret_view rfl _ _ (w.heap.size + 1) rfl (FAIL.out w1 hg1).1) rfl ?_
              exact HB.out
            · have POK : Hid (PartOk ds an fr to) := ⟨by omega, by omega, by omega, by rw [Int.toNat_natCast, ← HDD.out]; omega, by omega⟩
              have hm0 : 0 ≤ fr * S := Int.mul_nonneg (by omega) hst1
              have hm1 : fr * S ≤ 65536 * 65536 := Int.mul_le_mul (by omega) hst2 hst1 (by omega)
              have CP := hide (vcopy_any _ off ds ss w1 (HV.out.more g01))
              clear BAD
              go_wp2_with fail
              refine CP.out.mono ?_
              rintro e w2 ⟨u, rfl, ou, hg2⟩
              obtain ⟨d2, s2, rfl, od2, os2, -, -, hap⟩ := ou
              obtain ⟨g, cap, rfl, hgb⟩ := own_shape od2 (by omega)
              obtain ⟨sa2, sc2, rfl, -, -, -, -, -, -⟩ := os2.ints
              have OD2 := hide od2
              have OS2 := hide os2
              have HAP := hide hap
              have hgl : g < w2.heap.size := (od2.lt g rfl).2
              have hcap : ds.length ≤ cap ∧ cap ≤ 9223372036854775807 := by
                obtain ⟨ao, cap', e, h1, h2, -⟩ := od2.ints
                simp only [Value.slice.injEq, true_and] at e
                obtain ⟨-, rfl⟩ := e
                exact ⟨h1, h2⟩
              obtain ⟨hcap1, hcap2⟩ := hcap
              have hsz1 : w.heap.size + 2 ≤ w1.heap.size := (BX.out w1 hg1).2.2
              have hsz2 := hg2.size
              clear od2 os2 hap y0 y1 y2 k0 k1 k2 f0 f1 f2 cd cs
              obtain ⟨w3, hw3⟩ : ∃ w3, w3 = w2.alloc (.cells #[.int .i64 off, .slice (some ⟨g, 0, none⟩) ds.length cap, .slice sa2 ss.length sc2] 24) := ⟨_, rfl⟩
              have hb3 := heap_alloc_new w2 (.cells #[.int .i64 off, .slice (some ⟨g, 0, none⟩) ds.length cap, .slice sa2 ss.length sc2] 24)
              have g23 := grown_new w2 (.cells #[.int .i64 off, .slice (some ⟨g, 0, none⟩) ds.length cap, .slice sa2 ss.length sc2] 24)
              rw [← hw3] at hb3 g23
              have g13 := grown_trans hg2 g23
              go_wp2
              rw [← hw3]
              clear hw3
              obtain ⟨q0, q1, q2, e0, e1, e2⟩ := box_cells hb3
              obtain ⟨y0, y1, y2, -, -, -⟩ := box_cells (BX.out w3 (grown_trans hg1 g13)).1
              have cs := item_at (HS.out.more (grown_trans g01 g13)) hans
              rw [← HSS.out] at cs
              have HB3 := hide hb3
              clear hb3
              have hwr1 : IntKind.i64.wrap (fr * S) = fr * S := by rw [IntKind.wrap_i64]; omega
              have hwr2 : IntKind.i64.wrap (off + fr * S) = off + fr * S := by rw [IntKind.wrap_i64]; omega
              go_region_with (fail)
              all_goals
                clear q0 q1 q2 e0 e1 e2 y0 y1 y2 cs hwr1 hwr2
                obtain ⟨w4, hw4⟩ : ∃ w4, w4 = (w3.setCell ⟨w2.heap.size, 0, none⟩ (.int .i64 (off + fr * S))).drew := ⟨_, rfl⟩
                have hb4 : w4.heap[w2.heap.size]? = some (.cells #[.int .i64 (off + fr * S), .slice (some ⟨g, 0, none⟩) ds.length cap, .slice sa2 ss.length sc2] 24 (0, 0)) := by
                  rw [hw4]
                  exact heap_setCell_same w3 w2.heap.size 0 _ _ (.int .i64 (off + fr * S)) HB3.out
                have g34 : w3.grownBy w4 (some w2.heap.size) := by
                  rw [hw4]
                  exact ⟨rfl, rfl, rfl, by simp [World.setCell, World.drew], fun k _ hk => Below.heap_setCell _ _ _ _ (fun e => hk (by rw [e]))⟩
                have g24 : w2.grownBy w4 none := grown_trans_row g23 g34 (fun r e => by cases e; exact Nat.le_refl _)
                rw [← hw4]
                clear hw4
                obtain ⟨q0, q1, q2, e0, e1, e2⟩ := box_cells hb4
                have g14 := grown_trans hg2 g24
                have od4 := OD2.out.new g24
                obtain ⟨c, hc⟩ : ∃ c, w4.cell? ⟨g, an, none⟩ = some c := ⟨_, by rw [od4.1.cellAt an (by omega), List.getElem?_eq_getElem (by simp; omega)]⟩
                have hf := od4.1.frozenAt an
                have hst := od4.1.stored an (.int .i64 (to - fr))
                rw [map_set_int] at hst
                obtain ⟨w5, hw5⟩ : ∃ w5, w5 = w4.setCell ⟨g, an, none⟩ (.int .i64 (to - fr)) := ⟨_, rfl⟩
                rw [← hw5] at hst
                have g15 : w1.grownBy w5 none := grown_trans_row g14 hst.2 (fun r e => by cases e; exact hgb)
                have g05 := grown_trans hg1 g15
                have OD5 : Hid (Owns w5 w1.heap.size (.slice (some ⟨g, 0, none⟩) ds.length cap) (ds.set an (to - fr))) := by
                  refine ⟨by rw [List.length_set]; exact hst.1, by rw [List.length_set]; omega, fun z hz => ?_⟩
                  rcases List.mem_or_eq_of_mem_set hz with h | rfl
                  · exact od4.2.2 z h
                  · omega
                have OS5 : Hid (Owns w5 w1.heap.size (.slice sa2 ss.length sc2) ss) := (OS2.out.new g24).more hst.2 (Or.inr (fun e => by rcases HAP.out with h | h; cases h; exact h e.symm))
                obtain ⟨k0, k1, k2, f0, f1, f2⟩ := box_cells (BX.out w4 (grown_trans hg1 g14)).2.1
                clear od4 hst hb4
                by_cases hbig : 65535 < off + fr * S
                · have HR : Hid (Sliced off ds ss an fr to 6 0 [] []) := Or.inr (Or.inr (Or.inl ⟨HMV.out, POK.out, by rw [Int.toNat_natCast, ← HSS.out]; exact hbig, rfl, rfl, rfl, rfl⟩))
                  have HFX := hide (FAIL.out w5 g05)
                  go_wp2
                  rw [← hw5]
                  refine bodyPost_ret (ret_view rfl _ _ (w.heap.size + 1) rfl HFX.out.1) rfl ?_
                  exact ⟨_, 6, 0, [], [], rfl, HR.out, OwnView.nil _ _, HFX.out.2⟩
                · have HR : Hid (Sliced off ds ss an fr to 0 (off + fr * S) (ds.set an (to - fr)) ss) := Or.inr (Or.inr (Or.inr ⟨HMV.out, POK.out, by rw [Int.toNat_natCast, ← HSS.out]; omega, rfl, by rw [Int.toNat_natCast, ← HSS.out], by rw [Int.toNat_natCast], rfl⟩))
                  obtain ⟨HX, OV, GX⟩ := put_view (off := off + fr * S) (base := w.heap.size + 2) (grown_trans g0 g05) (show w.heap.size ≤ w.heap.size + 1 by omega) (BX.out w5 g05).2.1 (OD5.out.base_le hsz1) (OS5.out.base_le hsz1) (by omega) (by omega) (by omega) HAP.out
                  have HXX := hide HX
                  have HOV := hide OV
                  have HGX := hide GX
                  clear HX OV GX
                  go_wp2
                  rw [← hw5]
                  refine bodyPost_ret (ret_view rfl _ _ (w.heap.size + 1) rfl HXX.out) rfl ?_
                  exact ⟨_, 0, rfl, off + fr * S, _, _, HR.out, HOV.out, HGX.out⟩
  · have hM' : mayB off ds ss = false := by simpa using hM
    have HNM : Hid (¬ MayV off ds ss) := fun h => hM (mayB_iff.2 h)
    rw [hM'] at MB
    clear hM hM'
    go_enter Try.func18, Try.ntmps18
    go_wp2_with fail
    rw [← hw0]
    clear hw0
    refine MB.out.mono ?_
    rintro e w1 ⟨rfl, hg1⟩
    obtain ⟨k0, k1, k2, f0, f1, f2⟩ := box_cells (BX.out w1 hg1).2.1
    go_wp2
    refine bodyPost_ret (ret_view rfl _ _ (w.heap.size + 1) rfl (FAIL.out w1 hg1).1) rfl ?_
    exact ⟨_, 1, 0, [], [], rfl, Or.inl ⟨HNM.out, rfl, rfl, rfl, rfl⟩, OwnView.nil _ _, (FAIL.out w1 hg1).2⟩
end Go.Proofs.Ythphkgnigfmlaaa
