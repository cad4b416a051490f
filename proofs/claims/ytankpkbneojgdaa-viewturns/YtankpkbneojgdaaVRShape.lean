/- The document's Reshape, by the walk. -/
import Derived.Test.YtankpkbneojgdaaVRPlain
import Derived.Test.YtankpkbneojgdaaVRWhole
import Derived.Test.YtankpkbneojgdaaVRMay
import Derived.Deep.RegionHeld3
namespace Go.Proofs.Ytankpkbneojgdaa
open Go.RowKit

set_option maxRecDepth 100000 in
set_option maxHeartbeats 3200000 in
theorem refreshape_any (v lv : Value) (off : Int) (ds ss l : List Int) (w : World) (h : IsView w v off ds ss) (hl : IsInts w lv l) :
    Calls Try.prog 8 #[v, lv] w fun e w' => ∃ u E off' ds' ss', e = .returned (.tuple #[u, .int .i64 E]) ∧ Reshaped off ds ss l E off' ds' ss' ∧ OwnView w' w.heap.size u off' ds' ss' ∧ w.grownBy w' none := by
  have HL := hide hl
  obtain ⟨la, lc, rfl, hl1, hl2, hl3, -, -, -⟩ := hl
  have hv := h
  obtain ⟨dv, sv, rfl, hd, hs, ho1, ho2⟩ := h
  obtain ⟨w0, hw0⟩ : ∃ w0, w0 = (w.alloc (.cells #[.int .i64 off, dv, sv] 24)).alloc (.cells #[.int .i64 0, .slice none 0 0, .slice none 0 0] 24) := ⟨_, rfl⟩
  have g0 : w.grownBy w0 none := by rw [hw0]; exact grown_trans (grown_new _ _) (grown_new _ _)
  have hs0 : w0.heap.size = w.heap.size + 2 := by rw [hw0]; simp
  have hbx := two_boxes w (.cells #[.int .i64 off, dv, sv] 24) (.cells #[.int .i64 0, .slice none 0 0, .slice none 0 0] 24)
  rw [← hw0] at hbx
  have BX : Hid (∀ wx, w0.grownBy wx none → wx.heap[w.heap.size]? = some (.cells #[.int .i64 off, dv, sv] 24 (0, 0)) ∧ wx.heap[w.heap.size + 1]? = some (.cells #[.int .i64 0, .slice none 0 0, .slice none 0 0] 24 (0, 0)) ∧ w.heap.size + 2 ≤ wx.heap.size) :=
    fun wx hg => ⟨box_kept hbx.1 hg, box_kept hbx.2 hg, by have := hg.size; omega⟩
  have MB := hide (refmay_any _ off ds ss w0 (hv.more g0))
  have HD := hide hd
  have HS := hide hs
  obtain ⟨x0, x1, x2, -, -, -⟩ := box_cells hbx.1
  have FAIL : Hid (∀ wx, w0.grownBy wx none → (((wx.setCell ⟨w.heap.size + 1, 0, none⟩ (.int .i64 0)).setCell ⟨w.heap.size + 1, 1, none⟩ (.slice none 0 0)).setCell ⟨w.heap.size + 1, 2, none⟩ (.slice none 0 0)).heap[w.heap.size + 1]? = some (.cells #[.int .i64 0, .slice none 0 0, .slice none 0 0] 24 (0, 0)) ∧ w.grownBy (((wx.setCell ⟨w.heap.size + 1, 0, none⟩ (.int .i64 0)).setCell ⟨w.heap.size + 1, 1, none⟩ (.slice none 0 0)).setCell ⟨w.heap.size + 1, 2, none⟩ (.slice none 0 0)) none) := fun wx hg => by
    obtain ⟨hX, gX, _⟩ := store3 (.int .i64 0) (.slice none 0 0) (.slice none 0 0) (grown_trans g0 hg) (show w.heap.size ≤ w.heap.size + 1 by omega) (BX.out wx hg).2.1
    exact ⟨hX, gX⟩
  obtain ⟨da, dc, rfl, hd1, hd2, hd3, -, -, -⟩ := hd
  obtain ⟨sa, sc, rfl, hs1, hs2, hs3, -, -, -⟩ := hs
  have HV := hide hv
  clear hv hbx
  by_cases hM : mayB off ds ss = true
  · rw [hM] at MB
    have HMV := hide (mayB_iff.1 hM)
    have STR := hide (fun wx (hg : w.grownBy wx none) => refstrides_any _ l wx (HL.out.more hg))
    have CN1 := hide (fun wx (hg : w.grownBy wx none) => refcount_any _ ds wx (HD.out.more hg))
    have CN2 := hide (fun wx (hg : w.grownBy wx none) => refcount_any _ l wx (HL.out.more hg))
    rw [HMV.out.fine.ok, HMV.out.fine.cnt] at CN1
    clear hM
    by_cases hE : cntE l = 0
    · have HF := hide (fine_of hE)
      rw [hE, show strdE l = strd l by simp [strdE, hE]] at STR
      rw [hE, HF.out.cnt] at CN2
      obtain ⟨K, hK⟩ : ∃ K, K = prod ds := ⟨_, rfl⟩
      obtain ⟨M, hMM⟩ : ∃ M, M = prod l := ⟨_, rfl⟩
      rw [← hK] at CN1
      rw [← hMM] at CN2
      have HK := hide hK
      have HMM := hide hMM
      clear hE hK hMM
      go_enter Try.func8, Try.ntmps8
      go_wp2_with fail
      rw [← hw0]
      clear hw0 x0 x1 x2
      refine MB.out.mono ?_
      rintro e w1 ⟨rfl, hg1⟩
      go_wp2_with fail
      refine (STR.out w1 (grown_trans g0 hg1)).mono ?_
      rintro e w2 ⟨t, rfl, ot, hg2⟩
      have OT := hide ot
      obtain ⟨ta, tc, rfl, -, -, -, -, -, -⟩ := ot.ints
      have g2 := grown_trans hg1 hg2
      clear ot
      obtain ⟨y0, y1, y2, -, -, -⟩ := box_cells (BX.out w2 g2).1
      go_wp2_with fail
      refine (CN1.out w2 (grown_trans g0 g2)).mono ?_
      rintro e w' ⟨rfl, rfl⟩
      go_wp2_with fail
      refine (CN2.out w2 (grown_trans g0 g2)).mono ?_
      rintro e w' ⟨rfl, rfl⟩
      by_cases hP : K = M
      · have hkm : (K != M) = false := by simp [hP]
        have HP := hide hP
        have PL := hide (refplain_any _ off ds ss w2 (HV.out.more (grown_trans g0 g2)) HMV.out)
        clear hP
        go_wp2_with fail
        refine PL.out.mono ?_
        rintro e w3 ⟨b, rfl, hb, hg3⟩
        have g3 := grown_trans g2 hg3
        clear y0 y1 y2
        have HPQ : Hid (prod ds = prod l) := by show _ = _; rw [← HK.out, ← HMM.out]; exact HP.out
        cases b with
        | true =>
          have PP := hide (hb.1 rfl)
          have CPY : Hid (∀ wx, w3.grownBy wx none → Calls Try.prog 14 #[.slice la l.length lc] wx fun e w' => ∃ u, e = .returned u ∧ Owns w' wx.heap.size u l ∧ wx.grownBy w' none) := fun wx hx => copy_any _ l wx (HL.out.more (grown_trans g0 (grown_trans g3 hx)))
          have OT3 := hide (OT.out.new hg3)
          have hsz1 : w.heap.size + 2 ≤ w1.heap.size := (BX.out w1 hg1).2.2
          have hsz3 : w1.heap.size ≤ w3.heap.size := (grown_trans hg2 hg3).size
          have gd := grown_drew (grown_refl w3)
          obtain ⟨y0, y1, y2, -, -, -⟩ := box_cells (BX.out w3 g3).1
          clear hb
          go_wp2
          go_region_held3 (fun w' => w'.cell? ⟨w.heap.size, 0, none⟩ = some (.int .i64 off)) (go_keep) (first | (go_at_call 14; refine (CPY.out _ (by exact gd)).mono ?_; rintro e w4 ⟨d, rfl, od, hg4⟩; have g34 := grown_trans gd hg4; have g4 := grown_trans g3 g34; obtain ⟨da2, dc2, rfl, -, -, -, -, -, -⟩ := od.ints; obtain ⟨z0, z1, z2, -, -, -⟩ := box_cells (BX.out w4 g4).1; obtain ⟨k0, k1, k2, f0, f1, f2⟩ := box_cells (BX.out w4 g4).2.1))
          have hzd : w3.drew.heap.size = w3.heap.size := rfl
          have ap := apart_of (v := .slice ta (strd l).length tc) (v' := .slice da2 l.length dc2) (a := w3.heap.size) (b := w3.heap.size) (fun k hk => (OT3.out.lt k hk).2) (fun k hk => (od.lt k hk).1) (Nat.le_refl _)
          have ap' : (Value.slice da2 l.length dc2).ownBlock = none ∨ (Value.slice da2 l.length dc2).ownBlock ≠ (Value.slice ta (strd l).length tc).ownBlock := by
            rcases ap with h | h
            · rw [h]
              generalize Value.ownBlock _ = o
              cases o with
              | none => exact Or.inl rfl
              | some k => exact Or.inr (by simp)
            · exact Or.inr (fun e => h e.symm)
          obtain ⟨HX, OV, GX⟩ := put_view (off := off) (base := w.heap.size + 2) (grown_trans g0 g4) (show w.heap.size ≤ w.heap.size + 1 by omega) (BX.out w4 g4).2.1 (od.base_le (by omega)) ((OT3.out.new g34).base_le hsz1) (by omega) ho1 ho2 ap'
          have HXX := hide HX
          have HOV := hide OV
          have HGX := hide GX
          clear HX OV GX od ap ap'
          go_wp2
          refine bodyPost_ret (ret_view rfl _ _ (w.heap.size + 1) rfl HXX.out) rfl ?_
          exact ⟨_, 0, off, _, _, rfl, Or.inr (Or.inr (Or.inr (Or.inr ⟨HMV.out, HF.out, HPQ.out, PP.out, rfl, rfl, rfl, rfl⟩))), HOV.out, HGX.out⟩
        | false =>
          have PP : Hid (¬ PlainV ds ss) := fun h => by have := hb.2 h; cases this
          obtain ⟨k0, k1, k2, f0, f1, f2⟩ := box_cells (BX.out w3 g3).2.1
          clear hb
          go_wp2
          refine bodyPost_ret (ret_view rfl _ _ (w.heap.size + 1) rfl (FAIL.out w3 g3).1) rfl ?_
          exact ⟨_, 1, 0, [], [], rfl, Or.inr (Or.inr (Or.inr (Or.inl ⟨HMV.out, HF.out, HPQ.out, PP.out, rfl, rfl, rfl, rfl⟩))), OwnView.nil _ _, (FAIL.out w3 g3).2⟩
      · have hkm : (K != M) = true := by simp [hP]
        have HP : Hid (prod ds ≠ prod l) := by show _ ≠ _; rw [← HK.out, ← HMM.out]; exact hP
        obtain ⟨k0, k1, k2, f0, f1, f2⟩ := box_cells (BX.out w2 g2).2.1
        clear hP
        go_wp2
        refine bodyPost_ret (ret_view rfl _ _ (w.heap.size + 1) rfl (FAIL.out w2 g2).1) rfl ?_
        exact ⟨_, 4, 0, [], [], rfl, Or.inr (Or.inr (Or.inl ⟨HMV.out, HF.out, HP.out, rfl, rfl, rfl, rfl⟩)), OwnView.nil _ _, (FAIL.out w2 g2).2⟩
    · have hE' := beq_zero_false hE
      have HE := hide hE
      obtain ⟨E, hEE⟩ : ∃ E, E = cntE l := ⟨_, rfl⟩
      rw [← hEE, show strdE l = [] by simp [strdE, hE]] at STR
      rw [← hEE] at hE'
      have hE9 : (E != 0) = true := by simp [bne, hE']
      have HEE := hide hEE
      clear hE hEE
      go_enter Try.func8, Try.ntmps8
      go_wp2_with fail
      rw [← hw0]
      clear hw0 x0 x1 x2
      refine MB.out.mono ?_
      rintro e w1 ⟨rfl, hg1⟩
      go_wp2_with fail
      refine (STR.out w1 (grown_trans g0 hg1)).mono ?_
      rintro e w2 ⟨t, rfl, ot, hg2⟩
      have g2 := grown_trans hg1 hg2
      clear ot
      obtain ⟨k0, k1, k2, f0, f1, f2⟩ := box_cells (BX.out w2 g2).2.1
      go_wp2
      refine bodyPost_ret (ret_view rfl _ _ (w.heap.size + 1) rfl (FAIL.out w2 g2).1) rfl ?_
      exact ⟨_, E, 0, [], [], rfl, Or.inr (Or.inl ⟨HMV.out, HE.out, HEE.out, rfl, rfl, rfl⟩), OwnView.nil _ _, (FAIL.out w2 g2).2⟩
  · have hM' : mayB off ds ss = false := by simpa using hM
    have HNM : Hid (¬ MayV off ds ss) := fun h => hM (mayB_iff.2 h)
    rw [hM'] at MB
    clear hM hM'
    go_enter Try.func8, Try.ntmps8
    go_wp2_with fail
    rw [← hw0]
    clear hw0
    refine MB.out.mono ?_
    rintro e w1 ⟨rfl, hg1⟩
    obtain ⟨k0, k1, k2, f0, f1, f2⟩ := box_cells (BX.out w1 hg1).2.1
    go_wp2
    refine bodyPost_ret (ret_view rfl _ _ (w.heap.size + 1) rfl (FAIL.out w1 hg1).1) rfl ?_
    exact ⟨_, 1, 0, [], [], rfl, Or.inl ⟨HNM.out, rfl, rfl, rfl, rfl⟩, OwnView.nil _ _, (FAIL.out w1 hg1).2⟩
end Go.Proofs.Ytankpkbneojgdaa
