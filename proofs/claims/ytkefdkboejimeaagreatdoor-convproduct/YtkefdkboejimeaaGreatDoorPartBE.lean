/- A part. -/
import Derived.Test.YtkefdkboejimeaaGreatDoorPartAZ
import Derived.Deep.RegionWith
set_option maxHeartbeats 16000000
namespace Go.Proofs.YtkefdkboejimeaaGreatDoor.Vw
open Go.RowKit
def Turned (off : Int) (ds ss perm : List Int) (E : Int) (off' : Int) (ds' ss' : List Int) : Prop :=
 (¬ MayV off ds ss ∧ E = 1 ∧ off' = 0 ∧ ds' = [] ∧ ss' = []) ∨ (MayV off ds ss ∧ ¬ IsPerm perm ds.length ∧ E = 4 ∧ off' = 0 ∧ ds' = [] ∧ ss' = []) ∨
 (MayV off ds ss ∧ IsPerm perm ds.length ∧ E = 0 ∧ off' = off ∧ ds' = pickL ds perm ∧ ss' = pickL ss perm)
theorem transpose_any (v pv : Value) (off : Int) (ds ss perm : List Int) (w : World) (h : IsView w v off ds ss) (hp : IsInts w pv perm) :
    Calls Tryz.prog 33 #[v, pv] w fun e w' => ∃ u E off' ds' ss', e = .returned (.tuple #[u, .int .i64 E]) ∧ Turned off ds ss perm E off' ds' ss' ∧ jbt w' w.heap.size u off' ds' ss' ∧ w.grownBy w' none := by
     have hv := h
     obtain ⟨dv, sv, rfl, hd, hs, ho1, ho2⟩ := h
     obtain ⟨w0, hw0⟩ : ∃ w0, w0 = (w.alloc (.cells #[.int .i64 off, dv, sv] 105)).alloc (.cells #[.int .i64 0, .slice none 0 0, .slice none 0 0] 105) := ⟨_, rfl⟩
     have g0 : w.grownBy w0 none := by rw [hw0]; exact jaa (jab _ _) (jab _ _)
     have hs0 : w0.heap.size = w.heap.size + 2 := by rw [hw0]; simp
     have hbx := jax w (.cells #[.int .i64 off, dv, sv] 105) (.cells #[.int .i64 0, .slice none 0 0, .slice none 0 0] 105)
     rw [← hw0] at hbx
     have BX : Hid (∀ wx, w0.grownBy wx none → wx.heap[w.heap.size]? = some (.cells #[.int .i64 off, dv, sv] 105 (0, 0)) ∧ wx.heap[w.heap.size + 1]? = some (.cells #[.int .i64 0, .slice none 0 0, .slice none 0 0] 105 (0, 0)) ∧ w.heap.size + 2 ≤ wx.heap.size) :=
      fun wx hg => ⟨jad hbx.1 hg, jad hbx.2 hg, by have := hg.size; omega⟩
     have MB := jae (jes _ off ds ss w0 (hv.more g0))
     have HD := jae hd
     have HS := jae hs
     have HP := jae hp
     obtain ⟨da, dc, rfl, hd1, hd2, hd3, -, -, -⟩ := hd
     obtain ⟨x0, x1, x2, -, -, -⟩ := box_cells hbx.1
     clear hv hbx hs hp
     by_cases hM : jgj off ds ss = true
     ·rw [hM] at MB
      have HMV := jae (mayB_iff.1 hM)
      have hf6 := HMV.out.fine.few
      have HLEN := jae HMV.out.len
      clear hM
      go_enter Tryz.func33, Tryz.ntmps33
      go_wp2_with fail
      rw [← hw0]
      clear hw0
      refine MB.out.mono ?_
      rintro e w1 ⟨rfl, hg1⟩
      obtain ⟨y0, y1, y2, -, -, -⟩ := box_cells (BX.out w1 hg1).1
      have OR := jae (jli pv perm ds.length w1 (HP.out.more (jaa g0 hg1)) hf6)
      go_wp2_with fail
      refine OR.out.mono ?_
      rintro e w2 ⟨b, rfl, hb, hg2⟩
      have g2 := jaa hg1 hg2
      obtain ⟨z0, z1, z2, -, -, -⟩ := box_cells (BX.out w2 g2).1
      obtain ⟨k0, k1, k2, f0, f1, f2⟩ := box_cells (BX.out w2 g2).2.1
      have hsz := (BX.out w2 g2).2.2
      cases b with
      | true =>
       have PM := jae (hb.1 rfl)
       have hpl : perm.length ≤ 6 := by have := PM.out.len; omega
       have PD : Hid (∀ wx, w2.grownBy wx none → Calls Tryz.prog 74 #[.slice da ds.length dc, pv] wx fun e w' => ∃ r, e = .returned r ∧ Owns w' wx.heap.size r (pickL ds perm) ∧ wx.grownBy w' none) :=
        fun wx hx => jiC _ _ ds perm wx (HD.out.more (jaa g0 (jaa g2 hx))) (HP.out.more (jaa g0 (jaa g2 hx))) PM.out.rng hpl
       have PS : Hid (∀ wx, w2.grownBy wx none → Calls Tryz.prog 74 #[sv, pv] wx fun e w' => ∃ r, e = .returned r ∧ Owns w' wx.heap.size r (pickL ss perm) ∧ wx.grownBy w' none) :=
        fun wx hx => jiC _ _ ss perm wx (HS.out.more (jaa g0 (jaa g2 hx))) (HP.out.more (jaa g0 (jaa g2 hx))) (by rw [HLEN.out]; exact PM.out.rng) hpl
       have gd := jag (jaf w2)
       clear hb x0 x1 x2 y0 y1 y2
       go_wp2
       go_region_with (first
        | (go_at_call_of 74 sv; refine (PS.out _ (by first | exact gD | exact gd)).mono ?_; rintro e ws ⟨rs, rfl, os, hgs⟩; have gS : w2.grownBy ws none := (by first | exact jaa gD hgs | exact jaa gd hgs); obtain ⟨sa, sc, rfl, -, -, -, -, -, -⟩ := os.ints; obtain ⟨z0, z1, z2, -, -, -⟩ := box_cells (BX.out ws (jaa g2 gS)).1; obtain ⟨k0, k1, k2, f0, f1, f2⟩ := box_cells (BX.out ws (jaa g2 gS)).2.1)
        | (go_at_call 74; refine (PD.out _ (by first | exact gS | exact gd)).mono ?_; rintro e wd ⟨rd, rfl, od, hgd⟩; have gD : w2.grownBy wd none := (by first | exact jaa gS hgd | exact jaa gd hgd); obtain ⟨ra, rc, rfl, -, -, -, -, -, -⟩ := od.ints; obtain ⟨z0, z1, z2, -, -, -⟩ := box_cells (BX.out wd (jaa g2 gD)).1; obtain ⟨k0, k1, k2, f0, f1, f2⟩ := box_cells (BX.out wd (jaa g2 gD)).2.1))
       all_goals first
        | (obtain ⟨HX, OV, GX⟩ := jf2 (off := off) (base := w.heap.size + 2) (jaa g0 (jaa g2 gS)) (show w.heap.size ≤ w.heap.size + 1 by omega) (BX.out ws (jaa g2 gS)).2.1 ((od.new hgs).base_le hsz) (os.base_le (Nat.le_trans hsz gD.size)) (by omega) ho1 ho2 (jed (fun k hk => (od.lt k hk).2) (fun k hk => (os.lt k hk).1) (Nat.le_refl _))
           have HXX := jae HX
           have HOV := jae OV
           have HGX := jae GX
           clear HX OV GX
           go_wp2
           refine bodyPost_ret (jbH rfl _ _ (w.heap.size + 1) rfl HXX.out) rfl ?_
           exact ⟨_, 0, off, _, _, rfl, Or.inr (Or.inr ⟨HMV.out, PM.out, rfl, rfl, rfl, rfl⟩), HOV.out, HGX.out⟩)
        | (obtain ⟨HX, OV, GX⟩ := jf2 (off := off) (base := w.heap.size + 2) (jaa g0 (jaa g2 gD)) (show w.heap.size ≤ w.heap.size + 1 by omega) (BX.out wd (jaa g2 gD)).2.1 (od.base_le (Nat.le_trans hsz gS.size)) ((os.new hgd).base_le hsz) (by omega) ho1 ho2 (jjz (jed (fun k hk => (os.lt k hk).2) (fun k hk => (od.lt k hk).1) (Nat.le_refl _)))
           have HXX := jae HX
           have HOV := jae OV
           have HGX := jae GX
           clear HX OV GX
           go_wp2
           refine bodyPost_ret (jbH rfl _ _ (w.heap.size + 1) rfl HXX.out) rfl ?_
           exact ⟨_, 0, off, _, _, rfl, Or.inr (Or.inr ⟨HMV.out, PM.out, rfl, rfl, rfl, rfl⟩), HOV.out, HGX.out⟩)
      | false =>
       have PM : Hid (¬ IsPerm perm ds.length) := fun h => by have := hb.2 h; cases this
       obtain ⟨hX, gX, gB⟩ := store3 (.int .i64 0) (.slice none 0 0) (.slice none 0 0) (jaa g0 g2) (show w.heap.size ≤ w.heap.size + 1 by omega) (BX.out w2 g2).2.1
       have HX := jae hX
       have GX := jae gX
       clear hb hX gX gB x0 x1 x2 y0 y1 y2
       go_wp2
       refine bodyPost_ret (jbH rfl _ _ (w.heap.size + 1) rfl HX.out) rfl ?_
       exact ⟨_, 4, 0, [], [], rfl, Or.inr (Or.inl ⟨HMV.out, PM.out, rfl, rfl, rfl, rfl⟩), jbt.nil _ _, GX.out⟩
     ·have hM' : jgj off ds ss = false := by simpa using hM
      have HNM : Hid (¬ MayV off ds ss) := fun h => hM (mayB_iff.2 h)
      rw [hM'] at MB
      clear hM hM'
      go_enter Tryz.func33, Tryz.ntmps33
      go_wp2_with fail
      rw [← hw0]
      clear hw0
      refine MB.out.mono ?_
      rintro e w1 ⟨rfl, hg1⟩
      obtain ⟨k0, k1, k2, f0, f1, f2⟩ := box_cells (BX.out w1 hg1).2.1
      obtain ⟨hX, gX, gB⟩ := store3 (.int .i64 0) (.slice none 0 0) (.slice none 0 0) (jaa g0 hg1) (show w.heap.size ≤ w.heap.size + 1 by omega) (BX.out w1 hg1).2.1
      have HX := jae hX
      have GX := jae gX
      clear hX gX gB
      go_wp2
      refine bodyPost_ret (jbH rfl _ _ (w.heap.size + 1) rfl HX.out) rfl ?_
      exact ⟨_, 1, 0, [], [], rfl, Or.inl ⟨HNM.out, rfl, rfl, rfl, rfl⟩, jbt.nil _ _, GX.out⟩
end Go.Proofs.YtkefdkboejimeaaGreatDoor.Vw
