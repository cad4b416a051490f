/- The document's Transpose, by the walk. -/
import Derived.Test.YtankpkbneojgdaaVRPerm
import Derived.Test.YtankpkbneojgdaaVTrans
import Derived.Test.YtankpkbneojgdaaVRMay
import Derived.Deep.RegionHeld3
import Derived.Deep.RegionWith
import Derived.Deep.RegionLaw
import Derived.Deep.AppendLies
import Derived.Deep.CutRange
namespace Go.Proofs.Ytankpkbneojgdaa
open Go.RowKit

theorem pick_length (l perm : List Int) : (pickL l perm).length = perm.length := by simp [pickL]

theorem pick_at {l perm : List Int} {k : Nat} (hk : k < perm.length) : (pickL l perm).getD k 0 = l.getD (perm.getD k 0).toNat 0 := by
  simp [pickL, List.getD, List.getElem?_map, List.getElem?_eq_getElem hk]

theorem pick_wf {w : World} {v : Value} {ds : List Int} (h : IsInts w v ds) (l : List Int) : ∀ z ∈ pickL ds l, -9223372036854775808 ≤ z ∧ z ≤ 9223372036854775807 := by
  obtain ⟨_, _, _, _, _, _, _, _, hw⟩ := h
  intro z hz
  obtain ⟨p, -, rfl⟩ := List.mem_map.1 hz
  by_cases hp : p.toNat < ds.length
  · refine hw _ ?_
    simp only [List.getD, List.getElem?_eq_getElem hp, Option.getD_some]
    exact List.getElem_mem hp
  · simp only [List.getD, List.getElem?_eq_none (Nat.le_of_not_lt hp), Option.getD_none]
    decide

/-- Two lists of one call lie apart. -/
def Aprt (X Y : Value) : Prop := ∀ g, X.ownBlock = some g → Y.ownBlock = some g → False

theorem Aprt.flip {X Y : Value} (h : Aprt X Y) : Aprt Y X := fun g a b => h g b a

theorem put_field {w2 wr w6 : World} {one : Obj} {cs : Array Value} {X Y : Value} {g n m n' cap i : Nat} {xs ys xs' : List Value} (hb : wr.heap[w2.heap.size]? = some (.cells cs 24 (0, 0))) (hw : w2.grownBy wr none) (hX : wr.ownsRow (w2.heap.size + 1) 3 1 X n xs) (hY : wr.ownsRow (w2.heap.size + 1) 3 1 Y m ys) (hap : Aprt X Y) (hown : w6.ownsRow (w2.heap.size + 1) 3 1 (.slice (some ⟨g, 0, none⟩) n' cap) n' xs') (hgrow : (wr.alloc one).grownBy w6 X.ownBlock) (hat : X.ownBlock = some g ∨ g = wr.heap.size + 1) :
    (w6.setCell ⟨w2.heap.size, i, none⟩ (.slice (some ⟨g, 0, none⟩) n' cap)).heap[w2.heap.size]? = some (.cells (cs.set! i (.slice (some ⟨g, 0, none⟩) n' cap)) 24 (0, 0)) ∧ (w6.setCell ⟨w2.heap.size, i, none⟩ (.slice (some ⟨g, 0, none⟩) n' cap)).ownsRow (w2.heap.size + 1) 3 1 (.slice (some ⟨g, 0, none⟩) n' cap) n' xs' ∧ (w6.setCell ⟨w2.heap.size, i, none⟩ (.slice (some ⟨g, 0, none⟩) n' cap)).ownsRow (w2.heap.size + 1) 3 1 Y m ys ∧ Aprt (.slice (some ⟨g, 0, none⟩) n' cap) Y ∧ w2.grownBy (w6.setCell ⟨w2.heap.size, i, none⟩ (.slice (some ⟨g, 0, none⟩) n' cap)) none := by
  obtain ⟨hb6, g6⟩ := step_box hb hw hX hgrow
  have h1 := heap_setCell_same w6 w2.heap.size i _ _ (.slice (some ⟨g, 0, none⟩) n' cap) hb6
  have g1 : w6.grownBy (w6.setCell ⟨w2.heap.size, i, none⟩ (.slice (some ⟨g, 0, none⟩) n' cap)) (some w2.heap.size) := ⟨rfl, rfl, rfl, by simp [World.setCell], fun k _ hk => Below.heap_setCell _ _ _ _ (fun e => hk (by rw [e]))⟩
  have hY6 : w6.ownsRow (w2.heap.size + 1) 3 1 Y m ys := (hY.alloc one).kept hgrow (by
    cases hyb : Y.ownBlock with
    | none => exact Or.inl rfl
    | some b => exact Or.inr (fun e => hap b e.symm hyb))
  refine ⟨h1, hown.kept g1 (Or.inr (fun e => by have := (hown.lt _ e).1; omega)), hY6.kept g1 ?_, ?_, grown_trans_row g6 g1 (fun r e => by cases e; exact Nat.le_refl _)⟩
  · cases hyb : Y.ownBlock with
    | none => exact Or.inl rfl
    | some b => exact Or.inr (fun e => by cases e; have := (hY.lt _ hyb).1; omega)
  · intro b e1 e2
    cases e1
    rcases hat with h | h
    · exact hap _ h e2
    · have := (hY.lt _ e2).2
      simp only at this
      omega

set_option maxRecDepth 100000 in
set_option maxHeartbeats 6400000 in
theorem reftranspose_any (v lv : Value) (off : Int) (ds ss l : List Int) (w : World) (h : IsView w v off ds ss) (hl : IsInts w lv l) :
    Calls Try.prog 6 #[v, lv] w fun e w' => ∃ u E off' ds' ss', e = .returned (.tuple #[u, .int .i64 E]) ∧ Turned off ds ss l E off' ds' ss' ∧ OwnView w' w.heap.size u off' ds' ss' ∧ w.grownBy w' none := by
  obtain ⟨i0, hi, hz0, hz1, hz2⟩ := info_parts infoInt
  have HL := hide hl
  obtain ⟨la, lc, rfl, hl1, hl2, hl3, -, -, -⟩ := hl
  have hv := h
  obtain ⟨dv, sv, rfl, hd, hs, ho1, ho2⟩ := h
  obtain ⟨w0, hw0⟩ : ∃ w0, w0 = (w.alloc (.cells #[.int .i64 off, dv, sv] 24)).alloc (.cells #[.int .i64 0, .slice none 0 0, .slice none 0 0] 24) := ⟨_, rfl⟩
  have g0 : w.grownBy w0 none := by rw [hw0]; exact grown_trans (grown_new _ _) (grown_new _ _)
  have hs0 : w0.heap.size = w.heap.size + 2 := by rw [hw0]; simp
  have hbx := two_boxes w (.cells #[.int .i64 off, dv, sv] 24) (.cells #[.int .i64 0, .slice none 0 0, .slice none 0 0] 24)
  rw [← hw0] at hbx
  have BX : Hid (∀ wx, w0.grownBy wx none → wx.heap[w.heap.size]? = some (.cells #[.int .i64 off, dv, sv] 24 (0, 0)) ∧ wx.heap[w.heap.size + 1]? = some (.cells #[.int .i64 0, .slice none 0 0, .slice none 0 0] 24 (0, 0)) ∧ w.heap.size + 2 ≤ wx.heap.size) :=
    fun wx hg => ⟨box_kept hbx.1 hg, box_kept hbx.2 hg, by have := hg.size; omega⟩
  have MB := hide (refmay_any _ off ds ss w0 (hv.more g0))
  have HD := hide hd
  have HS := hide hs
  obtain ⟨x0, x1, x2, -, -, -⟩ := box_cells hbx.1
  have FAIL : Hid (∀ wx, w0.grownBy wx none → (((wx.setCell ⟨w.heap.size + 1, 0, none⟩ (.int .i64 0)).setCell ⟨w.heap.size + 1, 1, none⟩ (.slice none 0 0)).setCell ⟨w.heap.size + 1, 2, none⟩ (.slice none 0 0)).heap[w.heap.size + 1]? = some (.cells #[.int .i64 0, .slice none 0 0, .slice none 0 0] 24 (0, 0)) ∧ w.grownBy (((wx.setCell ⟨w.heap.size + 1, 0, none⟩ (.int .i64 0)).setCell ⟨w.heap.size + 1, 1, none⟩ (.slice none 0 0)).setCell ⟨w.heap.size + 1, 2, none⟩ (.slice none 0 0)) none) := fun wx hg => by
    obtain ⟨hX, gX, _⟩ := store3 (.int .i64 0) (.slice none 0 0) (.slice none 0 0) (grown_trans g0 hg) (show w.heap.size ≤ w.heap.size + 1 by omega) (BX.out wx hg).2.1
    exact ⟨hX, gX⟩
  obtain ⟨da, dc, rfl, hd1, hd2, hd3, -, -, -⟩ := hd
  obtain ⟨sa, sc, rfl, hs1, hs2, hs3, -, -, -⟩ := hs
  have HV := hide hv
  clear hv hbx
  by_cases hM : mayB off ds ss = true
  · rw [hM] at MB
    have HMV := hide (mayB_iff.1 hM)
    have hfew := HMV.out.fine.few
    have hll : ds.length ≤ ss.length := by have := HMV.out.len; omega
    clear hM
    go_enter Try.func6, Try.ntmps6
    go_wp2_with fail
    rw [← hw0]
    clear hw0 x0 x1 x2
    refine MB.out.mono ?_
    rintro e w1 ⟨rfl, hg1⟩
    obtain ⟨y0, y1, y2, -, -, -⟩ := box_cells (BX.out w1 hg1).1
    have PM := hide (refperm_any _ l ds.length w1 (HL.out.more (grown_trans g0 hg1)) hfew)
    go_wp2_with fail
    refine PM.out.mono ?_
    rintro e w2 ⟨b, rfl, hb, hg2⟩
    clear y0 y1 y2
    have g2 := grown_trans hg1 hg2
    have gw2 := grown_trans g0 g2
    cases b with
    | true =>
      have HIP := hide (hb.1 rfl)
      have hln1 : l.length ≤ ds.length := by have := HIP.out.len; omega
      have hln2 : ds.length ≤ l.length := by have := HIP.out.len; omega
      clear hb
      obtain ⟨y0, y1, y2, -, -, -⟩ := box_cells (BX.out w2 g2).1
      have hsz2 : w.heap.size + 2 ≤ w2.heap.size := (BX.out w2 g2).2.2
      obtain ⟨w4, hw4⟩ : ∃ w4, w4 = w2.alloc (.cells #[.int .i64 off, .slice none 0 0, .slice none 0 0] 24) := ⟨_, rfl⟩
      have hb4 := heap_alloc_new w2 (.cells #[.int .i64 off, .slice none 0 0, .slice none 0 0] 24)
      have g24 := grown_new w2 (.cells #[.int .i64 off, .slice none 0 0, .slice none 0 0] 24)
      rw [← hw4] at hb4 g24
      have HB4 := hide hb4
      clear hb4
      go_wp2
      rw [← hw4]
      clear hw4 y0 y1 y2
      go_loopg [7] l.length (fun f i wr => ∃ (k : Nat) (zd zs : Value), f = l.length - k ∧ k ≤ l.length ∧ i = .int .i64 k ∧ wr.heap[w2.heap.size]? = some (.cells #[.int .i64 off, zd, zs] 24 (0, 0)) ∧ wr.ownsRow (w2.heap.size + 1) 3 1 zd k (((pickL ds l).take k).map (Value.int .i64)) ∧ wr.ownsRow (w2.heap.size + 1) 3 1 zs k (((pickL ss l).take k).map (Value.int .i64)) ∧ Aprt zd zs ∧ w2.grownBy wr none)
      case atStart => exact ⟨0, .slice none 0 0, .slice none 0 0, rfl, Nat.zero_le _, rfl, HB4.out, by simpa using World.ownsRow_nil _ _ _ _, by simpa using World.ownsRow_nil _ _ _ _, fun _ h => (by cases h), g24⟩
      case round =>
        obtain ⟨k, zd, zs, rfl, hk, rfl, hbx, hod, hos, hap, hw⟩ := hrel
        have HOD := hide hod
        have HOS := hide hos
        have HBX := hide hbx
        have HAP := hide hap
        obtain ⟨zda, zdc, rfl⟩ := row_form hod
        obtain ⟨zsa, zsc, rfl⟩ := row_form hos
        obtain ⟨q0, q1, q2, e0, e1, e2⟩ := box_cells hbx
        obtain ⟨y0, y1, y2, -, -, -⟩ := box_cells (BX.out wr (grown_trans g2 hw)).1
        have hszr := hw.size
        clear hod hos hbx hap
        by_cases hkl : k < l.length
        · obtain ⟨lb, lo, hlo, hcl⟩ := item_at' (HL.out.more (grown_trans gw2 hw)) hkl
          obtain ⟨pn, hpn, hpe⟩ := HIP.out.at k (by omega)
          obtain ⟨bd, od, hdo, hcd⟩ := item_at' (HD.out.more (grown_trans gw2 hw)) hpn
          obtain ⟨bs, os, hso, hcs⟩ := item_at' (HS.out.more (grown_trans gw2 hw)) (show pn < ss.length by omega)
          subst hlo hdo hso
          rw [hpe] at hcl
          have HPE := hide hpe
          clear hpe
          obtain ⟨D, hD⟩ : ∃ D, D = ds.getD pn 0 := ⟨_, rfl⟩
          obtain ⟨S, hS⟩ : ∃ S, S = ss.getD pn 0 := ⟨_, rfl⟩
          rw [← hD] at hcd
          rw [← hS] at hcs
          have HDD := hide hD
          have HSS := hide hS
          clear hD hS
          go_wp2
          go_cut [] from 22 to 53 (fun wx => ∃ zd' : Value, wx.heap[w2.heap.size]? = some (.cells #[.int .i64 off, zd', .slice zsa k zsc] 24 (0, 0)) ∧ wx.ownsRow (w2.heap.size + 1) 3 1 zd' (k + 1) (((pickL ds l).take (k + 1)).map (Value.int .i64)) ∧ wx.ownsRow (w2.heap.size + 1) 3 1 (.slice zsa k zsc) k (((pickL ss l).take k).map (Value.int .i64)) ∧ Aprt zd' (.slice zsa k zsc) ∧ w2.grownBy wx none)
          case first =>
            obtain ⟨m0, m1, m2, -, -, -⟩ := box_cells (box_kept HBX.out (grown_new wr (.cells #[.int .i64 D] 3)))
            have A1 : Hid (∀ o, (wr.alloc o).ownsRow (w2.heap.size + 1) 3 1 (.slice zda k zdc) k (((pickL ds l).take k).map (Value.int .i64))) := fun o => HOD.out.alloc o
            go_region_law ((refine step_append_lies _ (by rfl) (.tmp 29) (.tmp 38) 22 (by rfl) (w2.heap.size + 1) 3 i0 (.int .i64 0) 1 8 Try.underlying22 hi hz0 hz1 hz2 (by rfl) (by decide) (.slice zda k zdc) k _ (by rfl) (by exact A1.out _) ⟨wr.heap.size, 0, none⟩ 1 1 [.int .i64 D] (by rfl) (by rfl) (by exact cell_one_new _ _ _) (by intro u hu; rw [List.mem_singleton] at hu; subst hu; rfl) (by omega) (by simp only [maxLen]; omega) (by omega) (by simp; omega) (wr.heap.size + 1) (by simp) ?_; intro g cap w6 hown' hgrow hat hlt; obtain ⟨hb6, g26⟩ := step_box (one := .cells #[.int .i64 D] 3) HBX.out hw HOD.out ⟨hgrow.os, hgrow.tape, hgrow.output, hgrow.size, hgrow.block⟩; obtain ⟨j0, j1, j2, i3, i4, i5⟩ := box_cells hb6))
            all_goals
              have PF := put_field (one := .cells #[.int .i64 D] 3) (i := 1) HBX.out hw HOD.out HOS.out HAP.out hown' ⟨hgrow.os, hgrow.tape, hgrow.output, hgrow.size, hgrow.block⟩ hat
              clear m0 m1 m2 j0 j1 j2 i3 i4 i5 A1 q0 q1 q2 e0 e1 e2 y0 y1 y2
              have HPF := hide PF
              clear PF
              go_wp2_with fail
              go_meet
              refine ⟨_, HPF.out.1, ?_, HPF.out.2.2.1, HPF.out.2.2.2.1, HPF.out.2.2.2.2⟩
              rw [take_step _ k (by rw [pick_length]; exact hkl), pick_at hkl, HPE.out, Int.toNat_natCast, ← HDD.out, List.map_append]
              exact HPF.out.2.1
          case rest =>
            obtain ⟨zd', hbxc, hodc, hosc, hapc, hwc⟩ := hcut
            clear q0 q1 q2 e0 e1 e2 y0 y1 y2 hcl hcd hcs HBX HOD HOS HAP
            have HOD := hide hodc
            have HOS := hide hosc
            have HBX := hide hbxc
            have HAP := hide hapc
            obtain ⟨zea, zec, rfl⟩ := row_form hodc
            obtain ⟨q0, q1, q2, e0, e1, e2⟩ := box_cells hbxc
            obtain ⟨y0, y1, y2, -, -, -⟩ := box_cells (BX.out wc (grown_trans g2 hwc)).1
            have hszc := hwc.size
            clear hodc hosc hbxc hapc
            have hcl := item_at (HL.out.more (grown_trans gw2 hwc)) hkl
            have hpns : pn < ss.length := by omega
            have hcs := item_at (HS.out.more (grown_trans gw2 hwc)) hpns
            rw [HPE.out] at hcl
            rw [← HSS.out] at hcs
            obtain ⟨m0, m1, m2, -, -, -⟩ := box_cells (box_kept HBX.out (grown_new wc (.cells #[.int .i64 S] 3)))
            have A1 : Hid (∀ o, (wc.alloc o).ownsRow (w2.heap.size + 1) 3 1 (.slice zsa k zsc) k (((pickL ss l).take k).map (Value.int .i64))) := fun o => HOS.out.alloc o
            go_wp2
            go_region_law ((refine step_append_lies _ (by rfl) (.tmp 42) (.tmp 51) 22 (by rfl) (w2.heap.size + 1) 3 i0 (.int .i64 0) 1 8 Try.underlying22 hi hz0 hz1 hz2 (by rfl) (by decide) (.slice zsa k zsc) k _ (by rfl) (by exact A1.out _) ⟨wc.heap.size, 0, none⟩ 1 1 [.int .i64 S] (by rfl) (by rfl) (by exact cell_one_new _ _ _) (by intro u hu; rw [List.mem_singleton] at hu; subst hu; rfl) (by omega) (by simp only [maxLen]; omega) (by omega) (by simp; omega) (wc.heap.size + 1) (by simp) ?_; intro g cap w6 hown' hgrow hat hlt; obtain ⟨hb6, g26⟩ := step_box (one := .cells #[.int .i64 S] 3) HBX.out hwc HOS.out ⟨hgrow.os, hgrow.tape, hgrow.output, hgrow.size, hgrow.block⟩; obtain ⟨j0, j1, j2, i3, i4, i5⟩ := box_cells hb6))
            all_goals
              have PF := put_field (one := .cells #[.int .i64 S] 3) (i := 2) HBX.out hwc HOS.out HOD.out HAP.out.flip hown' ⟨hgrow.os, hgrow.tape, hgrow.output, hgrow.size, hgrow.block⟩ hat
              clear m0 m1 m2 j0 j1 j2 i3 i4 i5 A1 q0 q1 q2 e0 e1 e2 y0 y1 y2
              have HPF := hide PF
              clear PF
              go_wp2
              go_roundg (l.length - (k + 1))
              case measure => omega
              case rel =>
                refine ⟨k + 1, _, _, rfl, by omega, by go_num, HPF.out.1, HPF.out.2.2.1, ?_, HPF.out.2.2.2.1.flip, HPF.out.2.2.2.2⟩
                rw [take_step _ k (by rw [pick_length]; exact hkl), pick_at hkl, HPE.out, Int.toNat_natCast, ← HSS.out, List.map_append]
                exact HPF.out.2.1
        · obtain rfl : k = l.length := by omega
          have hwfD := pick_wf HD.out l
          have hwfS := pick_wf HS.out l
          have OD : Hid (Owns wr (w2.heap.size + 1) (.slice zda l.length zdc) (pickL ds l)) := by
            have h1 := HOD.out
            rw [List.take_of_length_le (by rw [pick_length]; exact Nat.le_refl _)] at h1
            exact ⟨by rw [pick_length]; exact h1, by rw [pick_length]; omega, hwfD⟩
          have OS : Hid (Owns wr (w2.heap.size + 1) (.slice zsa l.length zsc) (pickL ss l)) := by
            have h1 := HOS.out
            rw [List.take_of_length_le (by rw [pick_length]; exact Nat.le_refl _)] at h1
            exact ⟨by rw [pick_length]; exact h1, by rw [pick_length]; omega, hwfS⟩
          have g0r := grown_trans g2 hw
          have hap2 : (Value.slice zda l.length zdc).ownBlock = none ∨ (Value.slice zda l.length zdc).ownBlock ≠ (Value.slice zsa l.length zsc).ownBlock := by
            cases h : (Value.slice zda l.length zdc).ownBlock with
            | none => exact Or.inl rfl
            | some g => exact Or.inr (fun e => HAP.out g h e.symm)
          obtain ⟨k0, k1, k2, f0, f1, f2⟩ := box_cells (BX.out wr g0r).2.1
          obtain ⟨HX, OV, GX⟩ := put_view (off := off) (base := w.heap.size + 2) (grown_trans g0 g0r) (show w.heap.size ≤ w.heap.size + 1 by omega) (BX.out wr g0r).2.1 (OD.out.base_le (by omega)) (OS.out.base_le (by omega)) (by omega) (by omega) (by omega) hap2
          have HXX := hide HX
          have HOV := hide OV
          have HGX := hide GX
          clear HX OV GX hap2 hwfD hwfS
          go_wp2
          refine bodyPost_ret (ret_view rfl _ _ (w.heap.size + 1) rfl HXX.out) rfl ?_
          exact ⟨_, 0, off, _, _, rfl, Or.inr (Or.inr ⟨HMV.out, HIP.out, rfl, rfl, rfl, rfl⟩), HOV.out, HGX.out⟩
    | false =>
      have HNP : Hid (¬ IsPerm l ds.length) := fun h => by have := hb.2 h; cases this
      clear hb
      obtain ⟨k0, k1, k2, f0, f1, f2⟩ := box_cells (BX.out w2 g2).2.1
      go_wp2
      refine bodyPost_ret (ret_view rfl _ _ (w.heap.size + 1) rfl (FAIL.out w2 g2).1) rfl ?_
      exact ⟨_, 4, 0, [], [], rfl, Or.inr (Or.inl ⟨HMV.out, HNP.out, rfl, rfl, rfl, rfl⟩), OwnView.nil _ _, (FAIL.out w2 g2).2⟩
  · have hM' : mayB off ds ss = false := by simpa using hM
    have HNM : Hid (¬ MayV off ds ss) := fun h => hM (mayB_iff.2 h)
    rw [hM'] at MB
    clear hM hM'
    go_enter Try.func6, Try.ntmps6
    go_wp2_with fail
    rw [← hw0]
    clear hw0
    refine MB.out.mono ?_
    rintro e w1 ⟨rfl, hg1⟩
    obtain ⟨k0, k1, k2, f0, f1, f2⟩ := box_cells (BX.out w1 hg1).2.1
    go_wp2
    refine bodyPost_ret (ret_view rfl _ _ (w.heap.size + 1) rfl (FAIL.out w1 hg1).1) rfl ?_
    exact ⟨_, 1, 0, [], [], rfl, Or.inl ⟨HNM.out, rfl, rfl, rfl, rfl⟩, OwnView.nil _ _, (FAIL.out w1 hg1).2⟩
end Go.Proofs.Ytankpkbneojgdaa
