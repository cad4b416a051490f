/- The document's Spread, by the walk. -/
import Derived.Test.YthphkgnigfmlaaaVSpread
import Derived.Test.YthphkgnigfmlaaaVCopy
import Derived.Test.YthphkgnigfmlaaaVRMay
import Derived.Test.YthphkgnigfmlaaaSRBc
import Derived.Deep.RegionWith
import Derived.Deep.RegionHeld3
import Derived.Deep.LoopGhost
namespace Go.Proofs.Ythphkgnigfmlaaa
open Go.RowKit

theorem item_at' {w : World} {ao : Option Addr} {cap len : Nat} {zs : List Int} (h : IsInts w (.slice ao len cap) zs) {k : Nat} (hk : k < zs.length) : ∃ b off, ao = some ⟨b, off, none⟩ ∧ w.cell? ⟨b, off + k, none⟩ = some (.int .i64 (zs.getD k 0)) := by
  obtain ⟨b, off, rfl⟩ := addr_of h (by omega)
  exact ⟨b, off, rfl, item_at h hk⟩

theorem row_form {w : World} {base : Nat} {e : TypeId} {v : Value} {n : Nat} {xs : List Value} (h : w.ownsRow base e 1 v n xs) : ∃ a c, v = .slice a n c := by
  rcases h.2 with ⟨rfl, rfl⟩ | ⟨g, cap, cur, rfl, _⟩
  · exact ⟨_, _, rfl⟩
  · exact ⟨_, _, rfl⟩

theorem step_box {w3 wd w6 : World} {o one : Obj} {zv : Value} {e : TypeId} {n : Nat} {xs : List Value} (hb : wd.heap[w3.heap.size]? = some o) (hg : w3.grownBy wd none) (hown : wd.ownsRow (w3.heap.size + 1) e 1 zv n xs) (hgrow : (wd.alloc one).grownBy w6 zv.ownBlock) :
    w6.heap[w3.heap.size]? = some o ∧ w3.grownBy w6 none := by
  have h1 := box_kept hb (grown_new wd one)
  refine ⟨(hgrow.block _ (Array.getElem?_eq_some_iff.1 h1).1 (fun e => ?_)).trans h1, grown_trans_row (grown_trans hg (grown_new wd one)) hgrow (fun g hg' => ?_)⟩
  · have := (hown.lt _ e.symm).1; omega
  · have := (hown.lt _ hg').1; omega

theorem step_store {w3 w6 : World} {a b c v : Value} {e : TypeId} {n : Nat} {xs : List Value} (hb : w6.heap[w3.heap.size]? = some (.cells #[a, b, c] 24 (0, 0))) (hown : w6.ownsRow (w3.heap.size + 1) e 1 v n xs) (hg : w3.grownBy w6 none) :
    (w6.setCell ⟨w3.heap.size, 2, none⟩ v).heap[w3.heap.size]? = some (.cells #[a, b, v] 24 (0, 0)) ∧ (w6.setCell ⟨w3.heap.size, 2, none⟩ v).ownsRow (w3.heap.size + 1) e 1 v n xs ∧ w3.grownBy (w6.setCell ⟨w3.heap.size, 2, none⟩ v) none := by
  have h1 := heap_setCell_same w6 w3.heap.size 2 _ _ v hb
  have g1 : w6.grownBy (w6.setCell ⟨w3.heap.size, 2, none⟩ v) (some w3.heap.size) := ⟨rfl, rfl, rfl, by simp [World.setCell], fun k _ hk => Below.heap_setCell _ _ _ _ (fun e => hk (by rw [e]))⟩
  exact ⟨by simpa using h1, hown.kept g1 (Or.inr (fun e => by have := (hown.lt _ e).1; omega)), grown_trans_row hg g1 (fun r e => by cases e; exact Nat.le_refl _)⟩

set_option maxRecDepth 100000 in
set_option maxHeartbeats 6400000 in
theorem refspread_any (v lv : Value) (off : Int) (ds ss l : List Int) (w : World) (h : IsView w v off ds ss) (hl : IsInts w lv l) :
    Calls Try.prog 20 #[v, lv] w fun e w' => ∃ u E off' ds' ss', e = .returned (.tuple #[u, .int .i64 E]) ∧ Spreaded off ds ss l E off' ds' ss' ∧ OwnView w' w.heap.size u off' ds' ss' ∧ w.grownBy w' none := by
  obtain ⟨i0, hi, hz0, hz1, hz2⟩ := info_parts infoInt
  have HL := hide hl
  obtain ⟨la, lc, rfl, hl1, hl2, hl3, -, -, -⟩ := hl
  have hv := h
  obtain ⟨dv, sv, rfl, hd, hs, ho1, ho2⟩ := h
  obtain ⟨w0, hw0⟩ : ∃ w0, w0 = (w.alloc (.cells #[.int .i64 off, dv, sv] 24)).alloc (.cells #[.int .i64 0, .slice none 0 0, .slice none 0 0] 24) := ⟨_, rfl⟩
  have g0 : w.grownBy w0 none := by rw [hw0]; exact grown_trans (grown_new _ _) (grown_new _ _)
  have hs0 : w0.heap.size = w.heap.size + 2 := by rw [hw0]; simp
  have hbx := two_boxes w (.cells #[.int .i64 off, dv, sv] 24) (.cells #[.int .i64 0, .slice none 0 0, .slice none 0 0] 24)
  rw [← hw0] at hbx
  have BX : Hid (∀ wx, w0.grownBy wx none → wx.heap[w.heap.size]? = some (.cells #[.int .i64 off, dv, sv] 24 (0, 0)) ∧ wx.heap[w.heap.size + 1]? = some (.cells #[.int .i64 0, .slice none 0 0, .slice none 0 0] 24 (0, 0)) ∧ w.heap.size + 2 ≤ wx.heap.size) :=
    fun wx hg => ⟨box_kept hbx.1 hg, box_kept hbx.2 hg, by have := hg.size; omega⟩
  have MB := hide (refmay_any _ off ds ss w0 (hv.more g0))
  have HD := hide hd
  have HS := hide hs
  obtain ⟨x0, x1, x2, -, -, -⟩ := box_cells hbx.1
  have FAIL : Hid (∀ wx, w0.grownBy wx none → (((wx.setCell ⟨w.heap.size + 1, 0, none⟩ (.int .i64 0)).setCell ⟨w.heap.size + 1, 1, none⟩ (.slice none 0 0)).setCell ⟨w.heap.size + 1, 2, none⟩ (.slice none 0 0)).heap[w.heap.size + 1]? = some (.cells #[.int .i64 0, .slice none 0 0, .slice none 0 0] 24 (0, 0)) ∧ w.grownBy (((wx.setCell ⟨w.heap.size + 1, 0, none⟩ (.int .i64 0)).setCell ⟨w.heap.size + 1, 1, none⟩ (.slice none 0 0)).setCell ⟨w.heap.size + 1, 2, none⟩ (.slice none 0 0)) none) := fun wx hg => by
    obtain ⟨hX, gX, _⟩ := store3 (.int .i64 0) (.slice none 0 0) (.slice none 0 0) (grown_trans g0 hg) (show w.heap.size ≤ w.heap.size + 1 by omega) (BX.out wx hg).2.1
    exact ⟨hX, gX⟩
  obtain ⟨da, dc, rfl, hd1, hd2, hd3, -, -, -⟩ := hd
  obtain ⟨sa, sc, rfl, hs1, hs2, hs3, -, -, -⟩ := hs
  clear hv hbx
  by_cases hM : mayB off ds ss = true
  · rw [hM] at MB
    have HMV := hide (mayB_iff.1 hM)
    have hlo := HMV.out.lo
    have hhi := HMV.out.hi
    have hll : ds.length ≤ ss.length := by have := HMV.out.len; omega
    have BC := hide (fun wx (hg : w.grownBy wx none) => refbc_any _ _ ds l wx (HD.out.more hg) (HL.out.more hg))
    obtain ⟨E, hE⟩ : ∃ E, E = bcE ds l := ⟨_, rfl⟩
    obtain ⟨R, hR⟩ : ∃ R, R = bcR ds l := ⟨_, rfl⟩
    rw [← hE, ← hR] at BC
    have HE := hide hE
    have HR := hide hR
    clear hM hE hR
    go_enter Try.func20, Try.ntmps20
    go_wp2_with fail
    rw [← hw0]
    clear hw0 x0 x1 x2
    refine MB.out.mono ?_
    rintro e w1 ⟨rfl, hg1⟩
    obtain ⟨y0, y1, y2, -, -, -⟩ := box_cells (BX.out w1 hg1).1
    have g01 := grown_trans g0 hg1
    go_wp2_with fail
    refine (BC.out w1 g01).mono ?_
    rintro e w2 ⟨r, rfl, or, hg2⟩
    have OR := hide or
    obtain ⟨ra, rc, rfl, hr1, hr2, hr3, -, -, -⟩ := or.ints
    clear or y0 y1 y2
    have g12 := grown_trans hg1 hg2
    obtain ⟨k0, k1, k2, f0, f1, f2⟩ := box_cells (BX.out w2 g12).2.1
    by_cases hE0 : E = 0
    · subst hE0
      have SM := same_any _ _ R l w2 OR.out.ints (HL.out.more (grown_trans g0 g12))
      by_cases hRl : R = l
      · subst hRl
        rw [decide_eq_true rfl] at SM
        have HSM := hide SM
        have hroom := (bc_room HE.out.symm HR.out.symm).1
        clear SM
        go_wp2_with fail
        refine HSM.out.mono ?_
        rintro e w3 ⟨rfl, hg3⟩
        clear k0 k1 k2 f0 f1 f2
        have g03 := grown_trans g12 hg3
        have gw3 := grown_trans g0 g03
        have OR3 := hide (OR.out.new hg3)
        have hsz1 : w.heap.size + 2 ≤ w1.heap.size := (BX.out w1 hg1).2.2
        have hsz3 : w1.heap.size ≤ w3.heap.size := (grown_trans hg2 hg3).size
        obtain ⟨y0, y1, y2, -, -, -⟩ := box_cells (BX.out w3 g03).1
        obtain ⟨w4, hw4⟩ : ∃ w4, w4 = w3.alloc (.cells #[.int .i64 off, .slice ra R.length rc, .slice none 0 0] 24) := ⟨_, rfl⟩
        have hb4 := heap_alloc_new w3 (.cells #[.int .i64 off, .slice ra R.length rc, .slice none 0 0] 24)
        have g34 := grown_new w3 (.cells #[.int .i64 off, .slice ra R.length rc, .slice none 0 0] 24)
        have hz4 : w4.heap.size = w3.heap.size + 1 := by rw [hw4]; simp
        obtain ⟨m0, m1, m2, -, -, -⟩ := box_cells (BX.out _ (grown_trans g03 g34)).1
        rw [← hw4] at hb4 g34
        have HB4 := hide hb4
        obtain ⟨an, han⟩ : ∃ an, R.length = an + ds.length := ⟨R.length - ds.length, by omega⟩
        have HAN := hide han
        have hans : (R.length : Int) - (ds.length : Int) = (an : Int) := by omega
        clear hb4 han hroom
        go_wp2
        rw [← hw4]
        clear hw4 m0 m1 m2 y0 y1 y2
        go_loopg [10] R.length (fun f i wr => ∃ (k : Nat) (zv : Value), f = R.length - k ∧ k ≤ R.length ∧ i = .int .i64 k ∧ wr.heap[w3.heap.size]? = some (.cells #[.int .i64 off, .slice ra R.length rc, zv] 24 (0, 0)) ∧ wr.ownsRow (w3.heap.size + 1) 3 1 zv k (((spr ds ss R).take k).map (Value.int .i64)) ∧ w3.grownBy wr none)
        case atStart => exact ⟨0, .slice none 0 0, rfl, Nat.zero_le _, rfl, HB4.out, by simpa using World.ownsRow_nil _ _ _ _, g34⟩
        case round =>
          obtain ⟨k, zv, rfl, hk, rfl, hbx, hown, hw⟩ := hrel
          have HO := hide hown
          have HBX := hide hbx
          obtain ⟨za, zc, rfl⟩ := row_form hown
          obtain ⟨q0, q1, q2, e0, e1, e2⟩ := box_cells hbx
          obtain ⟨y0, y1, y2, -, -, -⟩ := box_cells (BX.out wr (grown_trans g03 hw)).1
          clear hown hbx
          by_cases hkl : k < R.length
          · have hcl := item_at' (HL.out.more (grown_trans gw3 hw)) hkl
            obtain ⟨lb, lo, rfl, hcl⟩ := hcl
            obtain ⟨X, hX⟩ : ∃ X, X = R.getD k 0 := ⟨_, rfl⟩
            rw [← hX] at hcl
            have HXX := hide hX
            clear hX
            by_cases hka : an ≤ k
            · obtain ⟨j, hj⟩ : ∃ j, k = an + j := ⟨k - an, by omega⟩
              have hsub : (k : Int) - (an : Int) = (j : Int) := by omega
              have hwsub : IntKind.i64.wrap ((k : Int) - (an : Int)) = (j : Int) := by rw [IntKind.wrap_i64]; omega
              have hjl : j < ds.length := by have := HAN.out; omega
              have HJ := hide hj
              clear hj
              have hcd := item_at' (HD.out.more (grown_trans gw3 hw)) hjl
              obtain ⟨bd, od, rfl, hcd⟩ := hcd
              have hcs := item_at' (HS.out.more (grown_trans gw3 hw)) (show j < ss.length by omega)
              obtain ⟨bs, os, rfl, hcs⟩ := hcs
              have HSW : Hid ((spr ds ss R).getD k 0 = if ds.getD j 0 = X then ss.getD j 0 else 0) := by
                have h1 := HAN.out
                have h2 := HJ.out
                show _ = _
                rw [spr_at hkl, show k - (R.length - ds.length) = j by omega, ← HXX.out]
                by_cases h3 : ds.getD j 0 = X
                · rw [if_pos ⟨by omega, h3⟩, if_pos h3]
                · rw [if_neg (fun h => h3 h.2), if_neg h3]
              obtain ⟨D, hD⟩ : ∃ D, D = ds.getD j 0 := ⟨_, rfl⟩
              obtain ⟨S, hS⟩ : ∃ S, S = ss.getD j 0 := ⟨_, rfl⟩
              rw [← hD] at hcd HSW
              rw [← hS] at hcs HSW
              clear hD hS
              by_cases hDX : D = X
              · have hdx : (D == X) = true := by simp [hDX]
                have HW : Hid ((spr ds ss R).getD k 0 = S) := by have := HSW.out; rw [if_pos hDX] at this; exact this
                clear hDX HSW
                go_wp2
                have hge : decide ((an : Int) ≤ (k : Int)) = true := decide_eq_true (by omega)
                go_region
                obtain ⟨wd, hwd⟩ : ∃ wd, wd = wr.drew := ⟨_, rfl⟩
                have hbd : wd.heap[w3.heap.size]? = some (.cells #[.int .i64 off, .slice ra R.length rc, .slice za k zc] 24 (0, 0)) := by rw [hwd]; exact HBX.out
                have hwg : w3.grownBy wd none := by rw [hwd]; exact grown_drew hw
                have HOd : Hid (wd.ownsRow (w3.heap.size + 1) 3 1 (.slice za k zc) k (((spr ds ss R).take k).map (Value.int .i64))) := by rw [hwd]; exact HO.out
                have hcsd : wd.cell? ⟨bs, os + j, none⟩ = some (.int .i64 S) := by rw [hwd]; exact hcs
                try rw [← hwd]
                clear hwd y0 y1 y2 q0 q1 q2 e0 e1 e2
                obtain ⟨q0, q1, q2, e0, e1, e2⟩ := box_cells hbd
                obtain ⟨y0, y1, y2, -, -, -⟩ := box_cells (BX.out wd (grown_trans g03 hwg)).1
                have hszd := hwg.size
                have hltd := (Array.getElem?_eq_some_iff.1 hbd).1
                have HBD := hide hbd
                clear hbd
                go_wp2_with (at_builtin; refine wpList_append_own _ rfl (.tmp 73) (.tmp 75) 22 rfl (w3.heap.size + 1) 3 i0 (.int .i64 0) 1 8 Try.underlying22 hi hz0 hz1 hz2 rfl (by decide) _ _ _ rfl (HOd.out.alloc _) ⟨wd.heap.size, 0, none⟩ 1 1 [.int .i64 S] rfl rfl (cell_one_new _ _ _) (by simp [Value.oneCell']) (by simp only [maxLen]; omega) (by omega) (by simp; omega) ?_; intro v' w6 hown' hgrow _; obtain ⟨va, vc, rfl⟩ := row_form hown'; obtain ⟨hb6, g36⟩ := step_box HBD.out hwg HOd.out hgrow; obtain ⟨j0, j1, j2, i3, i4, i5⟩ := box_cells hb6; have HO6 := hide hown'; have HB6 := hide hb6; clear hown' hgrow hb6)
                go_wp2
                go_roundg (R.length - (k + 1))
                case measure => omega
                case rel =>
                  obtain ⟨hb7, own7, g37⟩ := step_store HB6.out HO6.out g36
                  refine ⟨k + 1, _, rfl, by omega, by go_num, hb7, ?_, g37⟩
                  rw [take_step _ k (by rw [spr_length]; exact hkl), HW.out, List.map_append]
                  simpa using own7
              · have hdx : (D == X) = false := by rw [beq_eq_false_iff_ne]; exact hDX
                have HW : Hid ((spr ds ss R).getD k 0 = 0) := by have := HSW.out; rw [if_neg hDX] at this; exact this
                have hge : decide ((an : Int) ≤ (k : Int)) = true := decide_eq_true (by omega)
                clear hDX HSW
                go_wp2
                go_region
                obtain ⟨wd, hwd⟩ : ∃ wd, wd = wr.drew := ⟨_, rfl⟩
                have hbd : wd.heap[w3.heap.size]? = some (.cells #[.int .i64 off, .slice ra R.length rc, .slice za k zc] 24 (0, 0)) := by rw [hwd]; exact HBX.out
                have hwg : w3.grownBy wd none := by rw [hwd]; exact grown_drew hw
                have HOd : Hid (wd.ownsRow (w3.heap.size + 1) 3 1 (.slice za k zc) k (((spr ds ss R).take k).map (Value.int .i64))) := by rw [hwd]; exact HO.out
                try rw [← hwd]
                clear hwd y0 y1 y2 q0 q1 q2 e0 e1 e2
                obtain ⟨q0, q1, q2, e0, e1, e2⟩ := box_cells hbd
                obtain ⟨y0, y1, y2, -, -, -⟩ := box_cells (BX.out wd (grown_trans g03 hwg)).1
                have hszd := hwg.size
                have hltd := (Array.getElem?_eq_some_iff.1 hbd).1
                have HBD := hide hbd
                clear hbd
                go_wp2_with (at_builtin; refine wpList_append_own _ rfl (.tmp 73) (.tmp 75) 22 rfl (w3.heap.size + 1) 3 i0 (.int .i64 0) 1 8 Try.underlying22 hi hz0 hz1 hz2 rfl (by decide) _ _ _ rfl (HOd.out.alloc _) ⟨wd.heap.size, 0, none⟩ 1 1 [.int .i64 0] rfl rfl (cell_one_new _ _ _) (by simp [Value.oneCell']) (by simp only [maxLen]; omega) (by omega) (by simp; omega) ?_; intro v' w6 hown' hgrow _; obtain ⟨va, vc, rfl⟩ := row_form hown'; obtain ⟨hb6, g36⟩ := step_box HBD.out hwg HOd.out hgrow; obtain ⟨j0, j1, j2, i3, i4, i5⟩ := box_cells hb6; have HO6 := hide hown'; have HB6 := hide hb6; clear hown' hgrow hb6)
                go_wp2
                go_roundg (R.length - (k + 1))
                case measure => omega
                case rel =>
                  obtain ⟨hb7, own7, g37⟩ := step_store HB6.out HO6.out g36
                  refine ⟨k + 1, _, rfl, by omega, by go_num, hb7, ?_, g37⟩
                  rw [take_step _ k (by rw [spr_length]; exact hkl), HW.out, List.map_append]
                  simpa using own7
            · have HW : Hid ((spr ds ss R).getD k 0 = 0) := by
                have h1 := HAN.out
                show _ = _
                rw [spr_at hkl, if_neg (fun h => by omega)]
              have hge : decide ((an : Int) ≤ (k : Int)) = false := decide_eq_false (by omega)
              go_wp2
              go_region
              obtain ⟨wd, hwd⟩ : ∃ wd, wd = wr.drew := ⟨_, rfl⟩
              have hbd : wd.heap[w3.heap.size]? = some (.cells #[.int .i64 off, .slice ra R.length rc, .slice za k zc] 24 (0, 0)) := by rw [hwd]; exact HBX.out
              have hwg : w3.grownBy wd none := by rw [hwd]; exact grown_drew hw
              have HOd : Hid (wd.ownsRow (w3.heap.size + 1) 3 1 (.slice za k zc) k (((spr ds ss R).take k).map (Value.int .i64))) := by rw [hwd]; exact HO.out
              try rw [← hwd]
              clear hwd y0 y1 y2 q0 q1 q2 e0 e1 e2
              obtain ⟨q0, q1, q2, e0, e1, e2⟩ := box_cells hbd
              obtain ⟨y0, y1, y2, -, -, -⟩ := box_cells (BX.out wd (grown_trans g03 hwg)).1
              have hszd := hwg.size
              have hltd := (Array.getElem?_eq_some_iff.1 hbd).1
              have HBD := hide hbd
              clear hbd
              go_wp2_with (at_builtin; refine wpList_append_own _ rfl (.tmp 73) (.tmp 75) 22 rfl (w3.heap.size + 1) 3 i0 (.int .i64 0) 1 8 Try.underlying22 hi hz0 hz1 hz2 rfl (by decide) _ _ _ rfl (HOd.out.alloc _) ⟨wd.heap.size, 0, none⟩ 1 1 [.int .i64 0] rfl rfl (cell_one_new _ _ _) (by simp [Value.oneCell']) (by simp only [maxLen]; omega) (by omega) (by simp; omega) ?_; intro v' w6 hown' hgrow _; obtain ⟨va, vc, rfl⟩ := row_form hown'; obtain ⟨hb6, g36⟩ := step_box HBD.out hwg HOd.out hgrow; obtain ⟨j0, j1, j2, i3, i4, i5⟩ := box_cells hb6; have HO6 := hide hown'; have HB6 := hide hb6; clear hown' hgrow hb6)
              go_wp2
              go_roundg (R.length - (k + 1))
              case measure => omega
              case rel =>
                obtain ⟨hb7, own7, g37⟩ := step_store HB6.out HO6.out g36
                refine ⟨k + 1, _, rfl, by omega, by go_num, hb7, ?_, g37⟩
                rw [take_step _ k (by rw [spr_length]; exact hkl), HW.out, List.map_append]
                simpa using own7
          · obtain rfl : k = R.length := by omega
            have OZ : Hid (Owns wr (w3.heap.size + 1) (.slice za R.length zc) (spr ds ss R)) := by
              have h1 := HO.out
              rw [List.take_of_length_le (by rw [spr_length]; exact Nat.le_refl _)] at h1
              exact ⟨by rw [spr_length]; exact h1, by rw [spr_length]; omega, fun z hz => by have := spr_wf HMV.out.str z hz; omega⟩
            have hszw := hw.size
            have g0r := grown_trans g03 hw
            obtain ⟨k0, k1, k2, f0, f1, f2⟩ := box_cells (BX.out wr g0r).2.1
            obtain ⟨HX, OV, GX⟩ := put_view (off := off) (base := w.heap.size + 2) (grown_trans g0 g0r) (show w.heap.size ≤ w.heap.size + 1 by omega) (BX.out wr g0r).2.1 ((OR3.out.new hw).base_le hsz1) (OZ.out.base_le (by omega)) (by omega) (by omega) (by omega) (apart_of (fun k hk => (OR3.out.lt k hk).2) (fun k hk => (OZ.out.lt k hk).1) (by omega))
            have HXX := hide HX
            have HOV := hide OV
            have HGX := hide GX
            clear HX OV GX
            go_wp2
            refine bodyPost_ret (ret_view rfl _ _ (w.heap.size + 1) rfl HXX.out) rfl ?_
            exact ⟨_, 0, off, _, _, rfl, Or.inr (Or.inr (Or.inr ⟨HMV.out, HE.out.symm, HR.out.symm, rfl, rfl, rfl, rfl⟩)), HOV.out, HGX.out⟩
      · rw [decide_eq_false hRl] at SM
        have HSM := hide SM
        have HRL := hide hRl
        clear SM hRl
        go_wp2_with fail
        refine HSM.out.mono ?_
        rintro e w3 ⟨rfl, hg3⟩
        obtain ⟨k0, k1, k2, f0, f1, f2⟩ := box_cells (BX.out w3 (grown_trans g12 hg3)).2.1
        go_wp2
        refine bodyPost_ret (ret_view rfl _ _ (w.heap.size + 1) rfl (FAIL.out w3 (grown_trans g12 hg3)).1) rfl ?_
        exact ⟨_, 4, 0, [], [], rfl, Or.inr (Or.inr (Or.inl ⟨HMV.out, HE.out.symm, by rw [← HR.out]; exact HRL.out, rfl, rfl, rfl, rfl⟩)), OwnView.nil _ _, (FAIL.out w3 (grown_trans g12 hg3)).2⟩
    · have hE8 := beq_zero_false hE0
      have hE9 : (E != 0) = true := by simp [bne, hE8]
      have HE0 := hide hE0
      clear hE0
      go_wp2
      refine bodyPost_ret (ret_view rfl _ _ (w.heap.size + 1) rfl (FAIL.out w2 g12).1) rfl ?_
      exact ⟨_, E, 0, [], [], rfl, Or.inr (Or.inl ⟨HMV.out, by rw [← HE.out]; exact HE0.out, HE.out, rfl, rfl, rfl⟩), OwnView.nil _ _, (FAIL.out w2 g12).2⟩
  · have hM' : mayB off ds ss = false := by simpa using hM
    have HNM : Hid (¬ MayV off ds ss) := fun h => hM (mayB_iff.2 h)
    rw [hM'] at MB
    clear hM hM'
    go_enter Try.func20, Try.ntmps20
    go_wp2_with fail
    rw [← hw0]
    clear hw0
    refine MB.out.mono ?_
    rintro e w1 ⟨rfl, hg1⟩
    obtain ⟨k0, k1, k2, f0, f1, f2⟩ := box_cells (BX.out w1 hg1).2.1
    go_wp2
    refine bodyPost_ret (ret_view rfl _ _ (w.heap.size + 1) rfl (FAIL.out w1 hg1).1) rfl ?_
    exact ⟨_, 1, 0, [], [], rfl, Or.inl ⟨HNM.out, rfl, rfl, rfl, rfl⟩, OwnView.nil _ _, (FAIL.out w1 hg1).2⟩
end Go.Proofs.Ythphkgnigfmlaaa
