/- ViewSpreads, by the walk. -/
import Derived.Test.YthphkgnigfmlaaaVZap
import Derived.Test.YthphkgnigfmlaaaSCrd
import Derived.Test.YthphkgnigfmlaaaSROff
import Derived.Test.YthphkgnigfmlaaaVLive
import Derived.Test.YthphkgnigfmlaaaVFrame
import Derived.Deep.RegionWith
import Derived.Deep.LoopGhost
namespace Go.Proofs.Ythphkgnigfmlaaa
open Go.RowKit

theorem spreaded_cases {off : Int} {ds ss l : List Int} {E off' : Int} {ds' ss' : List Int} (h : Spreaded off ds ss l E off' ds' ss') (hE : E = 0) : bcE ds l = 0 ∧ bcR ds l = l ∧ off' = off ∧ ds' = l ∧ ss' = spr ds ss l := by
  rcases h with ⟨_, h, _⟩ | ⟨_, h, h', _⟩ | ⟨_, _, _, h, _⟩ | ⟨_, h1, h2, _, h3, h4, h5⟩
  · rw [h] at hE; cases hE
  · exact absurd (h'.symm.trans hE) h
  · rw [h] at hE; cases hE
  · exact ⟨h1, h2, h3, h4, h5⟩

theorem own_shape' {w : World} {base : Nat} {v : Value} {zs : List Int} (h : Owns w base v zs) (hl : 0 < zs.length) : ∃ g cap, v = .slice (some ⟨g, 0, none⟩) zs.length cap ∧ base ≤ g := by
  rcases h.1.2 with ⟨_, h0⟩ | ⟨g, cap, cur, e, hb, _⟩
  · omega
  · exact ⟨g, cap, e, hb⟩

theorem zap_mem {ds C : List Int} {an : Nat} (j : Nat) : ∀ z ∈ zap ds C an j, z ∈ C ∨ z = 0 := by
  induction j with
  | zero => intro z hz; exact .inl hz
  | succ j ih =>
    intro z hz
    simp only [zap] at hz
    split at hz
    · rcases List.mem_or_eq_of_mem_set hz with h1 | rfl
      · exact ih z h1
      · exact .inr rfl
    · exact ih z hz

theorem zap_own {w : World} {base g cap n : Nat} {ds C : List Int} {an j : Nat} (h : Owns w base (.slice (some ⟨g, 0, none⟩) n cap) (zap ds C an j)) (hn : C.length = n) (h1 : ds.getD j 0 = 1) :
    Owns (w.setCell ⟨g, an + j, none⟩ (.int .i64 0)) base (.slice (some ⟨g, 0, none⟩) n cap) (zap ds C an (j + 1)) ∧ w.grownBy (w.setCell ⟨g, an + j, none⟩ (.int .i64 0)) (some g) := by
  have e : zap ds C an (j + 1) = (zap ds C an j).set (an + j) 0 := by simp only [zap, h1, if_true]
  obtain ⟨hr, hle, hwf⟩ := h
  have hzl := zap_length ds C an j
  rw [hzl, hn] at hr
  obtain ⟨k1, k2⟩ := hr.stored (an + j) (.int .i64 0)
  refine ⟨⟨?_, ?_, ?_⟩, k2⟩
  · rw [e, List.length_set, hzl, hn, List.map_set]; exact k1
  · rw [e, List.length_set]; exact hle
  · intro z hz
    rw [e] at hz
    rcases List.mem_or_eq_of_mem_set hz with h2 | rfl
    · exact hwf z h2
    · omega

theorem zap_cell {w : World} {base g cap n : Nat} {ds C : List Int} {an j t : Nat} (h : Owns w base (.slice (some ⟨g, 0, none⟩) n cap) (zap ds C an j)) (hn : C.length = n) (ht : t < n) : (∃ c, w.cell? ⟨g, t, none⟩ = some c) ∧ w.frozen? ⟨g, t, none⟩ = false := by
  have hr := h.1
  have hzl := zap_length ds C an j
  have hle : t < ((zap ds C an j).map (Value.int .i64)).length := by rw [List.length_map, hzl]; omega
  rw [hzl, hn] at hr
  exact ⟨⟨_, by rw [hr.cellAt t (by omega), List.getElem?_eq_getElem hle]⟩, hr.frozenAt t⟩

theorem zap_skip {ds C : List Int} {an j : Nat} (h1 : ds.getD j 0 ≠ 1) : zap ds C an (j + 1) = zap ds C an j := by simp only [zap, h1, if_false]

theorem off_in {ds cs : List Int} (hd : Fine ds) (h : inside ds cs = true) : offE ds cs = 0 ∧ offN ds cs = offs ds cs := by
  have h1 : offE ds cs = 0 := by simp [offE, hd.ok, h]
  exact ⟨h1, by simp [offN, h1]⟩

set_option maxRecDepth 100000 in
set_option maxHeartbeats 12800000 in
theorem vspreads_walk (dv : Value) (ds : List Int) (lv : Value) (l : List Int) (w : World) (hd : IsInts w dv ds) (hl : IsInts w lv l) :
    Calls Try.prog 6 #[dv, lv] w fun e w' => e = .returned (.bool true) ∧ Below w.heap.size w w' := by
  have HD := hide hd
  have HL := hide hl
  have C0 := hide (refcount_any dv ds w hd)
  have C1 := hide (refcount_any lv l w hl)
  obtain ⟨xa, xc, rfl, hx1, hx2, hx3, -, -, -⟩ := hd
  clear hl
  by_cases hE : cntE ds = 0 ∧ cntE l = 0 ∧ prod ds ≤ 2000 ∧ prod l ≤ 2000
  · obtain ⟨hE1, hE2, hp1, hp2⟩ := hE
    have HF := hide (fine_of hE1)
    have HG := hide (fine_of hE2)
    rw [hE1, HF.out.cnt] at C0
    rw [hE2, HG.out.cnt] at C1
    have hq1 := HF.out.prod_pos
    have hq2 := HG.out.prod_pos
    have C2 := hide (whole_any _ ds w HD.out)
    rw [hE1, show rowDs ds = ds by simp [rowDs, hE1], show strdE ds = strd ds by simp [strdE, hE1]] at C2
    obtain ⟨N, hN⟩ : ∃ N : Nat, prod ds = N := ⟨(prod ds).toNat, by omega⟩
    obtain ⟨M, hM⟩ : ∃ M : Nat, prod l = M := ⟨(prod l).toNat, by omega⟩
    have TW := hide (fun h1 h2 => spread_rd (ds := ds) (l := l) HF.out h1 h2)
    have TI := hide (fun h1 h2 n => spread_inside (ds := ds) (l := l) HF.out h1 h2 n)
    rw [hN, hM, Int.toNat_natCast, Int.toNat_natCast] at TW
    rw [hN] at C0 hp1
    rw [hM] at C1 hp2
    have HM := hide hM
    have hN2 : N ≤ 2000 := by omega
    have hM2 : M ≤ 2000 := by omega
    clear hE1 hE2 hq1 hq2 hN hM hp1 hp2
    go_enter Try.func6, Try.ntmps6
    go_wp2_with fail
    refine C0.out.mono ?_
    rintro e w' ⟨rfl, rfl⟩
    go_wp2_with fail
    refine C1.out.mono ?_
    rintro e w' ⟨rfl, rfl⟩
    go_wp2_with fail
    refine C2.out.mono ?_
    rintro e w1 ⟨v, rfl, own, hg1⟩
    have VW := hide own.view
    obtain ⟨d, s, rfl, od, oss, -, -, -⟩ := own
    obtain ⟨da, dc, rfl, -, -, -, -, -, -⟩ := od.ints
    obtain ⟨sa, sc, rfl, -, -, -, -, -, -⟩ := oss.ints
    clear od oss
    go_wp2_with fail
    refine Calls.mono (spread_any _ _ 0 ds (strd ds) l _ (VW.out.more ?ga) (HL.out.more ?gb)) ?_
    case ga => exact grown_new _ _
    case gb => exact grown_trans hg1 (grown_new _ _)
    rintro e w2 ⟨x, E, off', ds', ss', rfl, hr, ox, hg2⟩
    have g02 := grown_trans hg1 (grown_trans (grown_new _ _) hg2)
    have VX := hide ox.view
    obtain ⟨d2, s2, rfl, od2, os2, -, -, -⟩ := ox
    obtain ⟨da2, dc2, rfl, -, -, -, -, -, -⟩ := od2.ints
    obtain ⟨sa2, sc2, rfl, -, -, -, -, -, -⟩ := os2.ints
    clear od2 os2 hg2
    by_cases hE7 : E = 0
    · obtain ⟨hB1, hB2, rfl, rfl, rfl⟩ := spreaded_cases hr hE7
      subst hE7
      obtain ⟨hmay, hrE, hrL, hrA⟩ := TW.out hB1 hB2
      have HIN := hide (TI.out hB1 hB2)
      have hroom := (bc_room hB1 hB2).1
      obtain ⟨L, hL⟩ : ∃ L, L = rdL 0 ds' (spr ds (strd ds) ds') (iota 0 N) := ⟨_, rfl⟩
      obtain ⟨SS, hSS⟩ : ∃ SS, SS = spr ds (strd ds) ds' := ⟨_, rfl⟩
      rw [← hL] at hrL hrA
      rw [← hSS] at hrE hL VX
      rw [← hSS]
      have HLE := hide hrE
      have HLL := hide hL
      have HLA := hide hrA
      have hl1 : ((L.length : Int) != (M : Int)) = false := by simp [hrL]
      have hl2 : L.length ≤ M := by omega
      have hl3 : M ≤ L.length := by omega
      obtain ⟨w3, hw3⟩ : ∃ w3, w3 = w2.alloc (.cells #[.int .i64 0, .slice da2 ds'.length dc2, .slice sa2 SS.length sc2] 24) := ⟨_, rfl⟩
      have hg3 : w2.grownBy w3 none := by rw [hw3]; exact grown_new _ _
      have bX : Hid (∀ wx, w3.grownBy wx none → wx.heap[w2.heap.size]? = some (.cells #[.int .i64 0, .slice da2 ds'.length dc2, .slice sa2 SS.length sc2] 24 (0, 0))) := fun wx hx => box_kept (by rw [hw3]; exact heap_alloc_new w2 _) hx
      have RD2 : Hid (∀ wx u, w2.grownBy wx none → IsInts wx u (iota 0 N) → Calls Try.prog 21 #[.agg #[.int .i64 0, .slice da2 ds'.length dc2, .slice sa2 SS.length sc2], u] wx fun e w' => ∃ r, e = .returned (.tuple #[r, .int .i64 0]) ∧ Owns64 w' wx.heap.size r L ∧ wx.grownBy w' none) := fun wx u hx hu => by
        have := read_any 0 ds' SS (iota 0 N) _ u wx (VX.out.more hx) hu
        rw [HLE.out, ← HLL.out] at this
        exact this
      have NB := hide (fun wx => numbers_any N (by omega) wx)
      clear hr hmay hrE hrL hrA hL hSS hB1 hB2
      go_wp2
      rw [← hw3]
      clear hw3
      obtain ⟨q0, q1, q2, -, -, -⟩ := box_cells (bX.out w3 (grown_refl _))
      have gd := grown_drew (grown_refl w3)
      go_region_with (first | (go_at_call 25; refine (NB.out _).mono ?_; rintro e w9 ⟨u3, rfl, ou3, hg9⟩; have g39 := grown_trans gd hg9; obtain ⟨q0, q1, q2, -, -, -⟩ := box_cells (bX.out w9 g39); obtain ⟨ua3, uc3, rfl, -, -, -, -, -, -⟩ := ou3.ints) | (go_at_call 21; refine (RD2.out _ _ (by exact grown_trans hg3 g39) (by exact ou3.ints)).mono ?_; rintro e w4 ⟨m, rfl, om, hg4⟩; have g34 := grown_trans g39 hg4; obtain ⟨ma, mc, rfl, hm1, hm2, hm3, -, -, -⟩ := om.ints))
      all_goals
        have OM := hide om.ints
        have g04 := grown_trans g02 (grown_trans hg3 g34)
        clear om ou3
        go_wp2
        go_loopg [15] M (fun f i wr => ∃ k : Nat, f = M - k ∧ k ≤ M ∧ i = .int .i64 k ∧ w4.grownBy wr none)
        case atStart => exact ⟨0, rfl, Nat.zero_le _, rfl, grown_refl _⟩
        case round =>
          obtain ⟨k, rfl, hk, rfl, hw⟩ := hrel
          by_cases hkl : k < M
          · have g0r := grown_trans g04 hw
            have cc := refcoords_any lv ds' k wr (HL.out.more g0r) (by omega) (by omega)
            have hce : crdsE ds' k = 0 := by
              have h1 := HM.out
              simp only [crdsE, HG.out.ok, ne_eq, not_true_eq_false, if_false]
              rw [if_neg (by omega)]
            rw [show crdsL ds' k = crds ds' k by simp [crdsL, hce], hce] at cc
            have CC := hide cc
            have hkL : k < L.length := by omega
            obtain ⟨mb, mo, hmo⟩ := addr_of OM.out (by omega)
            subst hmo
            clear cc hce
            go_wp2_with fail
            refine CC.out.mono ?_
            rintro e w5 ⟨u, rfl, ou, hg5⟩
            have hcl : (crds ds' (k : Int)).length = ds'.length := crds_length _ _
            by_cases hz : 0 < ds.length
            · obtain ⟨g, cap, rfl, hgb⟩ := own_shape' ou (by omega)
              have hcp : (crds ds' (k : Int)).length ≤ cap ∧ cap ≤ 9223372036854775807 := by
                obtain ⟨ao, cap', e, h1, h2, -⟩ := ou.ints
                simp only [Value.slice.injEq, true_and] at e
                obtain ⟨-, rfl⟩ := e
                exact ⟨h1, h2⟩
              obtain ⟨an, han⟩ : ∃ an, ds'.length = an + ds.length := ⟨ds'.length - ds.length, by omega⟩
              have HAN := hide han
              obtain ⟨C, hC⟩ : ∃ C, C = crds ds' (k : Int) := ⟨_, rfl⟩
              rw [← hC] at ou hcl hcp
              rw [← hC]
              have HC := hide hC
              rw [hcl, han] at ou hcp
              rw [hcl, han]
              obtain ⟨hcp1, hcp2⟩ := hcp
              have HCL : Hid (C.length = an + ds.length) := hcl.trans han
              have HI := hide (HIN.out k)
              have HAK := hide (HLA.out k (by omega))
              rw [← HC.out, han, Nat.add_sub_cancel] at HI HAK
              clear hcl hC han hroom
              have OU := hide ou
              clear ou
              obtain ⟨xb, xo, hxo⟩ := addr_of HD.out hz
              subst hxo
              have z5 := hg5.size
              obtain ⟨wo, rfl⟩ : ∃ wo, wo = wr := ⟨_, rfl⟩
              go_wp2
              go_loopg [19] ds.length (fun f i wx => ∃ j : Nat, f = ds.length - j ∧ j ≤ ds.length ∧ i = .int .i64 j ∧ Owns wx wo.heap.size (.slice (some ⟨g, 0, none⟩) (an + ds.length) cap) (zap ds C an j) ∧ wo.grownBy wx none)
              case atStart => exact ⟨0, rfl, Nat.zero_le _, rfl, OU.out, hg5⟩
              case round =>
                obtain ⟨j, rfl, hj, rfl, hown, hgx⟩ := hrel
                have HO := hide hown
                by_cases hjl : j < ds.length
                · have hdj := item_at (HD.out.more (grown_trans g0r hgx)) (k := j) hjl
                  obtain ⟨⟨c, hc⟩, hfz⟩ := zap_cell hown HCL.out (t := an + j) (by omega)
                  clear hown
                  by_cases h1 : ds.getD j 0 = 1
                  · rw [h1] at hdj
                    have HZ := hide (zap_own HO.out HCL.out h1)
                    clear h1
                    go_wp2
                    go_roundg (ds.length - (j + 1))
                    case measure => omega
                    case rel => exact ⟨j + 1, rfl, by omega, by go_num, HZ.out.1, grown_trans_row hgx HZ.out.2 (fun x e => by cases e; exact hgb)⟩
                  · have h1b : (ds.getD j 0 == 1) = false := by rw [beq_eq_false_iff_ne]; exact h1
                    have HZ := hide (zap_skip (C := C) (an := an) h1)
                    obtain ⟨D, hD⟩ : ∃ D, D = ds.getD j 0 := ⟨_, rfl⟩
                    rw [← hD] at hdj h1b
                    clear h1 hD
                    go_wp2
                    go_roundg (ds.length - (j + 1))
                    case measure => omega
                    case rel => exact ⟨j + 1, rfl, by omega, by go_num, by rw [HZ.out]; exact HO.out, hgx⟩
                · obtain rfl : j = ds.length := by omega
                  clear hown
                  have hI := part_ints (an := an) (m := ds.length) HO.out.ints (by rw [zap_length, HCL.out])
                  rw [zap_msk HCL.out] at hI
                  have RO := hide (refoffset_any _ _ ds _ _ (HD.out.more (grown_trans g0r hgx)) hI)
                  rw [(off_in HF.out HI.out).1, (off_in HF.out HI.out).2, ← HAK.out] at RO
                  clear hI
                  have hLk := item_at (OM.out.more (grown_trans hw hgx)) (k := k) hkL
                  obtain ⟨Lk, hLk2⟩ : ∃ Lk, Lk = L.getD k 0 := ⟨_, rfl⟩
                  rw [← hLk2] at RO hLk
                  clear hLk2 HAK HI
                  have hq : (Lk != Lk) = false := by simp
                  go_wp2_with fail
                  refine RO.out.mono ?_
                  rintro e w6 ⟨rfl, g6⟩
                  have hLk6 := g6.cell hLk (by simp)
                  clear hLk
                  go_wp2
                  rw [← HAN.out]
                  go_roundg (M - (k + 1))
                  case measure => omega
                  case rel => exact ⟨k + 1, rfl, by omega, by go_num, grown_trans hw (grown_trans hgx g6)⟩
            · obtain rfl : ds = [] := List.length_eq_zero_iff.1 (by omega)
              have HAK := hide (HLA.out k (by omega))
              rw [show ∀ c, offs [] c = 0 from fun _ => rfl] at HAK
              have RO : Hid (∀ (wx : World) (ao : Option Addr) (cap' : Nat), wr.grownBy wx none → (ao = none → cap' = 0) → cap' ≤ 9223372036854775807 → Calls Try.prog 27 #[.slice xa 0 xc, .slice ao 0 cap'] wx fun e w' => e = .returned (.tuple #[.int .i64 0, .int .i64 0]) ∧ wx.grownBy w' none) := by
                intro wx ao cap' hx h1 h2
                have hI : IsInts wx (.slice ao 0 cap') [] := ⟨ao, cap', rfl, by simp, h2, by simp, fun h => ⟨rfl, h1 h⟩, fun h => by simp at h, fun z hz => by simp at hz⟩
                have := refoffset_any _ _ [] _ wx (HD.out.more (grown_trans g0r hx)) hI
                rw [(off_in (cs := []) HF.out rfl).1, (off_in (cs := []) HF.out rfl).2] at this
                exact this
              have hLk := item_at (OM.out.more (grown_trans hw hg5)) (k := k) hkL
              rw [HAK.out] at hLk
              rcases ou.1.2 with ⟨rfl, h0⟩ | ⟨g, cap, cur, rfl, -, -, hnc, hcm, -, -⟩
              · clear ou hcl h0 hroom
                go_wp2
                refine wp_loop_rounds 1 ?_
                rw [rounds_succ]
                go_wp2_with fail
                refine (RO.out _ _ _ hg5 (fun _ => rfl) (by omega)).mono ?_
                rintro e w6 ⟨rfl, g6⟩
                have hLk6 := g6.cell hLk (by simp)
                clear hLk
                go_wp2
                go_roundg (M - (k + 1))
                case measure => omega
                case rel => exact ⟨k + 1, rfl, by omega, by go_num, grown_trans hw (grown_trans hg5 g6)⟩
              · rw [hcl] at hnc
                rw [hcl]
                simp only [maxLen] at hcm
                clear ou hcl hroom
                go_wp2
                all_goals
                  refine wp_loop_rounds 1 ?_
                  rw [rounds_succ]
                  go_wp2_with fail
                  refine (RO.out _ _ _ hg5 (fun h => by cases h) (by omega)).mono ?_
                  rintro e w6 ⟨rfl, g6⟩
                  have hLk6 := g6.cell hLk (by simp)
                  clear hLk
                  go_wp2
                  go_roundg (M - (k + 1))
                  case measure => omega
                  case rel => exact ⟨k + 1, rfl, by omega, by go_num, grown_trans hw (grown_trans hg5 g6)⟩
          · go_wp2_with fail
            refine (vlive_any _).mono ?_
            rintro e w8 ⟨rfl, hg8⟩
            go_wp2
            go_ret
            exact ⟨rfl, grown_below (grown_trans g04 (grown_trans hw hg8))⟩
    · have hE8 := beq_zero_false hE7
      have hE9 : (E != 0) = true := by simp [bne, hE8]
      clear hE7 hr
      go_wp2_with fail
      refine (vlive_any _).mono ?_
      rintro e w8 ⟨rfl, hg8⟩
      go_wp2
      go_ret
      exact ⟨rfl, grown_below (grown_trans g02 (grown_trans (grown_new _ _) hg8))⟩
  · have HN := hide hE
    clear hE
    by_cases h1 : cntE ds = 0
    · have HF := hide (fine_of h1)
      rw [h1, HF.out.cnt] at C0
      have hq1 := HF.out.prod_pos
      obtain ⟨n, hn⟩ : ∃ n, n = prod ds := ⟨_, rfl⟩
      rw [← hn] at C0 hq1
      by_cases h2 : cntE l = 0
      · have HG := hide (fine_of h2)
        rw [h2, HG.out.cnt] at C1
        have hq2 := HG.out.prod_pos
        obtain ⟨m, hm⟩ : ∃ m, m = prod l := ⟨_, rfl⟩
        rw [← hm] at C1 hq2
        by_cases h3 : n ≤ 2000
        · have h4 : ¬ m ≤ 2000 := fun h => HN.out ⟨h1, h2, by omega, by omega⟩
          clear h1 h2 hn hm
          go_enter Try.func6, Try.ntmps6
          go_wp2_with fail
          refine C0.out.mono ?_
          rintro e w' ⟨rfl, rfl⟩
          go_wp2_with fail
          refine C1.out.mono ?_
          rintro e w' ⟨rfl, rfl⟩
          go_wp2_with fail
          refine (vlive_any _).mono ?_
          rintro e w8 ⟨rfl, hg8⟩
          go_wp2
          go_ret
          exact ⟨rfl, grown_below hg8⟩
        · clear h1 h2 hn hm
          go_enter Try.func6, Try.ntmps6
          go_wp2_with fail
          refine C0.out.mono ?_
          rintro e w' ⟨rfl, rfl⟩
          go_wp2_with fail
          refine C1.out.mono ?_
          rintro e w' ⟨rfl, rfl⟩
          go_wp2_with fail
          refine (vlive_any _).mono ?_
          rintro e w8 ⟨rfl, hg8⟩
          go_wp2
          go_ret
          exact ⟨rfl, grown_below hg8⟩
      · obtain ⟨F, hF⟩ : ∃ F, F = cntE l := ⟨_, rfl⟩
        rw [← hF] at C1 h2
        have h5 := beq_zero_false h2
        have h6 : (F != 0) = true := by simp [bne, h5]
        obtain ⟨m, hm⟩ : ∃ m, m = cnt l := ⟨_, rfl⟩
        rw [← hm] at C1
        clear h1 h2 hn hF hm
        go_enter Try.func6, Try.ntmps6
        go_wp2_with fail
        refine C0.out.mono ?_
        rintro e w' ⟨rfl, rfl⟩
        go_wp2_with fail
        refine C1.out.mono ?_
        rintro e w' ⟨rfl, rfl⟩
        go_wp2_with fail
        refine (vlive_any _).mono ?_
        rintro e w8 ⟨rfl, hg8⟩
        go_wp2
        go_ret
        exact ⟨rfl, grown_below hg8⟩
    · obtain ⟨F, hF⟩ : ∃ F, F = cntE ds := ⟨_, rfl⟩
      rw [← hF] at C0 h1
      have h5 := beq_zero_false h1
      have h6 : (F != 0) = true := by simp [bne, h5]
      obtain ⟨n, hn⟩ : ∃ n, n = cnt ds := ⟨_, rfl⟩
      rw [← hn] at C0
      obtain ⟨G, hG⟩ : ∃ G, G = cntE l := ⟨_, rfl⟩
      obtain ⟨m, hm⟩ : ∃ m, m = cnt l := ⟨_, rfl⟩
      rw [← hm, ← hG] at C1
      clear h1 hn hF hm hG
      go_enter Try.func6, Try.ntmps6
      go_wp2_with fail
      refine C0.out.mono ?_
      rintro e w' ⟨rfl, rfl⟩
      go_wp2_with fail
      refine C1.out.mono ?_
      rintro e w' ⟨rfl, rfl⟩
      go_wp2_with fail
      refine (vlive_any _).mono ?_
      rintro e w8 ⟨rfl, hg8⟩
      go_wp2
      go_ret
      exact ⟨rfl, grown_below hg8⟩
end Go.Proofs.Ythphkgnigfmlaaa
