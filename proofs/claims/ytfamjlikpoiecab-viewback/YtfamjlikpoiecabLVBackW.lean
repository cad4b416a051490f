/- ViewBack, by the walk. -/
import Derived.Test.YtfamjlikpoiecabVInvP
import Derived.Test.YtfamjlikpoiecabVLive
import Derived.Test.YtfamjlikpoiecabSRStr
namespace Go.Proofs.Ytfamjlikpoiecab
open Go.RowKit

set_option maxHeartbeats 800000 in
theorem vsame_any (a b : Value) (off : Int) (ds ss : List Int) (w : World) (ha : IsView w a off ds ss) (hb : IsView w b off ds ss) :
    Calls Try.prog 20 #[a, b] w fun e w' => e = .returned (.bool true) ∧ w.grownBy w' none := by
  obtain ⟨d1, s1, rfl, hd1, hs1, -, -⟩ := ha
  obtain ⟨d2, s2, rfl, hd2, hs2, -, -⟩ := hb
  obtain ⟨w0, hw0⟩ : ∃ w0, w0 = (w.alloc (.cells #[.int .i64 off, d1, s1] 33)).alloc (.cells #[.int .i64 off, d2, s2] 33) := ⟨_, rfl⟩
  have g0 : w.grownBy w0 none := by rw [hw0]; exact grown_trans (grown_new _ _) (grown_new _ _)
  have hbx := two_boxes w (.cells #[.int .i64 off, d1, s1] 33) (.cells #[.int .i64 off, d2, s2] 33)
  rw [← hw0] at hbx
  have c1 := same_any d1 d2 ds ds w0 (hd1.more g0) (hd2.more g0)
  rw [decide_eq_true rfl] at c1
  have C1 := hide c1
  have HS1 := hide hs1
  have HS2 := hide hs2
  have BX := hide hbx
  clear c1 hs1 hs2 hd1 hd2 hbx
  go_enter Try.func20, Try.ntmps20
  go_wp2_with fail
  rw [← hw0]
  clear hw0
  refine C1.out.mono ?_
  rintro e w1 ⟨rfl, hg1⟩
  obtain ⟨x0, x1, x2, -, -, -⟩ := box_cells (box_kept BX.out.1 hg1)
  obtain ⟨y0, y1, y2, -, -, -⟩ := box_cells (box_kept BX.out.2 hg1)
  have c2 := same_any s1 s2 ss ss w1 (HS1.out.more (grown_trans g0 hg1)) (HS2.out.more (grown_trans g0 hg1))
  rw [decide_eq_true rfl] at c2
  have C2 := hide c2
  clear c2
  go_wp2_with fail
  refine C2.out.mono ?_
  rintro e w2 ⟨rfl, hg2⟩
  go_wp2
  go_ret
  exact ⟨rfl, grown_trans g0 (grown_trans hg1 hg2)⟩

theorem turned_ok {off : Int} {ds ss perm : List Int} {E off' : Int} {ds' ss' : List Int} (h : Turned off ds ss perm E off' ds' ss') (hE : E = 0) : MayV off ds ss ∧ IsPerm perm ds.length ∧ off' = off ∧ ds' = pickL ds perm ∧ ss' = pickL ss perm := by
  rcases h with ⟨_, h, _⟩ | ⟨_, _, h, _⟩ | ⟨h0, h1, _, h2, h3, h4⟩
  · rw [h] at hE; cases hE
  · rw [h] at hE; cases hE
  · exact ⟨h0, h1, h2, h3, h4⟩

theorem turned_yes {off : Int} {ds ss perm : List Int} {E off' : Int} {ds' ss' : List Int} (h : Turned off ds ss perm E off' ds' ss') (hm : MayV off ds ss) (hp : IsPerm perm ds.length) : E = 0 ∧ off' = off ∧ ds' = pickL ds perm ∧ ss' = pickL ss perm := by
  rcases h with ⟨h, _⟩ | ⟨_, h, _⟩ | ⟨_, _, h1, h2, h3, h4⟩
  · exact absurd hm h
  · exact absurd hp h
  · exact ⟨h1, h2, h3, h4⟩

set_option maxHeartbeats 3200000 in
theorem vback_walk (v : Value) (z : Int × List Int × List Int) (pv : Value) (p : List Int) (qv : Value) (q : List Int) (w : World) (h : IsView w v z.1 z.2.1 z.2.2) (hp : IsInts w pv p) (hq : IsInts w qv q) :
    Calls Try.prog 8 #[v, pv, qv] w fun e w' => e = .returned (.bool true) ∧ Below w.heap.size w w' := by
  obtain ⟨i0, hi, hz0, hz1, hz2⟩ := info_parts infoInt
  obtain ⟨off, ds, ss⟩ := z
  simp only at h
  have HV := hide h
  have HP := hide hp
  have HQ := hide hq
  obtain ⟨dv, sv, rfl, -, -, ho1, ho2⟩ := h
  obtain ⟨pa, pc, rfl, hp1, hp2, hp3, -, -, -⟩ := hp
  obtain ⟨qa, qc, rfl, hq1, hq2, hq3, -, -, -⟩ := hq
  obtain ⟨w0, hw0⟩ : ∃ w0, w0 = w.alloc (.cells #[.int .i64 off, dv, sv] 33) := ⟨_, rfl⟩
  have g0 : w.grownBy w0 none := by rw [hw0]; exact grown_new _ _
  have bV : Hid (∀ wx, w0.grownBy wx none → wx.heap[w.heap.size]? = some (.cells #[.int .i64 off, dv, sv] 33 (0, 0))) := fun wx hx => box_kept (by rw [hw0]; exact heap_alloc_new w _) hx
  have C1 := hide (transpose_any _ _ off ds ss p w0 (HV.out.more g0) (HP.out.more g0))
  go_enter Try.func8, Try.ntmps8
  go_wp2_with fail
  rw [← hw0]
  clear hw0
  refine C1.out.mono ?_
  rintro e w1 ⟨a, E, off', ds', ss', rfl, ht, oa, hg1⟩
  have VA := hide oa.view
  obtain ⟨d1, s1, rfl, od1, os1, -, -, -⟩ := oa
  obtain ⟨da, dc, rfl, -, -, -, -, -, -⟩ := od1.ints
  obtain ⟨sa, sc, rfl, -, -, -, -, -, -⟩ := os1.ints
  clear od1 os1
  by_cases hE : E = 0
  · obtain ⟨hM, hPm, rfl, rfl, rfl⟩ := turned_ok ht hE
    subst hE
    have HM := hide hM
    have HPm := hide hPm
    have hpl : p.length ≤ 6 := by have := hPm.len; have := hM.fine.few; omega
    have hb2 : i0.bytes * p.length ≤ 281474976710656 := by rw [hz2]; omega
    have hb3 : p.length ≤ maxLen := by simp only [maxLen]; omega
    obtain ⟨DS, hDS⟩ : ∃ DS, DS = pickL ds p := ⟨_, rfl⟩
    obtain ⟨SS, hSS⟩ : ∃ SS, SS = pickL ss p := ⟨_, rfl⟩
    rw [← hDS, ← hSS] at VA
    rw [← hDS, ← hSS]
    have HDS := hide hDS
    have HSS := hide hSS
    have hDL : DS.length = ds.length := by rw [hDS, pickL_len, hPm.len]
    have HDL := hide hDL
    have HMA : Hid (MayV off' DS SS) := by rw [hDS, hSS]; exact hM.turn hPm
    obtain ⟨w2, hw2⟩ : ∃ w2, w2 = w1.alloc (.cells #[.int .i64 off', .slice da DS.length dc, .slice sa SS.length sc] 33) := ⟨_, rfl⟩
    have hg2 : w1.grownBy w2 none := by rw [hw2]; exact grown_new _ _
    have bA : Hid (∀ wx, w2.grownBy wx none → wx.heap[w1.heap.size]? = some (.cells #[.int .i64 off', .slice da DS.length dc, .slice sa SS.length sc] 33 (0, 0))) := fun wx hx => box_kept (by rw [hw2]; exact heap_alloc_new w1 _) hx
    have g02 := grown_trans hg1 hg2
    have HZ : Hid (w1.heap.size + 1 = w2.heap.size) := by rw [hw2]; simp [Hid]
    clear ht hM hPm hDS hSS hDL
    go_wp2_with (refine wpList_make_full _ rfl (.tmp 29) (.tmp 29) 22 rfl (w1.heap.size + 1) 3 i0 (.int .i64 0) 1 Try.underlying22 hi hz0 hz1 .i64 .i64 _ _ p.length rfl rfl rfl rfl hb2 hb3 ?_ ?_; (simp); intro w3 hown hgrow)
    rw [← hw2] at hown hgrow
    rw [made_zeros, ← HZ.out] at hown
    clear hw2
    go_loopw [10] (fun i wr => w2.grownBy wr none ∧ ∃ (k : Nat) (l : List Int), k ≤ p.length ∧ i = .int .i64 k ∧ l.length = p.length ∧ (∀ z ∈ l, 0 ≤ z ∧ z ≤ 6) ∧ (∀ t : Nat, t < k → l.getD (p.getD t 0).toNat 0 = t) ∧
      wr.ownsRow (w1.heap.size + 1) 3 1 (.slice (some ⟨w1.heap.size + 1, 0, none⟩) p.length p.length) p.length (l.map (Value.int .i64))) (fun i _ => p.length - (intOf i).toNat)
    case atStart => exact ⟨hgrow, 0, List.replicate p.length 0, Nat.zero_le _, rfl, by simp, fun z hz => by have := List.eq_of_mem_replicate hz; omega, fun t ht => absurd ht (by omega), hown⟩
    case round =>
      clear hown hgrow
      obtain ⟨hw, k, l, hk, rfl, hll, hlb, hlt, hown⟩ := hrel
      have HLL := hide hll
      have HLB := hide hlb
      have HLT := hide hlt
      have gr := grown_trans g02 hw
      clear hll hlb hlt
      by_cases hkl : k < p.length
      · obtain ⟨bp, op, rfl⟩ := addr_of HP.out (by omega)
        have hcp := item_at (HP.out.more (grown_trans g0 gr)) hkl
        obtain ⟨xn, hx, hxn⟩ := HPm.out.at k (by rw [← HPm.out.len]; exact hkl)
        have hx2 : xn < p.length := by rw [HPm.out.len]; exact hx
        rw [hxn] at hcp
        obtain ⟨c, hc⟩ : ∃ c, wr.cell? ⟨w1.heap.size + 1, xn, none⟩ = some c := ⟨_, by rw [hown.cellAt xn (by omega), List.getElem?_eq_getElem (by rw [List.length_map, HLL.out]; exact hx2)]⟩
        have hf := hown.frozenAt xn
        have hst := hown.stored xn (.int .i64 k)
        rw [map_set_int] at hst
        have HST := hide hst.1
        have HG := hide (grown_trans_row hw hst.2 (fun r e => by cases e; have := HZ.out; omega))
        have HNEW : Hid (∀ t : Nat, t < k + 1 → (l.set xn (k : Int)).getD (p.getD t 0).toNat 0 = t) := fun t ht => by
          rcases lt_succ_cases ht with h | rfl
          · have hne : (p.getD t 0).toNat ≠ xn := fun e => by
              obtain ⟨y, hy, ey⟩ := HPm.out.at t (by rw [← HPm.out.len]; omega)
              have := HPm.out.inj (i := t) (j := k) (by rw [← HPm.out.len]; omega) (by rw [← HPm.out.len]; omega) (by rw [hxn, ey]; rw [ey] at e; omega)
              omega
            have h1 := HLT.out t h
            rw [List.getD, List.getElem?_set, if_neg (fun e => hne e.symm)]
            exact h1
          · rw [hxn, Int.toNat_natCast, List.getD, List.getElem?_set, if_pos rfl, if_pos (by rw [HLL.out]; exact hx2)]
            rfl
        have HBN : Hid (∀ z ∈ l.set xn (k : Int), 0 ≤ z ∧ z ≤ 6) := fun z hz => by
          rcases List.mem_or_eq_of_mem_set hz with h | rfl
          · exact HLB.out z h
          · omega
        clear hown hst hxn
        go_wp2
        go_roundw
        case rel => exact ⟨HG.out, k + 1, _, by omega, by go_num, by rw [List.length_set]; exact HLL.out, HBN.out, HNEW.out, HST.out⟩
        case measure => simp [intOf]; omega
      · have HB : Hid (IsInts wr (.slice (some ⟨w1.heap.size + 1, 0, none⟩) p.length p.length) l) := row_ints (by rw [HLL.out]; exact hown) (by rw [HLL.out]; omega) (fun z hz => by have := HLB.out z hz; omega)
        have HT : Hid (Turns p l ds.length) := ⟨by rw [HLL.out, HPm.out.len], fun i hi => HLT.out i (by have := HPm.out.len; omega)⟩
        have HBP := hide (HT.out.perm HPm.out)
        obtain ⟨x0, x1, x2, -, -, -⟩ := box_cells (bA.out wr hw)
        have C2 := hide (transpose_any _ _ off' DS SS l wr (VA.out.more (grown_trans hg2 hw)) HB.out)
        clear hown
        go_wp2_with fail
        refine C2.out.mono ?_
        rintro e w4 ⟨b, E, off2, ds2, ss2, rfl, ht, ob, hg4⟩
        obtain ⟨rfl, rfl, rfl, rfl⟩ := turned_yes ht HMA.out (by rw [HDL.out]; exact HBP.out)
        rw [HDS.out, HSS.out, pick_back HPm.out HT.out rfl, pick_back HPm.out HT.out HM.out.len] at ob
        have VB := hide ob.view
        obtain ⟨d2, s2, rfl, od2, os2, -, -, -⟩ := ob
        obtain ⟨da2, dc2, rfl, -, -, -, -, -, -⟩ := od2.ints
        obtain ⟨sa2, sc2, rfl, -, -, -, -, -, -⟩ := os2.ints
        have g24 := grown_trans hw hg4
        have g04 := grown_trans g02 g24
        obtain ⟨y0, y1, y2, -, -, -⟩ := box_cells (bV.out (w4.alloc (.cells #[.int .i64 off2, .slice da2 ds.length dc2, .slice sa2 ss.length sc2] 33)) (grown_trans g04 (grown_new _ _)))
        clear od2 os2 ht x0 x1 x2
        go_wp2_with fail
        refine Calls.mono (vsame_any _ _ off2 ds ss _ (VB.out.more ?ga) (HV.out.more ?gb)) ?_
        case ga => exact grown_new _ _
        case gb => exact grown_trans g0 (grown_trans g04 (grown_new _ _))
        rintro e w6 ⟨rfl, hg6⟩
        have g26 := grown_trans g24 (grown_trans (grown_new _ _) hg6)
        have g06 := grown_trans g02 g26
        obtain ⟨x0, x1, x2, -, -, -⟩ := box_cells (bA.out w6 g26)
        have C3 := hide (transpose_any _ _ off2 DS SS q w6 (VA.out.more (grown_trans hg2 g26)) (HQ.out.more (grown_trans g0 g06)))
        clear hg6 y0 y1 y2
        go_wp2_with fail
        refine C3.out.mono ?_
        rintro e w7 ⟨c, E, off3, ds3, ss3, rfl, ht, oc, hg7⟩
        have VC := hide oc.view
        obtain ⟨d3, s3, rfl, od3, os3, -, -, -⟩ := oc
        obtain ⟨da3, dc3, rfl, -, -, -, -, -, -⟩ := od3.ints
        obtain ⟨sa3, sc3, rfl, -, -, -, -, -, -⟩ := os3.ints
        have g07 := grown_trans g06 hg7
        clear od3 os3
        by_cases hE3 : E = 0
        · obtain ⟨-, hQm, rfl, rfl, rfl⟩ := turned_ok ht hE3
          subst hE3
          rw [HDL.out] at hQm
          have HQm := hide hQm
          have hql : q.length ≤ 6 := by have := hQm.len; have := HM.out.fine.few; omega
          have hb4 : i0.bytes * q.length ≤ 281474976710656 := by rw [hz2]; omega
          have hb5 : q.length ≤ maxLen := by simp only [maxLen]; omega
          obtain ⟨DQ, hDQ⟩ : ∃ DQ, DQ = pickL DS q := ⟨_, rfl⟩
          obtain ⟨SQ, hSQ⟩ : ∃ SQ, SQ = pickL SS q := ⟨_, rfl⟩
          rw [← hDQ, ← hSQ] at VC
          rw [← hDQ, ← hSQ]
          have HDQ : Hid (DQ = pickL ds (pickL p q)) := by show _ = _; rw [hDQ, HDS.out, pick_both HPm.out hQm]
          have HSQ : Hid (SQ = pickL ss (pickL p q)) := by show _ = _; rw [hSQ, HSS.out, pick_both HPm.out hQm]
          obtain ⟨w8, hw8⟩ : ∃ w8, w8 = w7.alloc (.cells #[.int .i64 off3, .slice da3 DQ.length dc3, .slice sa3 SQ.length sc3] 33) := ⟨_, rfl⟩
          have hg8 : w7.grownBy w8 none := by rw [hw8]; exact grown_new _ _
          have bC : Hid (∀ wx, w8.grownBy wx none → wx.heap[w7.heap.size]? = some (.cells #[.int .i64 off3, .slice da3 DQ.length dc3, .slice sa3 SQ.length sc3] 33 (0, 0))) := fun wx hx => box_kept (by rw [hw8]; exact heap_alloc_new w7 _) hx
          have g08 := grown_trans g07 hg8
          have HZ8 : Hid (w7.heap.size + 1 = w8.heap.size) := by rw [hw8]; simp [Hid]
          have HBL : Hid ((pickL p q).length = q.length) := pickL_len p q
          clear ht hQm hDQ hSQ x0 x1 x2
          go_wp2_with (refine wpList_make_full _ rfl (.tmp 68) (.tmp 68) 22 rfl (w7.heap.size + 1) 3 i0 (.int .i64 0) 1 Try.underlying22 hi hz0 hz1 .i64 .i64 _ _ q.length rfl rfl rfl rfl hb4 hb5 ?_ ?_; (simp); intro w9 hown hgrow)
          rw [← hw8] at hown hgrow
          rw [made_zeros, ← HZ8.out] at hown
          clear hw8
          go_loopw [16] (fun i wr => w8.grownBy wr none ∧ ∃ (k : Nat), k ≤ q.length ∧ i = .int .i64 k ∧
            wr.ownsRow (w7.heap.size + 1) 3 1 (.slice (some ⟨w7.heap.size + 1, 0, none⟩) q.length q.length) q.length ((foreFill q.length k (pickL p q)).map (Value.int .i64))) (fun i _ => q.length - (intOf i).toNat)
          case atStart => exact ⟨hgrow, 0, Nat.zero_le _, rfl, by simpa [foreFill] using hown⟩
          case round =>
            clear hown hgrow
            obtain ⟨hw9, k9, hk9, rfl, hown⟩ := hrel
            have g09 := grown_trans g08 hw9
            by_cases hkl : k9 < q.length
            · obtain ⟨bq, oq, rfl⟩ := addr_of HQ.out (by omega)
              have hcq := item_at (HQ.out.more (grown_trans g0 g09)) hkl
              obtain ⟨xn, hx, hxn⟩ := HQm.out.at k9 (by rw [← HQm.out.len]; exact hkl)
              have hx2 : xn < p.length := by rw [HPm.out.len]; exact hx
              rw [hxn] at hcq
              obtain ⟨bp, op, rfl⟩ := addr_of HP.out (by omega)
              have hcp := item_at (HP.out.more (grown_trans g0 g09)) hx2
              have hz : p.getD xn 0 = (pickL p q).getD k9 0 := by rw [pickL_at p q k9 hkl, hxn, Int.toNat_natCast]
              obtain ⟨z, hzz⟩ : ∃ z, z = p.getD xn 0 := ⟨_, rfl⟩
              rw [← hzz] at hcp hz
              rw [HZ8.out] at hown
              have hfs := fore_step (z := z) hkl HBL.out hz hw9 hown
              rw [← HZ8.out] at hfs
              obtain ⟨⟨c, hc⟩, hf, hown2, hw2'⟩ := hfs
              have HO := hide hown2
              have HW := hide hw2'
              clear hown hown2 hw2' hz hzz hxn hw9
              go_wp2
              go_roundw
              case rel => exact ⟨HW.out, k9 + 1, by omega, by go_num, HO.out⟩
              case measure => simp [intOf]; omega
            · have HB9 : Hid (IsInts wr (.slice (some ⟨w7.heap.size + 1, 0, none⟩) q.length q.length) (pickL p q)) := by
                rw [show foreFill q.length k9 (pickL p q) = pickL p q by simp [foreFill, show q.length - k9 = 0 by omega, List.take_of_length_le (show (pickL p q).length ≤ k9 by rw [HBL.out]; omega)]] at hown
                rw [← HBL.out]
                rw [← HBL.out] at hown
                exact row_ints hown (by rw [HBL.out]; omega) (fun z hz => by
                  obtain ⟨y, hy, rfl⟩ := List.mem_map.1 hz
                  exact getD_wf HP.out.wf _)
              have HBP9 := hide (both_perm HPm.out HQm.out)
              obtain ⟨x0, x1, x2, -, -, -⟩ := box_cells (bV.out wr g09)
              have C4 := hide (transpose_any _ _ off3 ds ss (pickL p q) wr (HV.out.more (grown_trans g0 g09)) HB9.out)
              clear hown
              go_wp2_with fail
              refine C4.out.mono ?_
              rintro e wa ⟨dd, E, off4, ds4, ss4, rfl, ht, od4, hga⟩
              obtain ⟨rfl, rfl, rfl, rfl⟩ := turned_yes ht HM.out HBP9.out
              rw [← HDQ.out, ← HSQ.out] at od4
              have VD := hide od4.view
              obtain ⟨d4, s4, rfl, odd, oss, -, -, -⟩ := od4
              obtain ⟨da4, dc4, rfl, -, -, -, -, -, -⟩ := odd.ints
              obtain ⟨sa4, sc4, rfl, -, -, -, -, -, -⟩ := oss.ints
              have g8a := grown_trans hw9 hga
              have g0a := grown_trans g08 g8a
              obtain ⟨y0, y1, y2, -, -, -⟩ := box_cells (bC.out (wa.alloc (.cells #[.int .i64 off4, .slice da4 DQ.length dc4, .slice sa4 SQ.length sc4] 33)) (grown_trans g8a (grown_new _ _)))
              clear odd oss ht x0 x1 x2
              go_wp2_with fail
              refine Calls.mono (vsame_any _ _ off4 DQ SQ _ (VC.out.more ?gc) (VD.out.more ?gd)) ?_
              case gc => exact grown_trans hg8 (grown_trans g8a (grown_new _ _))
              case gd => exact grown_new _ _
              rintro e wb ⟨rfl, hgb⟩
              have g0b := grown_trans g0a (grown_trans (grown_new _ _) hgb)
              clear hgb y0 y1 y2
              go_wp2_with fail
              refine (vlive_any _).mono ?_
              rintro e wc ⟨rfl, hgc⟩
              go_wp2
              go_ret
              exact ⟨rfl, grown_below (grown_trans g0 (grown_trans g0b hgc))⟩
        · have hE' := beq_zero_false hE3
          clear hE3 ht
          go_wp2_with fail
          refine (vlive_any _).mono ?_
          rintro e w8 ⟨rfl, hg8⟩
          go_wp2
          go_ret
          exact ⟨rfl, grown_below (grown_trans g0 (grown_trans g07 (grown_trans (grown_new _ _) hg8)))⟩
  · have hE' := beq_zero_false hE
    clear hE ht
    go_wp2_with fail
    refine (vlive_any _).mono ?_
    rintro e w2 ⟨rfl, hg2⟩
    go_wp2
    go_ret
    exact ⟨rfl, grown_below (grown_trans g0 (grown_trans hg1 (grown_trans (grown_new _ _) hg2)))⟩
end Go.Proofs.Ytfamjlikpoiecab
