/- Joined texts: LMAllW. -/
import Derived.Test.YtaoplfpigjkgpaaGreatDoorPartBT
namespace Go.Proofs.YtaoplfpigjkgpaaGreatDoor

open Go.RowKit

set_option maxRecDepth 100000 in
set_option maxHeartbeats 16000000 in
theorem moveAll_walk (X : Ten) {x xs : List Int} (axis : Int) (w : World) (hl : Laid w) (hx : IsInts w X.dv.v x) (hxs : IsInts w X.tv.v xs) (ha1 : -9223372036854775808 ≤ axis) (ha2 : axis ≤ 9223372036854775807) : Calls Tryz.prog 7 #[tval X, .int .i64 axis] w fun e w' => e = .returned (.bool true) ∧ Below w.heap.size w w' := by
  obtain ⟨i0, hi0, hz0, hz1, hz2⟩ := info_parts info64E
  have HL := hide hl
  have HX := hide hx
  have HXS := hide hxs
  obtain ⟨_, _, ex, -⟩ := hx.sl
  have exb : x.length ≤ 140737488351232 := by have := hx.le; omega
  clear hl hx hxs
  obtain ⟨tx, ⟨xa, xn, xc⟩, ⟨ua, un, uc⟩⟩ := X
  simp only [Sl.v, Value.slice.injEq] at ex
  obtain ⟨-, rfl, -⟩ := ex
  unfold tval
  simp only [Sl.v] at HX HXS ⊢
  obtain ⟨w0, hw0⟩ : ∃ w0, w0 = w.alloc (.cells #[.int .i64 tx, .slice xa x.length xc, .slice ua un uc] 32) := ⟨_, rfl⟩
  obtain ⟨hbx, Z0⟩ := new_alloc (.cells #[.int .i64 tx, .slice xa x.length xc, .slice ua un uc] 32) (x := w) rfl
  rw [← hw0] at hbx Z0
  have g0 : w.grownBy w0 none := by rw [hw0]; exact grown_new _ _
  have BX : Hid (∀ wx, w0.grownBy wx none → wx.heap[w.heap.size]? = some (.cells #[.int .i64 tx, .slice xa x.length xc, .slice ua un uc] 32 (0, 0))) := fun wx hx => box_kept hbx hx
  have LV : Hid (∀ wx, w.grownBy wx none → Calls Tryz.prog 10 #[] wx fun e w' => e = .returned (.bool true) ∧ wx.grownBy w' none) := fun wx hx => live10_any wx (HL.out.more hx)
  obtain ⟨wS, hwS⟩ : ∃ wS, wS = w0.alloc (.cells #[.int .i64 tx, .slice xa x.length xc, .slice ua un uc] 32) := ⟨_, rfl⟩
  obtain ⟨bS, -⟩ := new_alloc (.cells #[.int .i64 tx, .slice xa x.length xc, .slice ua un uc] 32) Z0
  rw [← hwS] at bS
  have gS : w0.grownBy wS none := by rw [hwS]; exact grown_new _ _
  have GS := hide (grown_trans g0 gS)
  have GS0 := hide gS
  have SM := hide (small10_any ⟨some ⟨w.heap.size + 1, 0, none⟩, 1, 1⟩ _ wS (one_ten ⟨tx, ⟨xa, x.length, xc⟩, ⟨ua, un, uc⟩⟩ bS (HX.out.more GS.out) (HXS.out.more GS.out)))
  simp only at SM
  obtain ⟨x0, x1, x2⟩ := ten_cells hbx
  rw [hw0] at x0 x1 x2
  have G0 := hide g0
  clear hbx bS Z0 g0 gS
  go_enter Tryz.func7, Tryz.ntmps7
  go_wp2_with fail
  rw [← hw0, ← hwS]
  clear hw0 hwS x0 x1 x2
  refine SM.out.mono ?_
  rintro e w1 ⟨bb, rfl, hg1⟩
  have G1 := hide (grown_trans GS.out hg1)
  have G01 := hide (grown_trans GS0.out hg1)
  have L1 := hide (LV.out w1 G1.out)
  obtain ⟨x0, x1, x2⟩ := ten_cells (BX.out w1 G01.out)
  clear hg1 SM
  cases bb with
  | false =>
    go_wp2_with fail
    refine L1.out.mono ?_
    rintro e w2 ⟨rfl, hg2⟩
    go_wp2
    go_ret
    exact ⟨rfl, grown_below (grown_trans G1.out hg2)⟩
  | true =>
    by_cases hneg : axis < 0
    · by_cases hin : axis + (x.length : Int) < 0
      · have hw : wrap64 (axis + (x.length : Int)) = axis + (x.length : Int) := by unfold wrap64; omega
        go_wp2_with fail
        refine L1.out.mono ?_
        rintro e w2 ⟨rfl, hg2⟩
        go_wp2
        go_ret
        exact ⟨rfl, grown_below (grown_trans G1.out hg2)⟩
      · obtain ⟨kk, hkk⟩ : ∃ kk : Nat, axis + (x.length : Int) = kk := ⟨(axis + (x.length : Int)).toNat, by omega⟩
        have hw : wrap64 (axis + (x.length : Int)) = (kk : Int) := by unfold wrap64; omega
        have hkl : kk < x.length := by omega
        have hK : axisO axis x.length = some kk := by unfold axisO fromEndP; rw [if_pos hneg, if_neg (by omega), if_neg (by omega), hkk, Int.toNat_natCast]
        have s1 : decide ((kk : Int) < 0) = false := by simp
        have s2 : decide (x.length ≤ kk) = false := by simpa using hkl
        clear hin hkk exb
        obtain ⟨xb, xo, rfl, hcx⟩ := HX.out.get (k := kk) hkl
        have q0 := cell_still (hcx kk hkl) G1.out
        obtain ⟨d, hd⟩ : ∃ d, d = x.getD kk 0 := ⟨_, rfl⟩
        rw [← hd] at q0
        have HD := hide hd
        have HCX := hide hcx
        clear hd hcx
        by_cases hlo : d < 1
        · clear BX
          go_wp2_with fail
          refine L1.out.mono ?_
          rintro e w2 ⟨rfl, hg2⟩
          go_wp2
          go_ret
          exact ⟨rfl, grown_below (grown_trans G1.out hg2)⟩
        · by_cases hhi : 2000 < d
          · clear BX
            go_wp2_with fail
            refine L1.out.mono ?_
            rintro e w2 ⟨rfl, hg2⟩
            go_wp2
            go_ret
            exact ⟨rfl, grown_below (grown_trans G1.out hg2)⟩
          · obtain ⟨D, rfl⟩ : ∃ D : Nat, d = D := ⟨d.toNat, by omega⟩
            have HK2 := hide hK
            have DL : Hid (1 ≤ D ∧ D ≤ 2000) := ⟨by omega, by omega⟩
            have QW : Hid (∀ wx, w1.grownBy wx none → wx.cell? ⟨xb, xo + kk, none⟩ = some (.int .i64 D)) := fun wx hx => cell_still q0 hx
            clear hK
            have t1 : decide ((D : Int) < 1) = false := by simpa using hlo
            have t2 : decide ((2000 : Int) < (D : Int)) = false := by simpa using hhi
            clear hlo hhi
            go_wp2_with fail
            clear t1 t2 s1 s2
            rw [hw]
            clear hw
            go_loopw [7, 8] (fun v i wr => w1.grownBy wr none ∧ ∃ (j : Nat) (va : Option Addr) (vc : Nat), j ≤ D ∧ i = .int .i64 j ∧ v = .slice va j vc ∧ OwnsE wr w1.heap.size (.slice va j vc) (upToP j)) (fun _ i _ => D - (intOf i).toNat)
            case atStart => exact ⟨grown_refl _, 0, _, _, Nat.zero_le _, rfl, rfl, ⟨⟨by simp [upToP], .inl ⟨rfl, by simp [upToP]⟩⟩, by simp [upToP], fun z hz => by simp [upToP] at hz⟩⟩
            case round =>
              obtain ⟨hg, j, va, vc, hj, rfl, rfl, ho⟩ := hrel
              have HG := hide hg
              have HO := hide ho
              obtain ⟨y0, y1, y2⟩ := ten_cells (BX.out wr (grown_trans G01.out hg))
              have q1 := QW.out wr hg
              have hsz : w1.heap.size ≤ wr.heap.size := hg.size
              clear hg ho q0 x0 x1 x2
              by_cases hjl : j < D
              · have OW : Hid (∀ o, (wr.alloc o).ownsRow w1.heap.size 2 1 (.slice va j vc) j ((upToP j).map (Value.int .i64))) := fun o => ownsE_at (HO.out.more (grown_new _ o) (by cases (Value.slice va j vc).ownBlock <;> simp)) (upToP_len j)
                have hd2 := DL.out.2
                go_wp2_with (at_builtin; refine wpList_append_lies _ rfl (.tmp 59) (.tmp 61) 30 rfl w1.heap.size 2 i0 (.int .i64 0) 1 8 Tryz.underlying30 hi0 hz0 hz1 hz2 rfl (by decide) (.slice va j vc) j ((upToP j).map (Value.int .i64)) rfl (by exact OW.out _) ⟨wr.heap.size, 0, none⟩ 1 1 [.int .i64 j] rfl rfl (by exact World.news_of_block (by have h := heap_alloc_new wr (.cells #[.int .i64 j] 2); simpa using h)) (int_one j) (by omega) (by simp only [maxLen]; omega) (by omega) (by simp; omega) (wr.heap.size + 1) (by simp) ?_; intro gg cap8 w8 hown8 hgrow hat hlt8)
                have ST : Hid (w1.grownBy w8 none ∧ OwnsE w8 w1.heap.size (.slice (some ⟨gg, 0, none⟩) (j + 1) cap8) (upToP (j + 1))) := ⟨grown_trans_row (grown_trans HG.out (grown_new _ _)) hgrow (fun r e => (World.ownsRow.lt HO.out.1 r e).1), by rw [upToP_snoc]; exact ownsE_snoc (upToP_len j) hown8 (by omega) (upToP_rng j (by omega)) (by omega)⟩
                clear hown8 hgrow hat hlt8
                go_wp2_with fail
                go_roundw
                case rel => exact ⟨ST.out.1, j + 1, _, _, by omega, by go_num, rfl, ST.out.2⟩
                case measure => simp [intOf]; omega
              · obtain rfl : D = j := by omega
                have HV := hide HO.out.ints
                have GL := hide (grown_trans G1.out HG.out)
                have GL0 := hide (grown_trans G01.out HG.out)
                have GA := hide (grown_new wr (.cells #[.string ⟨#[120]⟩, .string ⟨#[121]⟩] 9))
                obtain ⟨wa, hwa⟩ : ∃ wa, wa = ((wr.alloc (.cells #[.string ⟨#[120]⟩, .string ⟨#[121]⟩] 9)).alloc (.cells #[.string ⟨#[97, 120, 105, 115]⟩, .int .i64 2, .int .i64 0, .int .i64 axis, .string ⟨#[]⟩, .int .i64 0, .slice none 0 0, .slice none 0 0, .slice none 0 0] 41)).alloc (.cells #[.string ⟨#[71, 97, 116, 104, 101, 114]⟩, .string ⟨#[]⟩, .slice (some ⟨wr.heap.size, 0, none⟩) 2 2, .string ⟨#[122]⟩, .slice (some ⟨wr.heap.size + 1, 0, none⟩) 1 1] 25) := ⟨_, rfl⟩
                obtain ⟨c0, c1, c2⟩ := three_boxes wr (.cells #[.string ⟨#[120]⟩, .string ⟨#[121]⟩] 9) (.cells #[.string ⟨#[97, 120, 105, 115]⟩, .int .i64 2, .int .i64 0, .int .i64 axis, .string ⟨#[]⟩, .int .i64 0, .slice none 0 0, .slice none 0 0, .slice none 0 0] 41) (.cells #[.string ⟨#[71, 97, 116, 104, 101, 114]⟩, .string ⟨#[]⟩, .slice (some ⟨wr.heap.size, 0, none⟩) 2 2, .string ⟨#[122]⟩, .slice (some ⟨wr.heap.size + 1, 0, none⟩) 1 1] 25)
                rw [← hwa] at c0 c1 c2
                have ga : wr.grownBy wa none := by rw [hwa]; exact grown_trans (grown_trans (grown_new _ _) (grown_new _ _)) (grown_new _ _)
                have za : wa.heap.size = wr.heap.size + 1 + 1 + 1 := by rw [hwa]; simp
                obtain ⟨wT, hwT⟩ : ∃ wT, wT = (wa.alloc (.cells #[.int .i64 D] 3)).alloc (.cells #[.int .i64 tx, .slice (some ⟨xb, xo, none⟩) x.length xc, .slice ua un uc, .int .i64 7, .slice (some ⟨wr.heap.size + 1 + 1 + 1, 0, none⟩) 1 1, .slice va D vc] 32) := ⟨_, rfl⟩
                obtain ⟨e0, e1⟩ := two_boxes wa (.cells #[.int .i64 D] 3) (.cells #[.int .i64 tx, .slice (some ⟨xb, xo, none⟩) x.length xc, .slice ua un uc, .int .i64 7, .slice (some ⟨wr.heap.size + 1 + 1 + 1, 0, none⟩) 1 1, .slice va D vc] 32)
                rw [← hwT, za] at e0 e1
                have gt : wa.grownBy wT none := by rw [hwT]; exact grown_trans (grown_new _ _) (grown_new _ _)
                have GT := hide (grown_trans GL.out (grown_trans ga gt))
                have GT0 := hide (grown_trans GL0.out (grown_trans ga gt))
                obtain ⟨n0, n1, n2, n3, n4⟩ := nod_cells (n := ⟨⟨#[71, 97, 116, 104, 101, 114]⟩, ⟨#[]⟩, ⟨some ⟨wr.heap.size, 0, none⟩, 2, 2⟩, ⟨#[122]⟩, ⟨some ⟨wr.heap.size + 1, 0, none⟩, 1, 1⟩⟩) c2
                obtain ⟨x0, x1, x2⟩ := ten_cells (BX.out wa (grown_trans GL0.out ga))
                rw [hwa] at n0 n1 n2 n3 n4 x0 x1 x2
                have AT := ax_attrs (box_kept c1 gt)
                have E1 := hide (ga_do ⟨⟨#[71, 97, 116, 104, 101, 114]⟩, ⟨#[]⟩, ⟨some ⟨wr.heap.size, 0, none⟩, 2, 2⟩, ⟨#[122]⟩, ⟨some ⟨wr.heap.size + 1, 0, none⟩, 1, 1⟩⟩ (axAt ⟨#[71, 97, 116, 104, 101, 114]⟩ axis) ⟨#[120]⟩ ⟨#[121]⟩ rfl ⟨some ⟨wr.heap.size + 1 + 1 + 1 + 1, 0, none⟩, 2, 2⟩ ⟨tx, ⟨some ⟨xb, xo, none⟩, x.length, xc⟩, ⟨ua, un, uc⟩⟩ ⟨7, ⟨some ⟨wr.heap.size + 1 + 1 + 1, 0, none⟩, 1, 1⟩, ⟨va, D, vc⟩⟩ x [(D : Int)] xs (upToP D) wT (HL.out.more GT.out) (ax_in (xy_strs (box_kept c0 gt)) AT) (ax_ok (by omega) (by omega) AT) (ax_check _) (ax_then _ _) (by show 1 ≤ 1048576; omega) (two_tens _ _ e1 (HX.out.more GT.out) (HXS.out.more GT.out) (blk_ints (zs := [(D : Int)]) e0 (by simp) (by have := DL.out; simp; omega)) (HV.out.more (grown_trans ga gt))) (by rw [ax_int]; omega) (fun _ _ _ => by simp))
                unfold nval at E1
                simp only at E1
                obtain ⟨r, hr⟩ : ∃ r, r = gaR (axAt ⟨#[71, 97, 116, 104, 101, 114]⟩ axis) tx 7 x [(D : Int)] xs (upToP D) := ⟨_, rfl⟩
                have HR := hide hr
                rw [← hr] at E1
                clear hr c0 c1 c2 e0 e1 ga gt za AT
                go_wp2_with fail
                rw [← hwa, ← hwT]
                clear hwa hwT n0 n1 n2 n3 n4 x0 x1 x2 y0 y1 y2 q1
                refine E1.out.mono ?_
                intro e w2 hq
                obtain ⟨hg2, ⟨aa, an, ac⟩, ⟨ad, am, ak⟩, rfl, ia, ja⟩ := do_any hq
                simp only
                obtain ⟨p2, hp2⟩ : ∃ W, W = w2.alloc (.cells #[.int .i64 (rTy r), .slice aa an ac, .slice ad am ak] 32) := ⟨_, rfl⟩
                have bp2 := heap_alloc_new w2 (.cells #[.int .i64 (rTy r), .slice aa an ac, .slice ad am ak] 32)
                rw [← hp2] at bp2
                have gp2 : w2.grownBy p2 none := by rw [hp2]; exact grown_new _ _
                have G2 := hide (grown_trans GT.out (grown_trans hg2 gp2))
                have G02 := hide (grown_trans GT0.out (grown_trans hg2 gp2))
                have IA := hide (ia.more gp2)
                have JA := hide (ja.more gp2)
                clear hq hg2 E1 ia ja gp2
                cases r with
                | error c =>
                  have hc0 : (rC (Except.error c : R (Int × List Int × List Int)) != 0) = true := by
                    have hn : c ≠ 0 := nz_gaR _ _ _ _ _ _ _ c HR.out.symm
                    simpa [rC] using hn
                  have L2 := hide (LV.out p2 G2.out)
                  rw [hp2] at L2
                  have GF := hide G2.out
                  rw [hp2] at GF
                  go_wp2_with fail
                  refine L2.out.mono ?_
                  rintro e u4 ⟨rfl, hg4⟩
                  go_wp2
                  go_ret
                  exact ⟨rfl, grown_below (grown_trans GF.out hg4)⟩
                | ok rr =>
                  obtain ⟨t, l, zs⟩ := rr
                  have hc0 : (rC (Except.ok (t, l, zs) : R (Int × List Int × List Int)) != 0) = false := rfl
                  obtain ⟨rfl, rfl, rfl⟩ := all_answer HK2.out HD.out.symm HR.out.symm
                  have SA := hide (sameten_eq t _ _ _ _ l zs p2 IA.out JA.out (HX.out.more G2.out) (HXS.out.more G2.out))
                  simp only [Sl.v] at SA
                  obtain ⟨x0, x1, x2⟩ := ten_cells (BX.out p2 G02.out)
                  obtain ⟨y0, y1, y2⟩ := ten_cells bp2
                  rw [hp2] at x0 x1 x2 y0 y1 y2
                  clear bp2
                  go_wp2_with (first | (go_at_call 12; rw [← hp2]; refine SA.out.mono ?_; rintro e w7 ⟨rfl, hg7⟩; have L7 := hide (LV.out w7 (grown_trans G2.out hg7))) | fail)
                  refine L7.out.mono ?_
                  rintro e w8 ⟨rfl, hg8⟩
                  go_wp2
                  go_ret
                  exact ⟨rfl, grown_below (grown_trans (grown_trans G2.out hg7) hg8)⟩
    · by_cases hin : (x.length : Int) ≤ axis
      · skip
        go_wp2_with fail
        refine L1.out.mono ?_
        rintro e w2 ⟨rfl, hg2⟩
        go_wp2
        go_ret
        exact ⟨rfl, grown_below (grown_trans G1.out hg2)⟩
      · obtain ⟨kk, rfl⟩ : ∃ kk : Nat, axis = kk := ⟨axis.toNat, by omega⟩
        have hkl : kk < x.length := by omega
        have s1 : decide ((kk : Int) < 0) = false := by simp
        have s2 : decide (x.length ≤ kk) = false := by simpa using hkl
        have hK : axisO (kk : Int) x.length = some kk := by unfold axisO fromEndP; rw [if_neg hneg, if_neg hneg, if_neg hin, Int.toNat_natCast]
        obtain ⟨xb, xo, rfl, hcx⟩ := HX.out.get (k := kk) hkl
        have q0 := cell_still (hcx kk hkl) G1.out
        obtain ⟨d, hd⟩ : ∃ d, d = x.getD kk 0 := ⟨_, rfl⟩
        rw [← hd] at q0
        have HD := hide hd
        have HCX := hide hcx
        clear hd hcx
        by_cases hlo : d < 1
        · clear BX
          go_wp2_with fail
          refine L1.out.mono ?_
          rintro e w2 ⟨rfl, hg2⟩
          go_wp2
          go_ret
          exact ⟨rfl, grown_below (grown_trans G1.out hg2)⟩
        · by_cases hhi : 2000 < d
          · clear BX
            go_wp2_with fail
            refine L1.out.mono ?_
            rintro e w2 ⟨rfl, hg2⟩
            go_wp2
            go_ret
            exact ⟨rfl, grown_below (grown_trans G1.out hg2)⟩
          · obtain ⟨D, rfl⟩ : ∃ D : Nat, d = D := ⟨d.toNat, by omega⟩
            have HK2 := hide hK
            have DL : Hid (1 ≤ D ∧ D ≤ 2000) := ⟨by omega, by omega⟩
            have QW : Hid (∀ wx, w1.grownBy wx none → wx.cell? ⟨xb, xo + kk, none⟩ = some (.int .i64 D)) := fun wx hx => cell_still q0 hx
            clear hK
            have t1 : decide ((D : Int) < 1) = false := by simpa using hlo
            have t2 : decide ((2000 : Int) < (D : Int)) = false := by simpa using hhi
            clear hlo hhi
            go_wp2_with fail
            clear t1 t2 s1 s2
            go_loopw [7, 8] (fun v i wr => w1.grownBy wr none ∧ ∃ (j : Nat) (va : Option Addr) (vc : Nat), j ≤ D ∧ i = .int .i64 j ∧ v = .slice va j vc ∧ OwnsE wr w1.heap.size (.slice va j vc) (upToP j)) (fun _ i _ => D - (intOf i).toNat)
            case atStart => exact ⟨grown_refl _, 0, _, _, Nat.zero_le _, rfl, rfl, ⟨⟨by simp [upToP], .inl ⟨rfl, by simp [upToP]⟩⟩, by simp [upToP], fun z hz => by simp [upToP] at hz⟩⟩
            case round =>
              obtain ⟨hg, j, va, vc, hj, rfl, rfl, ho⟩ := hrel
              have HG := hide hg
              have HO := hide ho
              obtain ⟨y0, y1, y2⟩ := ten_cells (BX.out wr (grown_trans G01.out hg))
              have q1 := QW.out wr hg
              have hsz : w1.heap.size ≤ wr.heap.size := hg.size
              clear hg ho q0 x0 x1 x2
              by_cases hjl : j < D
              · have OW : Hid (∀ o, (wr.alloc o).ownsRow w1.heap.size 2 1 (.slice va j vc) j ((upToP j).map (Value.int .i64))) := fun o => ownsE_at (HO.out.more (grown_new _ o) (by cases (Value.slice va j vc).ownBlock <;> simp)) (upToP_len j)
                have hd2 := DL.out.2
                go_wp2_with (at_builtin; refine wpList_append_lies _ rfl (.tmp 59) (.tmp 61) 30 rfl w1.heap.size 2 i0 (.int .i64 0) 1 8 Tryz.underlying30 hi0 hz0 hz1 hz2 rfl (by decide) (.slice va j vc) j ((upToP j).map (Value.int .i64)) rfl (by exact OW.out _) ⟨wr.heap.size, 0, none⟩ 1 1 [.int .i64 j] rfl rfl (by exact World.news_of_block (by have h := heap_alloc_new wr (.cells #[.int .i64 j] 2); simpa using h)) (int_one j) (by omega) (by simp only [maxLen]; omega) (by omega) (by simp; omega) (wr.heap.size + 1) (by simp) ?_; intro gg cap8 w8 hown8 hgrow hat hlt8)
                have ST : Hid (w1.grownBy w8 none ∧ OwnsE w8 w1.heap.size (.slice (some ⟨gg, 0, none⟩) (j + 1) cap8) (upToP (j + 1))) := ⟨grown_trans_row (grown_trans HG.out (grown_new _ _)) hgrow (fun r e => (World.ownsRow.lt HO.out.1 r e).1), by rw [upToP_snoc]; exact ownsE_snoc (upToP_len j) hown8 (by omega) (upToP_rng j (by omega)) (by omega)⟩
                clear hown8 hgrow hat hlt8
                go_wp2_with fail
                go_roundw
                case rel => exact ⟨ST.out.1, j + 1, _, _, by omega, by go_num, rfl, ST.out.2⟩
                case measure => simp [intOf]; omega
              · obtain rfl : D = j := by omega
                have HV := hide HO.out.ints
                have GL := hide (grown_trans G1.out HG.out)
                have GL0 := hide (grown_trans G01.out HG.out)
                have GA := hide (grown_new wr (.cells #[.string ⟨#[120]⟩, .string ⟨#[121]⟩] 9))
                obtain ⟨wa, hwa⟩ : ∃ wa, wa = ((wr.alloc (.cells #[.string ⟨#[120]⟩, .string ⟨#[121]⟩] 9)).alloc (.cells #[.string ⟨#[97, 120, 105, 115]⟩, .int .i64 2, .int .i64 0, .int .i64 (kk : Int), .string ⟨#[]⟩, .int .i64 0, .slice none 0 0, .slice none 0 0, .slice none 0 0] 41)).alloc (.cells #[.string ⟨#[71, 97, 116, 104, 101, 114]⟩, .string ⟨#[]⟩, .slice (some ⟨wr.heap.size, 0, none⟩) 2 2, .string ⟨#[122]⟩, .slice (some ⟨wr.heap.size + 1, 0, none⟩) 1 1] 25) := ⟨_, rfl⟩
                obtain ⟨c0, c1, c2⟩ := three_boxes wr (.cells #[.string ⟨#[120]⟩, .string ⟨#[121]⟩] 9) (.cells #[.string ⟨#[97, 120, 105, 115]⟩, .int .i64 2, .int .i64 0, .int .i64 (kk : Int), .string ⟨#[]⟩, .int .i64 0, .slice none 0 0, .slice none 0 0, .slice none 0 0] 41) (.cells #[.string ⟨#[71, 97, 116, 104, 101, 114]⟩, .string ⟨#[]⟩, .slice (some ⟨wr.heap.size, 0, none⟩) 2 2, .string ⟨#[122]⟩, .slice (some ⟨wr.heap.size + 1, 0, none⟩) 1 1] 25)
                rw [← hwa] at c0 c1 c2
                have ga : wr.grownBy wa none := by rw [hwa]; exact grown_trans (grown_trans (grown_new _ _) (grown_new _ _)) (grown_new _ _)
                have za : wa.heap.size = wr.heap.size + 1 + 1 + 1 := by rw [hwa]; simp
                obtain ⟨wT, hwT⟩ : ∃ wT, wT = (wa.alloc (.cells #[.int .i64 D] 3)).alloc (.cells #[.int .i64 tx, .slice (some ⟨xb, xo, none⟩) x.length xc, .slice ua un uc, .int .i64 7, .slice (some ⟨wr.heap.size + 1 + 1 + 1, 0, none⟩) 1 1, .slice va D vc] 32) := ⟨_, rfl⟩
                obtain ⟨e0, e1⟩ := two_boxes wa (.cells #[.int .i64 D] 3) (.cells #[.int .i64 tx, .slice (some ⟨xb, xo, none⟩) x.length xc, .slice ua un uc, .int .i64 7, .slice (some ⟨wr.heap.size + 1 + 1 + 1, 0, none⟩) 1 1, .slice va D vc] 32)
                rw [← hwT, za] at e0 e1
                have gt : wa.grownBy wT none := by rw [hwT]; exact grown_trans (grown_new _ _) (grown_new _ _)
                have GT := hide (grown_trans GL.out (grown_trans ga gt))
                have GT0 := hide (grown_trans GL0.out (grown_trans ga gt))
                obtain ⟨n0, n1, n2, n3, n4⟩ := nod_cells (n := ⟨⟨#[71, 97, 116, 104, 101, 114]⟩, ⟨#[]⟩, ⟨some ⟨wr.heap.size, 0, none⟩, 2, 2⟩, ⟨#[122]⟩, ⟨some ⟨wr.heap.size + 1, 0, none⟩, 1, 1⟩⟩) c2
                obtain ⟨x0, x1, x2⟩ := ten_cells (BX.out wa (grown_trans GL0.out ga))
                rw [hwa] at n0 n1 n2 n3 n4 x0 x1 x2
                have AT := ax_attrs (box_kept c1 gt)
                have E1 := hide (ga_do ⟨⟨#[71, 97, 116, 104, 101, 114]⟩, ⟨#[]⟩, ⟨some ⟨wr.heap.size, 0, none⟩, 2, 2⟩, ⟨#[122]⟩, ⟨some ⟨wr.heap.size + 1, 0, none⟩, 1, 1⟩⟩ (axAt ⟨#[71, 97, 116, 104, 101, 114]⟩ (kk : Int)) ⟨#[120]⟩ ⟨#[121]⟩ rfl ⟨some ⟨wr.heap.size + 1 + 1 + 1 + 1, 0, none⟩, 2, 2⟩ ⟨tx, ⟨some ⟨xb, xo, none⟩, x.length, xc⟩, ⟨ua, un, uc⟩⟩ ⟨7, ⟨some ⟨wr.heap.size + 1 + 1 + 1, 0, none⟩, 1, 1⟩, ⟨va, D, vc⟩⟩ x [(D : Int)] xs (upToP D) wT (HL.out.more GT.out) (ax_in (xy_strs (box_kept c0 gt)) AT) (ax_ok (by omega) (by omega) AT) (ax_check _) (ax_then _ _) (by show 1 ≤ 1048576; omega) (two_tens _ _ e1 (HX.out.more GT.out) (HXS.out.more GT.out) (blk_ints (zs := [(D : Int)]) e0 (by simp) (by have := DL.out; simp; omega)) (HV.out.more (grown_trans ga gt))) (by rw [ax_int]; omega) (fun _ _ _ => by simp))
                unfold nval at E1
                simp only at E1
                obtain ⟨r, hr⟩ : ∃ r, r = gaR (axAt ⟨#[71, 97, 116, 104, 101, 114]⟩ (kk : Int)) tx 7 x [(D : Int)] xs (upToP D) := ⟨_, rfl⟩
                have HR := hide hr
                rw [← hr] at E1
                clear hr c0 c1 c2 e0 e1 ga gt za AT
                go_wp2_with fail
                rw [← hwa, ← hwT]
                clear hwa hwT n0 n1 n2 n3 n4 x0 x1 x2 y0 y1 y2 q1
                refine E1.out.mono ?_
                intro e w2 hq
                obtain ⟨hg2, ⟨aa, an, ac⟩, ⟨ad, am, ak⟩, rfl, ia, ja⟩ := do_any hq
                simp only
                obtain ⟨p2, hp2⟩ : ∃ W, W = w2.alloc (.cells #[.int .i64 (rTy r), .slice aa an ac, .slice ad am ak] 32) := ⟨_, rfl⟩
                have bp2 := heap_alloc_new w2 (.cells #[.int .i64 (rTy r), .slice aa an ac, .slice ad am ak] 32)
                rw [← hp2] at bp2
                have gp2 : w2.grownBy p2 none := by rw [hp2]; exact grown_new _ _
                have G2 := hide (grown_trans GT.out (grown_trans hg2 gp2))
                have G02 := hide (grown_trans GT0.out (grown_trans hg2 gp2))
                have IA := hide (ia.more gp2)
                have JA := hide (ja.more gp2)
                clear hq hg2 E1 ia ja gp2
                cases r with
                | error c =>
                  have hc0 : (rC (Except.error c : R (Int × List Int × List Int)) != 0) = true := by
                    have hn : c ≠ 0 := nz_gaR _ _ _ _ _ _ _ c HR.out.symm
                    simpa [rC] using hn
                  have L2 := hide (LV.out p2 G2.out)
                  rw [hp2] at L2
                  have GF := hide G2.out
                  rw [hp2] at GF
                  go_wp2_with fail
                  refine L2.out.mono ?_
                  rintro e u4 ⟨rfl, hg4⟩
                  go_wp2
                  go_ret
                  exact ⟨rfl, grown_below (grown_trans GF.out hg4)⟩
                | ok rr =>
                  obtain ⟨t, l, zs⟩ := rr
                  have hc0 : (rC (Except.ok (t, l, zs) : R (Int × List Int × List Int)) != 0) = false := rfl
                  obtain ⟨rfl, rfl, rfl⟩ := all_answer HK2.out HD.out.symm HR.out.symm
                  have SA := hide (sameten_eq t _ _ _ _ l zs p2 IA.out JA.out (HX.out.more G2.out) (HXS.out.more G2.out))
                  simp only [Sl.v] at SA
                  obtain ⟨x0, x1, x2⟩ := ten_cells (BX.out p2 G02.out)
                  obtain ⟨y0, y1, y2⟩ := ten_cells bp2
                  rw [hp2] at x0 x1 x2 y0 y1 y2
                  clear bp2
                  go_wp2_with (first | (go_at_call 12; rw [← hp2]; refine SA.out.mono ?_; rintro e w7 ⟨rfl, hg7⟩; have L7 := hide (LV.out w7 (grown_trans G2.out hg7))) | fail)
                  refine L7.out.mono ?_
                  rintro e w8 ⟨rfl, hg8⟩
                  go_wp2
                  go_ret
                  exact ⟨rfl, grown_below (grown_trans (grown_trans G2.out hg7) hg8)⟩

end Go.Proofs.YtaoplfpigjkgpaaGreatDoor
