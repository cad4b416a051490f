/- Joined texts: LCPrdW. -/
import Derived.Test.YtkefdkboejimeaaGreatDoorPartBT
import Derived.Test.YtkefdkboejimeaaGreatDoorPartAQ
import Derived.Test.YtkefdkboejimeaaGreatDoorPartBV
import Derived.Deep.CutRange
namespace Go.Proofs.YtkefdkboejimeaaGreatDoor

open Go.RowKit

theorem nz_cvG (tx ty : Int) (x y xs ys : List Int) : ∀ c, cvG tx ty x y xs ys = .error c → c ≠ 0 := by
  intro c h
  unfold cvG doR at h
  split at h
  · cases h
  · rename_i c' hn
    cases h
    exact nz_node (nz_outM _ _ _ _ _ (nz_convolved _ _ _)) _ hn

theorem product_ans2 {tx ty t d1 d2 d3 e0 e1 : Int} {x y xs ys l zs : List Int} (hx0 : x.getD 0 0 = 1) (hy2 : y.getD 2 0 = 1) (hy3 : y.getD 3 0 = 1) (h : cvG tx ty x y xs ys = .ok (t, l, zs)) (h1 : d1 = x.getD 1 0) (h2 : d2 = x.getD 2 0) (h3 : d3 = x.getD 3 0) (h4 : e0 = y.getD 0 0) (h5 : e1 = y.getD 1 0) :
    ∃ (dP : Int) (U V B : List Int), tx = 1 ∧ ty = 1 ∧ IntKind.i64.wrap (d2 * d3) = dP ∧ (-9223372036854775808 ≤ dP ∧ dP ≤ 9223372036854775807) ∧ trR 1 [d1, dP] xs = .ok (1, [dP, d1], U) ∧ trR 1 [e0, e1] ys = .ok (1, [e1, e0], V) ∧ mmR 1 1 [dP, d1] [e1, e0] U V = .ok (1, [dP, e0], B) ∧ trR 1 [dP, e0] B = .ok (1, [e0, dP], zs) := by
  obtain ⟨C, M, H, W, P, B, rfl, rfl, rfl, rfl, hP, hb, -, -, -, r1, r2, r3, r4⟩ := product_answerC hx0 hy2 hy3 h
  simp only [List.getD_cons_zero, List.getD_cons_succ] at h1 h2 h3 h4 h5
  subst h1 h2 h3 h4 h5
  refine ⟨(P : Int), _, _, B, rfl, rfl, ?_, by omega, r1, r2, r3, r4⟩
  rw [← Int.natCast_mul, ← hP]
  exact Vw.wrap_small (Int.natCast_nonneg _) (by omega)

theorem tenInfoC : (Tryz.prog.info? 25).map (·.size) = some 3 := by kernel_rfl

set_option maxRecDepth 100000 in
set_option maxHeartbeats 16000000 in
theorem convProduct_walk (X : Ten) {x xs : List Int} (Y : Ten) {y ys : List Int} (w : World) (hl : Laid w) (hx : IsInts w X.dv.v x) (hxs : IsInts w X.tv.v xs) (hy : IsInts w Y.dv.v y) (hys : IsInts w Y.tv.v ys) : Calls Tryz.prog 3 #[tval X, tval Y] w fun e w' => e = .returned (.bool true) ∧ Below w.heap.size w w' := by
  have HL := hide hl
  have HX := hide hx
  have HXS := hide hxs
  have HY := hide hy
  have HYS := hide hys
  obtain ⟨_, _, ex, -⟩ := hx.sl
  obtain ⟨_, _, ey, -⟩ := hy.sl
  clear hl hx hxs hy hys
  obtain ⟨tx, ⟨xa, xn, xc⟩, ⟨ua, un, uc⟩⟩ := X
  obtain ⟨ty, ⟨ya, yn, yc⟩, ⟨va, vn, vc⟩⟩ := Y
  simp only [Sl.v, Value.slice.injEq] at ex ey
  obtain ⟨-, rfl, -⟩ := ex
  obtain ⟨-, rfl, -⟩ := ey
  unfold tval
  simp only [Sl.v] at HX HXS HY HYS ⊢
  obtain ⟨w0, hw0⟩ : ∃ w0, w0 = (w.alloc (.cells #[.int .i64 tx, .slice xa x.length xc, .slice ua un uc] 25)).alloc (.cells #[.int .i64 ty, .slice ya y.length yc, .slice va vn vc] 25) := ⟨_, rfl⟩
  have hbx := two_boxes w (.cells #[.int .i64 tx, .slice xa x.length xc, .slice ua un uc] 25) (.cells #[.int .i64 ty, .slice ya y.length yc, .slice va vn vc] 25)
  rw [← hw0] at hbx
  have g0 : w.grownBy w0 none := by rw [hw0]; exact grown_trans (grown_new _ _) (grown_new _ _)
  have z0 : w0.heap.size = w.heap.size + 1 + 1 := by rw [hw0]; simp
  have BX : Hid (∀ wx, w0.grownBy wx none → wx.heap[w.heap.size]? = some (.cells #[.int .i64 tx, .slice xa x.length xc, .slice ua un uc] 25 (0, 0)) ∧ wx.heap[w.heap.size + 1]? = some (.cells #[.int .i64 ty, .slice ya y.length yc, .slice va vn vc] 25 (0, 0))) := fun wx hx => ⟨box_kept hbx.1 hx, box_kept hbx.2 hx⟩
  have LV : Hid (∀ wx, w.grownBy wx none → Calls Tryz.prog 8 #[] wx fun e w' => e = .returned (.bool true) ∧ wx.grownBy w' none) := fun wx hx => live13_any wx (HL.out.more hx)
  obtain ⟨wS, hwS⟩ : ∃ wS, wS = w0.alloc (.cells #[.int .i64 tx, .slice xa x.length xc, .slice ua un uc, .int .i64 ty, .slice ya y.length yc, .slice va vn vc] 25) := ⟨_, rfl⟩
  obtain ⟨bS, -⟩ := new_alloc (.cells #[.int .i64 tx, .slice xa x.length xc, .slice ua un uc, .int .i64 ty, .slice ya y.length yc, .slice va vn vc] 25) z0
  rw [← hwS] at bS
  have gS : w0.grownBy wS none := by rw [hwS]; exact grown_new _ _
  have GS := hide (grown_trans g0 gS)
  have GS0 := hide gS
  have SM := hide (small13_any ⟨some ⟨w.heap.size + 1 + 1, 0, none⟩, 2, 2⟩ [(⟨tx, ⟨xa, x.length, xc⟩, ⟨ua, un, uc⟩⟩, (x, xs)), (⟨ty, ⟨ya, y.length, yc⟩, ⟨va, vn, vc⟩⟩, (y, ys))] wS (two_tens ⟨tx, ⟨xa, x.length, xc⟩, ⟨ua, un, uc⟩⟩ ⟨ty, ⟨ya, y.length, yc⟩, ⟨va, vn, vc⟩⟩ bS (HX.out.more GS.out) (HXS.out.more GS.out) (HY.out.more GS.out) (HYS.out.more GS.out)))
  simp only at SM
  obtain ⟨x0, x1, x2⟩ := ten_cells hbx.1
  obtain ⟨y0, y1, y2⟩ := ten_cells hbx.2
  rw [hw0] at x0 x1 x2 y0 y1 y2
  clear hbx bS z0 g0 gS
  go_enter Tryz.func3, Tryz.ntmps3
  go_wp2_with fail
  rw [← hw0, ← hwS]
  clear hw0 hwS x0 x1 x2 y0 y1 y2
  refine SM.out.mono ?_
  rintro e w1 ⟨b, rfl, hg1⟩
  have G1 := hide (grown_trans GS.out hg1)
  have G01 := hide (grown_trans GS0.out hg1)
  have L1 := hide (LV.out w1 G1.out)
  clear hg1 SM
  cases b with
  | false =>
    go_wp2_with fail
    refine L1.out.mono ?_
    rintro e w2 ⟨rfl, hg2⟩
    go_wp2
    go_ret
    exact ⟨rfl, grown_below (grown_trans G1.out hg2)⟩
  | true =>
    obtain ⟨⟨x0, x1, x2⟩, ⟨y0, y1, y2⟩⟩ := And.intro (ten_cells (BX.out w1 G01.out).1) (ten_cells (BX.out w1 G01.out).2)
    by_cases h4 : x.length = 4
    · by_cases k4 : y.length = 4
      · rw [h4] at x1 BX ⊢
        rw [k4] at y1 BX ⊢
        have HX4 : Hid (IsInts w (.slice xa 4 xc) x) := by have h := HX.out; rw [h4] at h; exact h
        have HY4 : Hid (IsInts w (.slice ya 4 yc) y) := by have h := HY.out; rw [k4] at h; exact h
        have i4 : IsInts w (.slice xa 4 xc) x := HX4.out
        have j4 : IsInts w (.slice ya 4 yc) y := HY4.out
        obtain ⟨bx, ox, rfl⟩ := addr_of i4 (by omega)
        obtain ⟨bY, oY, rfl⟩ := addr_of j4 (by omega)
        have p0 := item_at i4 (k := 0) (by omega)
        have p1 := item_at i4 (k := 1) (by omega)
        have p2 := item_at i4 (k := 2) (by omega)
        have p3 := item_at i4 (k := 3) (by omega)
        have q0 := item_at j4 (k := 0) (by omega)
        rw [Nat.add_zero] at p0 q0
        have q1 := item_at j4 (k := 1) (by omega)
        have q2 := item_at j4 (k := 2) (by omega)
        have q3 := item_at j4 (k := 3) (by omega)
        obtain ⟨d0, hd0⟩ : ∃ d, d = x.getD 0 0 := ⟨_, rfl⟩
        rw [← hd0] at p0
        have Hd0 := hide hd0
        have Bd0 : Hid (-9223372036854775808 ≤ d0 ∧ d0 ≤ 9223372036854775807) := by rw [hd0]; exact i4.wf _ (by rw [List.getD, List.getElem?_eq_getElem (by omega)]; exact List.getElem_mem _)
        clear hd0
        obtain ⟨d1, hd1⟩ : ∃ d, d = x.getD 1 0 := ⟨_, rfl⟩
        rw [← hd1] at p1
        have Hd1 := hide hd1
        have Bd1 : Hid (-9223372036854775808 ≤ d1 ∧ d1 ≤ 9223372036854775807) := by rw [hd1]; exact i4.wf _ (by rw [List.getD, List.getElem?_eq_getElem (by omega)]; exact List.getElem_mem _)
        clear hd1
        obtain ⟨d2, hd2⟩ : ∃ d, d = x.getD 2 0 := ⟨_, rfl⟩
        rw [← hd2] at p2
        have Hd2 := hide hd2
        have Bd2 : Hid (-9223372036854775808 ≤ d2 ∧ d2 ≤ 9223372036854775807) := by rw [hd2]; exact i4.wf _ (by rw [List.getD, List.getElem?_eq_getElem (by omega)]; exact List.getElem_mem _)
        clear hd2
        obtain ⟨d3, hd3⟩ : ∃ d, d = x.getD 3 0 := ⟨_, rfl⟩
        rw [← hd3] at p3
        have Hd3 := hide hd3
        have Bd3 : Hid (-9223372036854775808 ≤ d3 ∧ d3 ≤ 9223372036854775807) := by rw [hd3]; exact i4.wf _ (by rw [List.getD, List.getElem?_eq_getElem (by omega)]; exact List.getElem_mem _)
        clear hd3
        obtain ⟨e0, he0⟩ : ∃ d, d = y.getD 0 0 := ⟨_, rfl⟩
        rw [← he0] at q0
        have He0 := hide he0
        have Be0 : Hid (-9223372036854775808 ≤ e0 ∧ e0 ≤ 9223372036854775807) := by rw [he0]; exact j4.wf _ (by rw [List.getD, List.getElem?_eq_getElem (by omega)]; exact List.getElem_mem _)
        clear he0
        obtain ⟨e1, he1⟩ : ∃ d, d = y.getD 1 0 := ⟨_, rfl⟩
        rw [← he1] at q1
        have He1 := hide he1
        have Be1 : Hid (-9223372036854775808 ≤ e1 ∧ e1 ≤ 9223372036854775807) := by rw [he1]; exact j4.wf _ (by rw [List.getD, List.getElem?_eq_getElem (by omega)]; exact List.getElem_mem _)
        clear he1
        obtain ⟨e2, he2⟩ : ∃ d, d = y.getD 2 0 := ⟨_, rfl⟩
        rw [← he2] at q2
        have He2 := hide he2
        have Be2 : Hid (-9223372036854775808 ≤ e2 ∧ e2 ≤ 9223372036854775807) := by rw [he2]; exact j4.wf _ (by rw [List.getD, List.getElem?_eq_getElem (by omega)]; exact List.getElem_mem _)
        clear he2
        obtain ⟨e3, he3⟩ : ∃ d, d = y.getD 3 0 := ⟨_, rfl⟩
        rw [← he3] at q3
        have He3 := hide he3
        have Be3 : Hid (-9223372036854775808 ≤ e3 ∧ e3 ≤ 9223372036854775807) := by rw [he3]; exact j4.wf _ (by rw [List.getD, List.getElem?_eq_getElem (by omega)]; exact List.getElem_mem _)
        clear he3
        have P1 := hide p1
        have P2 := hide p2
        have P3 := hide p3
        have Q0 := hide q0
        have Q1 := hide q1
        clear HX HY i4 j4 h4 k4 p1 p2 p3 q0 q1
        have p0 := cell_still p0 G1.out
        have q2 := cell_still q2 G1.out
        have q3 := cell_still q3 G1.out
        by_cases c0 : d0 = 1
        · subst c0
          by_cases c2 : e2 = 1
          · subst c2
            by_cases c3 : e3 = 1
            · subst c3
              obtain ⟨q, hq⟩ : ∃ q, q = (w1.alloc (.cells #[.string ⟨#[120]⟩, .string ⟨#[119]⟩] 9)).alloc (.cells #[.int .i64 tx, .slice (some ⟨bx, ox, none⟩) 4 xc, .slice ua un uc, .int .i64 ty, .slice (some ⟨bY, oY, none⟩) 4 yc, .slice va vn vc] 25) := ⟨_, rfl⟩
              obtain ⟨k0, k1⟩ := two_boxes w1 (.cells #[.string ⟨#[120]⟩, .string ⟨#[119]⟩] 9) (.cells #[.int .i64 tx, .slice (some ⟨bx, ox, none⟩) 4 xc, .slice ua un uc, .int .i64 ty, .slice (some ⟨bY, oY, none⟩) 4 yc, .slice va vn vc] 25)
              rw [← hq] at k0 k1
              have gq : w1.grownBy q none := by rw [hq]; exact grown_trans (grown_new _ _) (grown_new _ _)
              have GQ := hide (grown_trans G1.out gq)
              have G0Q := hide (grown_trans G01.out gq)
              obtain ⟨r, hr⟩ : ∃ r, r = cvG tx ty x y xs ys := ⟨_, rfl⟩
              have E1 := hide (cv_doA ⟨#[122]⟩ ⟨some ⟨w1.heap.size, 0, none⟩, 2, 2⟩ ⟨#[120]⟩ ⟨#[119]⟩ (by kernel_rfl) (by decide) ⟨some ⟨w1.heap.size + 1, 0, none⟩, 2, 2⟩ ⟨tx, ⟨some ⟨bx, ox, none⟩, 4, xc⟩, ⟨ua, un, uc⟩⟩ ⟨ty, ⟨some ⟨bY, oY, none⟩, 4, yc⟩, ⟨va, vn, vc⟩⟩ x y xs ys q (HL.out.more GQ.out) (xw_strs k0) (two_tens ⟨tx, ⟨some ⟨bx, ox, none⟩, 4, xc⟩, ⟨ua, un, uc⟩⟩ ⟨ty, ⟨some ⟨bY, oY, none⟩, 4, yc⟩, ⟨va, vn, vc⟩⟩ k1 (HX4.out.more GQ.out) (HXS.out.more GQ.out) (HY4.out.more GQ.out) (HYS.out.more GQ.out)) Hd0.out.symm)
              unfold nval nilS at E1
              simp only at E1
              rw [← hr] at E1
              have HR := hide hr
              obtain ⟨u0, u1, u2⟩ := ten_cells (BX.out (w1.alloc (.cells #[.string ⟨#[120]⟩, .string ⟨#[119]⟩] 9)) (grown_trans G01.out (grown_new _ _))).1
              obtain ⟨v0, v1, v2⟩ := ten_cells (BX.out (w1.alloc (.cells #[.string ⟨#[120]⟩, .string ⟨#[119]⟩] 9)) (grown_trans G01.out (grown_new _ _))).2
              clear k0 k1 gq hr
              go_wp2_with fail
              rw [← hq]
              clear hq x0 x1 x2 y0 y1 y2 u0 u1 u2 v0 v1 v2 p0 q2 q3
              refine E1.out.mono ?_
              intro e w2 hdo
              obtain ⟨hg2, ⟨da, dn, dc⟩, ⟨ta, tn, tc⟩, rfl, id2, it2⟩ := do_any hdo
              simp only [Sl.v] at id2 it2 ⊢
              obtain ⟨m, hm⟩ : ∃ m, m = w2.alloc (.cells #[.int .i64 (rTy r), .slice da dn dc, .slice ta tn tc] 25) := ⟨_, rfl⟩
              have bm := heap_alloc_new w2 (.cells #[.int .i64 (rTy r), .slice da dn dc, .slice ta tn tc] 25)
              rw [← hm] at bm
              have gm : w2.grownBy m none := by rw [hm]; exact grown_new _ _
              have GM := hide (grown_trans GQ.out (grown_trans hg2 gm))
              have G0M := hide (grown_trans G0Q.out (grown_trans hg2 gm))
              have LM := hide (LV.out m GM.out)
              have it3 := it2.more gm
              clear E1 hdo hg2 id2 gm L1
              cases r with
              | error c =>
                have hc := nz_cvG _ _ _ _ _ _ c HR.out.symm
                have bc : (c != 0) = true := by simpa using hc
                simp only [rC, rTy] at hm ⊢
                clear bm it2 it3 hc
                go_wp2_with fail
                rw [← hm]
                clear hm
                refine LM.out.mono ?_
                rintro e w3 ⟨rfl, hg3⟩
                go_wp2
                go_ret
                exact ⟨rfl, grown_below (grown_trans GM.out hg3)⟩
              | ok rr =>
                obtain ⟨tt, ll, zs⟩ := rr
                obtain ⟨dP, U, V, Bm, rfl, rfl, hP, bP, r1, r2, r3, r4⟩ := product_ans2 Hd0.out.symm He2.out.symm He3.out.symm HR.out.symm Hd1.out Hd2.out Hd3.out He0.out He1.out
                simp only [rC, rTy, rZ] at hm bm it2 it3 ⊢
                obtain ⟨_, _, ez, -⟩ := it2.sl
                simp only [Value.slice.injEq] at ez
                obtain ⟨-, rfl, -⟩ := ez
                have BM := hide bm
                have IT := hide it3
                have HP := hide hP
                have BP := hide bP
                have R1 := hide r1
                have R2 := hide r2
                have R3 := hide r3
                have R4 := hide r4
                obtain ⟨x0, x1, x2⟩ := ten_cells (BX.out m G0M.out).1
                have p2 := cell_still P2.out GM.out
                have p3 := cell_still P3.out GM.out
                clear bm it2 it3 hP bP r1 r2 r3 r4 LM HR
                go_upto_region 6 with fail
                rw [← hm]
                clear hm
                go_cut [7] from 71 to 79 (fun t7 wx => m.grownBy wx none ∧ t7 = .int .i64 dP)
                case first =>
                  refine wp_region_held_drew (S := fun w' => m.grownBy w' none) (by kernel_rfl) (grown_drew (grown_refl _)) (fun hHeld => ?_)
                  refine wpAnyH_take (i := 0) (v := ?_) rfl (by kernel_rfl) (by kernel_rfl) (by kernel_rfl) (fun _ _ _ h => h) (Or.inl ⟨by kernel_rfl, ?_⟩) (by assumption) ?_
                  rotate_left 1
                  · (intro wS hSw; go_simp; (try with_reducible rfl))
                  try simp only [Act.put]
                  refine wpAnyH_take (i := 1) (v := ?_) rfl (by kernel_rfl) (by kernel_rfl) (by kernel_rfl) (fun _ _ _ h => h) (Or.inl ⟨by kernel_rfl, ?_⟩) (by assumption) ?_
                  rotate_left 1
                  · (intro wS hSw; have c0 := cell_still x1 hSw; go_simp; (try with_reducible rfl))
                  try simp only [Act.put]
                  refine wpAnyH_take (i := 2) (v := ?_) rfl (by kernel_rfl) (by kernel_rfl) (by kernel_rfl) (fun _ _ _ h => h) (Or.inl ⟨by kernel_rfl, ?_⟩) (by assumption) ?_
                  rotate_left 1
                  · (intro wS hSw; go_simp; (try with_reducible rfl))
                  try simp only [Act.put]
                  refine wpAnyH_take (i := 3) (v := ?_) rfl (by kernel_rfl) (by kernel_rfl) (by kernel_rfl) (fun _ _ _ h => h) (Or.inl ⟨by kernel_rfl, ?_⟩) (by assumption) ?_
                  rotate_left 1
                  · (intro wS hSw; have c0 := cell_still p2 hSw; go_simp; (try with_reducible rfl))
                  try simp only [Act.put]
                  refine wpAnyH_take (i := 4) (v := ?_) rfl (by kernel_rfl) (by kernel_rfl) (by kernel_rfl) (fun _ _ _ h => h) (Or.inl ⟨by kernel_rfl, ?_⟩) (by assumption) ?_
                  rotate_left 1
                  · (intro wS hSw; go_simp; (try with_reducible rfl))
                  try simp only [Act.put]
                  refine wpAnyH_take (i := 5) (v := ?_) rfl (by kernel_rfl) (by kernel_rfl) (by kernel_rfl) (fun _ _ _ h => h) (Or.inl ⟨by kernel_rfl, ?_⟩) (by assumption) ?_
                  rotate_left 1
                  · (intro wS hSw; have c0 := cell_still x1 hSw; go_simp; (try with_reducible rfl))
                  try simp only [Act.put]
                  refine wpAnyH_take (i := 6) (v := ?_) rfl (by kernel_rfl) (by kernel_rfl) (by kernel_rfl) (fun _ _ _ h => h) (Or.inl ⟨by kernel_rfl, ?_⟩) (by assumption) ?_
                  rotate_left 1
                  · (intro wS hSw; go_simp; (try with_reducible rfl))
                  try simp only [Act.put]
                  refine wpAnyH_take (i := 7) (v := ?_) rfl (by kernel_rfl) (by kernel_rfl) (by kernel_rfl) (fun _ _ _ h => h) (Or.inl ⟨by kernel_rfl, ?_⟩) (by assumption) ?_
                  rotate_left 1
                  · (intro wS hSw; have c0 := cell_still p3 hSw; go_simp; (try with_reducible rfl))
                  try simp only [Act.put]
                  have hP := HP.out
                  refine wpAnyH_take (i := 8) (v := .int .i64 dP) rfl (by kernel_rfl) (by kernel_rfl) (by kernel_rfl) (fun _ _ _ h => h) (Or.inl ⟨by kernel_rfl, ?_⟩) (by assumption) ?_
                  · (intro wS hSw; go_simp; (try simp only [hP]))
                  try simp only [Act.put]
                  clear hP
                  refine wpAnyH_take (i := 9) (v := ?_) rfl (by kernel_rfl) (by kernel_rfl) (by kernel_rfl) (fun _ _ _ h => h) (Or.inl ⟨by kernel_rfl, ?_⟩) (by assumption) ?_
                  rotate_left 1
                  · (intro wS hSw; go_simp; (try with_reducible rfl))
                  try simp only [Act.put]
                  refine wpAnyH_done (by kernel_rfl) ?_ _
                  clear x0 x1 x2 p2 p3 hHeld
                  go_simp
                  go_wp2_with fail
                  go_meet
                  exact ⟨grown_drew (grown_refl _), rfl⟩
                case rest =>
                  obtain ⟨hgc, rfl⟩ := hcut
                  obtain ⟨ma, hv⟩ : ∃ v, v = wc := ⟨_, rfl⟩
                  rw [← hv] at hgc ⊢
                  clear hv x0 x1 x2 p2 p3
                  have GA := hide (grown_trans GM.out hgc)
                  have G0A := hide (grown_trans G0M.out hgc)
                  have BA := hide (box_kept BM.out hgc)
                  have ITA := hide (IT.out.more hgc)
                  obtain ⟨x0, x1, x2⟩ := ten_cells (BX.out ma G0A.out).1
                  have p1 := cell_still P1.out GA.out
                  clear hgc BM IT GM G0M
                  go_upto_region 7 with fail
                  go_cut [8] from 80 to 90 (fun t8 wx => ma.grownBy wx none ∧ ∃ b7 b11 : Nat, t8 = .pointer (some ⟨b11, 0, none⟩) ∧ wx.heap[b11]? = some (.cells #[.int .i64 1, .slice (some ⟨b7, 0, none⟩) 2 2, .slice ua un uc] 25 (0, 0)) ∧ wx.heap[b7]? = some (.cells #[.int .i64 d1, .int .i64 dP] 3 (0, 0)))
                  case first =>
                    refine wp_region_held_drew (S := fun w' => ma.grownBy w' none) (by kernel_rfl) (grown_drew (grown_refl _)) (fun _ => ?_)
                    refine' with_nodeW (N := ∀ (v : World) (b7 : Nat) (b11 : Nat), ma.grownBy v none → v.heap[b7]? = some (.cells #[.int .i64 d1, .int .i64 dP] 3 (0, 0)) → v.heap[b11]? = some (.cells #[.int .i64 0, .slice none 0 0, .slice none 0 0] 25 (0, 0)) → ma.heap.size ≤ b11 → (_ : World → Nat → Nat → Prop) v b7 b11) (fun N7_11 => ?_) ?_
                    rotate_left 1
                    refine' with_nodeW (N := ∀ (v : World) (b7 : Nat), ma.grownBy v none → v.heap[b7]? = some (.cells #[.int .i64 d1, .int .i64 dP] 3 (0, 0)) → (_ : World → Nat → Prop) v b7) (fun N7 => ?_) ?_
                    rotate_left 1
                    refine' with_nodeW (N := ∀ (v : World) (b11 : Nat), ma.grownBy v none → v.heap[b11]? = some (.cells #[.int .i64 0, .slice none 0 0, .slice none 0 0] 25 (0, 0)) → ma.heap.size ≤ b11 → (_ : World → Nat → Prop) v b11) (fun N11 => ?_) ?_
                    rotate_left 1
                    · have g : ma.grownBy ma.drew none := grown_drew (grown_refl _)
                      generalize hv : ma.drew = v at g ⊢
                      clear hv
                      refine wpAnyH_take (i := 0) (v := ?_) rfl (by kernel_rfl) (by kernel_rfl) (by kernel_rfl) (fun _ _ _ h => h) (Or.inl ⟨by kernel_rfl, ?_⟩) (by assumption) ?_
                      rotate_left 1
                      · (intro wS hSw; go_simp; (try with_reducible rfl))
                      try simp only [Act.put]
                      refine wpAnyH_take (i := 1) (v := ?_) rfl (by kernel_rfl) (by kernel_rfl) (by kernel_rfl) (fun _ _ _ h => h) (Or.inl ⟨by kernel_rfl, ?_⟩) (by assumption) ?_
                      rotate_left 1
                      · (intro wS hSw; have c0 := cell_still x0 hSw; go_simp; (try with_reducible rfl))
                      try simp only [Act.put]
                      refine wpAnyH_take (i := 2) (v := ?_) rfl (by kernel_rfl) (by kernel_rfl) (by kernel_rfl) (fun _ _ _ h => h) (Or.inl ⟨by kernel_rfl, ?_⟩) (by assumption) ?_
                      rotate_left 1
                      · (intro wS hSw; go_simp; (try with_reducible rfl))
                      try simp only [Act.put]
                      refine wpAnyH_take (i := 3) (v := ?_) rfl (by kernel_rfl) (by kernel_rfl) (by kernel_rfl) (fun _ _ _ h => h) (Or.inl ⟨by kernel_rfl, ?_⟩) (by assumption) ?_
                      rotate_left 1
                      · (intro wS hSw; have c0 := cell_still x1 hSw; go_simp; (try with_reducible rfl))
                      try simp only [Act.put]
                      refine wpAnyH_take (i := 4) (v := ?_) rfl (by kernel_rfl) (by kernel_rfl) (by kernel_rfl) (fun _ _ _ h => h) (Or.inl ⟨by kernel_rfl, ?_⟩) (by assumption) ?_
                      rotate_left 1
                      · (intro wS hSw; go_simp; (try with_reducible rfl))
                      try simp only [Act.put]
                      refine wpAnyH_take (i := 5) (v := ?_) rfl (by kernel_rfl) (by kernel_rfl) (by kernel_rfl) (fun _ _ _ h => h) (Or.inl ⟨by kernel_rfl, ?_⟩) (by assumption) ?_
                      rotate_left 1
                      · (intro wS hSw; have c0 := cell_still p1 hSw; go_simp; (try with_reducible rfl))
                      try simp only [Act.put]
                      refine wpAnyH_take (i := 6) (v := ?_) rfl (by kernel_rfl) (by kernel_rfl) (by kernel_rfl) (fun _ _ _ h => h) (Or.inl ⟨by kernel_rfl, ?_⟩) (by assumption) ?_
                      rotate_left 1
                      · (intro wS hSw; go_simp; (try with_reducible rfl))
                      try simp only [Act.put]
                      refine wpAnyH_take (i := 8) (v := ?_) rfl (by kernel_rfl) (by kernel_rfl) (by kernel_rfl) (fun _ _ _ h => h) (Or.inl ⟨by kernel_rfl, ?_⟩) (by assumption) ?_
                      rotate_left 1
                      · (intro wS hSw; go_simp; (try with_reducible rfl))
                      try simp only [Act.put]
                      refine wpAnyH_take (i := 9) (v := ?_) rfl (by kernel_rfl) (by kernel_rfl) (by kernel_rfl) (fun _ _ _ h => h) (Or.inl ⟨by kernel_rfl, ?_⟩) (by assumption) ?_
                      rotate_left 1
                      · (intro wS hSw; have c0 := cell_still x2 hSw; go_simp; (try with_reducible rfl))
                      try simp only [Act.put]
                      refine wpAnyH_ready (rs := [7, 11]) (by kernel_rfl) (by simp) ?_
                      refine AllReadyH.cons rfl (fun K hK => ?_) ?_
                      · go_simp
                        have h7 := heap_alloc_new v (.cells #[.int .i64 d1, .int .i64 dP] 3)
                        have gs := grown_new v (.cells #[.int .i64 d1, .int .i64 dP] 3)
                        generalize hvn : v.alloc (.cells #[.int .i64 d1, .int .i64 dP] 3) = u at h7 gs ⊢
                        clear hvn
                        generalize v.heap.size = b7 at h7 ⊢
                        have gn := grown_trans g gs
                        refine hK.out _ _ gn (fun hHeld => ?_)
                        clear hK K
                        try simp only [Act.put]
                        refine wpAnyH_take (i := 10) (v := ?_) rfl (by kernel_rfl) (by kernel_rfl) (by kernel_rfl) (fun _ _ _ h => h) (Or.inl ⟨by kernel_rfl, ?_⟩) (by assumption) ?_
                        rotate_left 1
                        · (intro wS hSw; go_simp; (try with_reducible rfl))
                        try simp only [Act.put]
                        clear g gs hHeld
                        exact N7 u b7 gn h7
                      refine AllReadyH.cons rfl (fun K hK => ?_) ?_
                      · go_simp
                        have hb11 := g.size
                        have h11 := heap_alloc_new v (.cells #[.int .i64 0, .slice none 0 0, .slice none 0 0] 25)
                        have gs := grown_new v (.cells #[.int .i64 0, .slice none 0 0, .slice none 0 0] 25)
                        generalize hvn : v.alloc (.cells #[.int .i64 0, .slice none 0 0, .slice none 0 0] 25) = u at h11 gs ⊢
                        clear hvn
                        generalize v.heap.size = b11 at h11 hb11 ⊢
                        have gn := grown_trans g gs
                        refine hK.out _ _ gn (fun hHeld => ?_)
                        clear hK K
                        try simp only [Act.put]
                        clear g gs hHeld
                        exact N11 u b11 gn h11 hb11
                      exact AllReadyH.nil
                    · intro v b11 g h11 hb11
                      refine wpAnyH_ready (rs := [7]) (by kernel_rfl) (by simp) ?_
                      refine AllReadyH.cons rfl (fun K hK => ?_) ?_
                      · go_simp
                        have h7 := heap_alloc_new v (.cells #[.int .i64 d1, .int .i64 dP] 3)
                        have gs := grown_new v (.cells #[.int .i64 d1, .int .i64 dP] 3)
                        generalize hvn : v.alloc (.cells #[.int .i64 d1, .int .i64 dP] 3) = u at h7 gs ⊢
                        clear hvn
                        generalize v.heap.size = b7 at h7 ⊢
                        have gn := grown_trans g gs
                        refine hK.out _ _ gn (fun hHeld => ?_)
                        clear hK K
                        try simp only [Act.put]
                        refine wpAnyH_take (i := 10) (v := ?_) rfl (by kernel_rfl) (by kernel_rfl) (by kernel_rfl) (fun _ _ _ h => h) (Or.inl ⟨by kernel_rfl, ?_⟩) (by assumption) ?_
                        rotate_left 1
                        · (intro wS hSw; go_simp; (try with_reducible rfl))
                        try simp only [Act.put]
                        have h11 := box_kept h11 gs
                        clear g gs hHeld
                        exact N7_11 u b7 b11 gn h7 h11 hb11
                      exact AllReadyH.nil
                    · intro v b7 g h7
                      refine wpAnyH_ready (rs := [11]) (by kernel_rfl) (by simp) ?_
                      refine AllReadyH.cons rfl (fun K hK => ?_) ?_
                      · go_simp
                        have hb11 := g.size
                        have h11 := heap_alloc_new v (.cells #[.int .i64 0, .slice none 0 0, .slice none 0 0] 25)
                        have gs := grown_new v (.cells #[.int .i64 0, .slice none 0 0, .slice none 0 0] 25)
                        generalize hvn : v.alloc (.cells #[.int .i64 0, .slice none 0 0, .slice none 0 0] 25) = u at h11 gs ⊢
                        clear hvn
                        generalize v.heap.size = b11 at h11 hb11 ⊢
                        have gn := grown_trans g gs
                        refine hK.out _ _ gn (fun hHeld => ?_)
                        clear hK K
                        try simp only [Act.put]
                        have h7 := box_kept h7 gs
                        clear g gs hHeld
                        refine cast ?_ (N7_11 u b7 b11 gn h7 h11 hb11)
                        kernel_rfl
                      exact AllReadyH.nil
                    · intro v b7 b11 g h7 h11 hb11
                      refine wpAnyH_ready (rs := [12]) (by kernel_rfl) (by simp) ?_
                      refine AllReadyH.cons rfl (fun K hK => ?_) ?_
                      · rw [if_pos (by kernel_rfl)]
                        refine wp_store_row 25 (.tmp 8) (.tmp 90) rfl b11 #[.int .i64 1, .slice (some ⟨b7, 0, none⟩) 2 2, .slice ua un uc] rfl rfl 25 _ h11 tenInfoC rfl (by simp [Value.oneCell']) ?_
                        have s14 := setRow_heap v b11 _ #[.int .i64 1, .slice (some ⟨b7, 0, none⟩) 2 2, .slice ua un uc] _ _ h11
                        have rg := row_grown v b11 #[.int .i64 1, .slice (some ⟨b7, 0, none⟩) 2 2, .slice ua un uc]
                        have y14 := grown_trans_row g rg (fun r e => by cases e; exact hb11)
                        have k0 := (rg.block b7 (Array.getElem?_eq_some_iff.1 h7).1 (fun e => by injection e with e; rw [e, h11] at h7; cases h7)).trans h7
                        refine hK.out _ _ y14 (fun hHeld => ?_)
                        clear hK K
                        try simp only [Act.put]
                        refine wpAnyH_done (by kernel_rfl) ?_ _
                        clear h7 h11 g hHeld rg
                        go_simp
                        go_wp2_with fail
                        go_meet
                        exact ⟨y14, b7, b11, rfl, s14, k0⟩
                      exact AllReadyH.nil
                  case rest =>
                    obtain ⟨hgc, b7, b11, rfl, h11, h7⟩ := hcut
                    obtain ⟨mb, hv⟩ : ∃ v, v = wc := ⟨_, rfl⟩
                    rw [← hv] at hgc h11 h7 ⊢
                    clear hv x0 x1 x2 p1
                    have GB := hide (grown_trans GA.out hgc)
                    have G0B := hide (grown_trans G0A.out hgc)
                    have BB := hide (box_kept BA.out hgc)
                    have ITB := hide (ITA.out.more hgc)
                    have FB := hide h11
                    have FI := hide (ints_two h7 Bd1.out BP.out)
                    obtain ⟨y0, y1, y2⟩ := ten_cells (BX.out mb G0B.out).2
                    have q0 := cell_still Q0.out GB.out
                    have q1 := cell_still Q1.out GB.out
                    clear hgc h11 h7 BA ITA GA G0A
                    go_upto_region 8 with fail
                    go_cut [9] from 91 to 104 (fun t9 wx => mb.grownBy wx none ∧ ∃ b10 b14 : Nat, t9 = .pointer (some ⟨b14, 0, none⟩) ∧ wx.heap[b14]? = some (.cells #[.int .i64 1, .slice (some ⟨b10, 0, none⟩) 2 2, .slice va vn vc] 25 (0, 0)) ∧ wx.heap[b10]? = some (.cells #[.int .i64 e0, .int .i64 e1] 3 (0, 0)))
                    case first =>
                      refine wp_region_held_drew (S := fun w' => mb.grownBy w' none) (by kernel_rfl) (grown_drew (grown_refl _)) (fun _ => ?_)
                      refine' with_nodeW (N := ∀ (v : World) (b10 : Nat) (b14 : Nat), mb.grownBy v none → v.heap[b10]? = some (.cells #[.int .i64 e0, .int .i64 e1] 3 (0, 0)) → v.heap[b14]? = some (.cells #[.int .i64 0, .slice none 0 0, .slice none 0 0] 25 (0, 0)) → mb.heap.size ≤ b14 → (_ : World → Nat → Nat → Prop) v b10 b14) (fun N10_14 => ?_) ?_
                      rotate_left 1
                      refine' with_nodeW (N := ∀ (v : World) (b10 : Nat), mb.grownBy v none → v.heap[b10]? = some (.cells #[.int .i64 e0, .int .i64 e1] 3 (0, 0)) → (_ : World → Nat → Prop) v b10) (fun N10 => ?_) ?_
                      rotate_left 1
                      refine' with_nodeW (N := ∀ (v : World) (b14 : Nat), mb.grownBy v none → v.heap[b14]? = some (.cells #[.int .i64 0, .slice none 0 0, .slice none 0 0] 25 (0, 0)) → mb.heap.size ≤ b14 → (_ : World → Nat → Prop) v b14) (fun N14 => ?_) ?_
                      rotate_left 1
                      · have g : mb.grownBy mb.drew none := grown_drew (grown_refl _)
                        generalize hv : mb.drew = v at g ⊢
                        clear hv
                        refine wpAnyH_take (i := 0) (v := ?_) rfl (by kernel_rfl) (by kernel_rfl) (by kernel_rfl) (fun _ _ _ h => h) (Or.inl ⟨by kernel_rfl, ?_⟩) (by assumption) ?_
                        rotate_left 1
                        · (intro wS hSw; go_simp; (try with_reducible rfl))
                        try simp only [Act.put]
                        refine wpAnyH_take (i := 1) (v := ?_) rfl (by kernel_rfl) (by kernel_rfl) (by kernel_rfl) (fun _ _ _ h => h) (Or.inl ⟨by kernel_rfl, ?_⟩) (by assumption) ?_
                        rotate_left 1
                        · (intro wS hSw; have c0 := cell_still y0 hSw; go_simp; (try with_reducible rfl))
                        try simp only [Act.put]
                        refine wpAnyH_take (i := 2) (v := ?_) rfl (by kernel_rfl) (by kernel_rfl) (by kernel_rfl) (fun _ _ _ h => h) (Or.inl ⟨by kernel_rfl, ?_⟩) (by assumption) ?_
                        rotate_left 1
                        · (intro wS hSw; go_simp; (try with_reducible rfl))
                        try simp only [Act.put]
                        refine wpAnyH_take (i := 3) (v := ?_) rfl (by kernel_rfl) (by kernel_rfl) (by kernel_rfl) (fun _ _ _ h => h) (Or.inl ⟨by kernel_rfl, ?_⟩) (by assumption) ?_
                        rotate_left 1
                        · (intro wS hSw; have c0 := cell_still y1 hSw; go_simp; (try with_reducible rfl))
                        try simp only [Act.put]
                        refine wpAnyH_take (i := 4) (v := ?_) rfl (by kernel_rfl) (by kernel_rfl) (by kernel_rfl) (fun _ _ _ h => h) (Or.inl ⟨by kernel_rfl, ?_⟩) (by assumption) ?_
                        rotate_left 1
                        · (intro wS hSw; go_simp; (try with_reducible rfl))
                        try simp only [Act.put]
                        refine wpAnyH_take (i := 5) (v := ?_) rfl (by kernel_rfl) (by kernel_rfl) (by kernel_rfl) (fun _ _ _ h => h) (Or.inl ⟨by kernel_rfl, ?_⟩) (by assumption) ?_
                        rotate_left 1
                        · (intro wS hSw; have c0 := cell_still q0 hSw; go_simp; (try with_reducible rfl))
                        try simp only [Act.put]
                        refine wpAnyH_take (i := 6) (v := ?_) rfl (by kernel_rfl) (by kernel_rfl) (by kernel_rfl) (fun _ _ _ h => h) (Or.inl ⟨by kernel_rfl, ?_⟩) (by assumption) ?_
                        rotate_left 1
                        · (intro wS hSw; go_simp; (try with_reducible rfl))
                        try simp only [Act.put]
                        refine wpAnyH_take (i := 7) (v := ?_) rfl (by kernel_rfl) (by kernel_rfl) (by kernel_rfl) (fun _ _ _ h => h) (Or.inl ⟨by kernel_rfl, ?_⟩) (by assumption) ?_
                        rotate_left 1
                        · (intro wS hSw; have c0 := cell_still y1 hSw; go_simp; (try with_reducible rfl))
                        try simp only [Act.put]
                        refine wpAnyH_take (i := 8) (v := ?_) rfl (by kernel_rfl) (by kernel_rfl) (by kernel_rfl) (fun _ _ _ h => h) (Or.inl ⟨by kernel_rfl, ?_⟩) (by assumption) ?_
                        rotate_left 1
                        · (intro wS hSw; go_simp; (try with_reducible rfl))
                        try simp only [Act.put]
                        refine wpAnyH_take (i := 9) (v := ?_) rfl (by kernel_rfl) (by kernel_rfl) (by kernel_rfl) (fun _ _ _ h => h) (Or.inl ⟨by kernel_rfl, ?_⟩) (by assumption) ?_
                        rotate_left 1
                        · (intro wS hSw; have c0 := cell_still q1 hSw; go_simp; (try with_reducible rfl))
                        try simp only [Act.put]
                        refine wpAnyH_take (i := 11) (v := ?_) rfl (by kernel_rfl) (by kernel_rfl) (by kernel_rfl) (fun _ _ _ h => h) (Or.inl ⟨by kernel_rfl, ?_⟩) (by assumption) ?_
                        rotate_left 1
                        · (intro wS hSw; go_simp; (try with_reducible rfl))
                        try simp only [Act.put]
                        refine wpAnyH_take (i := 12) (v := ?_) rfl (by kernel_rfl) (by kernel_rfl) (by kernel_rfl) (fun _ _ _ h => h) (Or.inl ⟨by kernel_rfl, ?_⟩) (by assumption) ?_
                        rotate_left 1
                        · (intro wS hSw; have c0 := cell_still y2 hSw; go_simp; (try with_reducible rfl))
                        try simp only [Act.put]
                        refine wpAnyH_ready (rs := [10, 14]) (by kernel_rfl) (by simp) ?_
                        refine AllReadyH.cons rfl (fun K hK => ?_) ?_
                        · go_simp
                          have h10 := heap_alloc_new v (.cells #[.int .i64 e0, .int .i64 e1] 3)
                          have gs := grown_new v (.cells #[.int .i64 e0, .int .i64 e1] 3)
                          generalize hvn : v.alloc (.cells #[.int .i64 e0, .int .i64 e1] 3) = u at h10 gs ⊢
                          clear hvn
                          generalize v.heap.size = b10 at h10 ⊢
                          have gn := grown_trans g gs
                          refine hK.out _ _ gn (fun hHeld => ?_)
                          clear hK K
                          try simp only [Act.put]
                          refine wpAnyH_take (i := 13) (v := ?_) rfl (by kernel_rfl) (by kernel_rfl) (by kernel_rfl) (fun _ _ _ h => h) (Or.inl ⟨by kernel_rfl, ?_⟩) (by assumption) ?_
                          rotate_left 1
                          · (intro wS hSw; go_simp; (try with_reducible rfl))
                          try simp only [Act.put]
                          clear g gs hHeld
                          exact N10 u b10 gn h10
                        refine AllReadyH.cons rfl (fun K hK => ?_) ?_
                        · go_simp
                          have hb14 := g.size
                          have h14 := heap_alloc_new v (.cells #[.int .i64 0, .slice none 0 0, .slice none 0 0] 25)
                          have gs := grown_new v (.cells #[.int .i64 0, .slice none 0 0, .slice none 0 0] 25)
                          generalize hvn : v.alloc (.cells #[.int .i64 0, .slice none 0 0, .slice none 0 0] 25) = u at h14 gs ⊢
                          clear hvn
                          generalize v.heap.size = b14 at h14 hb14 ⊢
                          have gn := grown_trans g gs
                          refine hK.out _ _ gn (fun hHeld => ?_)
                          clear hK K
                          try simp only [Act.put]
                          clear g gs hHeld
                          exact N14 u b14 gn h14 hb14
                        exact AllReadyH.nil
                      · intro v b14 g h14 hb14
                        refine wpAnyH_ready (rs := [10]) (by kernel_rfl) (by simp) ?_
                        refine AllReadyH.cons rfl (fun K hK => ?_) ?_
                        · go_simp
                          have h10 := heap_alloc_new v (.cells #[.int .i64 e0, .int .i64 e1] 3)
                          have gs := grown_new v (.cells #[.int .i64 e0, .int .i64 e1] 3)
                          generalize hvn : v.alloc (.cells #[.int .i64 e0, .int .i64 e1] 3) = u at h10 gs ⊢
                          clear hvn
                          generalize v.heap.size = b10 at h10 ⊢
                          have gn := grown_trans g gs
                          refine hK.out _ _ gn (fun hHeld => ?_)
                          clear hK K
                          try simp only [Act.put]
                          refine wpAnyH_take (i := 13) (v := ?_) rfl (by kernel_rfl) (by kernel_rfl) (by kernel_rfl) (fun _ _ _ h => h) (Or.inl ⟨by kernel_rfl, ?_⟩) (by assumption) ?_
                          rotate_left 1
                          · (intro wS hSw; go_simp; (try with_reducible rfl))
                          try simp only [Act.put]
                          have h14 := box_kept h14 gs
                          clear g gs hHeld
                          exact N10_14 u b10 b14 gn h10 h14 hb14
                        exact AllReadyH.nil
                      · intro v b10 g h10
                        refine wpAnyH_ready (rs := [14]) (by kernel_rfl) (by simp) ?_
                        refine AllReadyH.cons rfl (fun K hK => ?_) ?_
                        · go_simp
                          have hb14 := g.size
                          have h14 := heap_alloc_new v (.cells #[.int .i64 0, .slice none 0 0, .slice none 0 0] 25)
                          have gs := grown_new v (.cells #[.int .i64 0, .slice none 0 0, .slice none 0 0] 25)
                          generalize hvn : v.alloc (.cells #[.int .i64 0, .slice none 0 0, .slice none 0 0] 25) = u at h14 gs ⊢
                          clear hvn
                          generalize v.heap.size = b14 at h14 hb14 ⊢
                          have gn := grown_trans g gs
                          refine hK.out _ _ gn (fun hHeld => ?_)
                          clear hK K
                          try simp only [Act.put]
                          have h10 := box_kept h10 gs
                          clear g gs hHeld
                          refine cast ?_ (N10_14 u b10 b14 gn h10 h14 hb14)
                          kernel_rfl
                        exact AllReadyH.nil
                      · intro v b10 b14 g h10 h14 hb14
                        refine wpAnyH_ready (rs := [15]) (by kernel_rfl) (by simp) ?_
                        refine AllReadyH.cons rfl (fun K hK => ?_) ?_
                        · rw [if_pos (by kernel_rfl)]
                          refine wp_store_row 25 (.tmp 9) (.tmp 104) rfl b14 #[.int .i64 1, .slice (some ⟨b10, 0, none⟩) 2 2, .slice va vn vc] rfl rfl 25 _ h14 tenInfoC rfl (by simp [Value.oneCell']) ?_
                          have s14 := setRow_heap v b14 _ #[.int .i64 1, .slice (some ⟨b10, 0, none⟩) 2 2, .slice va vn vc] _ _ h14
                          have rg := row_grown v b14 #[.int .i64 1, .slice (some ⟨b10, 0, none⟩) 2 2, .slice va vn vc]
                          have y14 := grown_trans_row g rg (fun r e => by cases e; exact hb14)
                          have k0 := (rg.block b10 (Array.getElem?_eq_some_iff.1 h10).1 (fun e => by injection e with e; rw [e, h14] at h10; cases h10)).trans h10
                          refine hK.out _ _ y14 (fun hHeld => ?_)
                          clear hK K
                          try simp only [Act.put]
                          refine wpAnyH_done (by kernel_rfl) ?_ _
                          clear h10 h14 g hHeld rg
                          go_simp
                          go_wp2_with fail
                          go_meet
                          exact ⟨y14, b10, b14, rfl, s14, k0⟩
                        exact AllReadyH.nil
                    case rest =>
                      obtain ⟨hgc, b10, b14, rfl, h14, h10⟩ := hcut
                      obtain ⟨mc, hv⟩ : ∃ v, v = wc := ⟨_, rfl⟩
                      rw [← hv] at hgc h14 h10 ⊢
                      clear hv y0 y1 y2 q0 q1
                      have GC := hide (grown_trans GB.out hgc)
                      have BC := hide (box_kept BB.out hgc)
                      have ITC := hide (ITB.out.more hgc)
                      have FB2 := hide (box_kept FB.out hgc)
                      have FI2 := hide (FI.out.more hgc)
                      have KB2 := hide h14
                      have KI2 := hide (ints_two h10 Be0.out Be1.out)
                      clear hgc h14 h10 BB ITB FB FI GB G0B G0Q GQ
                      obtain ⟨wN, hwN⟩ : ∃ W, W = (mc.alloc (.cells #[.string ⟨#[120]⟩] 9)).alloc (.cells #[.string ⟨#[84, 114, 97, 110, 115, 112, 111, 115, 101]⟩, .string ⟨#[]⟩, .slice (some ⟨mc.heap.size, 0, none⟩) 1 1, .string ⟨#[121]⟩, .slice none 0 0] 35) := ⟨_, rfl⟩
                      obtain ⟨q0, hq0⟩ : ∃ W, W = wN.alloc (.cells #[.int .i64 1, .slice (some ⟨b7, 0, none⟩) 2 2, .slice ua un uc] 25) := ⟨_, rfl⟩
                      have n2 := two_boxes mc (.cells #[.string ⟨#[120]⟩] 9) (.cells #[.string ⟨#[84, 114, 97, 110, 115, 112, 111, 115, 101]⟩, .string ⟨#[]⟩, .slice (some ⟨mc.heap.size, 0, none⟩) 1 1, .string ⟨#[121]⟩, .slice none 0 0] 35)
                      rw [← hwN] at n2
                      have zN : wN.heap.size = mc.heap.size + 1 + 1 := by rw [hwN]; simp
                      obtain ⟨k0, -⟩ := new_alloc (.cells #[.int .i64 1, .slice (some ⟨b7, 0, none⟩) 2 2, .slice ua un uc] 25) zN
                      rw [← hq0] at k0
                      have gN : mc.grownBy wN none := by rw [hwN]; exact grown_trans (grown_new _ _) (grown_new _ _)
                      have g0 : wN.grownBy q0 none := by rw [hq0]; exact grown_new _ _
                      have gN0 := grown_trans gN g0
                      have GQ := hide (grown_trans GC.out gN0)
                      have E2 := hide (trans_do ⟨#[121]⟩ ⟨some ⟨mc.heap.size, 0, none⟩, 1, 1⟩ ⟨#[120]⟩ (by kernel_rfl) (by decide) ⟨some ⟨mc.heap.size + 1 + 1, 0, none⟩, 1, 1⟩ ⟨1, ⟨some ⟨b7, 0, none⟩, 2, 2⟩, ⟨ua, un, uc⟩⟩ [d1, dP] xs rfl q0 (HL.out.more GQ.out) (x_strs (box_kept n2.1 g0)) (one_ten ⟨1, ⟨some ⟨b7, 0, none⟩, 2, 2⟩, ⟨ua, un, uc⟩⟩ k0 (FI2.out.more gN0) (HXS.out.more GQ.out)))
                      unfold nval nilS at E2
                      simp only at E2
                      rw [R1.out] at E2
                      have NN : Hid (∀ wx, wN.grownBy wx none → wx.heap[mc.heap.size]? = some (.cells #[.string ⟨#[120]⟩] 9 (0, 0)) ∧ wx.heap[mc.heap.size + 1]? = some (.cells #[.string ⟨#[84, 114, 97, 110, 115, 112, 111, 115, 101]⟩, .string ⟨#[]⟩, .slice (some ⟨mc.heap.size, 0, none⟩) 1 1, .string ⟨#[121]⟩, .slice none 0 0] 35 (0, 0))) := fun wx hx => ⟨box_kept n2.1 hx, box_kept n2.2 hx⟩
                      obtain ⟨n0, n1, n2, n3, n4⟩ := nod_cells (n := ⟨⟨#[84, 114, 97, 110, 115, 112, 111, 115, 101]⟩, ⟨#[]⟩, ⟨some ⟨mc.heap.size, 0, none⟩, 1, 1⟩, ⟨#[121]⟩, ⟨none, 0, 0⟩⟩) n2.2
                      obtain ⟨f0, f1, f2⟩ := ten_cells (box_kept FB2.out gN)
                      rw [hwN] at n0 n1 n2 n3 n4 f0 f1 f2
                      simp only at n0 n1 n2 n3 n4
                      have HN0 := hide g0
                      have BC2 := hide (box_kept BC.out gN0)
                      have ITC2 := hide (ITC.out.more gN0)
                      have KB3 := hide (box_kept KB2.out gN0)
                      have KI3 := hide (KI2.out.more gN0)
                      clear k0 gN g0 gN0 zN BC ITC KB2 KI2 FB2 FI2 R1 GC
                      go_wp2_with fail
                      rw [← hwN, ← hq0]
                      clear hwN hq0 n0 n1 n2 n3 n4 f0 f1 f2
                      refine E2.out.mono ?_
                      intro e w3 hdo
                      obtain ⟨hg3, ⟨fa, fn, fc⟩, ⟨ga, gn, gc⟩, rfl, id3, it3⟩ := do_any hdo
                      simp only [rTy, rC, rL, rZ, Sl.v] at id3 it3 ⊢
                      obtain ⟨p3, hp3⟩ : ∃ W, W = w3.alloc (.cells #[.int .i64 1, .slice fa fn fc, .slice ga gn gc] 25) := ⟨_, rfl⟩
                      obtain ⟨q3, hq3⟩ : ∃ W, W = p3.alloc (.cells #[.int .i64 1, .slice (some ⟨b10, 0, none⟩) 2 2, .slice va vn vc] 25) := ⟨_, rfl⟩
                      have t2 := two_boxes w3 (.cells #[.int .i64 1, .slice fa fn fc, .slice ga gn gc] 25) (.cells #[.int .i64 1, .slice (some ⟨b10, 0, none⟩) 2 2, .slice va vn vc] 25)
                      rw [← hp3, ← hq3] at t2
                      have gp : w3.grownBy p3 none := by rw [hp3]; exact grown_new _ _
                      have gq : p3.grownBy q3 none := by rw [hq3]; exact grown_new _ _
                      have g3p := grown_trans hg3 gp
                      have g3q := grown_trans g3p gq
                      have GQ3 := hide (grown_trans GQ.out g3q)
                      have N3 := hide (grown_trans HN0.out g3q)
                      have E3 := hide (trans_do ⟨#[121]⟩ ⟨some ⟨mc.heap.size, 0, none⟩, 1, 1⟩ ⟨#[120]⟩ (by kernel_rfl) (by decide) ⟨some ⟨w3.heap.size + 1, 0, none⟩, 1, 1⟩ ⟨1, ⟨some ⟨b10, 0, none⟩, 2, 2⟩, ⟨va, vn, vc⟩⟩ [e0, e1] ys rfl q3 (HL.out.more GQ3.out) (x_strs (NN.out q3 N3.out).1) (one_ten ⟨1, ⟨some ⟨b10, 0, none⟩, 2, 2⟩, ⟨va, vn, vc⟩⟩ t2.2 (KI3.out.more g3q) (HYS.out.more GQ3.out)))
                      unfold nval nilS at E3
                      simp only at E3
                      rw [R2.out] at E3
                      obtain ⟨n0, n1, n2, n3, n4⟩ := nod_cells (n := ⟨⟨#[84, 114, 97, 110, 115, 112, 111, 115, 101]⟩, ⟨#[]⟩, ⟨some ⟨mc.heap.size, 0, none⟩, 1, 1⟩, ⟨#[121]⟩, ⟨none, 0, 0⟩⟩) (NN.out p3 (grown_trans HN0.out g3p)).2
                      obtain ⟨f0, f1, f2⟩ := ten_cells (box_kept KB3.out g3p)
                      rw [hp3] at n0 n1 n2 n3 n4 f0 f1 f2
                      simp only at n0 n1 n2 n3 n4
                      have XB := hide t2.1
                      have XI := hide (id3.more (grown_trans gp gq))
                      have XJ := hide (it3.more (grown_trans gp gq))
                      have BC3 := hide (box_kept BC2.out g3q)
                      have ITC3 := hide (ITC2.out.more g3q)
                      clear t2 gp gq g3p g3q hg3 id3 it3 hdo E2 BC2 ITC2 KB3 KI3 R2 GQ HN0
                      go_wp2_with fail
                      rw [← hp3, ← hq3]
                      clear hp3 hq3 n0 n1 n2 n3 n4 f0 f1 f2
                      refine E3.out.mono ?_
                      intro e w4 hdo
                      obtain ⟨hg4, ⟨ha, hn, hc⟩, ⟨ia, im, ic⟩, rfl, id4, it4⟩ := do_any hdo
                      simp only [rTy, rC, rL, rZ, Sl.v] at id4 it4 ⊢
                      obtain ⟨p4, hp4⟩ : ∃ W, W = w4.alloc (.cells #[.int .i64 1, .slice ha hn hc, .slice ia im ic] 25) := ⟨_, rfl⟩
                      obtain ⟨s4, hs4⟩ : ∃ W, W = p4.alloc (.cells #[.string ⟨#[120]⟩, .string ⟨#[119]⟩] 9) := ⟨_, rfl⟩
                      obtain ⟨q4, hq4⟩ : ∃ W, W = s4.alloc (.cells #[.int .i64 1, .slice fa fn fc, .slice ga gn gc, .int .i64 1, .slice ha hn hc, .slice ia im ic] 25) := ⟨_, rfl⟩
                      obtain ⟨t1, zp⟩ := new_alloc (.cells #[.int .i64 1, .slice ha hn hc, .slice ia im ic] 25) (x := w4) rfl
                      rw [← hp4] at t1 zp
                      obtain ⟨t2, zs4⟩ := new_alloc (.cells #[.string ⟨#[120]⟩, .string ⟨#[119]⟩] 9) zp
                      rw [← hs4] at t2 zs4
                      obtain ⟨t3, -⟩ := new_alloc (.cells #[.int .i64 1, .slice fa fn fc, .slice ga gn gc, .int .i64 1, .slice ha hn hc, .slice ia im ic] 25) zs4
                      rw [← hq4] at t3
                      have gp : w4.grownBy p4 none := by rw [hp4]; exact grown_new _ _
                      have gs : p4.grownBy s4 none := by rw [hs4]; exact grown_new _ _
                      have gq : s4.grownBy q4 none := by rw [hq4]; exact grown_new _ _
                      have g4q := grown_trans hg4 (grown_trans gp (grown_trans gs gq))
                      have g4r := grown_trans gp (grown_trans gs gq)
                      have GQ4 := hide (grown_trans GQ3.out g4q)
                      have N4 := hide (grown_trans N3.out g4q)
                      have E4 := hide (matmul_do ⟨#[122]⟩ ⟨some ⟨w4.heap.size + 1, 0, none⟩, 2, 2⟩ ⟨#[120]⟩ ⟨#[119]⟩ (by kernel_rfl) (by decide) ⟨some ⟨w4.heap.size + 1 + 1, 0, none⟩, 2, 2⟩ ⟨1, ⟨fa, fn, fc⟩, ⟨ga, gn, gc⟩⟩ ⟨1, ⟨ha, hn, hc⟩, ⟨ia, im, ic⟩⟩ [dP, d1] [e1, e0] U V q4 ⟨[], _, _, _, _, by simp, rfl, rfl⟩ (HL.out.more GQ4.out) (xw_strs (box_kept t2 gq)) (two_tens ⟨1, ⟨fa, fn, fc⟩, ⟨ga, gn, gc⟩⟩ ⟨1, ⟨ha, hn, hc⟩, ⟨ia, im, ic⟩⟩ t3 (XI.out.more g4q) (XJ.out.more g4q) (id4.more g4r) (it4.more g4r)))
                      unfold nval nilS at E4
                      simp only at E4
                      rw [R3.out] at E4
                      obtain ⟨f0, f1, f2⟩ := ten_cells (box_kept XB.out (grown_trans hg4 (grown_trans gp gs)))
                      obtain ⟨k0, k1, k2⟩ := ten_cells (box_kept t1 gs)
                      rw [hs4, hp4] at f0 f1 f2 k0 k1 k2
                      have BC4 := hide (box_kept BC3.out g4q)
                      have ITC4 := hide (ITC3.out.more g4q)
                      clear t1 t2 t3 zp zs4 gp gs gq g4q g4r hg4 id4 it4 hdo E3 BC3 ITC3 XB XI XJ R3 GQ3 N3
                      go_wp2_with fail
                      rw [← hp4, ← hs4, ← hq4]
                      clear hp4 hs4 hq4 f0 f1 f2 k0 k1 k2
                      refine E4.out.mono ?_
                      intro e w5 hdo
                      obtain ⟨hg5, ⟨ja, jn, jc⟩, ⟨la, ln, lc⟩, rfl, id5, it5⟩ := do_any hdo
                      simp only [rTy, rC, rL, rZ, Sl.v] at id5 it5 ⊢
                      obtain ⟨p5, hp5⟩ : ∃ W, W = w5.alloc (.cells #[.int .i64 1, .slice ja jn jc, .slice la ln lc] 25) := ⟨_, rfl⟩
                      obtain ⟨q5, hq5⟩ : ∃ W, W = p5.alloc (.cells #[.int .i64 1, .slice ja jn jc, .slice la ln lc] 25) := ⟨_, rfl⟩
                      have t2 := two_boxes w5 (.cells #[.int .i64 1, .slice ja jn jc, .slice la ln lc] 25) (.cells #[.int .i64 1, .slice ja jn jc, .slice la ln lc] 25)
                      rw [← hp5, ← hq5] at t2
                      have gp : w5.grownBy p5 none := by rw [hp5]; exact grown_new _ _
                      have gq : p5.grownBy q5 none := by rw [hq5]; exact grown_new _ _
                      have bp5 := heap_alloc_new w5 (.cells #[.int .i64 1, .slice ja jn jc, .slice la ln lc] 25)
                      rw [← hp5] at bp5
                      have g5p := grown_trans hg5 gp
                      have g5q := grown_trans g5p gq
                      have GQ5 := hide (grown_trans GQ4.out g5q)
                      have N5 := hide (grown_trans N4.out g5q)
                      have E5 := hide (trans_do ⟨#[121]⟩ ⟨some ⟨mc.heap.size, 0, none⟩, 1, 1⟩ ⟨#[120]⟩ (by kernel_rfl) (by decide) ⟨some ⟨w5.heap.size + 1, 0, none⟩, 1, 1⟩ ⟨1, ⟨ja, jn, jc⟩, ⟨la, ln, lc⟩⟩ [dP, e0] Bm rfl q5 (HL.out.more GQ5.out) (x_strs (NN.out q5 N5.out).1) (one_ten ⟨1, ⟨ja, jn, jc⟩, ⟨la, ln, lc⟩⟩ t2.2 (id5.more (grown_trans gp gq)) (it5.more (grown_trans gp gq))))
                      unfold nval nilS at E5
                      simp only at E5
                      rw [R4.out] at E5
                      obtain ⟨n0, n1, n2, n3, n4⟩ := nod_cells (n := ⟨⟨#[84, 114, 97, 110, 115, 112, 111, 115, 101]⟩, ⟨#[]⟩, ⟨some ⟨mc.heap.size, 0, none⟩, 1, 1⟩, ⟨#[121]⟩, ⟨none, 0, 0⟩⟩) (NN.out p5 (grown_trans N4.out g5p)).2
                      obtain ⟨f0, f1, f2⟩ := ten_cells bp5
                      rw [hp5] at n0 n1 n2 n3 n4 f0 f1 f2
                      simp only at n0 n1 n2 n3 n4
                      have BC5 := hide (box_kept BC4.out g5q)
                      have ITC5 := hide (ITC4.out.more g5q)
                      clear t2 gp gq bp5 g5p g5q hg5 id5 it5 hdo E4 BC4 ITC4 R4 GQ4 N4 N5
                      go_wp2_with fail
                      rw [← hp5, ← hq5]
                      clear hp5 hq5 n0 n1 n2 n3 n4 f0 f1 f2
                      refine E5.out.mono ?_
                      intro e w6 hdo
                      obtain ⟨hg6, ⟨oa, on, oc⟩, ⟨pa, pn, pc⟩, rfl, -, it6⟩ := do_any hdo
                      simp only [rTy, rC, rZ, Sl.v] at it6 ⊢
                      obtain ⟨_, _, ez, -⟩ := it6.sl
                      simp only [Value.slice.injEq] at ez
                      obtain ⟨-, rfl, -⟩ := ez
                      obtain ⟨p6, hp6⟩ : ∃ W, W = w6.alloc (.cells #[.int .i64 1, .slice oa on oc, .slice pa zs.length pc] 25) := ⟨_, rfl⟩
                      have bp6 := heap_alloc_new w6 (.cells #[.int .i64 1, .slice oa on oc, .slice pa zs.length pc] 25)
                      rw [← hp6] at bp6
                      have gp : w6.grownBy p6 none := by rw [hp6]; exact grown_new _ _
                      have G6 := hide (grown_trans GQ5.out (grown_trans hg6 gp))
                      have BA6 := hide (box_kept BC5.out (grown_trans hg6 gp))
                      have IA6 := hide (ITC5.out.more (grown_trans hg6 gp))
                      have IC6 := hide (it6.more gp)
                      have BB6 := hide bp6
                      obtain ⟨a0, a1, a2⟩ := ten_cells BA6.out
                      obtain ⟨k0, k1, k2⟩ := ten_cells BB6.out
                      rw [hp6] at a0 a1 a2 k0 k1 k2
                      have hZl : zs.length ≤ 140737488351232 := by have := IC6.out.le; omega
                      clear bp6 gp hg6 it6 hdo E5 BC5 ITC5 GQ5
                      have WB := hide (Nat.le_refl w6.heap.size)
                      go_wp2_with fail
                      rw [← hp6]
                      clear hp6 a0 a1 a2 k0 k1 k2
                      go_loopw [19] (fun i wr => p6.grownBy wr none ∧ ∃ k : Nat, k ≤ zs.length ∧ i = .int .i64 k) (fun i _ => zs.length - (intOf i).toNat)
                      case atStart => exact ⟨grown_refl _, 0, Nat.zero_le _, rfl⟩
                      case round =>
                        obtain ⟨hg, k, hk, rfl⟩ := hrel
                        have HG := hide hg
                        obtain ⟨-, -, a2⟩ := ten_cells (box_kept BA6.out hg)
                        obtain ⟨-, -, k2⟩ := ten_cells (box_kept BB6.out hg)
                        by_cases hlt : k < zs.length
                        · obtain ⟨pa', po, rfl, hca⟩ := IA6.out.get hlt
                          obtain ⟨pb', pq, rfl, hcb⟩ := IC6.out.get hlt
                          have q0 := cell_still (hca k hlt) hg
                          have q1 := cell_still (hcb k hlt) hg
                          obtain ⟨yy, hy⟩ : ∃ y, y = zs.getD k 0 := ⟨_, rfl⟩
                          rw [← hy] at q0 q1
                          have l1 : (k : Int) < (zs.length : Int) := by omega
                          clear hg hca hcb hy
                          go_wp2_with fail
                          go_region
                          go_wp2_with fail
                          go_roundw
                          case rel => exact ⟨grown_drew HG.out, k + 1, by omega, by go_num⟩
                          case measure => simp [intOf]; omega
                        · have hke : k = zs.length := by omega
                          subst hke
                          have LX := hide (LV.out wr (grown_trans G6.out hg))
                          clear hg
                          go_wp2_with fail
                          refine LX.out.mono ?_
                          rintro e w8 ⟨rfl, hg8⟩
                          go_wp2
                          go_ret
                          exact ⟨rfl, grown_below (grown_trans G6.out (grown_trans HG.out hg8))⟩
            · have b0 : (e3 != 1) = true := by simpa using c3
              clear c3
              go_wp2_with fail
              refine L1.out.mono ?_
              rintro e w2 ⟨rfl, hg2⟩
              go_wp2
              go_ret
              exact ⟨rfl, grown_below (grown_trans G1.out hg2)⟩
          · have b0 : (e2 != 1) = true := by simpa using c2
            clear c2
            go_wp2_with fail
            refine L1.out.mono ?_
            rintro e w2 ⟨rfl, hg2⟩
            go_wp2
            go_ret
            exact ⟨rfl, grown_below (grown_trans G1.out hg2)⟩
        · have b0 : (d0 != 1) = true := by simpa using c0
          clear c0
          go_wp2_with fail
          refine L1.out.mono ?_
          rintro e w2 ⟨rfl, hg2⟩
          go_wp2
          go_ret
          exact ⟨rfl, grown_below (grown_trans G1.out hg2)⟩
      · have b4 : ((y.length : Int) != 4) = true := by simp; omega
        rw [h4] at x1 BX ⊢
        clear h4 k4
        go_wp2_with fail
        refine L1.out.mono ?_
        rintro e w2 ⟨rfl, hg2⟩
        go_wp2
        go_ret
        exact ⟨rfl, grown_below (grown_trans G1.out hg2)⟩
    · have b4 : ((x.length : Int) != 4) = true := by simp; omega
      clear h4
      go_wp2_with fail
      refine L1.out.mono ?_
      rintro e w2 ⟨rfl, hg2⟩
      go_wp2
      go_ret
      exact ⟨rfl, grown_below (grown_trans G1.out hg2)⟩

end Go.Proofs.YtkefdkboejimeaaGreatDoor
