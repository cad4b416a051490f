/- Law LinearRows, by the walk. -/
import Derived.Test.YtfladhogkhhlcaaGreatDoorPartX
import Derived.Test.YtfladhogkhhlcaaGreatDoorLnRowsPJ
import Derived.Deep.RegionHeld3
namespace Go.Proofs.YtfladhogkhhlcaaGreatDoor
open Go.RowKit

theorem twod (v : World) (o o' : Obj) : ((v.alloc o).alloc o').drew.drew.heap[v.heap.size]? = some o ∧ ((v.alloc o).alloc o').drew.drew.heap[v.heap.size + 1]? = some o' := two_boxes v o o'

theorem threed (v : World) (o o' o2 : Obj) : (((v.alloc o).alloc o').alloc o2).drew.drew.heap[v.heap.size]? = some o ∧ (((v.alloc o).alloc o').alloc o2).drew.drew.heap[v.heap.size + 1]? = some o' ∧ (((v.alloc o).alloc o').alloc o2).drew.drew.heap[v.heap.size + 1 + 1]? = some o2 := three_boxes v o o' o2

theorem nz_mmr (t0 t1 : Int) (x y xs ys : List Int) : ∀ c, mmR t0 t1 x y xs ys = .error c → c ≠ 0 := by
  intro c h
  unfold mmR doR at h
  split at h
  · cases h
  · rename_i c' hn
    cases h
    exact nz_node (nz_outM _ _ _ _ _ (nz_product _ _)) _ hn

set_option maxRecDepth 100000 in
set_option maxHeartbeats 16000000 in
theorem linearRows_walk (X : Ten) {x xs : List Int} (Y : Ten) {y ys : List Int} (row : Int) (w : World) (hl : Laid w) (hx : IsInts w X.dv.v x) (hxs : IsInts w X.tv.v xs) (hy : IsInts w Y.dv.v y) (hys : IsInts w Y.tv.v ys) (hrow : -9223372036854775808 ≤ row ∧ row ≤ 9223372036854775807) : Calls Tryz.prog 4 #[tval X, tval Y, .int .i64 row] w fun e w' => e = .returned (.bool true) ∧ Below w.heap.size w w' := by
  have HL := hide hl
  have HX := hide hx
  have HXS := hide hxs
  have HY := hide hy
  have HYS := hide hys
  obtain ⟨_, _, ex, -⟩ := hx.sl
  obtain ⟨_, _, ey, -⟩ := hy.sl
  clear hl hx hxs hy hys
  obtain ⟨tx, ⟨xa, xn, xc⟩, ⟨ua, un, uc⟩⟩ := X
  obtain ⟨ty, ⟨ya, yn, yc⟩, ⟨va, vn, vc⟩⟩ := Y
  simp only [Sl.v, Value.slice.injEq] at ex ey
  obtain ⟨-, rfl, -⟩ := ex
  obtain ⟨-, rfl, -⟩ := ey
  unfold tval
  simp only [Sl.v] at HX HXS HY HYS ⊢
  obtain ⟨w0, hw0⟩ : ∃ w0, w0 = (w.alloc (.cells #[.int .i64 tx, .slice xa x.length xc, .slice ua un uc] 25)).alloc (.cells #[.int .i64 ty, .slice ya y.length yc, .slice va vn vc] 25) := ⟨_, rfl⟩
  have hbx := two_boxes w (.cells #[.int .i64 tx, .slice xa x.length xc, .slice ua un uc] 25) (.cells #[.int .i64 ty, .slice ya y.length yc, .slice va vn vc] 25)
  rw [← hw0] at hbx
  have g0 : w.grownBy w0 none := by rw [hw0]; exact grown_trans (grown_new _ _) (grown_new _ _)
  have Z0 : w0.heap.size = w.heap.size + 1 + 1 := by rw [hw0]; simp
  have ZZ := hide Z0
  have BX : Hid (∀ wx, w0.grownBy wx none → wx.heap[w.heap.size]? = some (.cells #[.int .i64 tx, .slice xa x.length xc, .slice ua un uc] 25 (0, 0)) ∧ wx.heap[w.heap.size + 1]? = some (.cells #[.int .i64 ty, .slice ya y.length yc, .slice va vn vc] 25 (0, 0))) := fun wx hx => ⟨box_kept hbx.1 hx, box_kept hbx.2 hx⟩
  have LV : Hid (∀ wx, w.grownBy wx none → Calls Tryz.prog 9 #[] wx fun e w' => e = .returned (.bool true) ∧ wx.grownBy w' none) := fun wx hx => live12_any wx (HL.out.more hx)
  obtain ⟨wS, hwS⟩ : ∃ wS, wS = w0.alloc (.cells #[.int .i64 tx, .slice xa x.length xc, .slice ua un uc, .int .i64 ty, .slice ya y.length yc, .slice va vn vc] 25) := ⟨_, rfl⟩
  obtain ⟨bS, -⟩ := new_alloc (.cells #[.int .i64 tx, .slice xa x.length xc, .slice ua un uc, .int .i64 ty, .slice ya y.length yc, .slice va vn vc] 25) Z0
  rw [← hwS] at bS
  have gS : w0.grownBy wS none := by rw [hwS]; exact grown_new _ _
  have GS := hide (grown_trans g0 gS)
  have GS0 := hide gS
  have SM := hide (small12_any ⟨some ⟨w.heap.size + 1 + 1, 0, none⟩, 2, 2⟩ _ wS (two_tens ⟨tx, ⟨xa, x.length, xc⟩, ⟨ua, un, uc⟩⟩ ⟨ty, ⟨ya, y.length, yc⟩, ⟨va, vn, vc⟩⟩ bS (HX.out.more GS.out) (HXS.out.more GS.out) (HY.out.more GS.out) (HYS.out.more GS.out)))
  simp only at SM
  obtain ⟨x0, x1, x2⟩ := ten_cells hbx.1
  obtain ⟨y0, y1, y2⟩ := ten_cells hbx.2
  rw [hw0] at x0 x1 x2 y0 y1 y2
  have G0 := hide g0
  clear hbx bS Z0 g0 gS
  go_enter Tryz.func4, Tryz.ntmps4
  go_wp2_with fail
  rw [← hw0, ← hwS]
  clear hw0 hwS x0 x1 x2 y0 y1 y2
  refine SM.out.mono ?_
  rintro e w1 ⟨bb, rfl, hg1⟩
  have G1 := hide (grown_trans GS.out hg1)
  have G01 := hide (grown_trans GS0.out hg1)
  have L1 := hide (LV.out w1 G1.out)
  obtain ⟨x0, x1, x2⟩ := ten_cells (BX.out w1 G01.out).1
  obtain ⟨y0, y1, y2⟩ := ten_cells (BX.out w1 G01.out).2
  clear hg1 SM
  by_cases hgo : bb = true ∧ x.length = 2 ∧ y.length = 2
  · obtain ⟨rfl, h1, h2⟩ := hgo
    have X2 := hide h1
    have Y2 := hide h2
    have b1 : ((x.length : Int) != 2) = false := by simp [h1]
    have b2 : ((y.length : Int) != 2) = false := by simp [h2]
    obtain ⟨wN, hwN⟩ : ∃ wN, wN = (w1.alloc (.cells #[.string ⟨#[120]⟩, .string ⟨#[121]⟩] 9)).alloc (.cells #[.string ⟨#[77, 97, 116, 77, 117, 108]⟩, .string ⟨#[]⟩, .slice (some ⟨w1.heap.size, 0, none⟩) 2 2, .string ⟨#[122]⟩, .slice none 0 0] 36) := ⟨_, rfl⟩
    obtain ⟨wT, hwT⟩ : ∃ wT, wT = wN.alloc (.cells #[.int .i64 tx, .slice xa x.length xc, .slice ua un uc, .int .i64 ty, .slice ya y.length yc, .slice va vn vc] 25) := ⟨_, rfl⟩
    have hbT := three_boxes w1 (.cells #[.string ⟨#[120]⟩, .string ⟨#[121]⟩] 9) (.cells #[.string ⟨#[77, 97, 116, 77, 117, 108]⟩, .string ⟨#[]⟩, .slice (some ⟨w1.heap.size, 0, none⟩) 2 2, .string ⟨#[122]⟩, .slice none 0 0] 36) (.cells #[.int .i64 tx, .slice xa x.length xc, .slice ua un uc, .int .i64 ty, .slice ya y.length yc, .slice va vn vc] 25)
    rw [← hwN, ← hwT] at hbT
    have hbN := two_boxes w1 (.cells #[.string ⟨#[120]⟩, .string ⟨#[121]⟩] 9) (.cells #[.string ⟨#[77, 97, 116, 77, 117, 108]⟩, .string ⟨#[]⟩, .slice (some ⟨w1.heap.size, 0, none⟩) 2 2, .string ⟨#[122]⟩, .slice none 0 0] 36)
    rw [← hwN] at hbN
    have gN : w1.grownBy wN none := by rw [hwN]; exact grown_trans (grown_new _ _) (grown_new _ _)
    have gT : w1.grownBy wT none := by rw [hwT]; exact grown_trans gN (grown_new _ _)
    have GT := hide (grown_trans G1.out gT)
    have ht : Twin x y := by
      match x, y, h1, h2 with
      | [p0, q0], [p1, q1], _, _ => exact ⟨[], p0, q0, p1, q1, by simp, rfl, rfl⟩
    have E1 := hide (matmul_do ⟨#[122]⟩ ⟨some ⟨w1.heap.size, 0, none⟩, 2, 2⟩ ⟨#[120]⟩ ⟨#[121]⟩ (by kernel_rfl) (by decide) ⟨some ⟨w1.heap.size + 1 + 1, 0, none⟩, 2, 2⟩ ⟨tx, ⟨xa, x.length, xc⟩, ⟨ua, un, uc⟩⟩ ⟨ty, ⟨ya, y.length, yc⟩, ⟨va, vn, vc⟩⟩ x y xs ys wT ht (HL.out.more GT.out) (xy_strs hbT.1) (two_tens _ _ hbT.2.2 (HX.out.more GT.out) (HXS.out.more GT.out) (HY.out.more GT.out) (HYS.out.more GT.out)))
    unfold nval nilS at E1
    simp only at E1
    obtain ⟨r, hr⟩ : ∃ r, r = mmR tx ty x y xs ys := ⟨_, rfl⟩
    have HR := hide hr
    rw [← hr] at E1
    have G0T := hide (grown_trans G01.out gT)
    have BN : Hid (∀ wx, wT.grownBy wx none → wx.heap[w1.heap.size]? = some (.cells #[.string ⟨#[120]⟩, .string ⟨#[121]⟩] 9 (0, 0)) ∧ wx.heap[w1.heap.size + 1]? = some (.cells #[.string ⟨#[77, 97, 116, 77, 117, 108]⟩, .string ⟨#[]⟩, .slice (some ⟨w1.heap.size, 0, none⟩) 2 2, .string ⟨#[122]⟩, .slice none 0 0] 36 (0, 0))) := fun wx hx => ⟨box_kept hbT.1 hx, box_kept hbT.2.1 hx⟩
    obtain ⟨a0, a1, a2⟩ := ten_cells (BX.out _ (grown_trans G01.out gN)).1
    obtain ⟨c0, c1, c2⟩ := ten_cells (BX.out _ (grown_trans G01.out gN)).2
    obtain ⟨n0, n1, n2, n3, n4⟩ := nod_cells (n := ⟨⟨#[77, 97, 116, 77, 117, 108]⟩, ⟨#[]⟩, ⟨some ⟨w1.heap.size, 0, none⟩, 2, 2⟩, ⟨#[122]⟩, ⟨none, 0, 0⟩⟩) hbN.2
    rw [hwN] at a0 a1 a2 c0 c1 c2 n0 n1 n2 n3 n4
    clear hr hbT hbN gT gN h1 h2 ht
    go_wp2_with fail
    rw [← hwN, ← hwT]
    clear hwN hwT x0 x1 x2 y0 y1 y2 a0 a1 a2 c0 c1 c2 n0 n1 n2 n3 n4
    refine E1.out.mono ?_
    intro e w2 hq
    obtain ⟨hg2, ⟨aa, an, ac⟩, ⟨ad, am, ak⟩, rfl, ia, ja⟩ := do_any hq
    simp only
    obtain ⟨p2, hp2⟩ : ∃ W, W = w2.alloc (.cells #[.int .i64 (rTy r), .slice aa an ac, .slice ad am ak] 25) := ⟨_, rfl⟩
    have bp2 := heap_alloc_new w2 (.cells #[.int .i64 (rTy r), .slice aa an ac, .slice ad am ak] 25)
    rw [← hp2] at bp2
    have gp2 : w2.grownBy p2 none := by rw [hp2]; exact grown_new _ _
    have G2 := hide (grown_trans GT.out (grown_trans hg2 gp2))
    have G02 := hide (grown_trans G0T.out (grown_trans hg2 gp2))
    have GN2 := hide (grown_trans hg2 gp2)
    have IA := hide (ia.more gp2)
    have JA := hide (ja.more gp2)
    have BA := hide bp2
    have L2 := hide (LV.out p2 G2.out)
    have BXp := hide (BX.out p2 G02.out)
    clear hq hg2 E1 ia ja gp2 bp2
    cases r with
    | error c =>
      have hc0 : (rC (Except.error c : R (Int × List Int × List Int)) != 0) = true := by
        have hn : c ≠ 0 := nz_mmr _ _ _ _ _ _ c HR.out.symm
        simpa [rC] using hn
      rw [hp2] at L2
      go_wp2_with fail
      refine L2.out.mono ?_
      rintro e u4 ⟨rfl, hg4⟩
      have GF := hide G2.out
      rw [hp2] at GF
      go_wp2
      go_ret
      exact ⟨rfl, grown_below (grown_trans GF.out hg4)⟩
    | ok rr =>
      obtain ⟨t, l, zs⟩ := rr
      obtain ⟨a, k, b, hs, hxe, hye, rfl, etx, ety, rfl, hzs, hxl, px, py⟩ := mm_inv X2.out Y2.out HR.out.symm
      have F1 := fine_of hs.cx
      have F2 := fine_of hs.cy
      have f1 : (1 : Int) ≤ a := F1.pos _ (by rw [hxe]; simp)
      have f2 : (1 : Int) ≤ k := F1.pos _ (by rw [hxe]; simp)
      have f3 : (1 : Int) ≤ b := F2.pos _ (by rw [hye]; simp)
      have sx : a * k ≤ 65536 := by have := F1.le; rw [hxe, show prod [(a : Int), (k : Int)] = ((a * k : Nat) : Int) from by simp [prod]] at this; omega
      have sz : a * b ≤ 65536 := by have := (fine_of hs.cz).le; rw [show prod ([] ++ [(a : Int), (b : Int)]) = ((a * b : Nat) : Int) from by simp [prod]] at this; omega
      have hzl : zs.length = a * b := by rw [hzs, mat_length, Nat.one_mul]
      have ha5 : a ≤ 65536 := Nat.le_trans (Nat.le_mul_of_pos_right _ (by omega)) sx
      obtain ⟨Rw, hR0, hR1, hR2⟩ : ∃ Rw : Int, 0 ≤ Rw ∧ Rw ≤ 9223372036854775807 ∧ ((row < 0 ∧ wrap64 (row + 1) = row + 1 ∧ wrap64 (-(row + 1)) = Rw) ∨ (¬ row < 0 ∧ row = Rw)) := by
        by_cases h : row < 0
        · exact ⟨-(row + 1), by omega, by omega, .inl ⟨h, by unfold wrap64; omega, by unfold wrap64; omega⟩⟩
        · exact ⟨row, by omega, by omega, .inr ⟨h, rfl⟩⟩
      obtain ⟨q, hq⟩ : ∃ q : Nat, (q : Int) = Rw % (a : Int) := ⟨(Rw % (a : Int)).toNat, by have := Int.emod_nonneg Rw (show (a : Int) ≠ 0 by omega); omega⟩
      have hqa : q < a := by have := Int.emod_lt_of_pos Rw (show (0 : Int) < a by omega); omega
      have rm1 : Rw % (a : Int) = (q : Int) := hq.symm
      have rm2 : Rw.tmod (a : Int) = (q : Int) := by rw [Int.tmod_eq_emod_of_nonneg hR0]; exact hq.symm
      obtain ⟨xb, xo, rfl, hcx⟩ := HX.out.get (k := 0) (by have := X2.out; omega)
      obtain ⟨yb, yo, rfl, hcy⟩ := HY.out.get (k := 0) (by have := Y2.out; omega)
      have d0 := cell_still (hcx 0 (by have := X2.out; omega)) G2.out
      have d1 := cell_still (hcx 1 (by have := X2.out; omega)) G2.out
      have d2 := cell_still (hcy 1 (by have := Y2.out; omega)) G2.out
      rw [hxe] at d0 d1
      rw [hye] at d2
      simp only [List.getD_cons_zero, List.getD_cons_succ, Nat.add_zero] at d0 d1 d2
      obtain ⟨x0, x1, x2⟩ := ten_cells BXp.out.1
      obtain ⟨y0, y1, y2⟩ := ten_cells BXp.out.2
      obtain ⟨m0, m1, m2⟩ := ten_cells BA.out
      have j0 : (0 : Int) < (x.length : Int) := by have := X2.out; omega
      have j1 : (1 : Int) < (x.length : Int) := by have := X2.out; omega
      have j0n : 0 < x.length := by omega
      have j1n : 1 < x.length := by omega
      have k1 : (1 : Int) < (y.length : Int) := by have := Y2.out; omega
      have k1n : 1 < y.length := by omega
      have a1' : ¬ (a : Int) < 1 := by omega
      have a0' : ¬ (a : Int) = 0 := by omega
      have a0b : ((a : Int) == 0) = false := by simpa using a0'
      have hc0 : (rC (Except.ok (1, [(a : Int), (b : Int)], zs) : R (Int × List Int × List Int)) != 0) = false := rfl
      obtain ⟨AB, hAB⟩ : ∃ AB, AB = a * b := ⟨_, rfl⟩
      obtain ⟨AK, hAK⟩ : ∃ AK, AK = a * k := ⟨_, rfl⟩
      obtain ⟨_, _, eam, -⟩ := JA.out.sl
      simp only [Sl.v, rZ, Value.slice.injEq] at eam
      obtain ⟨-, eam, -⟩ := eam
      obtain ⟨_, _, eun, -⟩ := HXS.out.sl
      simp only [Value.slice.injEq] at eun
      obtain ⟨-, eun, -⟩ := eun
      rw [hzl, ← hAB] at eam
      rw [hxl, ← hAK] at eun
      replace eam := eam.symm
      replace eun := eun.symm
      subst eam eun
      have AB5 : AB ≤ 1000000 := by omega
      have AK5 : AK ≤ 1000000 := by omega
      have kwb : IntKind.i64.wrap ((a : Int) * (b : Int)) = (AB : Int) := by
        rw [wrap_i64_eq, ← Int.natCast_mul, ← hAB]
        exact wrap64_id (Int.natCast_nonneg _) (Int.ofNat_le.2 AB5)
      have kwk : IntKind.i64.wrap ((a : Int) * (k : Int)) = (AK : Int) := by
        rw [wrap_i64_eq, ← Int.natCast_mul, ← hAK]
        exact wrap64_id (Int.natCast_nonneg _) (Int.ofNat_le.2 AK5)
      have KWB := hide kwb
      have KWK := hide kwk
      have HAB := hide hAB
      have HAK := hide hAK
      clear kwb kwk hAB hAK
      have HXE := hide hxe
      have HYE := hide hye
      have HZS := hide hzs
      have HXL := hide hxl
      have HZL := hide hzl
      have HS := hide hs
      have PX := hide px
      have PY := hide py
      have HQ := hide hq
      have HRR := hide hR2
      subst etx ety
      simp only [rTy] at hp2 m0 ⊢
      rw [hp2] at d0 d1 d2 x0 x1 x2 y0 y1 y2 m0 m1 m2
      clear hxe hye hzs hxl hzl hs px py hq hR2 hcx hcy F1 F2 hrow
      go_upto_if 53 with fail
      rw [← hp2]
      rw [← hp2] at d0 d1 d2 x0 x1 x2 y0 y1 y2 m0 m1 m2
      have HP2 := hide hp2
      clear hp2
      go_cut [2] from 14 (fun v wx => v = .int .i64 Rw ∧ wx = p2)
      case first =>
        rcases HRR.out with ⟨h1, h2, h3⟩ | ⟨h1, h2⟩
        · go_wp2_with fail
          go_meet
          exact ⟨rfl, rfl⟩
        · subst h2
          go_wp2_with fail
          go_meet
          exact ⟨rfl, rfl⟩
      case rest =>
        obtain ⟨rfl, hwc⟩ := hcut
        have hwc2 := hwc.symm
        subst hwc2
        go_wp2_with fail
        go_cut [92] from 14 (fun v wx => v = .bool false ∧ wx = p2.drew)
        case first =>
          have kwb := KWB.out
          have kwk := KWK.out
          go_region
          go_wp2_with fail
          go_meet
          exact ⟨rfl, rfl⟩
        case rest =>
        obtain ⟨rfl, rfl⟩ := hcut
        obtain ⟨ub, uo, rfl, hcu⟩ := HXS.out.get (k := 0) (by rw [HXL.out]; exact Nat.mul_pos (by omega) (by omega))
        obtain ⟨QK, hQK⟩ : ∃ QK, QK = q * k := ⟨_, rfl⟩
        have hqk : QK + k ≤ AK := by
          rw [HAK.out, hQK, show q * k + k = (q + 1) * k from by rw [Nat.add_mul]; omega]
          exact Nat.mul_le_mul_right _ hqa
        obtain ⟨_, _, eu, hu1, hu2, -⟩ := HXS.out.sl
        simp only [Value.slice.injEq] at eu
        obtain ⟨-, -, euc⟩ := eu
        rw [← euc, HXL.out, ← HAK.out] at hu1
        obtain ⟨C, hC⟩ : ∃ C, uc = QK + C := ⟨uc - QK, by omega⟩
        have hC1 : k ≤ C := by omega
        have hC0 : ¬ C = 0 := by omega
        have IP := hide (ints_part (show IsInts w (.slice (some ⟨ub, uo, none⟩) AK uc) xs from HXS.out) QK k C (by rw [HXL.out, ← HAK.out]; omega) (by omega) hC1)
        have ZE : Hid (zs = matL xs (ytL [(k : Int), (b : Int)] ys) 1 a k b) := by show _ = _; rw [HZS.out, HYE.out]
        have RA := hide (rows_answer (a := a) (k := k) (b := b) (row := q) (xs := xs) (ys := ys) (by have h := HS.out; rw [HXE.out, HYE.out] at h; exact h) (by rw [← HXE.out]; exact PX.out) (by rw [← HYE.out]; exact PY.out) HXL.out hqa)
        rw [← hQK, ← ZE.out] at RA
        obtain ⟨ZR, hZR⟩ : ∃ ZR, ZR = (zs.drop (q * b)).take b := ⟨_, rfl⟩
        rw [← hZR] at RA
        have HZR := hide hZR
        have DO2 : Hid (∀ (wx : World) (Bd Bt : Nat), p2.grownBy wx none → wx.heap[Bd]? = some (.cells #[.int .i64 1, .int .i64 k] 3 (0, 0)) → wx.heap[Bt]? = some (.cells #[.int .i64 1, .slice (some ⟨Bd, 0, none⟩) 2 2, .slice (some ⟨ub, uo + QK, none⟩) k C, .int .i64 1, .slice (some ⟨yb, yo, none⟩) y.length yc, .slice va vn vc] 25 (0, 0)) → Calls Tryz.prog 11 #[.agg #[.string ⟨#[77, 97, 116, 77, 117, 108]⟩, .string ⟨#[]⟩, .slice (some ⟨w1.heap.size, 0, none⟩) 2 2, .string ⟨#[122]⟩, .slice none 0 0], .slice (some ⟨Bt, 0, none⟩) 2 2] wx fun e w' => ∃ d t : Sl, e = .returned (.tuple #[.agg #[.int .i64 1, .slice d.a d.n d.c, .slice t.a t.n t.c], .int .i64 0]) ∧ Owns w' wx.heap.size d.v [1, (b : Int)] ∧ OwnsE w' wx.heap.size t.v ZR ∧ wx.grownBy w' none) := fun wx Bd Bt hx hbd hbt => by
          have hGx := grown_trans G2.out hx
          have hyx := HY.out.more hGx
          have key := matmul_do ⟨#[122]⟩ ⟨some ⟨w1.heap.size, 0, none⟩, 2, 2⟩ ⟨#[120]⟩ ⟨#[121]⟩ (by kernel_rfl) (by decide) ⟨some ⟨Bt, 0, none⟩, 2, 2⟩ ⟨1, ⟨some ⟨Bd, 0, none⟩, 2, 2⟩, ⟨some ⟨ub, uo + QK, none⟩, k, C⟩⟩ ⟨1, ⟨some ⟨yb, yo, none⟩, y.length, yc⟩, ⟨va, vn, vc⟩⟩ [1, (k : Int)] y ((xs.drop QK).take k) ys wx (by rw [HYE.out]; exact ⟨[], 1, k, k, b, by simp, rfl, rfl⟩) (HL.out.more hGx) (xy_strs (BN.out wx (grown_trans GN2.out hx)).1) (two_tens _ _ hbt (blk_ints (zs := [1, (k : Int)]) hbd (by simp) (by intro z hz; simp at hz; omega)) (IP.out.more hGx) hyx (HYS.out.more hGx))
          rw [show mmR (Ten.ty ⟨1, ⟨some ⟨Bd, 0, none⟩, 2, 2⟩, ⟨some ⟨ub, uo + QK, none⟩, k, C⟩⟩) (Ten.ty ⟨1, ⟨some ⟨yb, yo, none⟩, y.length, yc⟩, ⟨va, vn, vc⟩⟩) [1, (k : Int)] y ((xs.drop QK).take k) ys = .ok (1, [1, (b : Int)], ZR) from by rw [HYE.out]; exact RA.out] at key
          refine key.mono fun e w' hq => ?_
          obtain ⟨hg, ⟨ty, d, t⟩, h0, he, h1, h2⟩ := hq
          simp only at h0
          subst h0
          exact ⟨d, t, he, h1, h2, hg⟩
        subst hC
        have QK5 : QK ≤ 1000000 := by omega
        have k5 : k ≤ 1000000 := by omega
        have sl1 : (QK : Int) ≤ (QK : Int) + (k : Int) := by omega
        have sl2 : (0 : Int) ≤ (QK : Int) + (k : Int) := by omega
        have sl3 : ((QK : Int) + (k : Int)).toNat = QK + k := by omega
        have sl4 : (k : Int) ≤ (C : Int) := by omega
        have kwq : IntKind.i64.wrap ((q : Int) * (k : Int)) = (QK : Int) := by
          rw [wrap_i64_eq, ← Int.natCast_mul, ← hQK]
          exact wrap64_id (Int.natCast_nonneg _) (Int.ofNat_le.2 QK5)
        have kws : IntKind.i64.wrap ((QK : Int) + (k : Int)) = (QK : Int) + (k : Int) := by
          rw [wrap_i64_eq, ← Int.natCast_add]
          exact wrap64_id (Int.natCast_nonneg _) (Int.ofNat_le.2 (show QK + k ≤ 1000000 by clear kwq; omega))
        have KQ := hide hQK
        obtain ⟨n0, n1, n2, n3, n4⟩ := nod_cells (n := ⟨⟨#[77, 97, 116, 77, 117, 108]⟩, ⟨#[]⟩, ⟨some ⟨w1.heap.size, 0, none⟩, 2, 2⟩, ⟨#[122]⟩, ⟨none, 0, 0⟩⟩) (BN.out p2 GN2.out).2
        clear hQK hcu hu1 hu2 euc hZR RA QK5 k5 d0 d1 d2
        go_wp2_with fail
        go_cut [12, 13] from 14 (fun p e wx => ∃ (B : Nat) (d t : Sl), p = .pointer (some ⟨B, 0, none⟩) ∧ e = .int .i64 0 ∧ wx.heap[B]? = some (.cells #[.int .i64 1, .slice d.a d.n d.c, .slice t.a t.n t.c] 25 (0, 0)) ∧ IsInts wx d.v [1, (b : Int)] ∧ IsInts wx t.v ZR ∧ p2.grownBy wx none)
        case first =>
          refine wp_region_held_drew (S := fun w' => p2.grownBy w' none) (by kernel_rfl) (by repeat (first | exact grown_refl _ | refine grown_drew ?_)) (fun hHeld => ?_)
          refine wpAnyH_take (i := 0) (v := ?_) rfl (by kernel_rfl) (by kernel_rfl) (by kernel_rfl) (fun _ _ _ h => h) (Or.inl ⟨by kernel_rfl, ?_⟩) (by assumption) ?_
          rotate_left 1
          · (intro wS hSw; have c0 := cell_still n0 hSw; have c1 := cell_still n1 hSw; have c2 := cell_still n2 hSw; have c3 := cell_still n3 hSw; have c4 := cell_still n4 hSw; go_simp; (try with_reducible rfl))
          try simp only [Act.put]
          refine wpAnyH_take (i := 1) (v := ?_) rfl (by kernel_rfl) (by kernel_rfl) (by kernel_rfl) (fun _ _ _ h => h) (Or.inl ⟨by kernel_rfl, ?_⟩) (by assumption) ?_
          rotate_left 1
          · (intro wS hSw; go_simp; (try with_reducible rfl))
          try simp only [Act.put]
          refine wpAnyH_take (i := 2) (v := ?_) rfl (by kernel_rfl) (by kernel_rfl) (by kernel_rfl) (fun _ _ _ h => h) (Or.inl ⟨by kernel_rfl, ?_⟩) (by assumption) ?_
          rotate_left 1
          · (intro wS hSw; have c0 := cell_still x0 hSw; go_simp; (try with_reducible rfl))
          try simp only [Act.put]
          refine wpAnyH_take (i := 3) (v := ?_) rfl (by kernel_rfl) (by kernel_rfl) (by kernel_rfl) (fun _ _ _ h => h) (Or.inl ⟨by kernel_rfl, ?_⟩) (by assumption) ?_
          rotate_left 1
          · (intro wS hSw; go_simp; (try with_reducible rfl))
          try simp only [Act.put]
          refine wpAnyH_take (i := 5) (v := ?_) rfl (by kernel_rfl) (by kernel_rfl) (by kernel_rfl) (fun _ _ _ h => h) (Or.inl ⟨by kernel_rfl, ?_⟩) (by assumption) ?_
          rotate_left 1
          · (intro wS hSw; go_simp; (try with_reducible rfl))
          try simp only [Act.put]
          refine wpAnyH_take (i := 6) (v := ?_) rfl (by kernel_rfl) (by kernel_rfl) (by kernel_rfl) (fun _ _ _ h => h) (Or.inl ⟨by kernel_rfl, ?_⟩) (by assumption) ?_
          rotate_left 1
          · (intro wS hSw; have c0 := cell_still x2 hSw; go_simp; (try with_reducible rfl))
          try simp only [Act.put]
          refine wpAnyH_take (i := 7) (v := ?_) rfl (by kernel_rfl) (by kernel_rfl) (by kernel_rfl) (fun _ _ _ h => h) (Or.inl ⟨by kernel_rfl, ?_⟩) (by assumption) ?_
          rotate_left 1
          · (intro wS hSw; go_simp; (try with_reducible rfl))
          try simp only [Act.put]
          refine wpAnyH_take (i := 8) (v := ?_) rfl (by kernel_rfl) (by kernel_rfl) (by kernel_rfl) (fun _ _ _ h => h) (Or.inl ⟨by kernel_rfl, ?_⟩) (by assumption) ?_
          rotate_left 1
          · (intro wS hSw; go_simp; (try with_reducible rfl))
          try simp only [Act.put]
          refine wpAnyH_take (i := 9) (v := .int .i64 (QK : Int)) rfl (by kernel_rfl) (by kernel_rfl) (by kernel_rfl) (fun _ _ _ h => h) (Or.inl ⟨by kernel_rfl, ?_⟩) (by assumption) ?_
          · (intro wS hSw; go_simp; (try simp only [kwq]))
          try simp only [Act.put]
          refine wpAnyH_take (i := 10) (v := ?_) rfl (by kernel_rfl) (by kernel_rfl) (by kernel_rfl) (fun _ _ _ h => h) (Or.inl ⟨by kernel_rfl, ?_⟩) (by assumption) ?_
          rotate_left 1
          · (intro wS hSw; go_simp; (try with_reducible rfl))
          try simp only [Act.put]
          refine wpAnyH_take (i := 11) (v := ?_) rfl (by kernel_rfl) (by kernel_rfl) (by kernel_rfl) (fun _ _ _ h => h) (Or.inl ⟨by kernel_rfl, ?_⟩) (by assumption) ?_
          rotate_left 1
          · (intro wS hSw; go_simp; (try with_reducible rfl))
          try simp only [Act.put]
          refine wpAnyH_take (i := 12) (v := .int .i64 (QK : Int)) rfl (by kernel_rfl) (by kernel_rfl) (by kernel_rfl) (fun _ _ _ h => h) (Or.inl ⟨by kernel_rfl, ?_⟩) (by assumption) ?_
          · (intro wS hSw; go_simp; (try simp only [kwq]))
          try simp only [Act.put]
          refine wpAnyH_take (i := 13) (v := ?_) rfl (by kernel_rfl) (by kernel_rfl) (by kernel_rfl) (fun _ _ _ h => h) (Or.inl ⟨by kernel_rfl, ?_⟩) (by assumption) ?_
          rotate_left 1
          · (intro wS hSw; go_simp; (try with_reducible rfl))
          try simp only [Act.put]
          refine wpAnyH_take (i := 14) (v := .int .i64 ((QK : Int) + (k : Int))) rfl (by kernel_rfl) (by kernel_rfl) (by kernel_rfl) (fun _ _ _ h => h) (Or.inl ⟨by kernel_rfl, ?_⟩) (by assumption) ?_
          · (intro wS hSw; go_simp; (try simp only [kws]))
          try simp only [Act.put]
          refine wpAnyH_take (i := 15) (v := ?_) rfl (by kernel_rfl) (by kernel_rfl) (by kernel_rfl) (fun _ _ _ h => h) (Or.inl ⟨by kernel_rfl, ?_⟩) (by assumption) ?_
          rotate_left 1
          · (intro wS hSw; go_simp; (try with_reducible rfl))
          try simp only [Act.put]
          refine wpAnyH_take (i := 17) (v := ?_) rfl (by kernel_rfl) (by kernel_rfl) (by kernel_rfl) (fun _ _ _ h => h) (Or.inl ⟨by kernel_rfl, ?_⟩) (by assumption) ?_
          rotate_left 1
          · (intro wS hSw; have c0 := cell_still y0 hSw; have c1 := cell_still y1 hSw; have c2 := cell_still y2 hSw; go_simp; (try with_reducible rfl))
          try simp only [Act.put]
          clear n0 n1 n2 n3 n4 x0 x1 x2 y0 y1 y2 m0 m1 m2 j0 j1 j0n j1n k1 k1n kwq kws sl1 sl2 sl3 sl4 hC0 rm1 rm2 hc0 b1 b2
          try clear HYS
          try clear LV
          try clear GS
          try clear GS0
          try clear G0
          try clear L1
          try clear X2
          try clear Y2
          try clear BX
          try clear BXp
          try clear G0T
          try clear GT
          try clear BN
          try clear G1
          try clear G01
          try clear G2
          try clear G02
          try clear GN2
          try clear L2
          try clear IA
          try clear JA
          try clear BA
          try clear KWB
          try clear KWK
          try clear HAB
          try clear HAK
          try clear HXE
          try clear HYE
          try clear HZS
          try clear HXL
          try clear HZL
          try clear HS
          try clear PX
          try clear PY
          try clear HQ
          try clear HR
          try clear HRR
          try clear HP2
          try clear IP
          try clear ZE
          try clear HZR
          try clear HXS
          try clear HX
          try clear HY
          try clear HL
          try clear KQ
          try clear ZZ
          try clear f1
          try clear f2
          try clear f3
          try clear sx
          try clear sz
          try clear ha5
          try clear hR0
          try clear hR1
          try clear hqa
          try clear AB5
          try clear AK5
          try clear hqk
          try clear hC1
          try clear a0b
          refine wpAnyH_ready (rs := [4, 23]) (by kernel_rfl) (by simp) ?_
          refine AllReadyH.cons rfl (fun K hK => ?_) ?_
          · skip
            go_simp
            refine hK.out _ _ (by show p2.grownBy _ none; (first | assumption | (repeat (first | assumption | exact grown_refl _ | refine grown_drew ?_ | refine grown_trans ?_ (grown_new _ _))))) (fun hHeld => ?_)
            clear hK K
            try simp only [Act.put]
            have zv1 : ((p2.alloc (.cells #[.int .i64 1, .int .i64 k] 3)).drew.drew).heap[p2.heap.size]? = some (.cells #[.int .i64 1, .int .i64 k] 3 (0, 0)) := heap_alloc_new p2 (.cells #[.int .i64 1, .int .i64 k] 3)
            have yv1 : p2.grownBy ((p2.alloc (.cells #[.int .i64 1, .int .i64 k] 3)).drew.drew) none := (by repeat (first | exact grown_new _ _ | refine grown_drew ?_))
            generalize ev1 : (p2.alloc (.cells #[.int .i64 1, .int .i64 k] 3)).drew.drew = v1 at zv1 yv1 hHeld ⊢
            have hDv1 : v1.heap[p2.heap.size]? = some (.cells #[.int .i64 1, .int .i64 k] 3 (0, 0)) := zv1
            have gv1 : p2.grownBy v1 none := hHeld
            clear zv1 ev1
            clear yv1
            refine wpAnyH_take (i := 16) (v := ?_) rfl (by kernel_rfl) (by kernel_rfl) (by kernel_rfl) (fun _ _ _ h => h) (Or.inl ⟨by kernel_rfl, ?_⟩) (by assumption) ?_
            rotate_left 1
            · (intro wS hSw; go_simp; (try with_reducible rfl))
            try simp only [Act.put]
            refine wpAnyH_ready (rs := [18, 23]) (by kernel_rfl) (by simp) ?_
            refine AllReadyH.cons rfl (fun K hK => ?_) ?_
            · skip
              go_simp
              refine hK.out _ _ (by show p2.grownBy _ none; (first | assumption | (repeat (first | assumption | exact grown_refl _ | refine grown_drew ?_ | refine grown_trans ?_ (grown_new _ _))))) (fun hHeld => ?_)
              clear hK K
              try simp only [Act.put]
              have zv2 : (v1.alloc (.cells #[.int .i64 1, .slice (some ⟨p2.heap.size, 0, none⟩) 2 2, .slice (some ⟨ub, uo + QK, none⟩) k C, .int .i64 1, .slice (some ⟨yb, yo, none⟩) y.length yc, .slice va vn vc] 25)).heap[v1.heap.size]? = some (.cells #[.int .i64 1, .slice (some ⟨p2.heap.size, 0, none⟩) 2 2, .slice (some ⟨ub, uo + QK, none⟩) k C, .int .i64 1, .slice (some ⟨yb, yo, none⟩) y.length yc, .slice va vn vc] 25 (0, 0)) := heap_alloc_new v1 (.cells #[.int .i64 1, .slice (some ⟨p2.heap.size, 0, none⟩) 2 2, .slice (some ⟨ub, uo + QK, none⟩) k C, .int .i64 1, .slice (some ⟨yb, yo, none⟩) y.length yc, .slice va vn vc] 25)
              have yv2 : v1.grownBy (v1.alloc (.cells #[.int .i64 1, .slice (some ⟨p2.heap.size, 0, none⟩) 2 2, .slice (some ⟨ub, uo + QK, none⟩) k C, .int .i64 1, .slice (some ⟨yb, yo, none⟩) y.length yc, .slice va vn vc] 25)) none := (by repeat (first | exact grown_new _ _ | refine grown_drew ?_))
              generalize ev2 : v1.alloc (.cells #[.int .i64 1, .slice (some ⟨p2.heap.size, 0, none⟩) 2 2, .slice (some ⟨ub, uo + QK, none⟩) k C, .int .i64 1, .slice (some ⟨yb, yo, none⟩) y.length yc, .slice va vn vc] 25) = v2 at zv2 yv2 hHeld ⊢
              have hTv2 : v2.heap[v1.heap.size]? = some (.cells #[.int .i64 1, .slice (some ⟨p2.heap.size, 0, none⟩) 2 2, .slice (some ⟨ub, uo + QK, none⟩) k C, .int .i64 1, .slice (some ⟨yb, yo, none⟩) y.length yc, .slice va vn vc] 25 (0, 0)) := zv2
              have gv2 : p2.grownBy v2 none := hHeld
              have hDv2 := box_kept hDv1 yv2
              clear zv2 ev2
              clear yv2
              refine wpAnyH_ready (rs := [19, 23]) (by kernel_rfl) (by simp) ?_
              refine AllReadyH.cons rfl (fun K hK => ?_) ?_
              · skip
                go_simp
                refine (DO2.out v2 p2.heap.size v1.heap.size (by assumption) hDv2 hTv2).mono ?_
                rintro e v3 ⟨⟨da, dn, dc⟩, ⟨ta, tn, tc⟩, rfl, od, ot, yv3⟩
                refine hK.out _ _ (grown_trans gv2 yv3) (fun hHeld => ?_)
                clear hK K
                have gv3 : p2.grownBy v3 none := hHeld
                have hDv3 := box_kept hDv2 yv3
                have hTv3 := box_kept hTv2 yv3
                refine wpAnyH_take (i := 20) (v := ?_) rfl (by kernel_rfl) (by kernel_rfl) (by kernel_rfl) (fun _ _ _ h => h) (Or.inl ⟨by kernel_rfl, ?_⟩) (by assumption) ?_
                rotate_left 1
                · (intro wS hSw; go_simp; (try with_reducible rfl))
                try simp only [Act.put]
                refine wpAnyH_take (i := 21) (v := ?_) rfl (by kernel_rfl) (by kernel_rfl) (by kernel_rfl) (fun _ _ _ h => h) (Or.inl ⟨by kernel_rfl, ?_⟩) (by assumption) ?_
                rotate_left 1
                · (intro wS hSw; go_simp; (try with_reducible rfl))
                try simp only [Act.put]
                refine wpAnyH_take (i := 22) (v := ?_) rfl (by kernel_rfl) (by kernel_rfl) (by kernel_rfl) (fun _ _ _ h => h) (Or.inl ⟨by kernel_rfl, ?_⟩) (by assumption) ?_
                rotate_left 1
                · (intro wS hSw; go_simp; (try with_reducible rfl))
                try simp only [Act.put]
                refine wpAnyH_ready (rs := [23]) (by kernel_rfl) (by simp) ?_
                refine AllReadyH.cons rfl (fun K hK => ?_) ?_
                · skip
                  go_simp
                  refine hK.out _ _ (by show p2.grownBy _ none; (first | assumption | (repeat (first | assumption | exact grown_refl _ | refine grown_drew ?_ | refine grown_trans ?_ (grown_new _ _))))) (fun hHeld => ?_)
                  clear hK K
                  try simp only [Act.put]
                  have zv4 : (v3.alloc (.cells #[.int .i64 0, .slice none 0 0, .slice none 0 0] 25)).heap[v3.heap.size]? = some (.cells #[.int .i64 0, .slice none 0 0, .slice none 0 0] 25 (0, 0)) := heap_alloc_new v3 (.cells #[.int .i64 0, .slice none 0 0, .slice none 0 0] 25)
                  have yv4 : v3.grownBy (v3.alloc (.cells #[.int .i64 0, .slice none 0 0, .slice none 0 0] 25)) none := (by repeat (first | exact grown_new _ _ | refine grown_drew ?_))
                  generalize ev4 : v3.alloc (.cells #[.int .i64 0, .slice none 0 0, .slice none 0 0] 25) = v4 at zv4 yv4 hHeld ⊢
                  have hAv4 : v4.heap[v3.heap.size]? = some (.cells #[.int .i64 0, .slice none 0 0, .slice none 0 0] 25 (0, 0)) := zv4
                  have gv4 : p2.grownBy v4 none := hHeld
                  have hDv4 := box_kept hDv3 yv4
                  have hTv4 := box_kept hTv3 yv4
                  clear zv4 ev4
                  have OD0 := od.new yv4
                  have OT0 : OwnsE v4 v2.heap.size (Sl.v ⟨ta, tn, tc⟩) ZR := ⟨ot.1.kept yv4 (by cases (Sl.v ⟨ta, tn, tc⟩).ownBlock <;> simp), ot.2⟩
                  clear od ot
                  have od := OD0
                  have ot := OT0
                  clear OD0 OT0
                  clear yv4
                  have lA : p2.heap.size ≤ v3.heap.size := gv3.size
                  have OD : Owns v4 v2.heap.size (Sl.v ⟨da, dn, dc⟩) [1, (b : Int)] := od
                  have OT : OwnsE v4 v2.heap.size (Sl.v ⟨ta, tn, tc⟩) ZR := ot
                  obtain ⟨q0, q1, q2⟩ := ten_cells hAv4
                  obtain ⟨f0, f1, f2⟩ := ten_frozen hAv4
                  obtain ⟨hX, gX⟩ := store3t (.int .i64 1) (.slice da dn dc) (.slice ta tn tc) hAv4
                  refine wpAnyH_ready (rs := [24]) (by kernel_rfl) (by simp) ?_
                  refine AllReadyH.cons rfl (fun K hK => ?_) ?_
                  · skip
                    go_simp
                    refine hK.out _ _ (grown_drop gv4 gX lA) (fun hHeld => ?_)
                    clear hK K
                    try simp only [Act.put]
                    refine wpAnyH_take (i := 25) (v := ?_) rfl (by kernel_rfl) (by kernel_rfl) (by kernel_rfl) (fun _ _ _ h => h) (Or.inl ⟨by kernel_rfl, ?_⟩) (by assumption) ?_
                    rotate_left 1
                    · (intro wS hSw; go_simp; (try with_reducible rfl))
                    try simp only [Act.put]
                    refine wpAnyH_done (by kernel_rfl) ?_ _
                    go_simp
                    go_wp2_with fail
                    go_meet
                    exact ⟨_, ⟨da, dn, dc⟩, ⟨ta, tn, tc⟩, rfl, rfl, hX, (OD.more gX (own_apart OD.1 hAv4 (by decide))).ints, OwnsE.ints (⟨OT.1.kept gX (own_apart OT.1 hAv4 (by decide)), OT.2⟩ : OwnsE _ _ _ _), grown_drop gv4 gX lA⟩
                  exact AllReadyH.nil
                exact AllReadyH.nil
              refine AllReadyH.cons rfl (fun K hK => ?_) ?_
              · skip
                go_simp
                refine hK.out _ _ (by show p2.grownBy _ none; (first | assumption | (repeat (first | assumption | exact grown_refl _ | refine grown_drew ?_ | refine grown_trans ?_ (grown_new _ _))))) (fun hHeld => ?_)
                clear hK K
                try simp only [Act.put]
                have zv5 : (v2.alloc (.cells #[.int .i64 0, .slice none 0 0, .slice none 0 0] 25)).heap[v2.heap.size]? = some (.cells #[.int .i64 0, .slice none 0 0, .slice none 0 0] 25 (0, 0)) := heap_alloc_new v2 (.cells #[.int .i64 0, .slice none 0 0, .slice none 0 0] 25)
                have yv5 : v2.grownBy (v2.alloc (.cells #[.int .i64 0, .slice none 0 0, .slice none 0 0] 25)) none := (by repeat (first | exact grown_new _ _ | refine grown_drew ?_))
                generalize ev5 : v2.alloc (.cells #[.int .i64 0, .slice none 0 0, .slice none 0 0] 25) = v5 at zv5 yv5 hHeld ⊢
                have hAv5 : v5.heap[v2.heap.size]? = some (.cells #[.int .i64 0, .slice none 0 0, .slice none 0 0] 25 (0, 0)) := zv5
                have gv5 : p2.grownBy v5 none := hHeld
                have hDv5 := box_kept hDv2 yv5
                have hTv5 := box_kept hTv2 yv5
                clear zv5 ev5
                clear yv5
                have lA : p2.heap.size ≤ v2.heap.size := gv2.size
                refine wpAnyH_ready (rs := [19]) (by kernel_rfl) (by simp) ?_
                refine AllReadyH.cons rfl (fun K hK => ?_) ?_
                · skip
                  go_simp
                  refine (DO2.out v5 p2.heap.size v1.heap.size (by assumption) hDv5 hTv5).mono ?_
                  rintro e v6 ⟨⟨da, dn, dc⟩, ⟨ta, tn, tc⟩, rfl, od, ot, yv6⟩
                  refine hK.out _ _ (grown_trans gv5 yv6) (fun hHeld => ?_)
                  clear hK K
                  have gv6 : p2.grownBy v6 none := hHeld
                  have hDv6 := box_kept hDv5 yv6
                  have hTv6 := box_kept hTv5 yv6
                  have hAv6 := box_kept hAv5 yv6
                  refine wpAnyH_take (i := 20) (v := ?_) rfl (by kernel_rfl) (by kernel_rfl) (by kernel_rfl) (fun _ _ _ h => h) (Or.inl ⟨by kernel_rfl, ?_⟩) (by assumption) ?_
                  rotate_left 1
                  · (intro wS hSw; go_simp; (try with_reducible rfl))
                  try simp only [Act.put]
                  refine wpAnyH_take (i := 21) (v := ?_) rfl (by kernel_rfl) (by kernel_rfl) (by kernel_rfl) (fun _ _ _ h => h) (Or.inl ⟨by kernel_rfl, ?_⟩) (by assumption) ?_
                  rotate_left 1
                  · (intro wS hSw; go_simp; (try with_reducible rfl))
                  try simp only [Act.put]
                  refine wpAnyH_take (i := 22) (v := ?_) rfl (by kernel_rfl) (by kernel_rfl) (by kernel_rfl) (fun _ _ _ h => h) (Or.inl ⟨by kernel_rfl, ?_⟩) (by assumption) ?_
                  rotate_left 1
                  · (intro wS hSw; go_simp; (try with_reducible rfl))
                  try simp only [Act.put]
                  have OD : Owns v6 v5.heap.size (Sl.v ⟨da, dn, dc⟩) [1, (b : Int)] := od
                  have OT : OwnsE v6 v5.heap.size (Sl.v ⟨ta, tn, tc⟩) ZR := ot
                  obtain ⟨q0, q1, q2⟩ := ten_cells hAv6
                  obtain ⟨f0, f1, f2⟩ := ten_frozen hAv6
                  obtain ⟨hX, gX⟩ := store3t (.int .i64 1) (.slice da dn dc) (.slice ta tn tc) hAv6
                  refine wpAnyH_ready (rs := [24]) (by kernel_rfl) (by simp) ?_
                  refine AllReadyH.cons rfl (fun K hK => ?_) ?_
                  · skip
                    go_simp
                    refine hK.out _ _ (grown_drop gv6 gX lA) (fun hHeld => ?_)
                    clear hK K
                    try simp only [Act.put]
                    refine wpAnyH_take (i := 25) (v := ?_) rfl (by kernel_rfl) (by kernel_rfl) (by kernel_rfl) (fun _ _ _ h => h) (Or.inl ⟨by kernel_rfl, ?_⟩) (by assumption) ?_
                    rotate_left 1
                    · (intro wS hSw; go_simp; (try with_reducible rfl))
                    try simp only [Act.put]
                    refine wpAnyH_done (by kernel_rfl) ?_ _
                    go_simp
                    go_wp2_with fail
                    go_meet
                    exact ⟨_, ⟨da, dn, dc⟩, ⟨ta, tn, tc⟩, rfl, rfl, hX, (OD.more gX (own_apart OD.1 hAv6 (by decide))).ints, OwnsE.ints (⟨OT.1.kept gX (own_apart OT.1 hAv6 (by decide)), OT.2⟩ : OwnsE _ _ _ _), grown_drop gv6 gX lA⟩
                  exact AllReadyH.nil
                exact AllReadyH.nil
              exact AllReadyH.nil
            refine AllReadyH.cons rfl (fun K hK => ?_) ?_
            · skip
              go_simp
              refine hK.out _ _ (by show p2.grownBy _ none; (first | assumption | (repeat (first | assumption | exact grown_refl _ | refine grown_drew ?_ | refine grown_trans ?_ (grown_new _ _))))) (fun hHeld => ?_)
              clear hK K
              try simp only [Act.put]
              have zv7 : (v1.alloc (.cells #[.int .i64 0, .slice none 0 0, .slice none 0 0] 25)).heap[v1.heap.size]? = some (.cells #[.int .i64 0, .slice none 0 0, .slice none 0 0] 25 (0, 0)) := heap_alloc_new v1 (.cells #[.int .i64 0, .slice none 0 0, .slice none 0 0] 25)
              have yv7 : v1.grownBy (v1.alloc (.cells #[.int .i64 0, .slice none 0 0, .slice none 0 0] 25)) none := (by repeat (first | exact grown_new _ _ | refine grown_drew ?_))
              generalize ev7 : v1.alloc (.cells #[.int .i64 0, .slice none 0 0, .slice none 0 0] 25) = v7 at zv7 yv7 hHeld ⊢
              have hAv7 : v7.heap[v1.heap.size]? = some (.cells #[.int .i64 0, .slice none 0 0, .slice none 0 0] 25 (0, 0)) := zv7
              have gv7 : p2.grownBy v7 none := hHeld
              have hDv7 := box_kept hDv1 yv7
              clear zv7 ev7
              clear yv7
              have lA : p2.heap.size ≤ v1.heap.size := gv1.size
              refine wpAnyH_ready (rs := [18]) (by kernel_rfl) (by simp) ?_
              refine AllReadyH.cons rfl (fun K hK => ?_) ?_
              · skip
                go_simp
                refine hK.out _ _ (by show p2.grownBy _ none; (first | assumption | (repeat (first | assumption | exact grown_refl _ | refine grown_drew ?_ | refine grown_trans ?_ (grown_new _ _))))) (fun hHeld => ?_)
                clear hK K
                try simp only [Act.put]
                have zv8 : (v7.alloc (.cells #[.int .i64 1, .slice (some ⟨p2.heap.size, 0, none⟩) 2 2, .slice (some ⟨ub, uo + QK, none⟩) k C, .int .i64 1, .slice (some ⟨yb, yo, none⟩) y.length yc, .slice va vn vc] 25)).heap[v7.heap.size]? = some (.cells #[.int .i64 1, .slice (some ⟨p2.heap.size, 0, none⟩) 2 2, .slice (some ⟨ub, uo + QK, none⟩) k C, .int .i64 1, .slice (some ⟨yb, yo, none⟩) y.length yc, .slice va vn vc] 25 (0, 0)) := heap_alloc_new v7 (.cells #[.int .i64 1, .slice (some ⟨p2.heap.size, 0, none⟩) 2 2, .slice (some ⟨ub, uo + QK, none⟩) k C, .int .i64 1, .slice (some ⟨yb, yo, none⟩) y.length yc, .slice va vn vc] 25)
                have yv8 : v7.grownBy (v7.alloc (.cells #[.int .i64 1, .slice (some ⟨p2.heap.size, 0, none⟩) 2 2, .slice (some ⟨ub, uo + QK, none⟩) k C, .int .i64 1, .slice (some ⟨yb, yo, none⟩) y.length yc, .slice va vn vc] 25)) none := (by repeat (first | exact grown_new _ _ | refine grown_drew ?_))
                generalize ev8 : v7.alloc (.cells #[.int .i64 1, .slice (some ⟨p2.heap.size, 0, none⟩) 2 2, .slice (some ⟨ub, uo + QK, none⟩) k C, .int .i64 1, .slice (some ⟨yb, yo, none⟩) y.length yc, .slice va vn vc] 25) = v8 at zv8 yv8 hHeld ⊢
                have hTv8 : v8.heap[v7.heap.size]? = some (.cells #[.int .i64 1, .slice (some ⟨p2.heap.size, 0, none⟩) 2 2, .slice (some ⟨ub, uo + QK, none⟩) k C, .int .i64 1, .slice (some ⟨yb, yo, none⟩) y.length yc, .slice va vn vc] 25 (0, 0)) := zv8
                have gv8 : p2.grownBy v8 none := hHeld
                have hDv8 := box_kept hDv7 yv8
                have hAv8 := box_kept hAv7 yv8
                clear zv8 ev8
                clear yv8
                refine wpAnyH_ready (rs := [19]) (by kernel_rfl) (by simp) ?_
                refine AllReadyH.cons rfl (fun K hK => ?_) ?_
                · skip
                  go_simp
                  refine (DO2.out v8 p2.heap.size v7.heap.size (by assumption) hDv8 hTv8).mono ?_
                  rintro e v9 ⟨⟨da, dn, dc⟩, ⟨ta, tn, tc⟩, rfl, od, ot, yv9⟩
                  refine hK.out _ _ (grown_trans gv8 yv9) (fun hHeld => ?_)
                  clear hK K
                  have gv9 : p2.grownBy v9 none := hHeld
                  have hDv9 := box_kept hDv8 yv9
                  have hTv9 := box_kept hTv8 yv9
                  have hAv9 := box_kept hAv8 yv9
                  refine wpAnyH_take (i := 20) (v := ?_) rfl (by kernel_rfl) (by kernel_rfl) (by kernel_rfl) (fun _ _ _ h => h) (Or.inl ⟨by kernel_rfl, ?_⟩) (by assumption) ?_
                  rotate_left 1
                  · (intro wS hSw; go_simp; (try with_reducible rfl))
                  try simp only [Act.put]
                  refine wpAnyH_take (i := 21) (v := ?_) rfl (by kernel_rfl) (by kernel_rfl) (by kernel_rfl) (fun _ _ _ h => h) (Or.inl ⟨by kernel_rfl, ?_⟩) (by assumption) ?_
                  rotate_left 1
                  · (intro wS hSw; go_simp; (try with_reducible rfl))
                  try simp only [Act.put]
                  refine wpAnyH_take (i := 22) (v := ?_) rfl (by kernel_rfl) (by kernel_rfl) (by kernel_rfl) (fun _ _ _ h => h) (Or.inl ⟨by kernel_rfl, ?_⟩) (by assumption) ?_
                  rotate_left 1
                  · (intro wS hSw; go_simp; (try with_reducible rfl))
                  try simp only [Act.put]
                  have OD : Owns v9 v8.heap.size (Sl.v ⟨da, dn, dc⟩) [1, (b : Int)] := od
                  have OT : OwnsE v9 v8.heap.size (Sl.v ⟨ta, tn, tc⟩) ZR := ot
                  obtain ⟨q0, q1, q2⟩ := ten_cells hAv9
                  obtain ⟨f0, f1, f2⟩ := ten_frozen hAv9
                  obtain ⟨hX, gX⟩ := store3t (.int .i64 1) (.slice da dn dc) (.slice ta tn tc) hAv9
                  refine wpAnyH_ready (rs := [24]) (by kernel_rfl) (by simp) ?_
                  refine AllReadyH.cons rfl (fun K hK => ?_) ?_
                  · skip
                    go_simp
                    refine hK.out _ _ (grown_drop gv9 gX lA) (fun hHeld => ?_)
                    clear hK K
                    try simp only [Act.put]
                    refine wpAnyH_take (i := 25) (v := ?_) rfl (by kernel_rfl) (by kernel_rfl) (by kernel_rfl) (fun _ _ _ h => h) (Or.inl ⟨by kernel_rfl, ?_⟩) (by assumption) ?_
                    rotate_left 1
                    · (intro wS hSw; go_simp; (try with_reducible rfl))
                    try simp only [Act.put]
                    refine wpAnyH_done (by kernel_rfl) ?_ _
                    go_simp
                    go_wp2_with fail
                    go_meet
                    exact ⟨_, ⟨da, dn, dc⟩, ⟨ta, tn, tc⟩, rfl, rfl, hX, (OD.more gX (own_apart OD.1 hAv9 (by decide))).ints, OwnsE.ints (⟨OT.1.kept gX (own_apart OT.1 hAv9 (by decide)), OT.2⟩ : OwnsE _ _ _ _), grown_drop gv9 gX lA⟩
                  exact AllReadyH.nil
                exact AllReadyH.nil
              exact AllReadyH.nil
            exact AllReadyH.nil
          refine AllReadyH.cons rfl (fun K hK => ?_) ?_
          · skip
            go_simp
            refine hK.out _ _ (by show p2.grownBy _ none; (first | assumption | (repeat (first | assumption | exact grown_refl _ | refine grown_drew ?_ | refine grown_trans ?_ (grown_new _ _))))) (fun hHeld => ?_)
            clear hK K
            try simp only [Act.put]
            have zv10 : ((p2.alloc (.cells #[.int .i64 0, .slice none 0 0, .slice none 0 0] 25)).drew.drew).heap[p2.heap.size]? = some (.cells #[.int .i64 0, .slice none 0 0, .slice none 0 0] 25 (0, 0)) := heap_alloc_new p2 (.cells #[.int .i64 0, .slice none 0 0, .slice none 0 0] 25)
            have yv10 : p2.grownBy ((p2.alloc (.cells #[.int .i64 0, .slice none 0 0, .slice none 0 0] 25)).drew.drew) none := (by repeat (first | exact grown_new _ _ | refine grown_drew ?_))
            generalize ev10 : (p2.alloc (.cells #[.int .i64 0, .slice none 0 0, .slice none 0 0] 25)).drew.drew = v10 at zv10 yv10 hHeld ⊢
            have hAv10 : v10.heap[p2.heap.size]? = some (.cells #[.int .i64 0, .slice none 0 0, .slice none 0 0] 25 (0, 0)) := zv10
            have gv10 : p2.grownBy v10 none := hHeld
            clear zv10 ev10
            clear yv10
            have lA : p2.heap.size ≤ p2.heap.size := Nat.le_refl _
            refine wpAnyH_ready (rs := [4]) (by kernel_rfl) (by simp) ?_
            refine AllReadyH.cons rfl (fun K hK => ?_) ?_
            · skip
              go_simp
              refine hK.out _ _ (by show p2.grownBy _ none; (first | assumption | (repeat (first | assumption | exact grown_refl _ | refine grown_drew ?_ | refine grown_trans ?_ (grown_new _ _))))) (fun hHeld => ?_)
              clear hK K
              try simp only [Act.put]
              have zv11 : (v10.alloc (.cells #[.int .i64 1, .int .i64 k] 3)).heap[v10.heap.size]? = some (.cells #[.int .i64 1, .int .i64 k] 3 (0, 0)) := heap_alloc_new v10 (.cells #[.int .i64 1, .int .i64 k] 3)
              have yv11 : v10.grownBy (v10.alloc (.cells #[.int .i64 1, .int .i64 k] 3)) none := (by repeat (first | exact grown_new _ _ | refine grown_drew ?_))
              generalize ev11 : v10.alloc (.cells #[.int .i64 1, .int .i64 k] 3) = v11 at zv11 yv11 hHeld ⊢
              have hDv11 : v11.heap[v10.heap.size]? = some (.cells #[.int .i64 1, .int .i64 k] 3 (0, 0)) := zv11
              have gv11 : p2.grownBy v11 none := hHeld
              have hAv11 := box_kept hAv10 yv11
              clear zv11 ev11
              clear yv11
              refine wpAnyH_take (i := 16) (v := ?_) rfl (by kernel_rfl) (by kernel_rfl) (by kernel_rfl) (fun _ _ _ h => h) (Or.inl ⟨by kernel_rfl, ?_⟩) (by assumption) ?_
              rotate_left 1
              · (intro wS hSw; go_simp; (try with_reducible rfl))
              try simp only [Act.put]
              refine wpAnyH_ready (rs := [18]) (by kernel_rfl) (by simp) ?_
              refine AllReadyH.cons rfl (fun K hK => ?_) ?_
              · skip
                go_simp
                refine hK.out _ _ (by show p2.grownBy _ none; (first | assumption | (repeat (first | assumption | exact grown_refl _ | refine grown_drew ?_ | refine grown_trans ?_ (grown_new _ _))))) (fun hHeld => ?_)
                clear hK K
                try simp only [Act.put]
                have zv12 : (v11.alloc (.cells #[.int .i64 1, .slice (some ⟨v10.heap.size, 0, none⟩) 2 2, .slice (some ⟨ub, uo + QK, none⟩) k C, .int .i64 1, .slice (some ⟨yb, yo, none⟩) y.length yc, .slice va vn vc] 25)).heap[v11.heap.size]? = some (.cells #[.int .i64 1, .slice (some ⟨v10.heap.size, 0, none⟩) 2 2, .slice (some ⟨ub, uo + QK, none⟩) k C, .int .i64 1, .slice (some ⟨yb, yo, none⟩) y.length yc, .slice va vn vc] 25 (0, 0)) := heap_alloc_new v11 (.cells #[.int .i64 1, .slice (some ⟨v10.heap.size, 0, none⟩) 2 2, .slice (some ⟨ub, uo + QK, none⟩) k C, .int .i64 1, .slice (some ⟨yb, yo, none⟩) y.length yc, .slice va vn vc] 25)
                have yv12 : v11.grownBy (v11.alloc (.cells #[.int .i64 1, .slice (some ⟨v10.heap.size, 0, none⟩) 2 2, .slice (some ⟨ub, uo + QK, none⟩) k C, .int .i64 1, .slice (some ⟨yb, yo, none⟩) y.length yc, .slice va vn vc] 25)) none := (by repeat (first | exact grown_new _ _ | refine grown_drew ?_))
                generalize ev12 : v11.alloc (.cells #[.int .i64 1, .slice (some ⟨v10.heap.size, 0, none⟩) 2 2, .slice (some ⟨ub, uo + QK, none⟩) k C, .int .i64 1, .slice (some ⟨yb, yo, none⟩) y.length yc, .slice va vn vc] 25) = v12 at zv12 yv12 hHeld ⊢
                have hTv12 : v12.heap[v11.heap.size]? = some (.cells #[.int .i64 1, .slice (some ⟨v10.heap.size, 0, none⟩) 2 2, .slice (some ⟨ub, uo + QK, none⟩) k C, .int .i64 1, .slice (some ⟨yb, yo, none⟩) y.length yc, .slice va vn vc] 25 (0, 0)) := zv12
                have gv12 : p2.grownBy v12 none := hHeld
                have hDv12 := box_kept hDv11 yv12
                have hAv12 := box_kept hAv11 yv12
                clear zv12 ev12
                clear yv12
                refine wpAnyH_ready (rs := [19]) (by kernel_rfl) (by simp) ?_
                refine AllReadyH.cons rfl (fun K hK => ?_) ?_
                · skip
                  go_simp
                  refine (DO2.out v12 v10.heap.size v11.heap.size (by assumption) hDv12 hTv12).mono ?_
                  rintro e v13 ⟨⟨da, dn, dc⟩, ⟨ta, tn, tc⟩, rfl, od, ot, yv13⟩
                  refine hK.out _ _ (grown_trans gv12 yv13) (fun hHeld => ?_)
                  clear hK K
                  have gv13 : p2.grownBy v13 none := hHeld
                  have hDv13 := box_kept hDv12 yv13
                  have hTv13 := box_kept hTv12 yv13
                  have hAv13 := box_kept hAv12 yv13
                  refine wpAnyH_take (i := 20) (v := ?_) rfl (by kernel_rfl) (by kernel_rfl) (by kernel_rfl) (fun _ _ _ h => h) (Or.inl ⟨by kernel_rfl, ?_⟩) (by assumption) ?_
                  rotate_left 1
                  · (intro wS hSw; go_simp; (try with_reducible rfl))
                  try simp only [Act.put]
                  refine wpAnyH_take (i := 21) (v := ?_) rfl (by kernel_rfl) (by kernel_rfl) (by kernel_rfl) (fun _ _ _ h => h) (Or.inl ⟨by kernel_rfl, ?_⟩) (by assumption) ?_
                  rotate_left 1
                  · (intro wS hSw; go_simp; (try with_reducible rfl))
                  try simp only [Act.put]
                  refine wpAnyH_take (i := 22) (v := ?_) rfl (by kernel_rfl) (by kernel_rfl) (by kernel_rfl) (fun _ _ _ h => h) (Or.inl ⟨by kernel_rfl, ?_⟩) (by assumption) ?_
                  rotate_left 1
                  · (intro wS hSw; go_simp; (try with_reducible rfl))
                  try simp only [Act.put]
                  have OD : Owns v13 v12.heap.size (Sl.v ⟨da, dn, dc⟩) [1, (b : Int)] := od
                  have OT : OwnsE v13 v12.heap.size (Sl.v ⟨ta, tn, tc⟩) ZR := ot
                  obtain ⟨q0, q1, q2⟩ := ten_cells hAv13
                  obtain ⟨f0, f1, f2⟩ := ten_frozen hAv13
                  obtain ⟨hX, gX⟩ := store3t (.int .i64 1) (.slice da dn dc) (.slice ta tn tc) hAv13
                  refine wpAnyH_ready (rs := [24]) (by kernel_rfl) (by simp) ?_
                  refine AllReadyH.cons rfl (fun K hK => ?_) ?_
                  · skip
                    go_simp
                    refine hK.out _ _ (grown_drop gv13 gX lA) (fun hHeld => ?_)
                    clear hK K
                    try simp only [Act.put]
                    refine wpAnyH_take (i := 25) (v := ?_) rfl (by kernel_rfl) (by kernel_rfl) (by kernel_rfl) (fun _ _ _ h => h) (Or.inl ⟨by kernel_rfl, ?_⟩) (by assumption) ?_
                    rotate_left 1
                    · (intro wS hSw; go_simp; (try with_reducible rfl))
                    try simp only [Act.put]
                    refine wpAnyH_done (by kernel_rfl) ?_ _
                    go_simp
                    go_wp2_with fail
                    go_meet
                    exact ⟨_, ⟨da, dn, dc⟩, ⟨ta, tn, tc⟩, rfl, rfl, hX, (OD.more gX (own_apart OD.1 hAv13 (by decide))).ints, OwnsE.ints (⟨OT.1.kept gX (own_apart OT.1 hAv13 (by decide)), OT.2⟩ : OwnsE _ _ _ _), grown_drop gv13 gX lA⟩
                  exact AllReadyH.nil
                exact AllReadyH.nil
              exact AllReadyH.nil
            exact AllReadyH.nil
          exact AllReadyH.nil
        case rest =>
          obtain ⟨Bb, ⟨da, dn, dc⟩, ⟨ta, tn, tc⟩, rfl, rfl, hB, i1, i2, g3⟩ := hcut
          obtain ⟨b0, b1, b2⟩ := ten_cells hB
          have m2 := cell_still m2 g3
          obtain ⟨ab, ao, rfl, -⟩ := JA.out.get (k := 0) (by show 0 < zs.length; rw [HZL.out]; exact Nat.mul_pos (by omega) (by omega))
          obtain ⟨QB, hQB⟩ : ∃ QB, QB = q * b := ⟨_, rfl⟩
          have hqb : QB + b ≤ AB := by
            rw [HAB.out, hQB, show q * b + b = (q + 1) * b from by rw [Nat.add_mul]; omega]
            exact Nat.mul_le_mul_right _ hqa
          obtain ⟨_, _, ea, ha1, ha2, -⟩ := JA.out.sl
          simp only [Sl.v, Value.slice.injEq] at ea
          obtain ⟨-, -, eac⟩ := ea
          have ha1 : AB ≤ ak := by rw [HAB.out, ← HZL.out]; rw [eac]; exact ha1
          obtain ⟨C2, hC2⟩ : ∃ C2, ak = QB + C2 := ⟨ak - QB, by omega⟩
          have hC21 : b ≤ C2 := by omega
          have hC20 : ¬ C2 = 0 := by omega
          have IZ := hide (ints_part (show IsInts p2 (.slice (some ⟨ab, ao, none⟩) AB ak) zs from JA.out) QB b C2 (by rw [HZL.out, ← HAB.out]; omega) (by omega) hC21)
          rw [hQB, ← HZR.out, ← hQB] at IZ
          subst hC2
          have SA : Hid (∀ wx, wc.grownBy wx none → wx.heap[wc.heap.size]? = some (.cells #[.int .i64 1, .int .i64 b] 3 (0, 0)) → Calls Tryz.prog 12 #[.agg #[.int .i64 1, .slice da dn dc, .slice ta tn tc], .agg #[.int .i64 1, .slice (some ⟨wc.heap.size, 0, none⟩) 2 2, .slice (some ⟨ab, ao + QB, none⟩) b C2]] wx fun e w' => e = .returned (.bool true) ∧ wx.grownBy w' none) := fun wx hx hbd => sameten_eq 1 (.slice da dn dc) (.slice ta tn tc) (.slice (some ⟨wc.heap.size, 0, none⟩) 2 2) (.slice (some ⟨ab, ao + QB, none⟩) b C2) [1, (b : Int)] ZR wx (i1.more hx) (i2.more hx) (blk_ints (zs := [1, (b : Int)]) hbd (by simp) (by intro z hz; simp at hz; omega)) (IZ.out.more (grown_trans g3 hx))
          have QB5 : QB ≤ 1000000 := by omega
          have b5 : b ≤ 1000000 := by omega
          have sl1 : (QB : Int) ≤ (QB : Int) + (b : Int) := by omega
          have sl2 : (0 : Int) ≤ (QB : Int) + (b : Int) := by omega
          have sl3 : ((QB : Int) + (b : Int)).toNat = QB + b := by omega
          have sl4 : (b : Int) ≤ (C2 : Int) := by omega
          have kwq : IntKind.i64.wrap ((q : Int) * (b : Int)) = (QB : Int) := by
            rw [wrap_i64_eq, ← Int.natCast_mul, ← hQB]
            exact wrap64_id (Int.natCast_nonneg _) (Int.ofNat_le.2 QB5)
          have kws : IntKind.i64.wrap ((QB : Int) + (b : Int)) = (QB : Int) + (b : Int) := by
            rw [wrap_i64_eq, ← Int.natCast_add]
            exact wrap64_id (Int.natCast_nonneg _) (Int.ofNat_le.2 (show QB + b ≤ 1000000 by clear kwq; omega))
          clear hQB eac ha1 ha2 QB5 b5 i1 i2 hB n0 n1 n2 n3 n4 x0 x1 x2 y0 y1 y2 m0 m1
          go_wp2_with fail
          refine wp_region_held_drew (S := fun w' => wc.grownBy w' none) (by kernel_rfl) (by repeat (first | exact grown_refl _ | refine grown_drew ?_)) (fun hHeld => ?_)
          refine wpAnyH_take (i := 0) (v := ?_) rfl (by kernel_rfl) (by kernel_rfl) (by kernel_rfl) (fun _ _ _ h => h) (Or.inl ⟨by kernel_rfl, ?_⟩) (by assumption) ?_
          rotate_left 1
          · (intro wS hSw; go_simp; (try with_reducible rfl))
          try simp only [Act.put]
          refine wpAnyH_take (i := 1) (v := .bool true) rfl (by kernel_rfl) (by kernel_rfl) (by kernel_rfl) (fun _ _ _ h => h) (Or.inl ⟨by kernel_rfl, ?_⟩) (by assumption) ?_
          · (intro wS hSw; go_simp; (try simp only []))
          try simp only [Act.put]
          refine wpAnyH_take (i := 2) (v := ?_) rfl (by kernel_rfl) (by kernel_rfl) (by kernel_rfl) (fun _ _ _ h => h) (Or.inl ⟨by kernel_rfl, ?_⟩) (by assumption) ?_
          rotate_left 1
          · (intro wS hSw; go_simp; (try with_reducible rfl))
          try simp only [Act.put]
          refine wpAnyH_take (i := 3) (v := ?_) rfl (by kernel_rfl) (by kernel_rfl) (by kernel_rfl) (fun _ _ _ h => h) (Or.inl ⟨by kernel_rfl, ?_⟩) (by assumption) ?_
          rotate_left 1
          · (intro wS hSw; have c0 := cell_still b0 hSw; have c1 := cell_still b1 hSw; have c2 := cell_still b2 hSw; go_simp; (try with_reducible rfl))
          try simp only [Act.put]
          refine wpAnyH_take (i := 4) (v := ?_) rfl (by kernel_rfl) (by kernel_rfl) (by kernel_rfl) (fun _ _ _ h => h) (Or.inl ⟨by kernel_rfl, ?_⟩) (by assumption) ?_
          rotate_left 1
          · (intro wS hSw; go_simp; (try with_reducible rfl))
          try simp only [Act.put]
          refine wpAnyH_take (i := 6) (v := ?_) rfl (by kernel_rfl) (by kernel_rfl) (by kernel_rfl) (fun _ _ _ h => h) (Or.inl ⟨by kernel_rfl, ?_⟩) (by assumption) ?_
          rotate_left 1
          · (intro wS hSw; go_simp; (try with_reducible rfl))
          try simp only [Act.put]
          refine wpAnyH_take (i := 7) (v := ?_) rfl (by kernel_rfl) (by kernel_rfl) (by kernel_rfl) (fun _ _ _ h => h) (Or.inl ⟨by kernel_rfl, ?_⟩) (by assumption) ?_
          rotate_left 1
          · (intro wS hSw; have c0 := cell_still m2 hSw; go_simp; (try with_reducible rfl))
          try simp only [Act.put]
          refine wpAnyH_take (i := 8) (v := ?_) rfl (by kernel_rfl) (by kernel_rfl) (by kernel_rfl) (fun _ _ _ h => h) (Or.inl ⟨by kernel_rfl, ?_⟩) (by assumption) ?_
          rotate_left 1
          · (intro wS hSw; go_simp; (try with_reducible rfl))
          try simp only [Act.put]
          refine wpAnyH_take (i := 9) (v := ?_) rfl (by kernel_rfl) (by kernel_rfl) (by kernel_rfl) (fun _ _ _ h => h) (Or.inl ⟨by kernel_rfl, ?_⟩) (by assumption) ?_
          rotate_left 1
          · (intro wS hSw; go_simp; (try with_reducible rfl))
          try simp only [Act.put]
          refine wpAnyH_take (i := 10) (v := .int .i64 (QB : Int)) rfl (by kernel_rfl) (by kernel_rfl) (by kernel_rfl) (fun _ _ _ h => h) (Or.inl ⟨by kernel_rfl, ?_⟩) (by assumption) ?_
          · (intro wS hSw; go_simp; (try simp only [kwq]))
          try simp only [Act.put]
          refine wpAnyH_take (i := 11) (v := ?_) rfl (by kernel_rfl) (by kernel_rfl) (by kernel_rfl) (fun _ _ _ h => h) (Or.inl ⟨by kernel_rfl, ?_⟩) (by assumption) ?_
          rotate_left 1
          · (intro wS hSw; go_simp; (try with_reducible rfl))
          try simp only [Act.put]
          refine wpAnyH_take (i := 12) (v := ?_) rfl (by kernel_rfl) (by kernel_rfl) (by kernel_rfl) (fun _ _ _ h => h) (Or.inl ⟨by kernel_rfl, ?_⟩) (by assumption) ?_
          rotate_left 1
          · (intro wS hSw; go_simp; (try with_reducible rfl))
          try simp only [Act.put]
          refine wpAnyH_take (i := 13) (v := .int .i64 (QB : Int)) rfl (by kernel_rfl) (by kernel_rfl) (by kernel_rfl) (fun _ _ _ h => h) (Or.inl ⟨by kernel_rfl, ?_⟩) (by assumption) ?_
          · (intro wS hSw; go_simp; (try simp only [kwq]))
          try simp only [Act.put]
          refine wpAnyH_take (i := 14) (v := ?_) rfl (by kernel_rfl) (by kernel_rfl) (by kernel_rfl) (fun _ _ _ h => h) (Or.inl ⟨by kernel_rfl, ?_⟩) (by assumption) ?_
          rotate_left 1
          · (intro wS hSw; go_simp; (try with_reducible rfl))
          try simp only [Act.put]
          refine wpAnyH_take (i := 15) (v := .int .i64 ((QB : Int) + (b : Int))) rfl (by kernel_rfl) (by kernel_rfl) (by kernel_rfl) (fun _ _ _ h => h) (Or.inl ⟨by kernel_rfl, ?_⟩) (by assumption) ?_
          · (intro wS hSw; go_simp; (try simp only [kws]))
          try simp only [Act.put]
          refine wpAnyH_take (i := 16) (v := ?_) rfl (by kernel_rfl) (by kernel_rfl) (by kernel_rfl) (fun _ _ _ h => h) (Or.inl ⟨by kernel_rfl, ?_⟩) (by assumption) ?_
          rotate_left 1
          · (intro wS hSw; go_simp; (try with_reducible rfl))
          try simp only [Act.put]
          refine wpAnyH_ready (rs := [5]) (by kernel_rfl) (by simp) ?_
          refine AllReadyH.cons rfl (fun K hK => ?_) AllReadyH.nil
          go_simp
          refine hK.out _ _ (by show wc.grownBy _ none; (first | assumption | (repeat (first | assumption | exact grown_refl _ | refine grown_drew ?_ | refine grown_trans ?_ (grown_new _ _))))) (fun hHeld => ?_)
          clear hK K
          try simp only [Act.put]
          have zD : ((wc.alloc (.cells #[.int .i64 1, .int .i64 b] 3)).drew).heap[wc.heap.size]? = some (.cells #[.int .i64 1, .int .i64 b] 3 (0, 0)) := heap_alloc_new wc (.cells #[.int .i64 1, .int .i64 b] 3)
          generalize eD : (wc.alloc (.cells #[.int .i64 1, .int .i64 b] 3)).drew = v1 at zD hHeld ⊢
          have hD : v1.heap[wc.heap.size]? = some (.cells #[.int .i64 1, .int .i64 b] 3 (0, 0)) := zD
          have g1 : wc.grownBy v1 none := hHeld
          clear zD eD
          refine wpAnyH_take (i := 17) (v := ?_) rfl (by kernel_rfl) (by kernel_rfl) (by kernel_rfl) (fun _ _ _ h => h) (Or.inl ⟨by kernel_rfl, ?_⟩) (by assumption) ?_
          rotate_left 1
          · (intro wS hSw; go_simp; (try with_reducible rfl))
          try simp only [Act.put]
          refine wpAnyH_ready (rs := [18]) (by kernel_rfl) (by simp) ?_
          refine AllReadyH.cons rfl (fun K hK => ?_) AllReadyH.nil
          rw [if_pos (by kernel_rfl)]
          go_simp
          refine (SA.out v1 g1 hD).mono ?_
          rintro e v2 ⟨rfl, y2⟩
          refine hK.out _ _ (grown_trans g1 y2) (fun hHeld => ?_)
          clear hK K
          try simp only [Act.put]
          have g2 : wc.grownBy v2 none := hHeld
          refine wpAnyH_take (i := 19) (v := ?_) rfl (by kernel_rfl) (by kernel_rfl) (by kernel_rfl) (fun _ _ _ h => h) (Or.inl ⟨by kernel_rfl, ?_⟩) (by assumption) ?_
          rotate_left 1
          · (intro wS hSw; go_simp; (try with_reducible rfl))
          try simp only [Act.put]
          refine wpAnyH_take (i := 20) (v := ?_) rfl (by kernel_rfl) (by kernel_rfl) (by kernel_rfl) (fun _ _ _ h => h) (Or.inl ⟨by kernel_rfl, ?_⟩) (by assumption) ?_
          rotate_left 1
          · (intro wS hSw; go_simp; (try with_reducible rfl))
          try simp only [Act.put]
          refine wpAnyH_ready (rs := [21]) (by kernel_rfl) (by simp) ?_
          refine AllReadyH.cons rfl (fun K hK => ?_) AllReadyH.nil
          rw [if_pos (by kernel_rfl)]
          go_simp
          refine (LV.out v2 (grown_trans G2.out (grown_trans g3 g2))).mono ?_
          rintro e v3 ⟨rfl, y3⟩
          refine hK.out _ _ (grown_trans g2 y3) (fun hHeld => ?_)
          clear hK K
          try simp only [Act.put]
          have g4 : wc.grownBy v3 none := hHeld
          refine wpAnyH_take (i := 22) (v := ?_) rfl (by kernel_rfl) (by kernel_rfl) (by kernel_rfl) (fun _ _ _ h => h) (Or.inl ⟨by kernel_rfl, ?_⟩) (by assumption) ?_
          rotate_left 1
          · (intro wS hSw; go_simp; (try with_reducible rfl))
          try simp only [Act.put]
          refine wpAnyH_take (i := 23) (v := ?_) rfl (by kernel_rfl) (by kernel_rfl) (by kernel_rfl) (fun _ _ _ h => h) (Or.inl ⟨by kernel_rfl, ?_⟩) (by assumption) ?_
          rotate_left 1
          · (intro wS hSw; go_simp; (try with_reducible rfl))
          try simp only [Act.put]
          refine wpAnyH_done (by kernel_rfl) ?_ _
          go_simp
          go_wp2
          go_ret
          exact ⟨rfl, grown_below (grown_trans G2.out (grown_trans g3 g4))⟩
  · have hcase : bb = false ∨ (bb = true ∧ ((x.length : Int) != 2) = true) ∨ (bb = true ∧ ((x.length : Int) != 2) = false ∧ ((y.length : Int) != 2) = true) := by
      cases bb with
      | false => exact .inl rfl
      | true =>
        by_cases h1 : x.length = 2
        · by_cases h2 : y.length = 2
          · exact absurd ⟨rfl, h1, h2⟩ hgo
          · exact .inr (.inr ⟨rfl, by simp [h1], by simpa using (fun h => h2 (by omega) : ¬ (y.length : Int) = 2)⟩)
        · exact .inr (.inl ⟨rfl, by simpa using (fun h => h1 (by omega) : ¬ (x.length : Int) = 2)⟩)
    clear hgo
    rcases hcase with rfl | ⟨rfl, b1⟩ | ⟨rfl, b1, b2⟩
    all_goals
      go_wp2_with fail
      refine L1.out.mono ?_
      rintro e w2 ⟨rfl, hg2⟩
      go_wp2
      go_ret
      exact ⟨rfl, grown_below (grown_trans G1.out hg2)⟩
end Go.Proofs.YtfladhogkhhlcaaGreatDoor
