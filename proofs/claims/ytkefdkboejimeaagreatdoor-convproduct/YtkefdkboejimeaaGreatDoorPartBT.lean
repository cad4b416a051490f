/- Joined texts: CvLive. -/
import Derived.Test.YtkefdkboejimeaaGreatDoorPartBR
import Derived.Test.YtkefdkboejimeaaGreatDoorPartBS
namespace Go.Proofs.YtkefdkboejimeaaGreatDoor

open Go.RowKit

set_option maxRecDepth 100000 in
set_option maxHeartbeats 4000000 in
theorem small13_any (u : Sl) (ps : List (Ten × Tq)) (w : World) (hv : TensIn w u.v ps) : Calls Tryz.prog 7 #[.slice u.a u.n u.c] w (Told w) := by
  obtain ⟨xa, xc, e1, p1, p2, p3⟩ := hv.vals.form
  rw [List.length_map] at e1 p1 p3
  obtain ⟨ua, un, uc⟩ := u
  simp only [Sl.v, Value.slice.injEq] at e1
  obtain ⟨rfl, rfl, rfl⟩ := e1
  have HV := hide hv
  clear hv
  go_enter Tryz.func7, Tryz.ntmps7
  go_wp2_with fail
  go_loopw [3] (fun i wr => w.grownBy wr none ∧ ∃ (k : Nat), k ≤ ps.length ∧ i = .int .i64 k) (fun i _ => ps.length - (intOf i).toNat)
  case atStart => exact ⟨grown_refl _, 0, Nat.zero_le _, rfl⟩
  case round =>
    obtain ⟨hg, k, hk, rfl⟩ := hrel
    have HG := hide hg
    by_cases hlt : k < ps.length
    · obtain ⟨b, off, rfl⟩ := HV.out.vals.addr (k := k) (by rw [List.length_map]; exact hlt)
      obtain ⟨-, -, a2⟩ := (HV.out.more hg).at k hlt
      obtain ⟨⟨ta, tn, tc⟩, hp⟩ : ∃ p, p = ps[k].1.tv := ⟨_, rfl⟩
      rw [← hp] at a2
      simp only at a2
      clear hp hg
      by_cases hb : 600 < tn
      · have hb' : (600 : Int) < tn := by omega
        go_wp2
        go_ret
        exact ⟨_, rfl, HG.out⟩
      · have hb' : ¬ (600 : Int) < tn := by omega
        go_wp2_with fail
        go_roundw
        case rel => exact ⟨HG.out, k + 1, by omega, by go_num⟩
        case measure => simp [intOf]; omega
    · obtain rfl : k = ps.length := by omega
      clear hg
      by_cases h6 : ps.length ≤ 6
      · have h6' : (ps.length : Int) ≤ 6 := by omega
        go_wp2
        go_ret
        exact ⟨_, rfl, HG.out⟩
      · have h6' : ¬ (ps.length : Int) ≤ 6 := by omega
        go_wp2
        go_ret
        exact ⟨_, rfl, HG.out⟩

theorem live_cv : cvR 1 1 [1065353216, 1073741824, 1077936128, 1082130432] [1065353216, 1065353216, 1065353216, 1065353216] = .ok (1, [1, 1, 1, 1], [1092616192]) := by kernel_rfl
theorem live_mp (s : Sl) : poolR (mostL 1) (inAt ⟨#[77, 97, 120, 80, 111, 111, 108]⟩ ⟨#[107, 101, 114, 110, 101, 108, 95, 115, 104, 97, 112, 101]⟩ s [2, 2]) 1 [1, 1, 2, 2] [1065353216, 1073741824, 1077936128, 1082130432] = .ok (1, [1, 1, 1, 1], [1082130432]) := by kernel_rfl

theorem xw_strs {w : World} {B : Nat} (h : w.heap[B]? = some (.cells #[.string ⟨#[120]⟩, .string ⟨#[119]⟩] 9 (0, 0))) : IsStrs w (.slice (some ⟨B, 0, none⟩) 2 2) [⟨#[120]⟩, ⟨#[119]⟩] := lit_isLG (te := 9) (bytes := 16) (xs := [⟨#[120]⟩, ⟨#[119]⟩]) scell_len h rfl rfl (Nat.le_of_ble_eq_true rfl) (Nat.le_of_ble_eq_true rfl)

theorem mp_check (s : Sl) (L : List Int) : checkF (ruleF ⟨#[77, 97, 120, 80, 111, 111, 108]⟩) ⟨#[77, 97, 120, 80, 111, 111, 108]⟩ [⟨#[120]⟩] ⟨#[122]⟩ (inAt ⟨#[77, 97, 120, 80, 111, 111, 108]⟩ ⟨#[107, 101, 114, 110, 101, 108, 95, 115, 104, 97, 112, 101]⟩ s L).xs (inAt ⟨#[77, 97, 120, 80, 111, 111, 108]⟩ ⟨#[107, 101, 114, 110, 101, 108, 95, 115, 104, 97, 112, 101]⟩ s L).cs = 0 := by kernel_rfl
theorem mp_then (op : ByteArray) (s : Sl) (L : List Int) : thenL ((inAt op ⟨#[107, 101, 114, 110, 101, 108, 95, 115, 104, 97, 112, 101]⟩ s L).xs.find? (isA ⟨#[116, 104, 101, 110]⟩ 3)) = [] := by kernel_rfl
theorem mp_str (op : ByteArray) (s : Sl) (L d : List Int) : At.ints (inAt op ⟨#[107, 101, 114, 110, 101, 108, 95, 115, 104, 97, 112, 101]⟩ s L) ⟨#[115, 116, 114, 105, 100, 101, 115]⟩ d = d := by kernel_rfl
theorem mp_dil (op : ByteArray) (s : Sl) (L d : List Int) : At.ints (inAt op ⟨#[107, 101, 114, 110, 101, 108, 95, 115, 104, 97, 112, 101]⟩ s L) ⟨#[100, 105, 108, 97, 116, 105, 111, 110, 115]⟩ d = d := by kernel_rfl
theorem mp_pad (op : ByteArray) (s : Sl) (L d : List Int) : At.ints (inAt op ⟨#[107, 101, 114, 110, 101, 108, 95, 115, 104, 97, 112, 101]⟩ s L) ⟨#[112, 97, 100, 115]⟩ d = d := by kernel_rfl
theorem mp_ker (op : ByteArray) (s : Sl) (L d : List Int) : At.ints (inAt op ⟨#[107, 101, 114, 110, 101, 108, 95, 115, 104, 97, 112, 101]⟩ s L) ⟨#[107, 101, 114, 110, 101, 108, 95, 115, 104, 97, 112, 101]⟩ d = L := by kernel_rfl

set_option maxRecDepth 100000 in
set_option maxHeartbeats 8000000 in
theorem live13_any (w : World) (hl : Laid w) : Calls Tryz.prog 8 #[] w fun e w' => e = .returned (.bool true) ∧ w.grownBy w' none := by
  have HL := hide hl
  clear hl
  obtain ⟨V, hV⟩ : ∃ V, V = (((w.alloc (.cells #[.int .i64 1, .int .i64 1, .int .i64 2, .int .i64 2] 3)).alloc (.cells #[.int .i64 1065353216, .int .i64 1073741824, .int .i64 1077936128, .int .i64 1082130432] 2)).alloc (.cells #[.int .i64 1, .slice (some ⟨w.heap.size, 0, none⟩) 4 4, .slice (some ⟨w.heap.size + 1, 0, none⟩) 4 4] 25)).alloc (.cells #[.int .i64 1, .int .i64 1, .int .i64 2, .int .i64 2] 3) := ⟨_, rfl⟩
  obtain ⟨W, hW⟩ : ∃ W, W = (((V.alloc (.cells #[.int .i64 1065353216, .int .i64 1065353216, .int .i64 1065353216, .int .i64 1065353216] 2)).alloc (.cells #[.int .i64 1, .slice (some ⟨w.heap.size + 1 + 1 + 1, 0, none⟩) 4 4, .slice (some ⟨w.heap.size + 1 + 1 + 1 + 1, 0, none⟩) 4 4] 25)).alloc (.cells #[.string ⟨#[120]⟩, .string ⟨#[119]⟩] 9)).alloc (.cells #[.int .i64 1, .slice (some ⟨w.heap.size, 0, none⟩) 4 4, .slice (some ⟨w.heap.size + 1, 0, none⟩) 4 4, .int .i64 1, .slice (some ⟨w.heap.size + 1 + 1 + 1, 0, none⟩) 4 4, .slice (some ⟨w.heap.size + 1 + 1 + 1 + 1, 0, none⟩) 4 4] 25) := ⟨_, rfl⟩
  obtain ⟨b0, b1, b2, b3, gV, zV⟩ := four_boxes w _ _ _ _ V hV
  obtain ⟨b4, b5, b6, b7, gW, zW⟩ := four_boxes V _ _ _ _ W hW
  rw [zV] at b4 b5 b6 b7
  have GW := hide (grown_trans gV gW)
  have BX := hide (box_kept b2 gW)
  have ID := hide (blk_ints (zs := [1, 1, 2, 2]) (box_kept b0 gW) (by simp) (by simp))
  have IX := hide (blk_ints (zs := [1065353216, 1073741824, 1077936128, 1082130432]) (box_kept b1 gW) (by simp) (by simp))
  have E1 := hide (cv_do ⟨#[122]⟩ ⟨some ⟨w.heap.size + 1 + 1 + 1 + 1 + 1 + 1, 0, none⟩, 2, 2⟩ ⟨#[120]⟩ ⟨#[119]⟩ (by kernel_rfl) (by decide) ⟨some ⟨w.heap.size + 1 + 1 + 1 + 1 + 1 + 1 + 1, 0, none⟩, 2, 2⟩ ⟨1, ⟨some ⟨w.heap.size, 0, none⟩, 4, 4⟩, ⟨some ⟨w.heap.size + 1, 0, none⟩, 4, 4⟩⟩ ⟨1, ⟨some ⟨w.heap.size + 1 + 1 + 1, 0, none⟩, 4, 4⟩, ⟨some ⟨w.heap.size + 1 + 1 + 1 + 1, 0, none⟩, 4, 4⟩⟩ [1065353216, 1073741824, 1077936128, 1082130432] [1065353216, 1065353216, 1065353216, 1065353216] W (HL.out.more GW.out) (xw_strs b6) (two_tens ⟨1, ⟨some ⟨w.heap.size, 0, none⟩, 4, 4⟩, ⟨some ⟨w.heap.size + 1, 0, none⟩, 4, 4⟩⟩ ⟨1, ⟨some ⟨w.heap.size + 1 + 1 + 1, 0, none⟩, 4, 4⟩, ⟨some ⟨w.heap.size + 1 + 1 + 1 + 1, 0, none⟩, 4, 4⟩⟩ b7 ID.out IX.out (blk_ints (zs := [1, 1, 2, 2]) (box_kept b3 gW) (by simp) (by simp)) (blk_ints (zs := [1065353216, 1065353216, 1065353216, 1065353216]) b4 (by simp) (by simp))) rfl rfl)
  rw [show cvR (Ten.ty ⟨1, ⟨some ⟨w.heap.size, 0, none⟩, 4, 4⟩, ⟨some ⟨w.heap.size + 1, 0, none⟩, 4, 4⟩⟩) (Ten.ty ⟨1, ⟨some ⟨w.heap.size + 1 + 1 + 1, 0, none⟩, 4, 4⟩, ⟨some ⟨w.heap.size + 1 + 1 + 1 + 1, 0, none⟩, 4, 4⟩⟩) [1065353216, 1073741824, 1077936128, 1082130432] [1065353216, 1065353216, 1065353216, 1065353216] = .ok (1, [1, 1, 1, 1], [1092616192]) from live_cv] at E1
  unfold nval nilS at E1
  simp only at E1
  obtain ⟨x0, x1, x2⟩ := ten_cells BX.out
  obtain ⟨y0, y1, y2⟩ := ten_cells b5
  rw [hW, hV] at x0 x1 x2 y0 y1 y2
  clear b0 b1 b2 b3 b4 b5 b6 b7 gV gW zW zV
  go_enter Tryz.func8, Tryz.ntmps8
  go_wp2_with fail
  rw [← hV, ← hW]
  clear hV hW x0 x1 x2 y0 y1 y2
  refine E1.out.mono ?_
  rintro e w1 ⟨hg1, ⟨ty, ⟨da, dn, dc⟩, ⟨ta, tn, tc⟩⟩, ht, rfl, od, ot⟩
  simp only at ht
  subst ht
  unfold tval
  simp only
  obtain ⟨p, hp⟩ : ∃ p, p = w1.alloc (.cells #[.int .i64 1, .slice da dn dc, .slice ta tn tc] 25) := ⟨_, rfl⟩
  obtain ⟨bp, zp⟩ := new_alloc (.cells #[.int .i64 1, .slice da dn dc, .slice ta tn tc] 25) (x := w1) rfl
  rw [← hp] at bp zp
  have gp : w1.grownBy p none := by rw [hp]; exact grown_new _ _
  obtain ⟨q, hq⟩ : ∃ q, q = (((p.alloc (.cells #[.string ⟨#[120]⟩] 9)).alloc (.cells #[.int .i64 2, .int .i64 2] 2)).alloc (.cells #[.string ⟨#[107, 101, 114, 110, 101, 108, 95, 115, 104, 97, 112, 101]⟩, .int .i64 7, .int .i64 0, .int .i64 0, .string ⟨#[]⟩, .int .i64 0, .slice none 0 0, .slice none 0 0, .slice (some ⟨w1.heap.size + 1 + 1, 0, none⟩) 2 2] 38)).alloc (.cells #[.int .i64 1, .slice (some ⟨w.heap.size, 0, none⟩) 4 4, .slice (some ⟨w.heap.size + 1, 0, none⟩) 4 4] 25) := ⟨_, rfl⟩
  obtain ⟨c0, c1, c2, c3, gq, zq⟩ := four_boxes p _ _ _ _ q hq
  rw [zp] at c0 c1 c2 c3
  have GP := hide (grown_trans GW.out (grown_trans hg1 gp))
  have GQ := hide (grown_trans GP.out gq)
  have gwq := grown_trans (grown_trans hg1 gp) gq
  have IK := blk_ints (zs := [2, 2]) c1 (by simp) (by simp)
  have AA := in_attrs (s := ⟨some ⟨w1.heap.size + 1 + 1, 0, none⟩, 2, 2⟩) c2
  have E2 := hide (mxp_do ⟨⟨#[77, 97, 120, 80, 111, 111, 108]⟩, ⟨#[]⟩, ⟨some ⟨w1.heap.size + 1, 0, none⟩, 1, 1⟩, ⟨#[122]⟩, ⟨some ⟨w1.heap.size + 1 + 1 + 1, 0, none⟩, 1, 1⟩⟩ (inAt ⟨#[77, 97, 120, 80, 111, 111, 108]⟩ ⟨#[107, 101, 114, 110, 101, 108, 95, 115, 104, 97, 112, 101]⟩ ⟨some ⟨w1.heap.size + 1 + 1, 0, none⟩, 2, 2⟩ [2, 2]) ⟨#[120]⟩ rfl ⟨some ⟨w1.heap.size + 1 + 1 + 1 + 1, 0, none⟩, 1, 1⟩ ⟨1, ⟨some ⟨w.heap.size, 0, none⟩, 4, 4⟩, ⟨some ⟨w.heap.size + 1, 0, none⟩, 4, 4⟩⟩ [1, 1, 2, 2] [1065353216, 1073741824, 1077936128, 1082130432] q (HL.out.more GQ.out) (in_in (x_strs c0) IK AA) (in_ok IK AA) (mp_check _ _) (mp_then _ _ _) (by show 1 ≤ 1048576; omega) (one_ten ⟨1, ⟨some ⟨w.heap.size, 0, none⟩, 4, 4⟩, ⟨some ⟨w.heap.size + 1, 0, none⟩, 4, 4⟩⟩ c3 (ID.out.more gwq) (IX.out.more gwq)) (mp_str _ _ _ _) (mp_dil _ _ _ _) (mp_pad _ _ _ _) (fun d => (mp_ker _ _ _ d).trans (mp_ker _ _ _ []).symm))
  rw [show poolR (mostL 1) (inAt ⟨#[77, 97, 120, 80, 111, 111, 108]⟩ ⟨#[107, 101, 114, 110, 101, 108, 95, 115, 104, 97, 112, 101]⟩ ⟨some ⟨w1.heap.size + 1 + 1, 0, none⟩, 2, 2⟩ [2, 2]) (Ten.ty ⟨1, ⟨some ⟨w.heap.size, 0, none⟩, 4, 4⟩, ⟨some ⟨w.heap.size + 1, 0, none⟩, 4, 4⟩⟩) [1, 1, 2, 2] [1065353216, 1073741824, 1077936128, 1082130432] = .ok (1, [1, 1, 1, 1], [1082130432]) from live_mp _] at E2
  unfold nval at E2
  simp only at E2
  have T1' := hide (ot.ints.more (grown_trans gp gq))
  have BP := hide (box_kept bp gq)
  have g3 : p.grownBy (((p.alloc (.cells #[.string ⟨#[120]⟩] 9)).alloc (.cells #[.int .i64 2, .int .i64 2] 2)).alloc (.cells #[.string ⟨#[107, 101, 114, 110, 101, 108, 95, 115, 104, 97, 112, 101]⟩, .int .i64 7, .int .i64 0, .int .i64 0, .string ⟨#[]⟩, .int .i64 0, .slice none 0 0, .slice none 0 0, .slice (some ⟨w1.heap.size + 1 + 1, 0, none⟩) 2 2] 38)) none := grown_trans (grown_new _ _) (grown_trans (grown_new _ _) (grown_new _ _))
  obtain ⟨x0, x1, x2⟩ := ten_cells (box_kept BX.out (grown_trans (grown_trans hg1 gp) g3))
  rw [hp] at x0 x1 x2
  clear bp zp gp c0 c1 c2 c3 gq zq od ot E1 hg1 gwq IK AA g3
  go_wp2_with fail
  rw [← hp, ← hq]
  clear hp hq x0 x1 x2
  refine E2.out.mono ?_
  rintro e w2 ⟨hg2, ⟨ty, ⟨ea, en, ec⟩, ⟨va, vn, vc⟩⟩, ht, rfl, od, ot⟩
  simp only at ht
  subst ht
  unfold tval
  simp only
  obtain ⟨p2, hp2⟩ : ∃ p, p = w2.alloc (.cells #[.int .i64 1, .slice ea en ec, .slice va vn vc] 25) := ⟨_, rfl⟩
  obtain ⟨bp2, zp2⟩ := new_alloc (.cells #[.int .i64 1, .slice ea en ec, .slice va vn vc] 25) (x := w2) rfl
  rw [← hp2] at bp2 zp2
  have gp2 : w2.grownBy p2 none := by rw [hp2]; exact grown_new _ _
  have I1 := T1'.out.more (grown_trans hg2 gp2)
  have I2 := ot.ints.more gp2
  obtain ⟨_, _, u1, -, -, -⟩ := I1.sl
  obtain ⟨_, _, u2, -, -, -⟩ := I2.sl
  simp only [Sl.v, Value.slice.injEq, List.length_cons, List.length_nil, Nat.zero_add] at u1 u2 I1 I2
  obtain ⟨rfl, rfl, rfl⟩ := u1
  obtain ⟨rfl, rfl, rfl⟩ := u2
  obtain ⟨r1, o1, rfl⟩ := addr_of I1 (by simp)
  obtain ⟨r2, o2, rfl⟩ := addr_of I2 (by simp)
  have i1 := item_at I1 (k := 0) (by simp)
  have i2 := item_at I2 (k := 0) (by simp)
  simp only [List.getD_cons_zero, Nat.add_zero] at i1 i2
  obtain ⟨x0, x1, x2⟩ := ten_cells (box_kept BP.out (grown_trans hg2 gp2))
  obtain ⟨y0, y1, y2⟩ := ten_cells bp2
  have GZ := hide (grown_trans GQ.out (grown_trans hg2 gp2))
  rw [hp2] at x0 x1 x2 y0 y1 y2 i1 i2
  have j1 : (0 : Int) < 1 := by decide
  clear bp2 zp2 gp2 od ot hg2 E2 I1 I2
  go_wp2
  rw [← hp2]
  go_ret
  exact ⟨rfl, GZ.out⟩

end Go.Proofs.YtkefdkboejimeaaGreatDoor
