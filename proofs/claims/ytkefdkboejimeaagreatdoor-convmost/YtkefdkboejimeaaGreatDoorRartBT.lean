/- Joined texts: CvLive, LCOneW, CvMost, LCMostW. -/
import Derived.Test.YtkefdkboejimeaaGreatDoorRartBR
import Derived.Test.YtkefdkboejimeaaGreatDoorRartBS
import Derived.Test.YtkefdkboejimeaaGreatDoorRartAS
import Derived.Deep.CutRange
namespace Go.Proofs.YtkefdkboejimeaaGreatDoor

open Go.RowKit

set_option maxRecDepth 100000 in
set_option maxHeartbeats 4000000 in
theorem small13_any (u : Sl) (ps : List (Ten × Tq)) (w : World) (hv : TensIn w u.v ps) : Calls Tryz.prog 7 #[.slice u.a u.n u.c] w (Told w) := by
  obtain ⟨xa, xc, e1, p1, p2, p3⟩ := hv.vals.form
  rw [List.length_map] at e1 p1 p3
  obtain ⟨ua, un, uc⟩ := u
  simp only [Sl.v, Value.slice.injEq] at e1
  obtain ⟨rfl, rfl, rfl⟩ := e1
  have HV := hide hv
  clear hv
  go_enter Tryz.func7, Tryz.ntmps7
  go_wp2_with fail
  go_loopw [3] (fun i wr => w.grownBy wr none ∧ ∃ (k : Nat), k ≤ ps.length ∧ i = .int .i64 k) (fun i _ => ps.length - (intOf i).toNat)
  case atStart => exact ⟨grown_refl _, 0, Nat.zero_le _, rfl⟩
  case round =>
    obtain ⟨hg, k, hk, rfl⟩ := hrel
    have HG := hide hg
    by_cases hlt : k < ps.length
    · obtain ⟨b, off, rfl⟩ := HV.out.vals.addr (k := k) (by rw [List.length_map]; exact hlt)
      obtain ⟨-, -, a2⟩ := (HV.out.more hg).at k hlt
      obtain ⟨⟨ta, tn, tc⟩, hp⟩ : ∃ p, p = ps[k].1.tv := ⟨_, rfl⟩
      rw [← hp] at a2
      simp only at a2
      clear hp hg
      by_cases hb : 600 < tn
      · have hb' : (600 : Int) < tn := by omega
        go_wp2
        go_ret
        exact ⟨_, rfl, HG.out⟩
      · have hb' : ¬ (600 : Int) < tn := by omega
        go_wp2_with fail
        go_roundw
        case rel => exact ⟨HG.out, k + 1, by omega, by go_num⟩
        case measure => simp [intOf]; omega
    · obtain rfl : k = ps.length := by omega
      clear hg
      by_cases h6 : ps.length ≤ 6
      · have h6' : (ps.length : Int) ≤ 6 := by omega
        go_wp2
        go_ret
        exact ⟨_, rfl, HG.out⟩
      · have h6' : ¬ (ps.length : Int) ≤ 6 := by omega
        go_wp2
        go_ret
        exact ⟨_, rfl, HG.out⟩

theorem live_cv : cvR 1 1 [1065353216, 1073741824, 1077936128, 1082130432] [1065353216, 1065353216, 1065353216, 1065353216] = .ok (1, [1, 1, 1, 1], [1092616192]) := by kernel_rfl
theorem live_mp (s : Sl) : poolR (mostL 1) (inAt ⟨#[77, 97, 120, 80, 111, 111, 108]⟩ ⟨#[107, 101, 114, 110, 101, 108, 95, 115, 104, 97, 112, 101]⟩ s [2, 2]) 1 [1, 1, 2, 2] [1065353216, 1073741824, 1077936128, 1082130432] = .ok (1, [1, 1, 1, 1], [1082130432]) := by kernel_rfl

theorem xw_strs {w : World} {B : Nat} (h : w.heap[B]? = some (.cells #[.string ⟨#[120]⟩, .string ⟨#[119]⟩] 9 (0, 0))) : IsStrs w (.slice (some ⟨B, 0, none⟩) 2 2) [⟨#[120]⟩, ⟨#[119]⟩] := lit_isLG (te := 9) (bytes := 16) (xs := [⟨#[120]⟩, ⟨#[119]⟩]) scell_len h rfl rfl (Nat.le_of_ble_eq_true rfl) (Nat.le_of_ble_eq_true rfl)

theorem mp_check (s : Sl) (L : List Int) : checkF (ruleF ⟨#[77, 97, 120, 80, 111, 111, 108]⟩) ⟨#[77, 97, 120, 80, 111, 111, 108]⟩ [⟨#[120]⟩] ⟨#[122]⟩ (inAt ⟨#[77, 97, 120, 80, 111, 111, 108]⟩ ⟨#[107, 101, 114, 110, 101, 108, 95, 115, 104, 97, 112, 101]⟩ s L).xs (inAt ⟨#[77, 97, 120, 80, 111, 111, 108]⟩ ⟨#[107, 101, 114, 110, 101, 108, 95, 115, 104, 97, 112, 101]⟩ s L).cs = 0 := by kernel_rfl
theorem mp_then (op : ByteArray) (s : Sl) (L : List Int) : thenL ((inAt op ⟨#[107, 101, 114, 110, 101, 108, 95, 115, 104, 97, 112, 101]⟩ s L).xs.find? (isA ⟨#[116, 104, 101, 110]⟩ 3)) = [] := by kernel_rfl
theorem mp_str (op : ByteArray) (s : Sl) (L d : List Int) : At.ints (inAt op ⟨#[107, 101, 114, 110, 101, 108, 95, 115, 104, 97, 112, 101]⟩ s L) ⟨#[115, 116, 114, 105, 100, 101, 115]⟩ d = d := by kernel_rfl
theorem mp_dil (op : ByteArray) (s : Sl) (L d : List Int) : At.ints (inAt op ⟨#[107, 101, 114, 110, 101, 108, 95, 115, 104, 97, 112, 101]⟩ s L) ⟨#[100, 105, 108, 97, 116, 105, 111, 110, 115]⟩ d = d := by kernel_rfl
theorem mp_pad (op : ByteArray) (s : Sl) (L d : List Int) : At.ints (inAt op ⟨#[107, 101, 114, 110, 101, 108, 95, 115, 104, 97, 112, 101]⟩ s L) ⟨#[112, 97, 100, 115]⟩ d = d := by kernel_rfl
theorem mp_ker (op : ByteArray) (s : Sl) (L d : List Int) : At.ints (inAt op ⟨#[107, 101, 114, 110, 101, 108, 95, 115, 104, 97, 112, 101]⟩ s L) ⟨#[107, 101, 114, 110, 101, 108, 95, 115, 104, 97, 112, 101]⟩ d = L := by kernel_rfl

set_option maxRecDepth 100000 in
set_option maxHeartbeats 8000000 in
theorem live13_any (w : World) (hl : Laid w) : Calls Tryz.prog 8 #[] w fun e w' => e = .returned (.bool true) ∧ w.grownBy w' none := by
  have HL := hide hl
  clear hl
  obtain ⟨V, hV⟩ : ∃ V, V = (((w.alloc (.cells #[.int .i64 1, .int .i64 1, .int .i64 2, .int .i64 2] 3)).alloc (.cells #[.int .i64 1065353216, .int .i64 1073741824, .int .i64 1077936128, .int .i64 1082130432] 2)).alloc (.cells #[.int .i64 1, .slice (some ⟨w.heap.size, 0, none⟩) 4 4, .slice (some ⟨w.heap.size + 1, 0, none⟩) 4 4] 25)).alloc (.cells #[.int .i64 1, .int .i64 1, .int .i64 2, .int .i64 2] 3) := ⟨_, rfl⟩
  obtain ⟨W, hW⟩ : ∃ W, W = (((V.alloc (.cells #[.int .i64 1065353216, .int .i64 1065353216, .int .i64 1065353216, .int .i64 1065353216] 2)).alloc (.cells #[.int .i64 1, .slice (some ⟨w.heap.size + 1 + 1 + 1, 0, none⟩) 4 4, .slice (some ⟨w.heap.size + 1 + 1 + 1 + 1, 0, none⟩) 4 4] 25)).alloc (.cells #[.string ⟨#[120]⟩, .string ⟨#[119]⟩] 9)).alloc (.cells #[.int .i64 1, .slice (some ⟨w.heap.size, 0, none⟩) 4 4, .slice (some ⟨w.heap.size + 1, 0, none⟩) 4 4, .int .i64 1, .slice (some ⟨w.heap.size + 1 + 1 + 1, 0, none⟩) 4 4, .slice (some ⟨w.heap.size + 1 + 1 + 1 + 1, 0, none⟩) 4 4] 25) := ⟨_, rfl⟩
  obtain ⟨b0, b1, b2, b3, gV, zV⟩ := four_boxes w _ _ _ _ V hV
  obtain ⟨b4, b5, b6, b7, gW, zW⟩ := four_boxes V _ _ _ _ W hW
  rw [zV] at b4 b5 b6 b7
  have GW := hide (grown_trans gV gW)
  have BX := hide (box_kept b2 gW)
  have ID := hide (blk_ints (zs := [1, 1, 2, 2]) (box_kept b0 gW) (by simp) (by simp))
  have IX := hide (blk_ints (zs := [1065353216, 1073741824, 1077936128, 1082130432]) (box_kept b1 gW) (by simp) (by simp))
  have E1 := hide (cv_do ⟨#[122]⟩ ⟨some ⟨w.heap.size + 1 + 1 + 1 + 1 + 1 + 1, 0, none⟩, 2, 2⟩ ⟨#[120]⟩ ⟨#[119]⟩ (by kernel_rfl) (by decide) ⟨some ⟨w.heap.size + 1 + 1 + 1 + 1 + 1 + 1 + 1, 0, none⟩, 2, 2⟩ ⟨1, ⟨some ⟨w.heap.size, 0, none⟩, 4, 4⟩, ⟨some ⟨w.heap.size + 1, 0, none⟩, 4, 4⟩⟩ ⟨1, ⟨some ⟨w.heap.size + 1 + 1 + 1, 0, none⟩, 4, 4⟩, ⟨some ⟨w.heap.size + 1 + 1 + 1 + 1, 0, none⟩, 4, 4⟩⟩ [1065353216, 1073741824, 1077936128, 1082130432] [1065353216, 1065353216, 1065353216, 1065353216] W (HL.out.more GW.out) (xw_strs b6) (two_tens ⟨1, ⟨some ⟨w.heap.size, 0, none⟩, 4, 4⟩, ⟨some ⟨w.heap.size + 1, 0, none⟩, 4, 4⟩⟩ ⟨1, ⟨some ⟨w.heap.size + 1 + 1 + 1, 0, none⟩, 4, 4⟩, ⟨some ⟨w.heap.size + 1 + 1 + 1 + 1, 0, none⟩, 4, 4⟩⟩ b7 ID.out IX.out (blk_ints (zs := [1, 1, 2, 2]) (box_kept b3 gW) (by simp) (by simp)) (blk_ints (zs := [1065353216, 1065353216, 1065353216, 1065353216]) b4 (by simp) (by simp))) rfl rfl)
  rw [show cvR (Ten.ty ⟨1, ⟨some ⟨w.heap.size, 0, none⟩, 4, 4⟩, ⟨some ⟨w.heap.size + 1, 0, none⟩, 4, 4⟩⟩) (Ten.ty ⟨1, ⟨some ⟨w.heap.size + 1 + 1 + 1, 0, none⟩, 4, 4⟩, ⟨some ⟨w.heap.size + 1 + 1 + 1 + 1, 0, none⟩, 4, 4⟩⟩) [1065353216, 1073741824, 1077936128, 1082130432] [1065353216, 1065353216, 1065353216, 1065353216] = .ok (1, [1, 1, 1, 1], [1092616192]) from live_cv] at E1
  unfold nval nilS at E1
  simp only at E1
  obtain ⟨x0, x1, x2⟩ := ten_cells BX.out
  obtain ⟨y0, y1, y2⟩ := ten_cells b5
  rw [hW, hV] at x0 x1 x2 y0 y1 y2
  clear b0 b1 b2 b3 b4 b5 b6 b7 gV gW zW zV
  go_enter Tryz.func8, Tryz.ntmps8
  go_wp2_with fail
  rw [← hV, ← hW]
  clear hV hW x0 x1 x2 y0 y1 y2
  refine E1.out.mono ?_
  rintro e w1 ⟨hg1, ⟨ty, ⟨da, dn, dc⟩, ⟨ta, tn, tc⟩⟩, ht, rfl, od, ot⟩
  simp only at ht
  subst ht
  unfold tval
  simp only
  obtain ⟨p, hp⟩ : ∃ p, p = w1.alloc (.cells #[.int .i64 1, .slice da dn dc, .slice ta tn tc] 25) := ⟨_, rfl⟩
  obtain ⟨bp, zp⟩ := new_alloc (.cells #[.int .i64 1, .slice da dn dc, .slice ta tn tc] 25) (x := w1) rfl
  rw [← hp] at bp zp
  have gp : w1.grownBy p none := by rw [hp]; exact grown_new _ _
  obtain ⟨q, hq⟩ : ∃ q, q = (((p.alloc (.cells #[.string ⟨#[120]⟩] 9)).alloc (.cells #[.int .i64 2, .int .i64 2] 2)).alloc (.cells #[.string ⟨#[107, 101, 114, 110, 101, 108, 95, 115, 104, 97, 112, 101]⟩, .int .i64 7, .int .i64 0, .int .i64 0, .string ⟨#[]⟩, .int .i64 0, .slice none 0 0, .slice none 0 0, .slice (some ⟨w1.heap.size + 1 + 1, 0, none⟩) 2 2] 38)).alloc (.cells #[.int .i64 1, .slice (some ⟨w.heap.size, 0, none⟩) 4 4, .slice (some ⟨w.heap.size + 1, 0, none⟩) 4 4] 25) := ⟨_, rfl⟩
  obtain ⟨c0, c1, c2, c3, gq, zq⟩ := four_boxes p _ _ _ _ q hq
  rw [zp] at c0 c1 c2 c3
  have GP := hide (grown_trans GW.out (grown_trans hg1 gp))
  have GQ := hide (grown_trans GP.out gq)
  have gwq := grown_trans (grown_trans hg1 gp) gq
  have IK := blk_ints (zs := [2, 2]) c1 (by simp) (by simp)
  have AA := in_attrs (s := ⟨some ⟨w1.heap.size + 1 + 1, 0, none⟩, 2, 2⟩) c2
  have E2 := hide (mxp_do ⟨⟨#[77, 97, 120, 80, 111, 111, 108]⟩, ⟨#[]⟩, ⟨some ⟨w1.heap.size + 1, 0, none⟩, 1, 1⟩, ⟨#[122]⟩, ⟨some ⟨w1.heap.size + 1 + 1 + 1, 0, none⟩, 1, 1⟩⟩ (inAt ⟨#[77, 97, 120, 80, 111, 111, 108]⟩ ⟨#[107, 101, 114, 110, 101, 108, 95, 115, 104, 97, 112, 101]⟩ ⟨some ⟨w1.heap.size + 1 + 1, 0, none⟩, 2, 2⟩ [2, 2]) ⟨#[120]⟩ rfl ⟨some ⟨w1.heap.size + 1 + 1 + 1 + 1, 0, none⟩, 1, 1⟩ ⟨1, ⟨some ⟨w.heap.size, 0, none⟩, 4, 4⟩, ⟨some ⟨w.heap.size + 1, 0, none⟩, 4, 4⟩⟩ [1, 1, 2, 2] [1065353216, 1073741824, 1077936128, 1082130432] q (HL.out.more GQ.out) (in_in (x_strs c0) IK AA) (in_ok IK AA) (mp_check _ _) (mp_then _ _ _) (by show 1 ≤ 1048576; omega) (one_ten ⟨1, ⟨some ⟨w.heap.size, 0, none⟩, 4, 4⟩, ⟨some ⟨w.heap.size + 1, 0, none⟩, 4, 4⟩⟩ c3 (ID.out.more gwq) (IX.out.more gwq)) (mp_str _ _ _ _) (mp_dil _ _ _ _) (mp_pad _ _ _ _) (fun d => (mp_ker _ _ _ d).trans (mp_ker _ _ _ []).symm))
  rw [show poolR (mostL 1) (inAt ⟨#[77, 97, 120, 80, 111, 111, 108]⟩ ⟨#[107, 101, 114, 110, 101, 108, 95, 115, 104, 97, 112, 101]⟩ ⟨some ⟨w1.heap.size + 1 + 1, 0, none⟩, 2, 2⟩ [2, 2]) (Ten.ty ⟨1, ⟨some ⟨w.heap.size, 0, none⟩, 4, 4⟩, ⟨some ⟨w.heap.size + 1, 0, none⟩, 4, 4⟩⟩) [1, 1, 2, 2] [1065353216, 1073741824, 1077936128, 1082130432] = .ok (1, [1, 1, 1, 1], [1082130432]) from live_mp _] at E2
  unfold nval at E2
  simp only at E2
  have T1' := hide (ot.ints.more (grown_trans gp gq))
  have BP := hide (box_kept bp gq)
  have g3 : p.grownBy (((p.alloc (.cells #[.string ⟨#[120]⟩] 9)).alloc (.cells #[.int .i64 2, .int .i64 2] 2)).alloc (.cells #[.string ⟨#[107, 101, 114, 110, 101, 108, 95, 115, 104, 97, 112, 101]⟩, .int .i64 7, .int .i64 0, .int .i64 0, .string ⟨#[]⟩, .int .i64 0, .slice none 0 0, .slice none 0 0, .slice (some ⟨w1.heap.size + 1 + 1, 0, none⟩) 2 2] 38)) none := grown_trans (grown_new _ _) (grown_trans (grown_new _ _) (grown_new _ _))
  obtain ⟨x0, x1, x2⟩ := ten_cells (box_kept BX.out (grown_trans (grown_trans hg1 gp) g3))
  rw [hp] at x0 x1 x2
  clear bp zp gp c0 c1 c2 c3 gq zq od ot E1 hg1 gwq IK AA g3
  go_wp2_with fail
  rw [← hp, ← hq]
  clear hp hq x0 x1 x2
  refine E2.out.mono ?_
  rintro e w2 ⟨hg2, ⟨ty, ⟨ea, en, ec⟩, ⟨va, vn, vc⟩⟩, ht, rfl, od, ot⟩
  simp only at ht
  subst ht
  unfold tval
  simp only
  obtain ⟨p2, hp2⟩ : ∃ p, p = w2.alloc (.cells #[.int .i64 1, .slice ea en ec, .slice va vn vc] 25) := ⟨_, rfl⟩
  obtain ⟨bp2, zp2⟩ := new_alloc (.cells #[.int .i64 1, .slice ea en ec, .slice va vn vc] 25) (x := w2) rfl
  rw [← hp2] at bp2 zp2
  have gp2 : w2.grownBy p2 none := by rw [hp2]; exact grown_new _ _
  have I1 := T1'.out.more (grown_trans hg2 gp2)
  have I2 := ot.ints.more gp2
  obtain ⟨_, _, u1, -, -, -⟩ := I1.sl
  obtain ⟨_, _, u2, -, -, -⟩ := I2.sl
  simp only [Sl.v, Value.slice.injEq, List.length_cons, List.length_nil, Nat.zero_add] at u1 u2 I1 I2
  obtain ⟨rfl, rfl, rfl⟩ := u1
  obtain ⟨rfl, rfl, rfl⟩ := u2
  obtain ⟨r1, o1, rfl⟩ := addr_of I1 (by simp)
  obtain ⟨r2, o2, rfl⟩ := addr_of I2 (by simp)
  have i1 := item_at I1 (k := 0) (by simp)
  have i2 := item_at I2 (k := 0) (by simp)
  simp only [List.getD_cons_zero, Nat.add_zero] at i1 i2
  obtain ⟨x0, x1, x2⟩ := ten_cells (box_kept BP.out (grown_trans hg2 gp2))
  obtain ⟨y0, y1, y2⟩ := ten_cells bp2
  have GZ := hide (grown_trans GQ.out (grown_trans hg2 gp2))
  rw [hp2] at x0 x1 x2 y0 y1 y2 i1 i2
  have j1 : (0 : Int) < 1 := by decide
  clear bp2 zp2 gp2 od ot hg2 E2 I1 I2
  go_wp2
  rw [← hp2]
  go_ret
  exact ⟨rfl, GZ.out⟩

end Go.Proofs.YtkefdkboejimeaaGreatDoor

namespace Go.Proofs.YtkefdkboejimeaaGreatDoor

open Go.RowKit

theorem poolR_inv {f : List Int → Int} {A : At} {t ty : Int} {x xs l zs : List Int} (h : poolR f A t x xs = .ok (ty, l, zs)) : t = 1 ∧ ty = 1 ∧ cntE x = 0 ∧ pbE t x xs = 0 ∧ pooledP A x = .ok l ∧ zs = poolX f x (A.ints ⟨#[107, 101, 114, 110, 101, 108, 95, 115, 104, 97, 112, 101]⟩ []) l xs := by
  unfold poolR doR at h
  split at h
  · rename_i ty' l' hn
    obtain ⟨hall, ho⟩ := node_inv hn
    obtain ⟨c1, hts, hp, c3⟩ := outR_inv ho
    simp only [tq, okT, List.all_cons, List.all_nil, Bool.and_true, beq_iff_eq] at hall
    unfold tyFlt at hts
    obtain ⟨_, hm, hts⟩ := bind_ok hts
    cases hts
    cases h
    have := must_ok hm
    exact ⟨by simpa using this, rfl, c1, hall, hp, rfl⟩
  · cases h

theorem nz_poolR (f : List Int → Int) (A : At) (t : Int) (x xs : List Int) : ∀ c, poolR f A t x xs = .error c → c ≠ 0 := by
  intro c h
  unfold poolR doR at h
  split at h
  · cases h
  · rename_i c' hn
    cases h
    exact nz_node (nz_outR _ _ _ _ (nz_tyflt _) (nz_pooled _ _)) _ hn

end Go.Proofs.YtkefdkboejimeaaGreatDoor

namespace Go.Proofs.YtkefdkboejimeaaGreatDoor

open Go.RowKit

theorem bin_less {x y : Int} (hx : Fn 1 x) (hy : Fn 1 y) (h : keyZ 1 y ≤ keyZ 1 x) : Nu.bin 10 1 x y = (0, 0) := by
  have b : Nu.bin 10 1 x y = Nu.binFl 10 (Nu.fb x) (Nu.fb y) := by unfold Nu.bin; rw [if_pos (by rw [hx.1, hy.1]; rfl), if_pos rfl]
  rw [b]
  have ho := ord_keyZ hx.1 hy.1 (fun e => hx.2 ⟨rfl, e⟩) (fun e => hy.2 ⟨rfl, e⟩)
  show (Nu.b2i (Nu.ord (Nu.fb x) (Nu.fb y) == some .lt), (0 : Int)) = (0, 0)
  rw [ho]
  rcases Int.lt_trichotomy (keyZ 1 x) (keyZ 1 y) with h1 | h1 | h1
  · omega
  · rw [Nu.cmp_eq h1]
    rfl
  · rw [Nu.cmp_gt h1]
    rfl

theorem most_answerC {s : Sl} {t ty a b : Int} {x xs l zs : List Int} (h : poolR (mostL 1) (inAt ⟨#[77, 97, 120, 80, 111, 111, 108]⟩ ⟨#[107, 101, 114, 110, 101, 108, 95, 115, 104, 97, 112, 101]⟩ s [a, b]) t x xs = .ok (ty, l, zs)) (hn : ∀ z ∈ xs, z ≠ 2143289344) : ∃ D0 D1 H W oh ow : Nat, x = [(D0 : Int), D1, H, W] ∧ l = [(D0 : Int), D1, oh, ow] ∧ oh ≤ H ∧ ow ≤ W ∧ xs.length ≤ 65536 ∧ oh ≤ 65536 ∧ ow ≤ 65536 ∧ ∀ i k : Nat, i < oh → k < ow → i * ow + k < zs.length ∧ i * W + k < xs.length ∧ Nu.bin 10 1 (zs.getD (i * ow + k) 0) (xs.getD (i * W + k) 0) = (0, 0) := by
  obtain ⟨rfl, rfl, c1, hp, hd, rfl⟩ := poolR_inv h
  obtain ⟨D0, D1, H, W, kh, kw, oh, ow, P⟩ := pool_inv (fine_of c1) (mp_str _ _ _ _) (mp_dil _ _ _ _) (mp_pad _ _ _ _) hd
  have hxl := xs_len P.ex (pb_inv hp).2
  have hle : xs.length ≤ 65536 := by have h1 := (pb_inv hp).2; have h2 := (fine_of c1).le; omega
  have e1 := P.e1
  have e2 := P.e2
  have k1 := P.k1
  have k2 := P.k2
  have o1 := P.o1
  have o2 := P.o2
  have dd : 1 ≤ D0 * D1 := Nat.mul_le_mul P.d0 P.d1
  have hS : H * W ≤ xs.length := by rw [hxl]; exact Nat.le_mul_of_pos_left _ dd
  have hH : H ≤ H * W := Nat.le_mul_of_pos_right _ (by omega)
  have hW : W ≤ H * W := Nat.le_mul_of_pos_left _ (by omega)
  have ck := pb_chk hp
  refine ⟨D0, D1, H, W, oh, ow, P.ex, P.el, by omega, by omega, hle, by omega, by omega, fun i k hi hk => ?_⟩
  rw [poolX_eq P]
  have hin : i * W + k < H * W := wnum_lt (by omega) (by omega)
  have hzl : i * ow + k < (poolL (mostL 1) xs (D0 * D1) H W kh kw oh ow).length := by
    rw [poolL_len]
    exact Nat.lt_of_lt_of_le (wnum_lt hi hk) (Nat.le_mul_of_pos_left _ dd)
  refine ⟨hzl, by omega, ?_⟩
  rw [pool_at _ _ _ _ _ _ _ _ _ _ _ dd hi hk]
  have il : (imgL xs (H * W) 0).length = H * W := imgL_len hxl dd
  have fn : ∀ z ∈ winL (imgL xs (H * W) 0) W kh kw i k, Fn 1 z := fun z hz => by
    have hz2 := img_mem z (win_mem (H := H) (by omega) (by omega) il z hz)
    exact ⟨ck z hz2, fun e => hn z hz2 e.2⟩
  obtain ⟨tl, htl⟩ := win_first (imgL xs (H * W) 0) W kh kw i k (by omega) (by omega)
  have hfirst : (imgL xs (H * W) 0).getD (i * W + k) 0 = xs.getD (i * W + k) 0 := by rw [imgL_at hin, Nat.zero_mul, Nat.zero_add]
  rw [hfirst] at htl
  have top := mostL_top (t := 1) (.inl rfl) (ys := winL (imgL xs (H * W) 0) W kh kw i k) (by rw [htl]; simp) (fun y hy => (fn y hy).1)
  have hmem : xs.getD (i * W + k) 0 ∈ winL (imgL xs (H * W) 0) W kh kw i k := by rw [htl]; simp
  exact bin_less (fn _ top.1) (fn _ hmem) (key_mono (fn _ hmem) (fn _ top.1) (top.2 _ hmem))

end Go.Proofs.YtkefdkboejimeaaGreatDoor

namespace Go.Proofs.YtkefdkboejimeaaGreatDoor

open Go.RowKit

set_option maxRecDepth 100000 in
set_option maxHeartbeats 16000000 in
theorem convMost_walk (X : Ten) {x xs : List Int} (ha hb : Int) (w : World) (hl : Laid w) (hx : IsInts w X.dv.v x) (hxs : IsInts w X.tv.v xs) (ha1 : -9223372036854775808 ≤ ha) (ha2 : ha ≤ 9223372036854775807) (hb1 : -9223372036854775808 ≤ hb) (hb2 : hb ≤ 9223372036854775807) : Calls Tryz.prog 6 #[tval X, .int .i64 ha, .int .i64 hb] w fun e w' => e = .returned (.bool true) ∧ Below w.heap.size w w' := by
  have HL := hide hl
  have HX := hide hx
  have HXS := hide hxs
  have HAB := hide (And.intro (And.intro ha1 ha2) (And.intro hb1 hb2))
  clear hl hx hxs ha1 ha2 hb1 hb2
  obtain ⟨tx, ⟨xa, xn, xc⟩, ⟨ua, un, uc⟩⟩ := X
  obtain ⟨_, _, et, q1, q2, q3⟩ := HXS.out.sl
  unfold tval
  simp only [Sl.v, Value.slice.injEq] at et
  obtain ⟨rfl, rfl, rfl⟩ := et
  simp only [Sl.v] at HX HXS ⊢
  obtain ⟨w0, hw0⟩ : ∃ w0, w0 = w.alloc (.cells #[.int .i64 tx, .slice xa xn xc, .slice ua xs.length uc] 25) := ⟨_, rfl⟩
  obtain ⟨b0, z0⟩ := new_alloc (.cells #[.int .i64 tx, .slice xa xn xc, .slice ua xs.length uc] 25) (x := w) rfl
  rw [← hw0] at b0 z0
  have g0 : w.grownBy w0 none := by rw [hw0]; exact grown_new _ _
  have G0 := hide g0
  have BX : Hid (∀ wx, w0.grownBy wx none → wx.heap[w.heap.size]? = some (.cells #[.int .i64 tx, .slice xa xn xc, .slice ua xs.length uc] 25 (0, 0))) := fun wx hx => box_kept b0 hx
  have LV : Hid (∀ wx, w.grownBy wx none → Calls Tryz.prog 8 #[] wx fun e w' => e = .returned (.bool true) ∧ wx.grownBy w' none) := fun wx hx => live13_any wx (HL.out.more hx)
  obtain ⟨wS, hwS⟩ : ∃ wS, wS = w0.alloc (.cells #[.int .i64 tx, .slice xa xn xc, .slice ua xs.length uc] 25) := ⟨_, rfl⟩
  obtain ⟨bS, -⟩ := new_alloc (.cells #[.int .i64 tx, .slice xa xn xc, .slice ua xs.length uc] 25) z0
  rw [← hwS] at bS
  have gS : w0.grownBy wS none := by rw [hwS]; exact grown_new _ _
  have GS := hide (grown_trans g0 gS)
  have GS0 := hide gS
  have SM := hide (small13_any ⟨some ⟨w.heap.size + 1, 0, none⟩, 1, 1⟩ [(⟨tx, ⟨xa, xn, xc⟩, ⟨ua, xs.length, uc⟩⟩, (x, xs))] wS (one_ten ⟨tx, ⟨xa, xn, xc⟩, ⟨ua, xs.length, uc⟩⟩ bS (HX.out.more GS.out) (HXS.out.more GS.out)))
  simp only at SM
  obtain ⟨x0, x1, x2⟩ := ten_cells b0
  rw [hw0] at x0 x1 x2
  clear b0 bS z0 g0 gS
  go_enter Tryz.func6, Tryz.ntmps6
  go_wp2_with fail
  rw [← hw0, ← hwS]
  clear hw0 hwS x0 x1 x2
  refine SM.out.mono ?_
  rintro e w1 ⟨b, rfl, hg1⟩
  have G1 := hide (grown_trans GS.out hg1)
  have G01 := hide (grown_trans GS0.out hg1)
  have L1 := hide (LV.out w1 G1.out)
  clear hg1 SM q1
  cases b with
  | false =>
    go_wp2_with fail
    refine L1.out.mono ?_
    rintro e w2 ⟨rfl, hg2⟩
    go_wp2
    go_ret
    exact ⟨rfl, grown_below (grown_trans G1.out hg2)⟩
  | true =>
    by_cases c1 : (50 : Int) < ha
    · skip
      go_wp2_with fail
      refine L1.out.mono ?_
      rintro e w2 ⟨rfl, hg2⟩
      go_wp2
      go_ret
      exact ⟨rfl, grown_below (grown_trans G1.out hg2)⟩
    · by_cases c2 : (50 : Int) < hb
      · skip
        go_wp2_with fail
        refine L1.out.mono ?_
        rintro e w2 ⟨rfl, hg2⟩
        go_wp2
        go_ret
        exact ⟨rfl, grown_below (grown_trans G1.out hg2)⟩
      · by_cases c3 : ha < 1
        · skip
          go_wp2_with fail
          refine L1.out.mono ?_
          rintro e w2 ⟨rfl, hg2⟩
          go_wp2
          go_ret
          exact ⟨rfl, grown_below (grown_trans G1.out hg2)⟩
        · by_cases c4 : hb < 1
          · skip
            go_wp2_with fail
            refine L1.out.mono ?_
            rintro e w2 ⟨rfl, hg2⟩
            go_wp2
            go_ret
            exact ⟨rfl, grown_below (grown_trans G1.out hg2)⟩
          · skip
            go_wp2_with fail
            go_loopg [7] xs.length (fun gh i wr => wr = w1 ∧ ∃ k : Nat, gh = xs.length - k ∧ k ≤ xs.length ∧ i = .int .i64 k ∧ ∀ j, j < k → xs.getD j 0 ≠ 2143289344)
            case atStart => exact ⟨rfl, 0, rfl, Nat.zero_le _, rfl, fun j hj => by omega⟩
            case round =>
              obtain ⟨rfl, k, hgk, hk, rfl, hnn⟩ := hrel
              obtain ⟨x0, x1, x2⟩ := ten_cells (BX.out wr G01.out)
              have HNN := hide hnn
              clear hnn
              by_cases hlt : k < xs.length
              · obtain ⟨bu, ou, rfl, hc⟩ := HXS.out.get hlt
                have it := cell_still (hc k hlt) G1.out
                have l1 : (k : Int) < (xs.length : Int) := by omega
                clear hc
                by_cases hz : xs.getD k 0 = 2143289344
                · rw [hz] at it
                  clear hz
                  go_wp2_with fail
                  refine L1.out.mono ?_
                  rintro e w2 ⟨rfl, hg2⟩
                  go_wp2
                  go_ret
                  exact ⟨rfl, grown_below (grown_trans G1.out hg2)⟩
                · have NX : Hid (∀ j, j < k + 1 → xs.getD j 0 ≠ 2143289344) := fun j hj => by
                    rcases Nat.lt_or_eq_of_le (Nat.le_of_lt_succ hj) with h | h
                    · exact HNN.out j h
                    · rw [h]; exact hz
                  obtain ⟨y, hy⟩ : ∃ y, y = xs.getD k 0 := ⟨_, rfl⟩
                  rw [← hy] at it hz
                  have bz : (y == 2143289344) = false := by simpa using hz
                  clear hy
                  go_wp2_with fail
                  go_roundg (xs.length - (k + 1))
                  case measure => omega
                  case rel => exact ⟨rfl, k + 1, rfl, by omega, by go_num, NX.out⟩
              · obtain rfl : k = xs.length := by omega
                have HALL : Hid (∀ z ∈ xs, z ≠ 2143289344) := fun z hz => by
                  obtain ⟨j, hj, rfl⟩ := List.mem_iff_getElem.1 hz
                  have h := HNN.out j hj
                  rw [List.getD, List.getElem?_eq_getElem hj, Option.getD_some] at h
                  exact h
                obtain ⟨w1, hw1⟩ : ∃ v, v = wr := ⟨_, rfl⟩
                rw [← hw1] at G1 G01 L1 x0 x1 x2 ⊢
                clear hw1 HNN
                obtain ⟨p, hp⟩ : ∃ p, p = (((w1.alloc (.cells #[.string ⟨#[120]⟩] 9)).alloc (.cells #[.int .i64 ha, .int .i64 hb] 2)).alloc (.cells #[.string ⟨#[107, 101, 114, 110, 101, 108, 95, 115, 104, 97, 112, 101]⟩, .int .i64 7, .int .i64 0, .int .i64 0, .string ⟨#[]⟩, .int .i64 0, .slice none 0 0, .slice none 0 0, .slice (some ⟨w1.heap.size + 1, 0, none⟩) 2 2] 38)).alloc (.cells #[.string ⟨#[77, 97, 120, 80, 111, 111, 108]⟩, .string ⟨#[]⟩, .slice (some ⟨w1.heap.size, 0, none⟩) 1 1, .string ⟨#[122]⟩, .slice (some ⟨w1.heap.size + 1 + 1, 0, none⟩) 1 1] 35) := ⟨_, rfl⟩
                obtain ⟨c0, c1, c2, c3, gp, zp⟩ := four_boxes w1 _ _ _ _ p hp
                obtain ⟨q, hq⟩ : ∃ q, q = p.alloc (.cells #[.int .i64 tx, .slice xa xn xc, .slice ua xs.length uc] 25) := ⟨_, rfl⟩
                obtain ⟨bq, zq⟩ := new_alloc (.cells #[.int .i64 tx, .slice xa xn xc, .slice ua xs.length uc] 25) zp
                rw [← hq] at bq zq
                have gq : p.grownBy q none := by rw [hq]; exact grown_new _ _
                have g1q := grown_trans gp gq
                have GQ := hide (grown_trans G1.out g1q)
                have G0Q := hide (grown_trans G01.out g1q)
                have IK : IsInts q (.slice (some ⟨w1.heap.size + 1, 0, none⟩) 2 2) [ha, hb] := ints_two (box_kept c1 gq) HAB.out.1 HAB.out.2
                have AA := in_attrs (s := ⟨some ⟨w1.heap.size + 1, 0, none⟩, 2, 2⟩) (box_kept c2 gq)
                obtain ⟨r, hr⟩ : ∃ r, r = poolR (mostL 1) (inAt ⟨#[77, 97, 120, 80, 111, 111, 108]⟩ ⟨#[107, 101, 114, 110, 101, 108, 95, 115, 104, 97, 112, 101]⟩ ⟨some ⟨w1.heap.size + 1, 0, none⟩, 2, 2⟩ [ha, hb]) tx x xs := ⟨_, rfl⟩
                have E2 := hide (mxp_do ⟨⟨#[77, 97, 120, 80, 111, 111, 108]⟩, ⟨#[]⟩, ⟨some ⟨w1.heap.size, 0, none⟩, 1, 1⟩, ⟨#[122]⟩, ⟨some ⟨w1.heap.size + 1 + 1, 0, none⟩, 1, 1⟩⟩ (inAt ⟨#[77, 97, 120, 80, 111, 111, 108]⟩ ⟨#[107, 101, 114, 110, 101, 108, 95, 115, 104, 97, 112, 101]⟩ ⟨some ⟨w1.heap.size + 1, 0, none⟩, 2, 2⟩ [ha, hb]) ⟨#[120]⟩ rfl ⟨some ⟨w1.heap.size + 1 + 1 + 1 + 1, 0, none⟩, 1, 1⟩ ⟨tx, ⟨xa, xn, xc⟩, ⟨ua, xs.length, uc⟩⟩ x xs q (HL.out.more GQ.out) (in_in (x_strs (box_kept c0 gq)) IK AA) (in_ok IK AA) (mp_check _ _) (mp_then _ _ _) (by show 1 ≤ 1048576; omega) (one_ten ⟨tx, ⟨xa, xn, xc⟩, ⟨ua, xs.length, uc⟩⟩ bq (HX.out.more GQ.out) (HXS.out.more GQ.out)) (mp_str _ _ _ _) (mp_dil _ _ _ _) (mp_pad _ _ _ _) (fun d => (mp_ker _ _ _ d).trans (mp_ker _ _ _ []).symm))
                simp only at E2
                rw [← hr] at E2
                unfold nval at E2
                simp only at E2
                have HR := hide hr
                obtain ⟨n0, n1, n2, n3, n4⟩ := nod_cells (n := ⟨⟨#[77, 97, 120, 80, 111, 111, 108]⟩, ⟨#[]⟩, ⟨some ⟨w1.heap.size, 0, none⟩, 1, 1⟩, ⟨#[122]⟩, ⟨some ⟨w1.heap.size + 1 + 1, 0, none⟩, 1, 1⟩⟩) c3
                obtain ⟨z0, z1, z2⟩ := ten_cells (BX.out p (grown_trans G01.out gp))
                simp only at n0 n1 n2 n3 n4
                rw [hp] at n0 n1 n2 n3 n4 z0 z1 z2
                clear c0 c1 c2 c3 gp zp bq zq gq g1q IK AA hr
                go_wp2_with fail
                rw [← hp, ← hq]
                clear hp hq n0 n1 n2 n3 n4 x0 x1 x2 z0 z1 z2
                refine E2.out.mono ?_
                intro e w2 hdo
                obtain ⟨hg2, ⟨da, dn, dc⟩, ⟨ta, tn, tc⟩, rfl, id2, it2⟩ := do_any hdo
                simp only [Sl.v] at id2 it2 ⊢
                obtain ⟨m, hm⟩ : ∃ m, m = w2.alloc (.cells #[.int .i64 (rTy r), .slice da dn dc, .slice ta tn tc] 25) := ⟨_, rfl⟩
                obtain ⟨bm, zm⟩ := new_alloc (.cells #[.int .i64 (rTy r), .slice da dn dc, .slice ta tn tc] 25) (x := w2) rfl
                rw [← hm] at bm zm
                have gm : w2.grownBy m none := by rw [hm]; exact grown_new _ _
                have GM := hide (grown_trans GQ.out (grown_trans hg2 gm))
                have G0M := hide (grown_trans G0Q.out (grown_trans hg2 gm))
                have LM := hide (LV.out m GM.out)
                have BM := hide bm
                have ID := hide (id2.more gm)
                have IT := hide (it2.more gm)
                obtain ⟨y0, y1, y2⟩ := ten_cells bm
                obtain ⟨x0, x1, x2⟩ := ten_cells (BX.out m G0M.out)
                rw [hm] at y0 y1 y2 x0 x1 x2
                clear bm zm gm hg2 id2 it2 hdo E2
                cases r with
                | error c =>
                  have hc := nz_poolR _ _ _ _ _ c HR.out.symm
                  have bc : (c != 0) = true := by simpa using hc
                  simp only [rTy, rC] at hm ⊢
                  clear y0 y1 y2 x0 x1 x2 hc
                  go_wp2_with fail
                  rw [← hm]
                  clear hm
                  refine LM.out.mono ?_
                  rintro e w3 ⟨rfl, hg3⟩
                  go_wp2
                  go_ret
                  exact ⟨rfl, grown_below (grown_trans GM.out hg3)⟩
                | ok rr =>
                  obtain ⟨ty, l, zs⟩ := rr
                  obtain ⟨D0, D1, H, W, oh, ow, ex, el, g1, g2, g3, g4, g5, ANS⟩ := most_answerC HR.out.symm HALL.out
                  simp only [rTy, rC, rL, rZ] at y0 y1 y2 x0 x1 x2 hm ID IT BM ⊢
                  have HANS := hide ANS
                  have OWB : Hid (oh * ow ≤ H * W) := Nat.mul_le_mul g1 g2
                  rw [el] at ID
                  rw [ex] at HX
                  obtain ⟨_, _, u1, -, -, -⟩ := ID.out.sl
                  obtain ⟨_, _, u2, -, -, -⟩ := IT.out.sl
                  obtain ⟨_, _, u3, -, -, -⟩ := HX.out.sl
                  simp only [Value.slice.injEq, List.length_cons, List.length_nil, Nat.zero_add, Nat.reduceAdd] at u1 u2 u3
                  obtain ⟨rfl, rfl, rfl⟩ := u1
                  obtain ⟨rfl, rfl, rfl⟩ := u2
                  obtain ⟨rfl, rfl, rfl⟩ := u3
                  have jd : IsInts m (.slice da 4 dc) [(D0 : Int), D1, oh, ow] := ID.out
                  have jx : IsInts w (.slice xa 4 xc) [(D0 : Int), D1, H, W] := HX.out
                  obtain ⟨bd, od, rfl⟩ := addr_of jd (by simp)
                  obtain ⟨bx, ox, rfl⟩ := addr_of jx (by simp)
                  have A2 := item_at jd (k := 2) (by simp)
                  have A3 := item_at jd (k := 3) (by simp)
                  have X3 := item_at (jx.more GM.out) (k := 3) (by simp)
                  simp only [List.getD_cons_zero, List.getD_cons_succ] at A2 A3 X3
                  have HA2 := hide A2
                  have HA3 := hide A3
                  have HX3 := hide X3
                  clear ANS A2 A3 X3 jd jx ex el HR
                  go_wp2_with fail
                  rw [← hm]
                  clear y0 y1 y2 x0 x1 x2 hm
                  go_loopg [11] oh (fun gh i wr => m.grownBy wr none ∧ ∃ t : Nat, gh = oh - t ∧ t ≤ oh ∧ i = .int .i64 t)
                  case atStart => exact ⟨grown_refl _, 0, rfl, Nat.zero_le _, rfl⟩
                  case round =>
                    obtain ⟨hg, t, hgk2, ht, rfl⟩ := hrel
                    have HG := hide hg
                    have a2 := cell_still HA2.out hg
                    have a3 := cell_still HA3.out hg
                    obtain ⟨y0, y1, y2⟩ := ten_cells (box_kept BM.out hg)
                    by_cases hlt2 : t < oh
                    · have l1 : (t : Int) < (oh : Int) := by omega
                      obtain ⟨wo, rfl⟩ : ∃ wo, wo = wr := ⟨_, rfl⟩
                      clear hg
                      go_wp2_with fail
                      clear y0 y1 y2 a2 a3
                      go_loopg [12] ow (fun gh i wr => m.grownBy wr none ∧ ∃ s : Nat, gh = ow - s ∧ s ≤ ow ∧ i = .int .i64 s)
                      case atStart => exact ⟨HG.out, 0, rfl, Nat.zero_le _, rfl⟩
                      case round =>
                        obtain ⟨hg, s, hgk3, hs, rfl⟩ := hrel
                        have HG3 := hide hg
                        have a3 := cell_still HA3.out hg
                        obtain ⟨y0, y1, y2⟩ := ten_cells (box_kept BM.out hg)
                        by_cases hls : s < ow
                        · have l2 : (s : Int) < (ow : Int) := by omega
                          obtain ⟨f1, f2, f3⟩ := HANS.out t s hlt2 hls
                          obtain ⟨x0, x1, x2⟩ := ten_cells (BX.out wr (grown_trans G0M.out hg))
                          have x3 := cell_still HX3.out hg
                          obtain ⟨bz, oz, rfl⟩ := addr_of IT.out (by omega)
                          obtain ⟨bs, os, rfl⟩ := addr_of HXS.out (by omega)
                          have i1 := item_at (IT.out.more hg) f1
                          have i2 := item_at (HXS.out.more (grown_trans GM.out hg)) f2
                          obtain ⟨P, hP⟩ : ∃ P, P = t * ow := ⟨_, rfl⟩
                          obtain ⟨Q, hQ⟩ : ∃ Q, Q = P + s := ⟨_, rfl⟩
                          obtain ⟨P2, hP2⟩ : ∃ P, P = t * W := ⟨_, rfl⟩
                          obtain ⟨Q2, hQ2⟩ : ∃ Q, Q = P2 + s := ⟨_, rfl⟩
                          rw [← hP, ← hQ] at f1 f3 i1
                          rw [← hP2, ← hQ2] at f2 f3 i2
                          have zle := IT.out.le
                          have v1 : IntKind.i64.wrap ((t : Int) * ow) = (P : Int) := by rw [← Int.natCast_mul, ← hP]; exact Vw.wrap_small (Int.natCast_nonneg _) (by omega)
                          have v2 : IntKind.i64.wrap ((P : Int) + s) = (Q : Int) := by rw [hQ, Vw.wrap_small (by omega) (by omega)]; push_cast; rfl
                          have v3 : IntKind.i64.wrap ((t : Int) * W) = (P2 : Int) := by rw [← Int.natCast_mul, ← hP2]; exact Vw.wrap_small (Int.natCast_nonneg _) (by omega)
                          have v4 : IntKind.i64.wrap ((P2 : Int) + s) = (Q2 : Int) := by rw [hQ2, Vw.wrap_small (by omega) (by omega)]; push_cast; rfl
                          have j1 : (Q : Int) < (zs.length : Int) := by omega
                          have j2 : (Q2 : Int) < (xs.length : Int) := by omega
                          have j3 : (3 : Int) < 4 := by decide
                          have FF := hide f3
                          have BB : Hid (∀ wx, Calls Tryz.prog 13 #[.string ⟨#[76, 101, 115, 115]⟩, .int .i64 1, .int .i64 (zs.getD Q 0), .int .i64 (xs.getD Q2 0)] wx fun e w' => e = .returned (.tuple #[.int .i64 0, .int .i64 0]) ∧ ∃ n, w' = wx.drewN n) := fun wx => by
                            have h := Nu.binary10 1 (zs.getD Q 0) (xs.getD Q2 0) wx
                            rw [FF.out] at h
                            exact h
                          obtain ⟨za, hza⟩ : ∃ z, z = zs.getD Q 0 := ⟨_, rfl⟩
                          obtain ⟨zb, hzb⟩ : ∃ z, z = xs.getD Q2 0 := ⟨_, rfl⟩
                          rw [← hza] at i1 BB
                          rw [← hzb] at i2 BB
                          clear hP hQ hP2 hQ2 hza hzb f1 f2 f3 FF hg zle
                          have V1 := hide v1
                          have V2 := hide v2
                          have V3 := hide v3
                          have V4 := hide v4
                          clear v1 v2 v3 v4
                          go_upto_region 18 with fail
                          have v1 := V1.out
                          have v2 := V2.out
                          have v3 := V3.out
                          have v4 := V4.out
                          refine wp_region_held_drew (S := fun w' => wr.grownBy w' none) (by kernel_rfl) (grown_drew (grown_refl _)) (fun hHeld => ?_)
                          refine wpAnyH_take (i := 0) (v := ?_) rfl (by kernel_rfl) (by kernel_rfl) (by kernel_rfl) (fun _ _ _ h => h) (Or.inl ⟨by kernel_rfl, ?_⟩) (by assumption) ?_
                          rotate_left 1
                          · (intro wS hSw; go_simp; (try with_reducible rfl))
                          try simp only [Act.put]
                          refine wpAnyH_take (i := 1) (v := ?_) rfl (by kernel_rfl) (by kernel_rfl) (by kernel_rfl) (fun _ _ _ h => h) (Or.inl ⟨by kernel_rfl, ?_⟩) (by assumption) ?_
                          rotate_left 1
                          · (intro wS hSw; have c0 := cell_still y2 hSw; go_simp; (try with_reducible rfl))
                          try simp only [Act.put]
                          refine wpAnyH_take (i := 2) (v := ?_) rfl (by kernel_rfl) (by kernel_rfl) (by kernel_rfl) (fun _ _ _ h => h) (Or.inl ⟨by kernel_rfl, ?_⟩) (by assumption) ?_
                          rotate_left 1
                          · (intro wS hSw; go_simp; (try with_reducible rfl))
                          try simp only [Act.put]
                          refine wpAnyH_take (i := 3) (v := ?_) rfl (by kernel_rfl) (by kernel_rfl) (by kernel_rfl) (fun _ _ _ h => h) (Or.inl ⟨by kernel_rfl, ?_⟩) (by assumption) ?_
                          rotate_left 1
                          · (intro wS hSw; go_simp; (try with_reducible rfl))
                          try simp only [Act.put]
                          refine wpAnyH_take (i := 4) (v := ?_) rfl (by kernel_rfl) (by kernel_rfl) (by kernel_rfl) (fun _ _ _ h => h) (Or.inl ⟨by kernel_rfl, ?_⟩) (by assumption) ?_
                          rotate_left 1
                          · (intro wS hSw; have c0 := cell_still y1 hSw; go_simp; (try with_reducible rfl))
                          try simp only [Act.put]
                          refine wpAnyH_take (i := 5) (v := ?_) rfl (by kernel_rfl) (by kernel_rfl) (by kernel_rfl) (fun _ _ _ h => h) (Or.inl ⟨by kernel_rfl, ?_⟩) (by assumption) ?_
                          rotate_left 1
                          · (intro wS hSw; go_simp; (try with_reducible rfl))
                          try simp only [Act.put]
                          refine wpAnyH_take (i := 6) (v := ?_) rfl (by kernel_rfl) (by kernel_rfl) (by kernel_rfl) (fun _ _ _ h => h) (Or.inl ⟨by kernel_rfl, ?_⟩) (by assumption) ?_
                          rotate_left 1
                          · (intro wS hSw; have c0 := cell_still a3 hSw; go_simp; (try with_reducible rfl))
                          try simp only [Act.put]
                          refine wpAnyH_take (i := 7) (v := .int .i64 (P : Int)) rfl (by kernel_rfl) (by kernel_rfl) (by kernel_rfl) (fun _ _ _ h => h) (Or.inl ⟨by kernel_rfl, ?_⟩) (by assumption) ?_
                          · (intro wS hSw; go_simp; (try simp only [v1]))
                          try simp only [Act.put]
                          clear v1
                          refine wpAnyH_take (i := 8) (v := ?_) rfl (by kernel_rfl) (by kernel_rfl) (by kernel_rfl) (fun _ _ _ h => h) (Or.inl ⟨by kernel_rfl, ?_⟩) (by assumption) ?_
                          rotate_left 1
                          · (intro wS hSw; go_simp; (try with_reducible rfl))
                          try simp only [Act.put]
                          refine wpAnyH_take (i := 9) (v := .int .i64 (Q : Int)) rfl (by kernel_rfl) (by kernel_rfl) (by kernel_rfl) (fun _ _ _ h => h) (Or.inl ⟨by kernel_rfl, ?_⟩) (by assumption) ?_
                          · (intro wS hSw; go_simp; (try simp only [v2]))
                          try simp only [Act.put]
                          clear v2
                          refine wpAnyH_take (i := 10) (v := ?_) rfl (by kernel_rfl) (by kernel_rfl) (by kernel_rfl) (fun _ _ _ h => h) (Or.inl ⟨by kernel_rfl, ?_⟩) (by assumption) ?_
                          rotate_left 1
                          · (intro wS hSw; go_simp; (try with_reducible rfl))
                          try simp only [Act.put]
                          refine wpAnyH_take (i := 11) (v := ?_) rfl (by kernel_rfl) (by kernel_rfl) (by kernel_rfl) (fun _ _ _ h => h) (Or.inl ⟨by kernel_rfl, ?_⟩) (by assumption) ?_
                          rotate_left 1
                          · (intro wS hSw; have c0 := cell_still i1 hSw; go_simp; (try with_reducible rfl))
                          try simp only [Act.put]
                          refine wpAnyH_take (i := 12) (v := ?_) rfl (by kernel_rfl) (by kernel_rfl) (by kernel_rfl) (fun _ _ _ h => h) (Or.inl ⟨by kernel_rfl, ?_⟩) (by assumption) ?_
                          rotate_left 1
                          · (intro wS hSw; go_simp; (try with_reducible rfl))
                          try simp only [Act.put]
                          refine wpAnyH_take (i := 13) (v := ?_) rfl (by kernel_rfl) (by kernel_rfl) (by kernel_rfl) (fun _ _ _ h => h) (Or.inl ⟨by kernel_rfl, ?_⟩) (by assumption) ?_
                          rotate_left 1
                          · (intro wS hSw; have c0 := cell_still x2 hSw; go_simp; (try with_reducible rfl))
                          try simp only [Act.put]
                          refine wpAnyH_take (i := 14) (v := ?_) rfl (by kernel_rfl) (by kernel_rfl) (by kernel_rfl) (fun _ _ _ h => h) (Or.inl ⟨by kernel_rfl, ?_⟩) (by assumption) ?_
                          rotate_left 1
                          · (intro wS hSw; go_simp; (try with_reducible rfl))
                          try simp only [Act.put]
                          refine wpAnyH_take (i := 15) (v := ?_) rfl (by kernel_rfl) (by kernel_rfl) (by kernel_rfl) (fun _ _ _ h => h) (Or.inl ⟨by kernel_rfl, ?_⟩) (by assumption) ?_
                          rotate_left 1
                          · (intro wS hSw; go_simp; (try with_reducible rfl))
                          try simp only [Act.put]
                          refine wpAnyH_take (i := 16) (v := ?_) rfl (by kernel_rfl) (by kernel_rfl) (by kernel_rfl) (fun _ _ _ h => h) (Or.inl ⟨by kernel_rfl, ?_⟩) (by assumption) ?_
                          rotate_left 1
                          · (intro wS hSw; have c0 := cell_still x1 hSw; go_simp; (try with_reducible rfl))
                          try simp only [Act.put]
                          refine wpAnyH_take (i := 17) (v := ?_) rfl (by kernel_rfl) (by kernel_rfl) (by kernel_rfl) (fun _ _ _ h => h) (Or.inl ⟨by kernel_rfl, ?_⟩) (by assumption) ?_
                          rotate_left 1
                          · (intro wS hSw; go_simp; (try with_reducible rfl))
                          try simp only [Act.put]
                          refine wpAnyH_take (i := 18) (v := ?_) rfl (by kernel_rfl) (by kernel_rfl) (by kernel_rfl) (fun _ _ _ h => h) (Or.inl ⟨by kernel_rfl, ?_⟩) (by assumption) ?_
                          rotate_left 1
                          · (intro wS hSw; have c0 := cell_still x3 hSw; go_simp; (try with_reducible rfl))
                          try simp only [Act.put]
                          refine wpAnyH_take (i := 19) (v := .int .i64 (P2 : Int)) rfl (by kernel_rfl) (by kernel_rfl) (by kernel_rfl) (fun _ _ _ h => h) (Or.inl ⟨by kernel_rfl, ?_⟩) (by assumption) ?_
                          · (intro wS hSw; go_simp; (try simp only [v3]))
                          try simp only [Act.put]
                          clear v3
                          refine wpAnyH_take (i := 20) (v := ?_) rfl (by kernel_rfl) (by kernel_rfl) (by kernel_rfl) (fun _ _ _ h => h) (Or.inl ⟨by kernel_rfl, ?_⟩) (by assumption) ?_
                          rotate_left 1
                          · (intro wS hSw; go_simp; (try with_reducible rfl))
                          try simp only [Act.put]
                          refine wpAnyH_take (i := 21) (v := .int .i64 (Q2 : Int)) rfl (by kernel_rfl) (by kernel_rfl) (by kernel_rfl) (fun _ _ _ h => h) (Or.inl ⟨by kernel_rfl, ?_⟩) (by assumption) ?_
                          · (intro wS hSw; go_simp; (try simp only [v4]))
                          try simp only [Act.put]
                          clear v4
                          refine wpAnyH_take (i := 22) (v := ?_) rfl (by kernel_rfl) (by kernel_rfl) (by kernel_rfl) (fun _ _ _ h => h) (Or.inl ⟨by kernel_rfl, ?_⟩) (by assumption) ?_
                          rotate_left 1
                          · (intro wS hSw; go_simp; (try with_reducible rfl))
                          try simp only [Act.put]
                          refine wpAnyH_take (i := 23) (v := ?_) rfl (by kernel_rfl) (by kernel_rfl) (by kernel_rfl) (fun _ _ _ h => h) (Or.inl ⟨by kernel_rfl, ?_⟩) (by assumption) ?_
                          rotate_left 1
                          · (intro wS hSw; have c0 := cell_still i2 hSw; go_simp; (try with_reducible rfl))
                          try simp only [Act.put]
                          refine wpAnyH_ready (rs := [24]) (by kernel_rfl) (by simp) ?_
                          refine AllReadyH.cons rfl (fun K hK => ?_) AllReadyH.nil
                          go_simp
                          refine (BB.out _).mono ?_
                          rintro e w5 ⟨rfl, n5, rfl⟩
                          refine hK.out _ _ (⟨hHeld.os, hHeld.tape, hHeld.output, hHeld.size, hHeld.block⟩) (fun hHeld => ?_)
                          clear hK K
                          try simp only [Act.put]
                          refine wpAnyH_take (i := 25) (v := ?_) rfl (by kernel_rfl) (by kernel_rfl) (by kernel_rfl) (fun _ _ _ h => h) (Or.inl ⟨by kernel_rfl, ?_⟩) (by assumption) ?_
                          rotate_left 1
                          · (intro wS hSw; go_simp; (try with_reducible rfl))
                          try simp only [Act.put]
                          refine wpAnyH_take (i := 26) (v := ?_) rfl (by kernel_rfl) (by kernel_rfl) (by kernel_rfl) (fun _ _ _ h => h) (Or.inl ⟨by kernel_rfl, ?_⟩) (by assumption) ?_
                          rotate_left 1
                          · (intro wS hSw; go_simp; (try with_reducible rfl))
                          try simp only [Act.put]
                          refine wpAnyH_take (i := 27) (v := ?_) rfl (by kernel_rfl) (by kernel_rfl) (by kernel_rfl) (fun _ _ _ h => h) (Or.inl ⟨by kernel_rfl, ?_⟩) (by assumption) ?_
                          rotate_left 1
                          · (intro wS hSw; go_simp; (try with_reducible rfl))
                          try simp only [Act.put]
                          refine wpAnyH_take (i := 28) (v := ?_) rfl (by kernel_rfl) (by kernel_rfl) (by kernel_rfl) (fun _ _ _ h => h) (Or.inl ⟨by kernel_rfl, ?_⟩) (by assumption) ?_
                          rotate_left 1
                          · (intro wS hSw; go_simp; (try with_reducible rfl))
                          try simp only [Act.put]
                          refine wpAnyH_take (i := 29) (v := ?_) rfl (by kernel_rfl) (by kernel_rfl) (by kernel_rfl) (fun _ _ _ h => h) (Or.inl ⟨by kernel_rfl, ?_⟩) (by assumption) ?_
                          rotate_left 1
                          · (intro wS hSw; go_simp; (try with_reducible rfl))
                          try simp only [Act.put]
                          refine wpAnyH_done (by kernel_rfl) ?_ _
                          clear i1 i2 x0 x1 x2 x3 y0 y1 y2 a3 hHeld
                          go_simp
                          go_wp2_with fail
                          go_roundg (ow - (s + 1))
                          case measure => omega
                          case rel => exact ⟨⟨HG3.out.os, HG3.out.tape, HG3.out.output, HG3.out.size, HG3.out.block⟩, s + 1, rfl, by omega, by go_num⟩
                        · obtain rfl : s = ow := by omega
                          clear hg
                          go_wp2_with fail
                          go_roundg (oh - (t + 1))
                          case measure => omega
                          case rel => exact ⟨HG3.out, t + 1, rfl, by omega, by go_num⟩
                    · obtain rfl : t = oh := by omega
                      have LZ := hide (LV.out wr (grown_trans GM.out hg))
                      clear hg
                      go_wp2_with fail
                      refine LZ.out.mono ?_
                      rintro e w9 ⟨rfl, hg9⟩
                      go_wp2
                      go_ret
                      exact ⟨rfl, grown_below (grown_trans GM.out (grown_trans HG.out hg9))⟩

end Go.Proofs.YtkefdkboejimeaaGreatDoor
