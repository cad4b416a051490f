/- Joined texts: CvLive, LCOneW. -/
import Derived.Test.YtkefdkboejimeaaGreatDoorPartBR
import Derived.Test.YtkefdkboejimeaaGreatDoorPartBS
import Derived.Test.YtkefdkboejimeaaGreatDoorPartAX
namespace Go.Proofs.YtkefdkboejimeaaGreatDoor

open Go.RowKit

set_option maxRecDepth 100000 in
set_option maxHeartbeats 4000000 in
theorem small13_any (u : Sl) (ps : List (Ten × Tq)) (w : World) (hv : TensIn w u.v ps) : Calls Tryz.prog 7 #[.slice u.a u.n u.c] w (Told w) := by
  obtain ⟨xa, xc, e1, p1, p2, p3⟩ := hv.vals.form
  rw [List.length_map] at e1 p1 p3
  obtain ⟨ua, un, uc⟩ := u
  simp only [Sl.v, Value.slice.injEq] at e1
  obtain ⟨rfl, rfl, rfl⟩ := e1
  have HV := hide hv
  clear hv
  go_enter Tryz.func7, Tryz.ntmps7
  go_wp2_with fail
  go_loopw [3] (fun i wr => w.grownBy wr none ∧ ∃ (k : Nat), k ≤ ps.length ∧ i = .int .i64 k) (fun i _ => ps.length - (intOf i).toNat)
  case atStart => exact ⟨grown_refl _, 0, Nat.zero_le _, rfl⟩
  case round =>
    obtain ⟨hg, k, hk, rfl⟩ := hrel
    have HG := hide hg
    by_cases hlt : k < ps.length
    · obtain ⟨b, off, rfl⟩ := HV.out.vals.addr (k := k) (by rw [List.length_map]; exact hlt)
      obtain ⟨-, -, a2⟩ := (HV.out.more hg).at k hlt
      obtain ⟨⟨ta, tn, tc⟩, hp⟩ : ∃ p, p = ps[k].1.tv := ⟨_, rfl⟩
      rw [← hp] at a2
      simp only at a2
      clear hp hg
      by_cases hb : 600 < tn
      · have hb' : (600 : Int) < tn := by omega
        go_wp2
        go_ret
        exact ⟨_, rfl, HG.out⟩
      · have hb' : ¬ (600 : Int) < tn := by omega
        go_wp2_with fail
        go_roundw
        case rel => exact ⟨HG.out, k + 1, by omega, by go_num⟩
        case measure => simp [intOf]; omega
    · obtain rfl : k = ps.length := by omega
      clear hg
      by_cases h6 : ps.length ≤ 6
      · have h6' : (ps.length : Int) ≤ 6 := by omega
        go_wp2
        go_ret
        exact ⟨_, rfl, HG.out⟩
      · have h6' : ¬ (ps.length : Int) ≤ 6 := by omega
        go_wp2
        go_ret
        exact ⟨_, rfl, HG.out⟩

theorem live_cv : cvR 1 1 [1065353216, 1073741824, 1077936128, 1082130432] [1065353216, 1065353216, 1065353216, 1065353216] = .ok (1, [1, 1, 1, 1], [1092616192]) := by kernel_rfl
theorem live_mp (s : Sl) : poolR (mostL 1) (inAt ⟨#[77, 97, 120, 80, 111, 111, 108]⟩ ⟨#[107, 101, 114, 110, 101, 108, 95, 115, 104, 97, 112, 101]⟩ s [2, 2]) 1 [1, 1, 2, 2] [1065353216, 1073741824, 1077936128, 1082130432] = .ok (1, [1, 1, 1, 1], [1082130432]) := by kernel_rfl

theorem xw_strs {w : World} {B : Nat} (h : w.heap[B]? = some (.cells #[.string ⟨#[120]⟩, .string ⟨#[119]⟩] 9 (0, 0))) : IsStrs w (.slice (some ⟨B, 0, none⟩) 2 2) [⟨#[120]⟩, ⟨#[119]⟩] := lit_isLG (te := 9) (bytes := 16) (xs := [⟨#[120]⟩, ⟨#[119]⟩]) scell_len h rfl rfl (Nat.le_of_ble_eq_true rfl) (Nat.le_of_ble_eq_true rfl)

theorem mp_check (s : Sl) (L : List Int) : checkF (ruleF ⟨#[77, 97, 120, 80, 111, 111, 108]⟩) ⟨#[77, 97, 120, 80, 111, 111, 108]⟩ [⟨#[120]⟩] ⟨#[122]⟩ (inAt ⟨#[77, 97, 120, 80, 111, 111, 108]⟩ ⟨#[107, 101, 114, 110, 101, 108, 95, 115, 104, 97, 112, 101]⟩ s L).xs (inAt ⟨#[77, 97, 120, 80, 111, 111, 108]⟩ ⟨#[107, 101, 114, 110, 101, 108, 95, 115, 104, 97, 112, 101]⟩ s L).cs = 0 := by kernel_rfl
theorem mp_then (op : ByteArray) (s : Sl) (L : List Int) : thenL ((inAt op ⟨#[107, 101, 114, 110, 101, 108, 95, 115, 104, 97, 112, 101]⟩ s L).xs.find? (isA ⟨#[116, 104, 101, 110]⟩ 3)) = [] := by kernel_rfl
theorem mp_str (op : ByteArray) (s : Sl) (L d : List Int) : At.ints (inAt op ⟨#[107, 101, 114, 110, 101, 108, 95, 115, 104, 97, 112, 101]⟩ s L) ⟨#[115, 116, 114, 105, 100, 101, 115]⟩ d = d := by kernel_rfl
theorem mp_dil (op : ByteArray) (s : Sl) (L d : List Int) : At.ints (inAt op ⟨#[107, 101, 114, 110, 101, 108, 95, 115, 104, 97, 112, 101]⟩ s L) ⟨#[100, 105, 108, 97, 116, 105, 111, 110, 115]⟩ d = d := by kernel_rfl
theorem mp_pad (op : ByteArray) (s : Sl) (L d : List Int) : At.ints (inAt op ⟨#[107, 101, 114, 110, 101, 108, 95, 115, 104, 97, 112, 101]⟩ s L) ⟨#[112, 97, 100, 115]⟩ d = d := by kernel_rfl
theorem mp_ker (op : ByteArray) (s : Sl) (L d : List Int) : At.ints (inAt op ⟨#[107, 101, 114, 110, 101, 108, 95, 115, 104, 97, 112, 101]⟩ s L) ⟨#[107, 101, 114, 110, 101, 108, 95, 115, 104, 97, 112, 101]⟩ d = L := by kernel_rfl

set_option maxRecDepth 100000 in
set_option maxHeartbeats 8000000 in
theorem live13_any (w : World) (hl : Laid w) : Calls Tryz.prog 8 #[] w fun e w' => e = .returned (.bool true) ∧ w.grownBy w' none := by
  have HL := hide hl
  clear hl
  obtain ⟨V, hV⟩ : ∃ V, V = (((w.alloc (.cells #[.int .i64 1, .int .i64 1, .int .i64 2, .int .i64 2] 3)).alloc (.cells #[.int .i64 1065353216, .int .i64 1073741824, .int .i64 1077936128, .int .i64 1082130432] 2)).alloc (.cells #[.int .i64 1, .slice (some ⟨w.heap.size, 0, none⟩) 4 4, .slice (some ⟨w.heap.size + 1, 0, none⟩) 4 4] 25)).alloc (.cells #[.int .i64 1, .int .i64 1, .int .i64 2, .int .i64 2] 3) := ⟨_, rfl⟩
  obtain ⟨W, hW⟩ : ∃ W, W = (((V.alloc (.cells #[.int .i64 1065353216, .int .i64 1065353216, .int .i64 1065353216, .int .i64 1065353216] 2)).alloc (.cells #[.int .i64 1, .slice (some ⟨w.heap.size + 1 + 1 + 1, 0, none⟩) 4 4, .slice (some ⟨w.heap.size + 1 + 1 + 1 + 1, 0, none⟩) 4 4] 25)).alloc (.cells #[.string ⟨#[120]⟩, .string ⟨#[119]⟩] 9)).alloc (.cells #[.int .i64 1, .slice (some ⟨w.heap.size, 0, none⟩) 4 4, .slice (some ⟨w.heap.size + 1, 0, none⟩) 4 4, .int .i64 1, .slice (some ⟨w.heap.size + 1 + 1 + 1, 0, none⟩) 4 4, .slice (some ⟨w.heap.size + 1 + 1 + 1 + 1, 0, none⟩) 4 4] 25) := ⟨_, rfl⟩
  obtain ⟨b0, b1, b2, b3, gV, zV⟩ := four_boxes w _ _ _ _ V hV
  obtain ⟨b4, b5, b6, b7, gW, zW⟩ := four_boxes V _ _ _ _ W hW
  rw [zV] at b4 b5 b6 b7
  have GW := hide (grown_trans gV gW)
  have BX := hide (box_kept b2 gW)
  have ID := hide (blk_ints (zs := [1, 1, 2, 2]) (box_kept b0 gW) (by simp) (by simp))
  have IX := hide (blk_ints (zs := [1065353216, 1073741824, 1077936128, 1082130432]) (box_kept b1 gW) (by simp) (by simp))
  have E1 := hide (cv_do ⟨#[122]⟩ ⟨some ⟨w.heap.size + 1 + 1 + 1 + 1 + 1 + 1, 0, none⟩, 2, 2⟩ ⟨#[120]⟩ ⟨#[119]⟩ (by kernel_rfl) (by decide) ⟨some ⟨w.heap.size + 1 + 1 + 1 + 1 + 1 + 1 + 1, 0, none⟩, 2, 2⟩ ⟨1, ⟨some ⟨w.heap.size, 0, none⟩, 4, 4⟩, ⟨some ⟨w.heap.size + 1, 0, none⟩, 4, 4⟩⟩ ⟨1, ⟨some ⟨w.heap.size + 1 + 1 + 1, 0, none⟩, 4, 4⟩, ⟨some ⟨w.heap.size + 1 + 1 + 1 + 1, 0, none⟩, 4, 4⟩⟩ [1065353216, 1073741824, 1077936128, 1082130432] [1065353216, 1065353216, 1065353216, 1065353216] W (HL.out.more GW.out) (xw_strs b6) (two_tens ⟨1, ⟨some ⟨w.heap.size, 0, none⟩, 4, 4⟩, ⟨some ⟨w.heap.size + 1, 0, none⟩, 4, 4⟩⟩ ⟨1, ⟨some ⟨w.heap.size + 1 + 1 + 1, 0, none⟩, 4, 4⟩, ⟨some ⟨w.heap.size + 1 + 1 + 1 + 1, 0, none⟩, 4, 4⟩⟩ b7 ID.out IX.out (blk_ints (zs := [1, 1, 2, 2]) (box_kept b3 gW) (by simp) (by simp)) (blk_ints (zs := [1065353216, 1065353216, 1065353216, 1065353216]) b4 (by simp) (by simp))) rfl rfl)
  rw [show cvR (Ten.ty ⟨1, ⟨some ⟨w.heap.size, 0, none⟩, 4, 4⟩, ⟨some ⟨w.heap.size + 1, 0, none⟩, 4, 4⟩⟩) (Ten.ty ⟨1, ⟨some ⟨w.heap.size + 1 + 1 + 1, 0, none⟩, 4, 4⟩, ⟨some ⟨w.heap.size + 1 + 1 + 1 + 1, 0, none⟩, 4, 4⟩⟩) [1065353216, 1073741824, 1077936128, 1082130432] [1065353216, 1065353216, 1065353216, 1065353216] = .ok (1, [1, 1, 1, 1], [1092616192]) from live_cv] at E1
  unfold nval nilS at E1
  simp only at E1
  obtain ⟨x0, x1, x2⟩ := ten_cells BX.out
  obtain ⟨y0, y1, y2⟩ := ten_cells b5
  rw [hW, hV] at x0 x1 x2 y0 y1 y2
  clear b0 b1 b2 b3 b4 b5 b6 b7 gV gW zW zV
  go_enter Tryz.func8, Tryz.ntmps8
  go_wp2_with fail
  rw [← hV, ← hW]
  clear hV hW x0 x1 x2 y0 y1 y2
  refine E1.out.mono ?_
  rintro e w1 ⟨hg1, ⟨ty, ⟨da, dn, dc⟩, ⟨ta, tn, tc⟩⟩, ht, rfl, od, ot⟩
  simp only at ht
  subst ht
  unfold tval
  simp only
  obtain ⟨p, hp⟩ : ∃ p, p = w1.alloc (.cells #[.int .i64 1, .slice da dn dc, .slice ta tn tc] 25) := ⟨_, rfl⟩
  obtain ⟨bp, zp⟩ := new_alloc (.cells #[.int .i64 1, .slice da dn dc, .slice ta tn tc] 25) (x := w1) rfl
  rw [← hp] at bp zp
  have gp : w1.grownBy p none := by rw [hp]; exact grown_new _ _
  obtain ⟨q, hq⟩ : ∃ q, q = (((p.alloc (.cells #[.string ⟨#[120]⟩] 9)).alloc (.cells #[.int .i64 2, .int .i64 2] 2)).alloc (.cells #[.string ⟨#[107, 101, 114, 110, 101, 108, 95, 115, 104, 97, 112, 101]⟩, .int .i64 7, .int .i64 0, .int .i64 0, .string ⟨#[]⟩, .int .i64 0, .slice none 0 0, .slice none 0 0, .slice (some ⟨w1.heap.size + 1 + 1, 0, none⟩) 2 2] 38)).alloc (.cells #[.int .i64 1, .slice (some ⟨w.heap.size, 0, none⟩) 4 4, .slice (some ⟨w.heap.size + 1, 0, none⟩) 4 4] 25) := ⟨_, rfl⟩
  obtain ⟨c0, c1, c2, c3, gq, zq⟩ := four_boxes p _ _ _ _ q hq
  rw [zp] at c0 c1 c2 c3
  have GP := hide (grown_trans GW.out (grown_trans hg1 gp))
  have GQ := hide (grown_trans GP.out gq)
  have gwq := grown_trans (grown_trans hg1 gp) gq
  have IK := blk_ints (zs := [2, 2]) c1 (by simp) (by simp)
  have AA := in_attrs (s := ⟨some ⟨w1.heap.size + 1 + 1, 0, none⟩, 2, 2⟩) c2
  have E2 := hide (mxp_do ⟨⟨#[77, 97, 120, 80, 111, 111, 108]⟩, ⟨#[]⟩, ⟨some ⟨w1.heap.size + 1, 0, none⟩, 1, 1⟩, ⟨#[122]⟩, ⟨some ⟨w1.heap.size + 1 + 1 + 1, 0, none⟩, 1, 1⟩⟩ (inAt ⟨#[77, 97, 120, 80, 111, 111, 108]⟩ ⟨#[107, 101, 114, 110, 101, 108, 95, 115, 104, 97, 112, 101]⟩ ⟨some ⟨w1.heap.size + 1 + 1, 0, none⟩, 2, 2⟩ [2, 2]) ⟨#[120]⟩ rfl ⟨some ⟨w1.heap.size + 1 + 1 + 1 + 1, 0, none⟩, 1, 1⟩ ⟨1, ⟨some ⟨w.heap.size, 0, none⟩, 4, 4⟩, ⟨some ⟨w.heap.size + 1, 0, none⟩, 4, 4⟩⟩ [1, 1, 2, 2] [1065353216, 1073741824, 1077936128, 1082130432] q (HL.out.more GQ.out) (in_in (x_strs c0) IK AA) (in_ok IK AA) (mp_check _ _) (mp_then _ _ _) (by show 1 ≤ 1048576; omega) (one_ten ⟨1, ⟨some ⟨w.heap.size, 0, none⟩, 4, 4⟩, ⟨some ⟨w.heap.size + 1, 0, none⟩, 4, 4⟩⟩ c3 (ID.out.more gwq) (IX.out.more gwq)) (mp_str _ _ _ _) (mp_dil _ _ _ _) (mp_pad _ _ _ _) (fun d => (mp_ker _ _ _ d).trans (mp_ker _ _ _ []).symm))
  rw [show poolR (mostL 1) (inAt ⟨#[77, 97, 120, 80, 111, 111, 108]⟩ ⟨#[107, 101, 114, 110, 101, 108, 95, 115, 104, 97, 112, 101]⟩ ⟨some ⟨w1.heap.size + 1 + 1, 0, none⟩, 2, 2⟩ [2, 2]) (Ten.ty ⟨1, ⟨some ⟨w.heap.size, 0, none⟩, 4, 4⟩, ⟨some ⟨w.heap.size + 1, 0, none⟩, 4, 4⟩⟩) [1, 1, 2, 2] [1065353216, 1073741824, 1077936128, 1082130432] = .ok (1, [1, 1, 1, 1], [1082130432]) from live_mp _] at E2
  unfold nval at E2
  simp only at E2
  have T1' := hide (ot.ints.more (grown_trans gp gq))
  have BP := hide (box_kept bp gq)
  have g3 : p.grownBy (((p.alloc (.cells #[.string ⟨#[120]⟩] 9)).alloc (.cells #[.int .i64 2, .int .i64 2] 2)).alloc (.cells #[.string ⟨#[107, 101, 114, 110, 101, 108, 95, 115, 104, 97, 112, 101]⟩, .int .i64 7, .int .i64 0, .int .i64 0, .string ⟨#[]⟩, .int .i64 0, .slice none 0 0, .slice none 0 0, .slice (some ⟨w1.heap.size + 1 + 1, 0, none⟩) 2 2] 38)) none := grown_trans (grown_new _ _) (grown_trans (grown_new _ _) (grown_new _ _))
  obtain ⟨x0, x1, x2⟩ := ten_cells (box_kept BX.out (grown_trans (grown_trans hg1 gp) g3))
  rw [hp] at x0 x1 x2
  clear bp zp gp c0 c1 c2 c3 gq zq od ot E1 hg1 gwq IK AA g3
  go_wp2_with fail
  rw [← hp, ← hq]
  clear hp hq x0 x1 x2
  refine E2.out.mono ?_
  rintro e w2 ⟨hg2, ⟨ty, ⟨ea, en, ec⟩, ⟨va, vn, vc⟩⟩, ht, rfl, od, ot⟩
  simp only at ht
  subst ht
  unfold tval
  simp only
  obtain ⟨p2, hp2⟩ : ∃ p, p = w2.alloc (.cells #[.int .i64 1, .slice ea en ec, .slice va vn vc] 25) := ⟨_, rfl⟩
  obtain ⟨bp2, zp2⟩ := new_alloc (.cells #[.int .i64 1, .slice ea en ec, .slice va vn vc] 25) (x := w2) rfl
  rw [← hp2] at bp2 zp2
  have gp2 : w2.grownBy p2 none := by rw [hp2]; exact grown_new _ _
  have I1 := T1'.out.more (grown_trans hg2 gp2)
  have I2 := ot.ints.more gp2
  obtain ⟨_, _, u1, -, -, -⟩ := I1.sl
  obtain ⟨_, _, u2, -, -, -⟩ := I2.sl
  simp only [Sl.v, Value.slice.injEq, List.length_cons, List.length_nil, Nat.zero_add] at u1 u2 I1 I2
  obtain ⟨rfl, rfl, rfl⟩ := u1
  obtain ⟨rfl, rfl, rfl⟩ := u2
  obtain ⟨r1, o1, rfl⟩ := addr_of I1 (by simp)
  obtain ⟨r2, o2, rfl⟩ := addr_of I2 (by simp)
  have i1 := item_at I1 (k := 0) (by simp)
  have i2 := item_at I2 (k := 0) (by simp)
  simp only [List.getD_cons_zero, Nat.add_zero] at i1 i2
  obtain ⟨x0, x1, x2⟩ := ten_cells (box_kept BP.out (grown_trans hg2 gp2))
  obtain ⟨y0, y1, y2⟩ := ten_cells bp2
  have GZ := hide (grown_trans GQ.out (grown_trans hg2 gp2))
  rw [hp2] at x0 x1 x2 y0 y1 y2 i1 i2
  have j1 : (0 : Int) < 1 := by decide
  clear bp2 zp2 gp2 od ot hg2 E2 I1 I2
  go_wp2
  rw [← hp2]
  go_ret
  exact ⟨rfl, GZ.out⟩

end Go.Proofs.YtkefdkboejimeaaGreatDoor

namespace Go.Proofs.YtkefdkboejimeaaGreatDoor

open Go.RowKit

theorem poolR_inv {f : List Int → Int} {A : At} {t ty : Int} {x xs l zs : List Int} (h : poolR f A t x xs = .ok (ty, l, zs)) : t = 1 ∧ ty = 1 ∧ cntE x = 0 ∧ pbE t x xs = 0 ∧ pooledP A x = .ok l ∧ zs = poolX f x (A.ints ⟨#[107, 101, 114, 110, 101, 108, 95, 115, 104, 97, 112, 101]⟩ []) l xs := by
  unfold poolR doR at h
  split at h
  · rename_i ty' l' hn
    obtain ⟨hall, ho⟩ := node_inv hn
    obtain ⟨c1, hts, hp, c3⟩ := outR_inv ho
    simp only [tq, okT, List.all_cons, List.all_nil, Bool.and_true, beq_iff_eq] at hall
    unfold tyFlt at hts
    obtain ⟨_, hm, hts⟩ := bind_ok hts
    cases hts
    cases h
    have := must_ok hm
    exact ⟨by simpa using this, rfl, c1, hall, hp, rfl⟩
  · cases h

theorem nz_poolR (f : List Int → Int) (A : At) (t : Int) (x xs : List Int) : ∀ c, poolR f A t x xs = .error c → c ≠ 0 := by
  intro c h
  unfold poolR doR at h
  split at h
  · cases h
  · rename_i c' hn
    cases h
    exact nz_node (nz_outR _ _ _ _ (nz_tyflt _) (nz_pooled _ _)) _ hn

theorem one_answerC {s : Sl} {t ty : Int} {x xs l zs : List Int} (h : poolR (mostL 1) (inAt ⟨#[77, 97, 120, 80, 111, 111, 108]⟩ ⟨#[107, 101, 114, 110, 101, 108, 95, 115, 104, 97, 112, 101]⟩ s [1, 1]) t x xs = .ok (ty, l, zs)) : ty = t ∧ l = x ∧ zs = xs := by
  obtain ⟨rfl, rfl, c1, hp, hd, rfl⟩ := poolR_inv h
  obtain ⟨D0, D1, H, W, kh, kw, oh, ow, P⟩ := pool_inv (fine_of c1) (mp_str _ _ _ _) (mp_dil _ _ _ _) (mp_pad _ _ _ _) hd
  have ek := P.ek
  rw [mp_ker] at ek
  have k1 : kh = 1 := by have := congrArg (·.getD 0 0) ek; simp at this; omega
  have k2 : kw = 1 := by have := congrArg (·.getD 1 0) ek; simp at this; omega
  subst k1 k2
  have e1 := P.e1
  have e2 := P.e2
  obtain rfl : oh = H := by omega
  obtain rfl : ow = W := by omega
  refine ⟨rfl, P.el.trans P.ex.symm, ?_⟩
  rw [poolX_eq P]
  exact pool_one _ (fun z => mostL_one 1 z) xs _ _ _ (xs_len P.ex (pb_inv hp).2)

set_option maxRecDepth 100000 in
set_option maxHeartbeats 16000000 in
theorem convOne_walk (X : Ten) {x xs : List Int} (w : World) (hl : Laid w) (hx : IsInts w X.dv.v x) (hxs : IsInts w X.tv.v xs) : Calls Tryz.prog 5 #[tval X] w fun e w' => e = .returned (.bool true) ∧ Below w.heap.size w w' := by
  have HL := hide hl
  have HX := hide hx
  have HXS := hide hxs
  clear hl hx hxs
  obtain ⟨tx, ⟨xa, xn, xc⟩, ⟨ua, un, uc⟩⟩ := X
  unfold tval
  simp only [Sl.v] at HX HXS ⊢
  obtain ⟨w0, hw0⟩ : ∃ w0, w0 = w.alloc (.cells #[.int .i64 tx, .slice xa xn xc, .slice ua un uc] 25) := ⟨_, rfl⟩
  obtain ⟨b0, z0⟩ := new_alloc (.cells #[.int .i64 tx, .slice xa xn xc, .slice ua un uc] 25) (x := w) rfl
  rw [← hw0] at b0 z0
  have g0 : w.grownBy w0 none := by rw [hw0]; exact grown_new _ _
  have G0 := hide g0
  have BX : Hid (∀ wx, w0.grownBy wx none → wx.heap[w.heap.size]? = some (.cells #[.int .i64 tx, .slice xa xn xc, .slice ua un uc] 25 (0, 0))) := fun wx hx => box_kept b0 hx
  have LV : Hid (∀ wx, w.grownBy wx none → Calls Tryz.prog 8 #[] wx fun e w' => e = .returned (.bool true) ∧ wx.grownBy w' none) := fun wx hx => live13_any wx (HL.out.more hx)
  obtain ⟨wS, hwS⟩ : ∃ wS, wS = w0.alloc (.cells #[.int .i64 tx, .slice xa xn xc, .slice ua un uc] 25) := ⟨_, rfl⟩
  obtain ⟨bS, -⟩ := new_alloc (.cells #[.int .i64 tx, .slice xa xn xc, .slice ua un uc] 25) z0
  rw [← hwS] at bS
  have gS : w0.grownBy wS none := by rw [hwS]; exact grown_new _ _
  have GS := hide (grown_trans g0 gS)
  have GS0 := hide gS
  have SM := hide (small13_any ⟨some ⟨w.heap.size + 1, 0, none⟩, 1, 1⟩ [(⟨tx, ⟨xa, xn, xc⟩, ⟨ua, un, uc⟩⟩, (x, xs))] wS (one_ten ⟨tx, ⟨xa, xn, xc⟩, ⟨ua, un, uc⟩⟩ bS (HX.out.more GS.out) (HXS.out.more GS.out)))
  simp only at SM
  obtain ⟨x0, x1, x2⟩ := ten_cells b0
  rw [hw0] at x0 x1 x2
  clear b0 bS z0 g0 gS
  go_enter Tryz.func5, Tryz.ntmps5
  go_wp2_with fail
  rw [← hw0, ← hwS]
  clear hw0 hwS x0 x1 x2
  refine SM.out.mono ?_
  rintro e w1 ⟨b, rfl, hg1⟩
  have G1 := hide (grown_trans GS.out hg1)
  have G01 := hide (grown_trans GS0.out hg1)
  have L1 := hide (LV.out w1 G1.out)
  clear hg1 SM
  cases b with
  | false =>
    go_wp2_with fail
    refine L1.out.mono ?_
    rintro e w2 ⟨rfl, hg2⟩
    go_wp2
    go_ret
    exact ⟨rfl, grown_below (grown_trans G1.out hg2)⟩
  | true =>
    obtain ⟨p, hp⟩ : ∃ p, p = (((w1.alloc (.cells #[.string ⟨#[120]⟩] 9)).alloc (.cells #[.int .i64 1, .int .i64 1] 2)).alloc (.cells #[.string ⟨#[107, 101, 114, 110, 101, 108, 95, 115, 104, 97, 112, 101]⟩, .int .i64 7, .int .i64 0, .int .i64 0, .string ⟨#[]⟩, .int .i64 0, .slice none 0 0, .slice none 0 0, .slice (some ⟨w1.heap.size + 1, 0, none⟩) 2 2] 38)).alloc (.cells #[.string ⟨#[77, 97, 120, 80, 111, 111, 108]⟩, .string ⟨#[]⟩, .slice (some ⟨w1.heap.size, 0, none⟩) 1 1, .string ⟨#[122]⟩, .slice (some ⟨w1.heap.size + 1 + 1, 0, none⟩) 1 1] 35) := ⟨_, rfl⟩
    obtain ⟨c0, c1, c2, c3, gp, zp⟩ := four_boxes w1 _ _ _ _ p hp
    obtain ⟨q, hq⟩ : ∃ q, q = p.alloc (.cells #[.int .i64 tx, .slice xa xn xc, .slice ua un uc] 25) := ⟨_, rfl⟩
    obtain ⟨bq, zq⟩ := new_alloc (.cells #[.int .i64 tx, .slice xa xn xc, .slice ua un uc] 25) zp
    rw [← hq] at bq zq
    have gq : p.grownBy q none := by rw [hq]; exact grown_new _ _
    have g1q := grown_trans gp gq
    have GQ := hide (grown_trans G1.out g1q)
    have G0Q := hide (grown_trans G01.out g1q)
    have IK := blk_ints (zs := [1, 1]) (box_kept c1 gq) (by simp) (by simp)
    have AA := in_attrs (s := ⟨some ⟨w1.heap.size + 1, 0, none⟩, 2, 2⟩) (box_kept c2 gq)
    obtain ⟨r, hr⟩ : ∃ r, r = poolR (mostL 1) (inAt ⟨#[77, 97, 120, 80, 111, 111, 108]⟩ ⟨#[107, 101, 114, 110, 101, 108, 95, 115, 104, 97, 112, 101]⟩ ⟨some ⟨w1.heap.size + 1, 0, none⟩, 2, 2⟩ [1, 1]) tx x xs := ⟨_, rfl⟩
    have E2 := hide (mxp_do ⟨⟨#[77, 97, 120, 80, 111, 111, 108]⟩, ⟨#[]⟩, ⟨some ⟨w1.heap.size, 0, none⟩, 1, 1⟩, ⟨#[122]⟩, ⟨some ⟨w1.heap.size + 1 + 1, 0, none⟩, 1, 1⟩⟩ (inAt ⟨#[77, 97, 120, 80, 111, 111, 108]⟩ ⟨#[107, 101, 114, 110, 101, 108, 95, 115, 104, 97, 112, 101]⟩ ⟨some ⟨w1.heap.size + 1, 0, none⟩, 2, 2⟩ [1, 1]) ⟨#[120]⟩ rfl ⟨some ⟨w1.heap.size + 1 + 1 + 1 + 1, 0, none⟩, 1, 1⟩ ⟨tx, ⟨xa, xn, xc⟩, ⟨ua, un, uc⟩⟩ x xs q (HL.out.more GQ.out) (in_in (x_strs (box_kept c0 gq)) IK AA) (in_ok IK AA) (mp_check _ _) (mp_then _ _ _) (by show 1 ≤ 1048576; omega) (one_ten ⟨tx, ⟨xa, xn, xc⟩, ⟨ua, un, uc⟩⟩ bq (HX.out.more GQ.out) (HXS.out.more GQ.out)) (mp_str _ _ _ _) (mp_dil _ _ _ _) (mp_pad _ _ _ _) (fun d => (mp_ker _ _ _ d).trans (mp_ker _ _ _ []).symm))
    simp only at E2
    rw [← hr] at E2
    unfold nval at E2
    simp only at E2
    have HR := hide hr
    obtain ⟨n0, n1, n2, n3, n4⟩ := nod_cells (n := ⟨⟨#[77, 97, 120, 80, 111, 111, 108]⟩, ⟨#[]⟩, ⟨some ⟨w1.heap.size, 0, none⟩, 1, 1⟩, ⟨#[122]⟩, ⟨some ⟨w1.heap.size + 1 + 1, 0, none⟩, 1, 1⟩⟩) c3
    obtain ⟨x0, x1, x2⟩ := ten_cells (BX.out p (grown_trans G01.out gp))
    simp only at n0 n1 n2 n3 n4
    rw [hp] at n0 n1 n2 n3 n4 x0 x1 x2
    clear c0 c1 c2 c3 gp zp bq zq gq g1q IK AA hr
    go_wp2_with fail
    rw [← hp, ← hq]
    clear hp hq n0 n1 n2 n3 n4 x0 x1 x2
    refine E2.out.mono ?_
    intro e w2 hdo
    obtain ⟨hg2, ⟨da, dn, dc⟩, ⟨ta, tn, tc⟩, rfl, id2, it2⟩ := do_any hdo
    simp only [Sl.v] at id2 it2 ⊢
    obtain ⟨m, hm⟩ : ∃ m, m = w2.alloc (.cells #[.int .i64 (rTy r), .slice da dn dc, .slice ta tn tc] 25) := ⟨_, rfl⟩
    obtain ⟨bm, zm⟩ := new_alloc (.cells #[.int .i64 (rTy r), .slice da dn dc, .slice ta tn tc] 25) (x := w2) rfl
    rw [← hm] at bm zm
    have gm : w2.grownBy m none := by rw [hm]; exact grown_new _ _
    have GM := hide (grown_trans GQ.out (grown_trans hg2 gm))
    have LM := hide (LV.out m GM.out)
    obtain ⟨y0, y1, y2⟩ := ten_cells bm
    obtain ⟨x0, x1, x2⟩ := ten_cells (BX.out m (grown_trans G0Q.out (grown_trans hg2 gm)))
    rw [hm] at y0 y1 y2 x0 x1 x2
    cases r with
    | error c =>
      have hc := nz_poolR _ _ _ _ _ c HR.out.symm
      have bc : (c != 0) = true := by simpa using hc
      simp only [rTy, rC] at y0 hm ⊢
      clear bm zm gm hg2 id2 it2 hdo y0 y1 y2 x0 x1 x2 hc
      go_wp2_with fail
      rw [← hm]
      clear hm
      refine LM.out.mono ?_
      rintro e w3 ⟨rfl, hg3⟩
      go_wp2
      go_ret
      exact ⟨rfl, grown_below (grown_trans GM.out hg3)⟩
    | ok rr =>
      obtain ⟨ty, l, zs⟩ := rr
      obtain ⟨rfl, rfl, rfl⟩ := one_answerC HR.out.symm
      simp only [rTy, rC, rL, rZ] at y0 y1 y2 x0 x1 x2 hm id2 it2 ⊢
      have SA := hide (sameten_eq ty _ _ _ _ l zs m (id2.more gm) (it2.more gm) (HX.out.more GM.out) (HXS.out.more GM.out))
      clear bm zm gm hg2 id2 it2 hdo
      go_wp2_with fail
      rw [← hm]
      clear hm y0 y1 y2 x0 x1 x2
      refine SA.out.mono ?_
      rintro e w3 ⟨rfl, hg3⟩
      have G3 := hide (grown_trans GM.out hg3)
      have L3 := hide (LV.out w3 G3.out)
      clear hg3
      go_wp2_with fail
      refine L3.out.mono ?_
      rintro e w4 ⟨rfl, hg4⟩
      go_wp2
      go_ret
      exact ⟨rfl, grown_below (grown_trans G3.out hg4)⟩

end Go.Proofs.YtkefdkboejimeaaGreatDoor
