/- Law LinearTurned, by the walk (mkLLTurn.py). -/
import Derived.Test.YtfladhogkhhlcaaGreatDoorPartX
import Derived.Test.YtfladhogkhhlcaaGreatDoorLnGemFDJ
import Derived.Test.YtfladhogkhhlcaaGreatDoorLnRowsPJ
namespace Go.Proofs.YtfladhogkhhlcaaGreatDoor
open Go.RowKit

theorem trn_mem {k b : Nat} {ys : List Int} (hl : ys.length = k * b) : ∀ z ∈ trn k b ys, z ∈ ys := by
  intro z hz
  unfold trn at hz
  obtain ⟨j, hj, hz⟩ := List.mem_flatMap.1 hz
  obtain ⟨i, hi, rfl⟩ := List.mem_map.1 hz
  have hj : j < b := by simpa using hj
  have hi : i < k := by simpa using hi
  have hb : i * b + j < ys.length := by
    have : i * b + b ≤ k * b := by
      rw [show i * b + b = (i + 1) * b from by rw [Nat.add_mul]; omega]
      exact Nat.mul_le_mul_right _ (by omega)
    omega
  rw [List.getD, List.getElem?_eq_getElem hb]
  simp

theorem pb_trn {t : Int} {k b : Nat} {ys : List Int} (h : pbE t [(k : Int), (b : Int)] ys = 0) (hc : cntE [(b : Int), (k : Int)] = 0) : pbE t [(b : Int), (k : Int)] (trn k b ys) = 0 := by
  have hl : ys.length = k * b := by
    have := (pb_inv h).2
    rw [show prod [(k : Int), (b : Int)] = ((k * b : Nat) : Int) from by simp [prod]] at this
    omega
  have ha := (pb_parts h).2
  have h0 : chk t 0 = true := by
    unfold pbE at h
    split at h
    · omega
    · rename_i h1; simpa using h1
  unfold pbE
  rw [if_neg (by simp [h0]), if_neg (by simp [hc]), if_neg ?_, if_pos ?_]
  · rw [List.all_eq_true]
    intro z hz
    exact List.all_eq_true.1 ha z (trn_mem hl z hz)
  · rw [cnt, if_pos hc, trn_length, show prod [(b : Int), (k : Int)] = ((b * k : Nat) : Int) from by simp [prod]]
    simp

theorem x_strs {w : World} {B : Nat} (h : w.heap[B]? = some (.cells #[.string ⟨#[120]⟩] 9 (0, 0))) : IsStrs w (.slice (some ⟨B, 0, none⟩) 1 1) [⟨#[120]⟩] := lit_isLG (te := 9) (bytes := 16) (xs := [⟨#[120]⟩]) scell_len h rfl rfl (Nat.le_of_ble_eq_true rfl) (Nat.le_of_ble_eq_true rfl)

theorem nz_trr (t : Int) (x xs : List Int) (hx2 : x.length = 2) : ∀ c, trR t x xs = .error c → c ≠ 0 := by
  obtain ⟨p, q, rfl⟩ : ∃ p q, x = [p, q] := by
    match x, hx2 with
    | [p, q], _ => exact ⟨p, q, rfl⟩
  intro c h
  unfold trR doR at h
  split at h
  · cases h
  · rename_i c' hn
    cases h
    exact nz_node (nz_outT _ _ _) _ hn

set_option maxRecDepth 100000 in
set_option maxHeartbeats 16000000 in
theorem linearTurned_walk (X : Ten) {x xs : List Int} (Y : Ten) {y ys : List Int} (w : World) (hl : Laid w) (hx : IsInts w X.dv.v x) (hxs : IsInts w X.tv.v xs) (hy : IsInts w Y.dv.v y) (hys : IsInts w Y.tv.v ys) : Calls Tryz.prog 6 #[tval X, tval Y] w fun e w' => e = .returned (.bool true) ∧ Below w.heap.size w w' := by
  have HL := hide hl
  have HX := hide hx
  have HXS := hide hxs
  have HY := hide hy
  have HYS := hide hys
  obtain ⟨_, _, ex, -⟩ := hx.sl
  obtain ⟨_, _, ey, -⟩ := hy.sl
  clear hl hx hxs hy hys
  obtain ⟨tx, ⟨xa, xn, xc⟩, ⟨ua, un, uc⟩⟩ := X
  obtain ⟨ty, ⟨ya, yn, yc⟩, ⟨va, vn, vc⟩⟩ := Y
  simp only [Sl.v, Value.slice.injEq] at ex ey
  obtain ⟨-, rfl, -⟩ := ex
  obtain ⟨-, rfl, -⟩ := ey
  unfold tval
  simp only [Sl.v] at HX HXS HY HYS ⊢
  obtain ⟨w0, hw0⟩ : ∃ w0, w0 = (w.alloc (.cells #[.int .i64 tx, .slice xa x.length xc, .slice ua un uc] 25)).alloc (.cells #[.int .i64 ty, .slice ya y.length yc, .slice va vn vc] 25) := ⟨_, rfl⟩
  have hbx := two_boxes w (.cells #[.int .i64 tx, .slice xa x.length xc, .slice ua un uc] 25) (.cells #[.int .i64 ty, .slice ya y.length yc, .slice va vn vc] 25)
  rw [← hw0] at hbx
  have g0 : w.grownBy w0 none := by rw [hw0]; exact grown_trans (grown_new _ _) (grown_new _ _)
  have Z0 : w0.heap.size = w.heap.size + 1 + 1 := by rw [hw0]; simp
  have BX : Hid (∀ wx, w0.grownBy wx none → wx.heap[w.heap.size]? = some (.cells #[.int .i64 tx, .slice xa x.length xc, .slice ua un uc] 25 (0, 0)) ∧ wx.heap[w.heap.size + 1]? = some (.cells #[.int .i64 ty, .slice ya y.length yc, .slice va vn vc] 25 (0, 0))) := fun wx hx => ⟨box_kept hbx.1 hx, box_kept hbx.2 hx⟩
  have LV : Hid (∀ wx, w.grownBy wx none → Calls Tryz.prog 9 #[] wx fun e w' => e = .returned (.bool true) ∧ wx.grownBy w' none) := fun wx hx => live12_any wx (HL.out.more hx)
  obtain ⟨wS, hwS⟩ : ∃ wS, wS = w0.alloc (.cells #[.int .i64 tx, .slice xa x.length xc, .slice ua un uc, .int .i64 ty, .slice ya y.length yc, .slice va vn vc] 25) := ⟨_, rfl⟩
  obtain ⟨bS, -⟩ := new_alloc (.cells #[.int .i64 tx, .slice xa x.length xc, .slice ua un uc, .int .i64 ty, .slice ya y.length yc, .slice va vn vc] 25) Z0
  rw [← hwS] at bS
  have gS : w0.grownBy wS none := by rw [hwS]; exact grown_new _ _
  have GS := hide (grown_trans g0 gS)
  have GS0 := hide gS
  have SM := hide (small12_any ⟨some ⟨w.heap.size + 1 + 1, 0, none⟩, 2, 2⟩ _ wS (two_tens ⟨tx, ⟨xa, x.length, xc⟩, ⟨ua, un, uc⟩⟩ ⟨ty, ⟨ya, y.length, yc⟩, ⟨va, vn, vc⟩⟩ bS (HX.out.more GS.out) (HXS.out.more GS.out) (HY.out.more GS.out) (HYS.out.more GS.out)))
  simp only at SM
  obtain ⟨x0, x1, x2⟩ := ten_cells hbx.1
  obtain ⟨y0, y1, y2⟩ := ten_cells hbx.2
  rw [hw0] at x0 x1 x2 y0 y1 y2
  have G0 := hide g0
  clear hbx bS Z0 g0 gS
  go_enter Tryz.func6, Tryz.ntmps6
  go_wp2_with fail
  rw [← hw0, ← hwS]
  clear hw0 hwS x0 x1 x2 y0 y1 y2
  refine SM.out.mono ?_
  rintro e w1 ⟨bb, rfl, hg1⟩
  have G1 := hide (grown_trans GS.out hg1)
  have G01 := hide (grown_trans GS0.out hg1)
  have L1 := hide (LV.out w1 G1.out)
  obtain ⟨x0, x1, x2⟩ := ten_cells (BX.out w1 G01.out).1
  obtain ⟨y0, y1, y2⟩ := ten_cells (BX.out w1 G01.out).2
  clear hg1 SM
  by_cases hgo : bb = true ∧ x.length = 2 ∧ y.length = 2
  · obtain ⟨rfl, h1, h2⟩ := hgo
    have X2 := hide h1
    have Y2 := hide h2
    have b1 : ((x.length : Int) != 2) = false := by simp [h1]
    have b2 : ((y.length : Int) != 2) = false := by simp [h2]
    obtain ⟨wN, hwN⟩ : ∃ wN, wN = (w1.alloc (.cells #[.string ⟨#[120]⟩] 9)).alloc (.cells #[.string ⟨#[84, 114, 97, 110, 115, 112, 111, 115, 101]⟩, .string ⟨#[]⟩, .slice (some ⟨w1.heap.size, 0, none⟩) 1 1, .string ⟨#[121]⟩, .slice none 0 0] 36) := ⟨_, rfl⟩
    obtain ⟨wT, hwT⟩ : ∃ wT, wT = wN.alloc (.cells #[.int .i64 ty, .slice ya y.length yc, .slice va vn vc] 25) := ⟨_, rfl⟩
    have hbT := three_boxes w1 (.cells #[.string ⟨#[120]⟩] 9) (.cells #[.string ⟨#[84, 114, 97, 110, 115, 112, 111, 115, 101]⟩, .string ⟨#[]⟩, .slice (some ⟨w1.heap.size, 0, none⟩) 1 1, .string ⟨#[121]⟩, .slice none 0 0] 36) (.cells #[.int .i64 ty, .slice ya y.length yc, .slice va vn vc] 25)
    rw [← hwN, ← hwT] at hbT
    have hbN := two_boxes w1 (.cells #[.string ⟨#[120]⟩] 9) (.cells #[.string ⟨#[84, 114, 97, 110, 115, 112, 111, 115, 101]⟩, .string ⟨#[]⟩, .slice (some ⟨w1.heap.size, 0, none⟩) 1 1, .string ⟨#[121]⟩, .slice none 0 0] 36)
    rw [← hwN] at hbN
    have gN : w1.grownBy wN none := by rw [hwN]; exact grown_trans (grown_new _ _) (grown_new _ _)
    have gT : w1.grownBy wT none := by rw [hwT]; exact grown_trans gN (grown_new _ _)
    have GT := hide (grown_trans G1.out gT)
    have E1 := hide (trans_do ⟨#[121]⟩ ⟨some ⟨w1.heap.size, 0, none⟩, 1, 1⟩ ⟨#[120]⟩ (by kernel_rfl) (by decide) ⟨some ⟨w1.heap.size + 1 + 1, 0, none⟩, 1, 1⟩ ⟨ty, ⟨ya, y.length, yc⟩, ⟨va, vn, vc⟩⟩ y ys h2 wT (HL.out.more GT.out) (x_strs hbT.1) (one_ten _ hbT.2.2 (HY.out.more GT.out) (HYS.out.more GT.out)))
    unfold nval nilS at E1
    simp only at E1
    obtain ⟨r1, hr1⟩ : ∃ r, r = trR ty y ys := ⟨_, rfl⟩
    have HR1 := hide hr1
    rw [← hr1] at E1
    have G0T := hide (grown_trans G01.out gT)
    have BN : Hid (∀ wx, wT.grownBy wx none → wx.heap[w1.heap.size]? = some (.cells #[.string ⟨#[120]⟩] 9 (0, 0)) ∧ wx.heap[w1.heap.size + 1]? = some (.cells #[.string ⟨#[84, 114, 97, 110, 115, 112, 111, 115, 101]⟩, .string ⟨#[]⟩, .slice (some ⟨w1.heap.size, 0, none⟩) 1 1, .string ⟨#[121]⟩, .slice none 0 0] 36 (0, 0))) := fun wx hx => ⟨box_kept hbT.1 hx, box_kept hbT.2.1 hx⟩
    obtain ⟨c0, c1, c2⟩ := ten_cells (BX.out _ (grown_trans G01.out gN)).2
    obtain ⟨n0, n1, n2, n3, n4⟩ := nod_cells (n := ⟨⟨#[84, 114, 97, 110, 115, 112, 111, 115, 101]⟩, ⟨#[]⟩, ⟨some ⟨w1.heap.size, 0, none⟩, 1, 1⟩, ⟨#[121]⟩, ⟨none, 0, 0⟩⟩) hbN.2
    rw [hwN] at c0 c1 c2 n0 n1 n2 n3 n4
    clear hr1 hbT hbN gT gN h1 h2
    go_wp2_with fail
    rw [← hwN, ← hwT]
    clear hwN hwT x0 x1 x2 y0 y1 y2 c0 c1 c2 n0 n1 n2 n3 n4
    refine E1.out.mono ?_
    intro e w2 hq
    obtain ⟨hg2, ⟨aa, an, ac⟩, ⟨ad, am, ak⟩, rfl, ia, ja⟩ := do_any hq
    simp only
    obtain ⟨p2, hp2⟩ : ∃ W, W = w2.alloc (.cells #[.int .i64 (rTy r1), .slice aa an ac, .slice ad am ak] 25) := ⟨_, rfl⟩
    obtain ⟨q2, hq2⟩ : ∃ W, W = p2.alloc (.cells #[.int .i64 tx, .slice xa x.length xc, .slice ua un uc] 25) := ⟨_, rfl⟩
    have hb2 := two_boxes w2 (.cells #[.int .i64 (rTy r1), .slice aa an ac, .slice ad am ak] 25) (.cells #[.int .i64 tx, .slice xa x.length xc, .slice ua un uc] 25)
    rw [← hp2, ← hq2] at hb2
    have gp : w2.grownBy p2 none := by rw [hp2]; exact grown_new _ _
    have gq : p2.grownBy q2 none := by rw [hq2]; exact grown_new _ _
    have gpq := grown_trans gp gq
    have GTQ := hide (grown_trans hg2 gpq)
    have GQ := hide (grown_trans GT.out GTQ.out)
    have G0Q := hide (grown_trans G0T.out GTQ.out)
    have E2 := hide (trans_do ⟨#[121]⟩ ⟨some ⟨w1.heap.size, 0, none⟩, 1, 1⟩ ⟨#[120]⟩ (by kernel_rfl) (by decide) ⟨some ⟨w2.heap.size + 1, 0, none⟩, 1, 1⟩ ⟨tx, ⟨xa, x.length, xc⟩, ⟨ua, un, uc⟩⟩ x xs X2.out q2 (HL.out.more GQ.out) (x_strs (BN.out q2 GTQ.out).1) (one_ten _ hb2.2 (HX.out.more GQ.out) (HXS.out.more GQ.out)))
    unfold nval nilS at E2
    simp only at E2
    obtain ⟨r2, hr2⟩ : ∃ r, r = trR tx x xs := ⟨_, rfl⟩
    have HR2 := hide hr2
    rw [← hr2] at E2
    have IA := hide (ia.more gpq)
    have JA := hide (ja.more gpq)
    have BU := hide hb2.1
    obtain ⟨x0, x1, x2⟩ := ten_cells (BX.out p2 (grown_trans G0T.out (grown_trans hg2 gp))).1
    obtain ⟨n0, n1, n2, n3, n4⟩ := nod_cells (n := ⟨⟨#[84, 114, 97, 110, 115, 112, 111, 115, 101]⟩, ⟨#[]⟩, ⟨some ⟨w1.heap.size, 0, none⟩, 1, 1⟩, ⟨#[121]⟩, ⟨none, 0, 0⟩⟩) (BN.out p2 (grown_trans hg2 gp)).2
    rw [hp2] at x0 x1 x2 n0 n1 n2 n3 n4
    clear hr2 hb2 gp gq gpq ia ja hq hg2 E1
    go_wp2_with fail
    rw [← hp2, ← hq2]
    clear hp2 hq2 x0 x1 x2 n0 n1 n2 n3 n4
    refine E2.out.mono ?_
    intro e w3 hq
    obtain ⟨hg3, ⟨ba, bn, bc⟩, ⟨bd, bm, bk⟩, rfl, ib, jb⟩ := do_any hq
    simp only
    obtain ⟨p3, hp3⟩ : ∃ W, W = w3.alloc (.cells #[.int .i64 (rTy r2), .slice ba bn bc, .slice bd bm bk] 25) := ⟨_, rfl⟩
    have gp3 : w3.grownBy p3 none := by rw [hp3]; exact grown_new _ _
    have bp3 := heap_alloc_new w3 (.cells #[.int .i64 (rTy r2), .slice ba bn bc, .slice bd bm bk] 25)
    rw [← hp3] at bp3
    have G3 := hide (grown_trans GQ.out (grown_trans hg3 gp3))
    have G03 := hide (grown_trans G0Q.out (grown_trans hg3 gp3))
    have Q3 := hide (grown_trans hg3 gp3)
    have IB := hide (ib.more gp3)
    have JB := hide (jb.more gp3)
    have BV := hide bp3
    have BU3 := hide (box_kept BU.out (grown_trans hg3 gp3))
    have IA3 := hide (IA.out.more (grown_trans hg3 gp3))
    have JA3 := hide (JA.out.more (grown_trans hg3 gp3))
    have L3 := hide (LV.out p3 G3.out)
    clear ib jb gp3 bp3 hg3 hq E2
    by_cases hok : (∃ a, r1 = .ok a) ∧ (∃ a, r2 = .ok a)
    · obtain ⟨⟨⟨tu, lu, us⟩, rfl⟩, ⟨tv, lv, vs⟩, rfl⟩ := hok
      obtain ⟨k', b, ey, etu, elu, cy, cy', hus, py⟩ := tr_inv Y2.out HR1.out.symm
      obtain ⟨a, k, ex, etv, elv, cx, cx', hvs, px⟩ := tr_inv X2.out HR2.out.symm
      have cx2 := cx
      rw [ex] at cx2
      have cy2 := cy
      rw [ey] at cy2
      have cv2 := cx'
      rw [elv] at cv2
      have cu2 := cy'
      rw [elu] at cu2
      have px2 := px
      rw [ex] at px2
      have py2 := py
      rw [ey] at py2
      have TA := hide (turned_answer cx2 cy2 cv2 cu2 px2 py2 hvs hus (by rw [hvs]; exact pb_trn px2 cv2) (by rw [hus]; exact pb_trn py2 cu2))
      have HEX := hide ex
      have HEY := hide ey
      rw [← ex, ← ey] at TA
      have etu2 := etu.symm
      have etv2 := etv.symm
      subst etu2 etv2
      subst elu elv
      simp only [rTy, rL, rZ] at hp3 IA3 JA3 IB JB BV BU3 ⊢
      have i0 : (rC (Except.ok (ty, [(b : Int), (k' : Int)], us) : R (Int × List Int × List Int)) != 0) = false := rfl
      have i1 : (rC (Except.ok (tx, [(k : Int), (a : Int)], vs) : R (Int × List Int × List Int)) != 0) = false := rfl
      obtain ⟨wF, hwF⟩ : ∃ W, W = p3.alloc (.cells #[.string ⟨#[116, 114, 97, 110, 115, 65]⟩, .int .i64 2, .int .i64 0, .int .i64 1, .string ⟨#[]⟩, .int .i64 0, .slice none 0 0, .slice none 0 0, .slice none 0 0, .string ⟨#[116, 114, 97, 110, 115, 66]⟩, .int .i64 2, .int .i64 0, .int .i64 1, .string ⟨#[]⟩, .int .i64 0, .slice none 0 0, .slice none 0 0, .slice none 0 0] 41) := ⟨_, rfl⟩
      obtain ⟨wI, hwI⟩ : ∃ W, W = wF.alloc (.cells #[.string ⟨#[120]⟩, .string ⟨#[121]⟩] 9) := ⟨_, rfl⟩
      obtain ⟨wG, hwG⟩ : ∃ W, W = wI.alloc (.cells #[.int .i64 tx, .slice ba bn bc, .slice bd bm bk, .int .i64 ty, .slice aa an ac, .slice ad am ak] 25) := ⟨_, rfl⟩
      have zp : p3.heap.size = w3.heap.size + 1 := by rw [hp3]; simp
      obtain ⟨bF, zF⟩ := new_alloc (.cells #[.string ⟨#[116, 114, 97, 110, 115, 65]⟩, .int .i64 2, .int .i64 0, .int .i64 1, .string ⟨#[]⟩, .int .i64 0, .slice none 0 0, .slice none 0 0, .slice none 0 0, .string ⟨#[116, 114, 97, 110, 115, 66]⟩, .int .i64 2, .int .i64 0, .int .i64 1, .string ⟨#[]⟩, .int .i64 0, .slice none 0 0, .slice none 0 0, .slice none 0 0] 41) zp
      rw [← hwF] at bF zF
      obtain ⟨bI, zI⟩ := new_alloc (.cells #[.string ⟨#[120]⟩, .string ⟨#[121]⟩] 9) zF
      rw [← hwI] at bI zI
      obtain ⟨bG, -⟩ := new_alloc (.cells #[.int .i64 tx, .slice ba bn bc, .slice bd bm bk, .int .i64 ty, .slice aa an ac, .slice ad am ak] 25) zI
      rw [← hwG] at bG
      have gF : p3.grownBy wF none := by rw [hwF]; exact grown_new _ _
      have gI : wF.grownBy wI none := by rw [hwI]; exact grown_new _ _
      have gG : wI.grownBy wG none := by rw [hwG]; exact grown_new _ _
      have g3G := grown_trans (grown_trans gF gI) gG
      have G3G := hide g3G
      have GG := hide (grown_trans G3.out g3G)
      have E3 := hide (gemf_do ⟨#[122]⟩ ⟨some ⟨w3.heap.size + 1 + 1, 0, none⟩, 2, 2⟩ (w3.heap.size + 1) ⟨#[120]⟩ ⟨#[121]⟩ (by kernel_rfl) (by decide) ⟨some ⟨w3.heap.size + 1 + 1 + 1, 0, none⟩, 2, 2⟩ ⟨tx, ⟨ba, bn, bc⟩, ⟨bd, bm, bk⟩⟩ ⟨ty, ⟨aa, an, ac⟩, ⟨ad, am, ak⟩⟩ k a b k' vs us wG (HL.out.more GG.out) (xy_strs (box_kept bI gG)) (flag_attrs (box_kept bF (grown_trans gI gG))) (two_tens _ _ bG (IB.out.more g3G) (JB.out.more g3G) (IA3.out.more g3G) (JA3.out.more g3G)))
      unfold nval at E3
      simp only at E3
      rw [TA.out] at E3
      obtain ⟨r, hr⟩ : ∃ r, r = mmR tx ty x y xs ys := ⟨_, rfl⟩
      have HR := hide hr
      rw [← hr] at E3
      obtain ⟨x0, x1, x2⟩ := ten_cells (box_kept BV.out (grown_trans gF gI))
      obtain ⟨y0, y1, y2⟩ := ten_cells (box_kept BU3.out (grown_trans gF gI))
      rw [hwI, hwF, hp3] at x0 x1 x2 y0 y1 y2
      clear hr bF bI bG zF zI zp gF gI gG g3G cx cy cx' cy' cx2 cy2 cv2 cu2 px py px2 py2 hvs hus ex ey
      go_wp2_with fail
      rw [← hp3, ← hwF, ← hwI, ← hwG]
      clear hp3 hwF hwI hwG x0 x1 x2 y0 y1 y2 i0 i1
      refine E3.out.mono ?_
      intro e w4 hq
      obtain ⟨hg4, ⟨da, dn, dc⟩, ⟨dd, dm, dk⟩, rfl, id4, jd4⟩ := do_any hq
      simp only
      have G4 := hide (grown_trans GG.out hg4)
      have G04 := hide (grown_trans G03.out (grown_trans G3G.out hg4))
      obtain ⟨p4, hp4⟩ : ∃ W, W = w4.alloc (.cells #[.int .i64 (rTy r), .slice da dn dc, .slice dd dm dk] 25) := ⟨_, rfl⟩
      obtain ⟨q4, hq4⟩ : ∃ W, W = p4.alloc (.cells #[.string ⟨#[120]⟩, .string ⟨#[121]⟩] 9) := ⟨_, rfl⟩
      obtain ⟨s4, hs4⟩ : ∃ W, W = q4.alloc (.cells #[.int .i64 tx, .slice xa x.length xc, .slice ua un uc, .int .i64 ty, .slice ya y.length yc, .slice va vn vc] 25) := ⟨_, rfl⟩
      obtain ⟨bp, zp⟩ := new_alloc (.cells #[.int .i64 (rTy r), .slice da dn dc, .slice dd dm dk] 25) (x := w4) rfl
      rw [← hp4] at bp zp
      obtain ⟨bq, zq⟩ := new_alloc (.cells #[.string ⟨#[120]⟩, .string ⟨#[121]⟩] 9) zp
      rw [← hq4] at bq zq
      obtain ⟨bs, -⟩ := new_alloc (.cells #[.int .i64 tx, .slice xa x.length xc, .slice ua un uc, .int .i64 ty, .slice ya y.length yc, .slice va vn vc] 25) zq
      rw [← hs4] at bs
      have gp : w4.grownBy p4 none := by rw [hp4]; exact grown_new _ _
      have gq : p4.grownBy q4 none := by rw [hq4]; exact grown_new _ _
      have gs : q4.grownBy s4 none := by rw [hs4]; exact grown_new _ _
      have GD := hide (grown_trans (grown_trans gp gq) gs)
      have GA := hide (grown_trans G4.out GD.out)
      have ht : Twin x y := by
        rw [HEX.out, HEY.out]
        exact ⟨[], _, _, _, _, by simp, rfl, rfl⟩
      have E4 := hide (matmul_do ⟨#[122]⟩ ⟨some ⟨w4.heap.size + 1, 0, none⟩, 2, 2⟩ ⟨#[120]⟩ ⟨#[121]⟩ (by kernel_rfl) (by decide) ⟨some ⟨w4.heap.size + 1 + 1, 0, none⟩, 2, 2⟩ ⟨tx, ⟨xa, x.length, xc⟩, ⟨ua, un, uc⟩⟩ ⟨ty, ⟨ya, y.length, yc⟩, ⟨va, vn, vc⟩⟩ x y xs ys s4 ht (HL.out.more GA.out) (xy_strs (box_kept bq gs)) (two_tens _ _ bs (HX.out.more GA.out) (HXS.out.more GA.out) (HY.out.more GA.out) (HYS.out.more GA.out)))
      unfold nval nilS at E4
      simp only at E4
      rw [← HR.out] at E4
      obtain ⟨x0, x1, x2⟩ := ten_cells (BX.out q4 (grown_trans G04.out (grown_trans gp gq))).1
      obtain ⟨y0, y1, y2⟩ := ten_cells (BX.out q4 (grown_trans G04.out (grown_trans gp gq))).2
      rw [hq4, hp4] at x0 x1 x2 y0 y1 y2
      have BP := hide (box_kept bp (grown_trans gq gs))
      have ID := hide id4
      have JD := hide jd4
      clear bp bq bs zp zq gp gq gs ht hq hg4 E3 id4 jd4
      go_wp2_with fail
      rw [← hp4, ← hq4, ← hs4]
      clear hp4 hq4 hs4 x0 x1 x2 y0 y1 y2
      refine E4.out.mono ?_
      intro e w5 hq
      obtain ⟨hg5, ⟨ea, en, ec⟩, ⟨ed, em, ek⟩, rfl, ie, je⟩ := do_any hq
      simp only
      obtain ⟨p5, hp5⟩ : ∃ W, W = w5.alloc (.cells #[.int .i64 (rTy r), .slice ea en ec, .slice ed em ek] 25) := ⟨_, rfl⟩
      have bp5 := heap_alloc_new w5 (.cells #[.int .i64 (rTy r), .slice ea en ec, .slice ed em ek] 25)
      rw [← hp5] at bp5
      have gp5 : w5.grownBy p5 none := by rw [hp5]; exact grown_new _ _
      have D5 := grown_trans (grown_trans GD.out hg5) gp5
      have SA := hide (sameten_eq (rTy r) _ _ _ _ (rL r) (rZ r) p5 (ID.out.more D5) (JD.out.more D5) (ie.more gp5) (je.more gp5))
      simp only [Sl.v] at SA
      obtain ⟨x0, x1, x2⟩ := ten_cells (box_kept BP.out (grown_trans hg5 gp5))
      obtain ⟨y0, y1, y2⟩ := ten_cells bp5
      rw [hp5] at x0 x1 x2 y0 y1 y2
      have GP := hide (grown_trans (grown_trans GA.out hg5) gp5)
      clear bp5 gp5 hg5 hq ie je D5 E4
      go_wp2_with (first | (go_at_call 12; rw [← hp5]; refine SA.out.mono ?_; rintro e w7 ⟨rfl, hg7⟩; have L7 := hide (LV.out w7 (grown_trans GP.out hg7))) | fail)
      refine L7.out.mono ?_
      rintro e w8 ⟨rfl, hg8⟩
      go_wp2
      go_ret
      exact ⟨rfl, grown_below (grown_trans (grown_trans GP.out hg7) hg8)⟩
    · have hcase : (∃ c, r1 = .error c) ∨ ((∃ z, r1 = .ok z) ∧ ∃ c, r2 = .error c) := by
        cases r1 with
        | error c => exact .inl ⟨c, rfl⟩
        | ok z =>
          cases r2 with
          | error c => exact .inr ⟨⟨z, rfl⟩, c, rfl⟩
          | ok z' => exact absurd ⟨⟨z, rfl⟩, z', rfl⟩ hok
      clear hok
      have GF := hide G3.out
      rw [hp3] at GF L3
      rcases hcase with ⟨c, rfl⟩ | ⟨⟨z, rfl⟩, c, rfl⟩
      · have i0 : (rC (Except.error c : R (Int × List Int × List Int)) != 0) = true := by
          have hn : c ≠ 0 := nz_trr _ _ _ Y2.out c HR1.out.symm
          simpa [rC] using hn
        go_wp2_with fail
        refine L3.out.mono ?_
        rintro e u4 ⟨rfl, hg4⟩
        go_wp2
        go_ret
        exact ⟨rfl, grown_below (grown_trans GF.out hg4)⟩
      · have i0 : (rC (Except.ok z : R (Int × List Int × List Int)) != 0) = false := rfl
        have i1 : (rC (Except.error c : R (Int × List Int × List Int)) != 0) = true := by
          have hn : c ≠ 0 := nz_trr _ _ _ X2.out c HR2.out.symm
          simpa [rC] using hn
        go_wp2_with fail
        refine L3.out.mono ?_
        rintro e u4 ⟨rfl, hg4⟩
        go_wp2
        go_ret
        exact ⟨rfl, grown_below (grown_trans GF.out hg4)⟩
  · have hcase : bb = false ∨ (bb = true ∧ ((x.length : Int) != 2) = true) ∨ (bb = true ∧ ((x.length : Int) != 2) = false ∧ ((y.length : Int) != 2) = true) := by
      cases bb with
      | false => exact .inl rfl
      | true =>
        by_cases h1 : x.length = 2
        · by_cases h2 : y.length = 2
          · exact absurd ⟨rfl, h1, h2⟩ hgo
          · exact .inr (.inr ⟨rfl, by simp [h1], by simpa using (fun h => h2 (by omega) : ¬ (y.length : Int) = 2)⟩)
        · exact .inr (.inl ⟨rfl, by simpa using (fun h => h1 (by omega) : ¬ (x.length : Int) = 2)⟩)
    clear hgo
    rcases hcase with rfl | ⟨rfl, b1⟩ | ⟨rfl, b1, b2⟩
    all_goals
      go_wp2_with fail
      refine L1.out.mono ?_
      rintro e w2 ⟨rfl, hg2⟩
      go_wp2
      go_ret
      exact ⟨rfl, grown_below (grown_trans G1.out hg2)⟩
end Go.Proofs.YtfladhogkhhlcaaGreatDoor
