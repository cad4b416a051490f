/- Joined texts: LCGlobW. -/
import Derived.Test.YtkefdkboejimeaaGreatDoorQartBT
import Derived.Test.YtkefdkboejimeaaGreatDoorQartAX
import Derived.Deep.CutRange
namespace Go.Proofs.YtkefdkboejimeaaGreatDoor

open Go.RowKit

theorem globR_inv {t ty : Int} {x xs l zs : List Int} (h : globR t x xs = .ok (ty, l, zs)) : t = 1 ∧ ty = 1 ∧ cntE x = 0 ∧ pbE t x xs = 0 ∧ globD x = .ok l ∧ cntE l = 0 ∧ zs = poolX meanL x [x.getD 2 0, x.getD 3 0] l xs ∧ nodeP [tq t x xs] (outR t x (tyFlt t) (globD x)) = .ok (ty, l) := by
  unfold globR doR at h
  split at h
  · rename_i ty' l' hn
    have hn0 := hn
    obtain ⟨hall, ho⟩ := node_inv hn
    obtain ⟨c1, hts, hp, c3⟩ := outR_inv ho
    simp only [tq, okT, List.all_cons, List.all_nil, Bool.and_true, beq_iff_eq] at hall
    unfold tyFlt at hts
    obtain ⟨_, hm, hts⟩ := bind_ok hts
    cases hts
    cases h
    have := must_ok hm
    exact ⟨by simpa using this, rfl, c1, hall, hp, c3, rfl, hn0⟩
  · cases h

theorem nz_globR (t : Int) (x xs : List Int) : ∀ c, globR t x xs = .error c → c ≠ 0 := by
  intro c h
  unfold globR doR at h
  split at h
  · cases h
  · rename_i c' hn
    cases h
    exact nz_node (nz_outR _ _ _ _ (nz_tyflt _) (nz_glob _)) _ hn

theorem avg_dims {s : Sl} {x : List Int} (h4 : x.length = 4) (hp : ∀ z ∈ x, 1 ≤ z) (h2 : x.getD 2 0 ≤ 100) (h3 : x.getD 3 0 ≤ 100) : pooledP (inAt ⟨#[65, 118, 101, 114, 97, 103, 101, 80, 111, 111, 108]⟩ ⟨#[107, 101, 114, 110, 101, 108, 95, 115, 104, 97, 112, 101]⟩ s [x.getD 2 0, x.getD 3 0]) x = globD x := by
  obtain ⟨a, b, c, d, rfl⟩ : ∃ a b c d, x = [a, b, c, d] := ⟨_, _, _, _, four_list h4⟩
  have hc : 1 ≤ c := hp c (by simp)
  have hd : 1 ≤ d := hp d (by simp)
  simp only [List.getD_cons_zero, List.getD_cons_succ] at h2 h3 ⊢
  have e1 : withinP [c, d] 2 1 = .ok [c, d] := by
    unfold withinP
    have : ([c, d].all (fun x => decide (1 ≤ x ∧ x ≤ 100))) = true := by simp; omega
    rw [this]
    rfl
  have e2 : padsP (inAt ⟨#[65, 118, 101, 114, 97, 103, 101, 80, 111, 111, 108]⟩ ⟨#[107, 101, 114, 110, 101, 108, 95, 115, 104, 97, 112, 101]⟩ s [c, d]) = .ok [0, 0, 0, 0] := by
    unfold padsP
    rw [mp_pad]
    rfl
  have e3 : ((List.range 4).all (fun i => decide (([0, 0, 0, 0] : List Int).getD i 0 < ([c, d] : List Int).getD (i % 2) 0))) = true := by
    simp [List.range_succ]
    omega
  have pl : ∀ al, al = 0 ∨ al = 1 → placesP (inAt ⟨#[65, 118, 101, 114, 97, 103, 101, 80, 111, 111, 108]⟩ ⟨#[107, 101, 114, 110, 101, 108, 95, 115, 104, 97, 112, 101]⟩ s [c, d]) [a, b, c, d] [c, d] al = .ok 1 := by
    intro al hal
    unfold placesP
    rw [mp_str, mp_dil, e2]
    rcases hal with rfl | rfl
    · change (mustP (decide (0 ≤ c + 0 + 0 - 1 * (c - 1) - 1))).bind (fun _ => .ok ((c + 0 + 0 - 1 * (c - 1) - 1) / 1 + 1)) = .ok 1
      rw [show c + 0 + 0 - 1 * (c - 1) - 1 = 0 by omega]
      rfl
    · change (mustP (decide (0 ≤ d + 0 + 0 - 1 * (d - 1) - 1))).bind (fun _ => .ok ((d + 0 + 0 - 1 * (d - 1) - 1) / 1 + 1)) = .ok 1
      rw [show d + 0 + 0 - 1 * (d - 1) - 1 = 0 by omega]
      rfl
  unfold pooledP
  rw [mp_ker, e1]
  change (padsP (inAt ⟨#[65, 118, 101, 114, 97, 103, 101, 80, 111, 111, 108]⟩ ⟨#[107, 101, 114, 110, 101, 108, 95, 115, 104, 97, 112, 101]⟩ s [c, d])).bind _ = _
  rw [e2]
  change (mustP ((List.range 4).all (fun i => decide (([0, 0, 0, 0] : List Int).getD i 0 < ([c, d] : List Int).getD (i % 2) 0)))).bind _ = _
  rw [e3]
  change (placesP (inAt ⟨#[65, 118, 101, 114, 97, 103, 101, 80, 111, 111, 108]⟩ ⟨#[107, 101, 114, 110, 101, 108, 95, 115, 104, 97, 112, 101]⟩ s [c, d]) [a, b, c, d] [c, d] 0).bind _ = _
  rw [pl 0 (.inl rfl)]
  change (placesP (inAt ⟨#[65, 118, 101, 114, 97, 103, 101, 80, 111, 111, 108]⟩ ⟨#[107, 101, 114, 110, 101, 108, 95, 115, 104, 97, 112, 101]⟩ s [c, d]) [a, b, c, d] [c, d] 1).bind _ = _
  rw [pl 1 (.inr rfl)]
  rfl

theorem glob_answer {s : Sl} {t ty : Int} {x xs l zs : List Int} (h : globR t x xs = .ok (ty, l, zs)) (h2 : x.getD 2 0 ≤ 100) (h3 : x.getD 3 0 ≤ 100) : poolR meanL (inAt ⟨#[65, 118, 101, 114, 97, 103, 101, 80, 111, 111, 108]⟩ ⟨#[107, 101, 114, 110, 101, 108, 95, 115, 104, 97, 112, 101]⟩ s [x.getD 2 0, x.getD 3 0]) t x xs = .ok (ty, l, zs) := by
  obtain ⟨-, -, c1, hp, hd, c3, rfl, hn⟩ := globR_inv h
  have h4 : x.length = 4 := by
    obtain ⟨_, h1, -⟩ := bind_ok hd
    simpa using must_ok h1
  unfold poolR
  rw [avg_dims h4 (fine_of c1).pos h2 h3, hn, mp_ker]
  rfl

theorem ap_check (s : Sl) (L : List Int) : checkF (ruleF ⟨#[65, 118, 101, 114, 97, 103, 101, 80, 111, 111, 108]⟩) ⟨#[65, 118, 101, 114, 97, 103, 101, 80, 111, 111, 108]⟩ [⟨#[120]⟩] ⟨#[122]⟩ (inAt ⟨#[65, 118, 101, 114, 97, 103, 101, 80, 111, 111, 108]⟩ ⟨#[107, 101, 114, 110, 101, 108, 95, 115, 104, 97, 112, 101]⟩ s L).xs (inAt ⟨#[65, 118, 101, 114, 97, 103, 101, 80, 111, 111, 108]⟩ ⟨#[107, 101, 114, 110, 101, 108, 95, 115, 104, 97, 112, 101]⟩ s L).cs = 0 := by kernel_rfl

theorem nodInfoC : (Tryz.prog.info? 35).map (·.size) = some 5 := by kernel_rfl

set_option maxRecDepth 100000 in
set_option maxHeartbeats 16000000 in
theorem convGlobal_walk (X : Ten) {x xs : List Int} (w : World) (hl : Laid w) (hx : IsInts w X.dv.v x) (hxs : IsInts w X.tv.v xs) : Calls Tryz.prog 4 #[tval X] w fun e w' => e = .returned (.bool true) ∧ Below w.heap.size w w' := by
  have HL := hide hl
  have HX := hide hx
  have HXS := hide hxs
  clear hl hx hxs
  obtain ⟨tx, ⟨xa, xn, xc⟩, ⟨ua, un, uc⟩⟩ := X
  unfold tval
  simp only [Sl.v] at HX HXS ⊢
  obtain ⟨w0, hw0⟩ : ∃ w0, w0 = w.alloc (.cells #[.int .i64 tx, .slice xa xn xc, .slice ua un uc] 25) := ⟨_, rfl⟩
  obtain ⟨b0, z0⟩ := new_alloc (.cells #[.int .i64 tx, .slice xa xn xc, .slice ua un uc] 25) (x := w) rfl
  rw [← hw0] at b0 z0
  have g0 : w.grownBy w0 none := by rw [hw0]; exact grown_new _ _
  have G0 := hide g0
  have BX : Hid (∀ wx, w0.grownBy wx none → wx.heap[w.heap.size]? = some (.cells #[.int .i64 tx, .slice xa xn xc, .slice ua un uc] 25 (0, 0))) := fun wx hx => box_kept b0 hx
  have LV : Hid (∀ wx, w.grownBy wx none → Calls Tryz.prog 8 #[] wx fun e w' => e = .returned (.bool true) ∧ wx.grownBy w' none) := fun wx hx => live13_any wx (HL.out.more hx)
  obtain ⟨wS, hwS⟩ : ∃ wS, wS = w0.alloc (.cells #[.int .i64 tx, .slice xa xn xc, .slice ua un uc] 25) := ⟨_, rfl⟩
  obtain ⟨bS, -⟩ := new_alloc (.cells #[.int .i64 tx, .slice xa xn xc, .slice ua un uc] 25) z0
  rw [← hwS] at bS
  have gS : w0.grownBy wS none := by rw [hwS]; exact grown_new _ _
  have GS := hide (grown_trans g0 gS)
  have GS0 := hide gS
  have SM := hide (small13_any ⟨some ⟨w.heap.size + 1, 0, none⟩, 1, 1⟩ [(⟨tx, ⟨xa, xn, xc⟩, ⟨ua, un, uc⟩⟩, (x, xs))] wS (one_ten ⟨tx, ⟨xa, xn, xc⟩, ⟨ua, un, uc⟩⟩ bS (HX.out.more GS.out) (HXS.out.more GS.out)))
  simp only at SM
  obtain ⟨x0, x1, x2⟩ := ten_cells b0
  rw [hw0] at x0 x1 x2
  clear b0 bS z0 g0 gS
  go_enter Tryz.func4, Tryz.ntmps4
  go_wp2_with fail
  rw [← hw0, ← hwS]
  clear hw0 hwS x0 x1 x2
  refine SM.out.mono ?_
  rintro e w1 ⟨b, rfl, hg1⟩
  have G1 := hide (grown_trans GS.out hg1)
  have G01 := hide (grown_trans GS0.out hg1)
  have L1 := hide (LV.out w1 G1.out)
  clear hg1 SM
  cases b with
  | false =>
    go_wp2_with fail
    refine L1.out.mono ?_
    rintro e w2 ⟨rfl, hg2⟩
    go_wp2
    go_ret
    exact ⟨rfl, grown_below (grown_trans G1.out hg2)⟩
  | true =>
    obtain ⟨_, _, ex, s1, s2, s3⟩ := HX.out.sl
    simp only [Value.slice.injEq] at ex
    obtain ⟨rfl, rfl, rfl⟩ := ex
    obtain ⟨x0, x1, x2⟩ := ten_cells (BX.out w1 G01.out)
    by_cases h4 : x.length = 4
    · rw [h4] at x1 BX ⊢
      have HX4 : Hid (IsInts w (.slice xa 4 xc) x) := by have h := HX.out; rw [h4] at h; exact h
      have i4 : IsInts w (.slice xa 4 xc) x := HX4.out
      obtain ⟨bx, ox, rfl⟩ := addr_of i4 (by omega)
      have y2 := item_at i4 (k := 2) (by omega)
      have y3 := item_at i4 (k := 3) (by omega)
      obtain ⟨d2, hd2⟩ : ∃ d, d = x.getD 2 0 := ⟨_, rfl⟩
      obtain ⟨d3, hd3⟩ : ∃ d, d = x.getD 3 0 := ⟨_, rfl⟩
      rw [← hd2] at y2
      rw [← hd3] at y3
      have DB2 : -9223372036854775808 ≤ d2 ∧ d2 ≤ 9223372036854775807 := by rw [hd2]; exact i4.wf _ (by rw [List.getD, List.getElem?_eq_getElem (by omega)]; exact List.getElem_mem _)
      have DB3 : -9223372036854775808 ≤ d3 ∧ d3 ≤ 9223372036854775807 := by rw [hd3]; exact i4.wf _ (by rw [List.getD, List.getElem?_eq_getElem (by omega)]; exact List.getElem_mem _)
      have Y2 := hide y2
      have Y3 := hide y3
      have HD2 := hide hd2
      have HD3 := hide hd3
      clear HX i4 y2 y3 hd2 hd3 h4 s1 s2 s3
      obtain ⟨q, hq⟩ : ∃ q, q = (w1.alloc (.cells #[.string ⟨#[120]⟩] 9)).alloc (.cells #[.int .i64 tx, .slice (some ⟨bx, ox, none⟩) 4 xc, .slice ua un uc] 25) := ⟨_, rfl⟩
      obtain ⟨c0, c1⟩ := two_boxes w1 (.cells #[.string ⟨#[120]⟩] 9) (.cells #[.int .i64 tx, .slice (some ⟨bx, ox, none⟩) 4 xc, .slice ua un uc] 25)
      rw [← hq] at c0 c1
      have gq : w1.grownBy q none := by rw [hq]; exact grown_trans (grown_new _ _) (grown_new _ _)
      have GQ := hide (grown_trans G1.out gq)
      have G0Q := hide (grown_trans G01.out gq)
      obtain ⟨r, hr⟩ : ∃ r, r = globR tx x xs := ⟨_, rfl⟩
      have E1 := hide (glp_do ⟨⟨#[71, 108, 111, 98, 97, 108, 65, 118, 101, 114, 97, 103, 101, 80, 111, 111, 108]⟩, ⟨#[]⟩, ⟨some ⟨w1.heap.size, 0, none⟩, 1, 1⟩, ⟨#[122]⟩, nilS⟩ ⟨⟨#[71, 108, 111, 98, 97, 108, 65, 118, 101, 114, 97, 103, 101, 80, 111, 111, 108]⟩, [], []⟩ ⟨#[120]⟩ rfl ⟨some ⟨w1.heap.size + 1, 0, none⟩, 1, 1⟩ ⟨tx, ⟨some ⟨bx, ox, none⟩, 4, xc⟩, ⟨ua, un, uc⟩⟩ x xs q (HL.out.more GQ.out) (bare_in q _ _ _ _ (x_strs c0)) (bare_ok q _ _ _) (by kernel_rfl) (by kernel_rfl) (by show 1 ≤ 1048576; omega) (one_ten ⟨tx, ⟨some ⟨bx, ox, none⟩, 4, xc⟩, ⟨ua, un, uc⟩⟩ c1 (HX4.out.more GQ.out) (HXS.out.more GQ.out)) (by kernel_rfl) (by kernel_rfl) (by kernel_rfl) (fun d => rfl))
      simp only at E1
      rw [← hr] at E1
      unfold nval nilS at E1
      simp only at E1
      have HR := hide hr
      obtain ⟨z0, z1, z2⟩ := ten_cells (BX.out (w1.alloc (.cells #[.string ⟨#[120]⟩] 9)) (grown_trans G01.out (grown_new _ _)))
      clear c0 c1 gq hr
      go_wp2_with fail
      rw [← hq]
      clear hq x0 x1 x2 z0 z1 z2
      refine E1.out.mono ?_
      intro e w2 hdo
      obtain ⟨hg2, ⟨da, dn, dc⟩, ⟨ta, tn, tc⟩, rfl, id2, it2⟩ := do_any hdo
      simp only [Sl.v] at id2 it2 ⊢
      obtain ⟨m, hm⟩ : ∃ m, m = w2.alloc (.cells #[.int .i64 (rTy r), .slice da dn dc, .slice ta tn tc] 25) := ⟨_, rfl⟩
      obtain ⟨bm, zm⟩ := new_alloc (.cells #[.int .i64 (rTy r), .slice da dn dc, .slice ta tn tc] 25) (x := w2) rfl
      rw [← hm] at bm zm
      have gm : w2.grownBy m none := by rw [hm]; exact grown_new _ _
      have GM := hide (grown_trans GQ.out (grown_trans hg2 gm))
      have G0M := hide (grown_trans G0Q.out (grown_trans hg2 gm))
      have BM := hide bm
      have ID := hide (id2.more gm)
      have IT := hide (it2.more gm)
      obtain ⟨x0, x1, x2⟩ := ten_cells (BX.out m G0M.out)
      have y2 := cell_still Y2.out GM.out
      have y3 := cell_still Y3.out GM.out
      clear bm zm gm hg2 id2 it2 hdo E1
      go_upto_region 4 with fail
      rw [← hm]
      clear hm
      go_cut [5] from 27 to 39 (fun t5 wx => m.grownBy wx none ∧ ∃ b0 b9 b11 b13 : Nat, t5 = .pointer (some ⟨b13, 0, none⟩) ∧ wx.heap[b13]? = some (.cells #[.string ⟨#[65, 118, 101, 114, 97, 103, 101, 80, 111, 111, 108]⟩, .string ⟨#[]⟩, .slice (some ⟨b0, 0, none⟩) 1 1, .string ⟨#[122]⟩, .slice (some ⟨b11, 0, none⟩) 1 1] 35 (0, 0)) ∧ wx.heap[b0]? = some (.cells #[.string ⟨#[120]⟩] 9 (0, 0)) ∧ wx.heap[b9]? = some (.cells #[.int .i64 d2, .int .i64 d3] 2 (0, 0)) ∧ wx.heap[b11]? = some (.cells #[.string ⟨#[107, 101, 114, 110, 101, 108, 95, 115, 104, 97, 112, 101]⟩, .int .i64 7, .int .i64 0, .int .i64 0, .string ⟨#[]⟩, .int .i64 0, .slice none 0 0, .slice none 0 0, .slice (some ⟨b9, 0, none⟩) 2 2] 38 (0, 0)))
      case first =>
        refine wp_region_held_drew (S := fun w' => m.grownBy w' none) (by kernel_rfl) (grown_drew (grown_refl _)) (fun _ => ?_)
        refine' with_nodeW (N := ∀ (v : World) (b0 : Nat) (b9 : Nat) (b11 : Nat) (b13 : Nat), m.grownBy v none → v.heap[b0]? = some (.cells #[.string ⟨#[120]⟩] 9 (0, 0)) → v.heap[b9]? = some (.cells #[.int .i64 d2, .int .i64 d3] 2 (0, 0)) → v.heap[b11]? = some (.cells #[.string ⟨#[107, 101, 114, 110, 101, 108, 95, 115, 104, 97, 112, 101]⟩, .int .i64 7, .int .i64 0, .int .i64 0, .string ⟨#[]⟩, .int .i64 0, .slice none 0 0, .slice none 0 0, .slice (some ⟨b9, 0, none⟩) 2 2] 38 (0, 0)) → v.heap[b13]? = some (.cells #[.string ⟨#[]⟩, .string ⟨#[]⟩, .slice none 0 0, .string ⟨#[]⟩, .slice none 0 0] 35 (0, 0)) → m.heap.size ≤ b13 → (_ : World → Nat → Nat → Nat → Nat → Prop) v b0 b9 b11 b13) (fun N0_9_11_13 => ?_) ?_
        rotate_left 1
        refine' with_nodeW (N := ∀ (v : World) (b0 : Nat) (b9 : Nat) (b11 : Nat), m.grownBy v none → v.heap[b0]? = some (.cells #[.string ⟨#[120]⟩] 9 (0, 0)) → v.heap[b9]? = some (.cells #[.int .i64 d2, .int .i64 d3] 2 (0, 0)) → v.heap[b11]? = some (.cells #[.string ⟨#[107, 101, 114, 110, 101, 108, 95, 115, 104, 97, 112, 101]⟩, .int .i64 7, .int .i64 0, .int .i64 0, .string ⟨#[]⟩, .int .i64 0, .slice none 0 0, .slice none 0 0, .slice (some ⟨b9, 0, none⟩) 2 2] 38 (0, 0)) → (_ : World → Nat → Nat → Nat → Prop) v b0 b9 b11) (fun N0_9_11 => ?_) ?_
        rotate_left 1
        refine' with_nodeW (N := ∀ (v : World) (b0 : Nat) (b9 : Nat) (b13 : Nat), m.grownBy v none → v.heap[b0]? = some (.cells #[.string ⟨#[120]⟩] 9 (0, 0)) → v.heap[b9]? = some (.cells #[.int .i64 d2, .int .i64 d3] 2 (0, 0)) → v.heap[b13]? = some (.cells #[.string ⟨#[]⟩, .string ⟨#[]⟩, .slice none 0 0, .string ⟨#[]⟩, .slice none 0 0] 35 (0, 0)) → m.heap.size ≤ b13 → (_ : World → Nat → Nat → Nat → Prop) v b0 b9 b13) (fun N0_9_13 => ?_) ?_
        rotate_left 1
        refine' with_nodeW (N := ∀ (v : World) (b9 : Nat) (b11 : Nat) (b13 : Nat), m.grownBy v none → v.heap[b9]? = some (.cells #[.int .i64 d2, .int .i64 d3] 2 (0, 0)) → v.heap[b11]? = some (.cells #[.string ⟨#[107, 101, 114, 110, 101, 108, 95, 115, 104, 97, 112, 101]⟩, .int .i64 7, .int .i64 0, .int .i64 0, .string ⟨#[]⟩, .int .i64 0, .slice none 0 0, .slice none 0 0, .slice (some ⟨b9, 0, none⟩) 2 2] 38 (0, 0)) → v.heap[b13]? = some (.cells #[.string ⟨#[]⟩, .string ⟨#[]⟩, .slice none 0 0, .string ⟨#[]⟩, .slice none 0 0] 35 (0, 0)) → m.heap.size ≤ b13 → (_ : World → Nat → Nat → Nat → Prop) v b9 b11 b13) (fun N9_11_13 => ?_) ?_
        rotate_left 1
        refine' with_nodeW (N := ∀ (v : World) (b0 : Nat) (b9 : Nat), m.grownBy v none → v.heap[b0]? = some (.cells #[.string ⟨#[120]⟩] 9 (0, 0)) → v.heap[b9]? = some (.cells #[.int .i64 d2, .int .i64 d3] 2 (0, 0)) → (_ : World → Nat → Nat → Prop) v b0 b9) (fun N0_9 => ?_) ?_
        rotate_left 1
        refine' with_nodeW (N := ∀ (v : World) (b0 : Nat) (b13 : Nat), m.grownBy v none → v.heap[b0]? = some (.cells #[.string ⟨#[120]⟩] 9 (0, 0)) → v.heap[b13]? = some (.cells #[.string ⟨#[]⟩, .string ⟨#[]⟩, .slice none 0 0, .string ⟨#[]⟩, .slice none 0 0] 35 (0, 0)) → m.heap.size ≤ b13 → (_ : World → Nat → Nat → Prop) v b0 b13) (fun N0_13 => ?_) ?_
        rotate_left 1
        refine' with_nodeW (N := ∀ (v : World) (b9 : Nat) (b11 : Nat), m.grownBy v none → v.heap[b9]? = some (.cells #[.int .i64 d2, .int .i64 d3] 2 (0, 0)) → v.heap[b11]? = some (.cells #[.string ⟨#[107, 101, 114, 110, 101, 108, 95, 115, 104, 97, 112, 101]⟩, .int .i64 7, .int .i64 0, .int .i64 0, .string ⟨#[]⟩, .int .i64 0, .slice none 0 0, .slice none 0 0, .slice (some ⟨b9, 0, none⟩) 2 2] 38 (0, 0)) → (_ : World → Nat → Nat → Prop) v b9 b11) (fun N9_11 => ?_) ?_
        rotate_left 1
        refine' with_nodeW (N := ∀ (v : World) (b9 : Nat) (b13 : Nat), m.grownBy v none → v.heap[b9]? = some (.cells #[.int .i64 d2, .int .i64 d3] 2 (0, 0)) → v.heap[b13]? = some (.cells #[.string ⟨#[]⟩, .string ⟨#[]⟩, .slice none 0 0, .string ⟨#[]⟩, .slice none 0 0] 35 (0, 0)) → m.heap.size ≤ b13 → (_ : World → Nat → Nat → Prop) v b9 b13) (fun N9_13 => ?_) ?_
        rotate_left 1
        refine' with_nodeW (N := ∀ (v : World) (b0 : Nat), m.grownBy v none → v.heap[b0]? = some (.cells #[.string ⟨#[120]⟩] 9 (0, 0)) → (_ : World → Nat → Prop) v b0) (fun N0 => ?_) ?_
        rotate_left 1
        refine' with_nodeW (N := ∀ (v : World) (b9 : Nat), m.grownBy v none → v.heap[b9]? = some (.cells #[.int .i64 d2, .int .i64 d3] 2 (0, 0)) → (_ : World → Nat → Prop) v b9) (fun N9 => ?_) ?_
        rotate_left 1
        refine' with_nodeW (N := ∀ (v : World) (b13 : Nat), m.grownBy v none → v.heap[b13]? = some (.cells #[.string ⟨#[]⟩, .string ⟨#[]⟩, .slice none 0 0, .string ⟨#[]⟩, .slice none 0 0] 35 (0, 0)) → m.heap.size ≤ b13 → (_ : World → Nat → Prop) v b13) (fun N13 => ?_) ?_
        rotate_left 1
        · have g : m.grownBy m.drew none := grown_drew (grown_refl _)
          generalize hv : m.drew = v at g ⊢
          clear hv
          refine wpAnyH_take (i := 1) (v := ?_) rfl (by kernel_rfl) (by kernel_rfl) (by kernel_rfl) (fun _ _ _ h => h) (Or.inl ⟨by kernel_rfl, ?_⟩) (by assumption) ?_
          rotate_left 1
          · (intro wS hSw; go_simp; (try with_reducible rfl))
          try simp only [Act.put]
          refine wpAnyH_take (i := 2) (v := ?_) rfl (by kernel_rfl) (by kernel_rfl) (by kernel_rfl) (fun _ _ _ h => h) (Or.inl ⟨by kernel_rfl, ?_⟩) (by assumption) ?_
          rotate_left 1
          · (intro wS hSw; have c0 := cell_still x1 hSw; go_simp; (try with_reducible rfl))
          try simp only [Act.put]
          refine wpAnyH_take (i := 3) (v := ?_) rfl (by kernel_rfl) (by kernel_rfl) (by kernel_rfl) (fun _ _ _ h => h) (Or.inl ⟨by kernel_rfl, ?_⟩) (by assumption) ?_
          rotate_left 1
          · (intro wS hSw; go_simp; (try with_reducible rfl))
          try simp only [Act.put]
          refine wpAnyH_take (i := 4) (v := ?_) rfl (by kernel_rfl) (by kernel_rfl) (by kernel_rfl) (fun _ _ _ h => h) (Or.inl ⟨by kernel_rfl, ?_⟩) (by assumption) ?_
          rotate_left 1
          · (intro wS hSw; have c0 := cell_still y2 hSw; go_simp; (try with_reducible rfl))
          try simp only [Act.put]
          refine wpAnyH_take (i := 5) (v := ?_) rfl (by kernel_rfl) (by kernel_rfl) (by kernel_rfl) (fun _ _ _ h => h) (Or.inl ⟨by kernel_rfl, ?_⟩) (by assumption) ?_
          rotate_left 1
          · (intro wS hSw; go_simp; (try with_reducible rfl))
          try simp only [Act.put]
          refine wpAnyH_take (i := 6) (v := ?_) rfl (by kernel_rfl) (by kernel_rfl) (by kernel_rfl) (fun _ _ _ h => h) (Or.inl ⟨by kernel_rfl, ?_⟩) (by assumption) ?_
          rotate_left 1
          · (intro wS hSw; have c0 := cell_still x1 hSw; go_simp; (try with_reducible rfl))
          try simp only [Act.put]
          refine wpAnyH_take (i := 7) (v := ?_) rfl (by kernel_rfl) (by kernel_rfl) (by kernel_rfl) (fun _ _ _ h => h) (Or.inl ⟨by kernel_rfl, ?_⟩) (by assumption) ?_
          rotate_left 1
          · (intro wS hSw; go_simp; (try with_reducible rfl))
          try simp only [Act.put]
          refine wpAnyH_take (i := 8) (v := ?_) rfl (by kernel_rfl) (by kernel_rfl) (by kernel_rfl) (fun _ _ _ h => h) (Or.inl ⟨by kernel_rfl, ?_⟩) (by assumption) ?_
          rotate_left 1
          · (intro wS hSw; have c0 := cell_still y3 hSw; go_simp; (try with_reducible rfl))
          try simp only [Act.put]
          refine wpAnyH_ready (rs := [0, 9, 13]) (by kernel_rfl) (by simp) ?_
          refine AllReadyH.cons rfl (fun K hK => ?_) ?_
          · go_simp
            have h0 := heap_alloc_new v (.cells #[.string ⟨#[120]⟩] 9)
            have gs := grown_new v (.cells #[.string ⟨#[120]⟩] 9)
            generalize hvn : v.alloc (.cells #[.string ⟨#[120]⟩] 9) = u at h0 gs ⊢
            clear hvn
            generalize v.heap.size = b0 at h0 ⊢
            have gn := grown_trans g gs
            refine hK.out _ _ gn (fun hHeld => ?_)
            clear hK K
            try simp only [Act.put]
            clear g gs hHeld
            exact N0 u b0 gn h0
          refine AllReadyH.cons rfl (fun K hK => ?_) ?_
          · go_simp
            have h9 := heap_alloc_new v (.cells #[.int .i64 d2, .int .i64 d3] 2)
            have gs := grown_new v (.cells #[.int .i64 d2, .int .i64 d3] 2)
            generalize hvn : v.alloc (.cells #[.int .i64 d2, .int .i64 d3] 2) = u at h9 gs ⊢
            clear hvn
            generalize v.heap.size = b9 at h9 ⊢
            have gn := grown_trans g gs
            refine hK.out _ _ gn (fun hHeld => ?_)
            clear hK K
            try simp only [Act.put]
            refine wpAnyH_take (i := 10) (v := ?_) rfl (by kernel_rfl) (by kernel_rfl) (by kernel_rfl) (fun _ _ _ h => h) (Or.inl ⟨by kernel_rfl, ?_⟩) (by assumption) ?_
            rotate_left 1
            · (intro wS hSw; go_simp; (try with_reducible rfl))
            try simp only [Act.put]
            clear g gs hHeld
            exact N9 u b9 gn h9
          refine AllReadyH.cons rfl (fun K hK => ?_) ?_
          · go_simp
            have hb13 := g.size
            have h13 := heap_alloc_new v (.cells #[.string ⟨#[]⟩, .string ⟨#[]⟩, .slice none 0 0, .string ⟨#[]⟩, .slice none 0 0] 35)
            have gs := grown_new v (.cells #[.string ⟨#[]⟩, .string ⟨#[]⟩, .slice none 0 0, .string ⟨#[]⟩, .slice none 0 0] 35)
            generalize hvn : v.alloc (.cells #[.string ⟨#[]⟩, .string ⟨#[]⟩, .slice none 0 0, .string ⟨#[]⟩, .slice none 0 0] 35) = u at h13 gs ⊢
            clear hvn
            generalize v.heap.size = b13 at h13 hb13 ⊢
            have gn := grown_trans g gs
            refine hK.out _ _ gn (fun hHeld => ?_)
            clear hK K
            try simp only [Act.put]
            clear g gs hHeld
            exact N13 u b13 gn h13 hb13
          exact AllReadyH.nil
        · intro v b13 g h13 hb13
          refine wpAnyH_ready (rs := [0, 9]) (by kernel_rfl) (by simp) ?_
          refine AllReadyH.cons rfl (fun K hK => ?_) ?_
          · go_simp
            have h0 := heap_alloc_new v (.cells #[.string ⟨#[120]⟩] 9)
            have gs := grown_new v (.cells #[.string ⟨#[120]⟩] 9)
            generalize hvn : v.alloc (.cells #[.string ⟨#[120]⟩] 9) = u at h0 gs ⊢
            clear hvn
            generalize v.heap.size = b0 at h0 ⊢
            have gn := grown_trans g gs
            refine hK.out _ _ gn (fun hHeld => ?_)
            clear hK K
            try simp only [Act.put]
            have h13 := box_kept h13 gs
            clear g gs hHeld
            exact N0_13 u b0 b13 gn h0 h13 hb13
          refine AllReadyH.cons rfl (fun K hK => ?_) ?_
          · go_simp
            have h9 := heap_alloc_new v (.cells #[.int .i64 d2, .int .i64 d3] 2)
            have gs := grown_new v (.cells #[.int .i64 d2, .int .i64 d3] 2)
            generalize hvn : v.alloc (.cells #[.int .i64 d2, .int .i64 d3] 2) = u at h9 gs ⊢
            clear hvn
            generalize v.heap.size = b9 at h9 ⊢
            have gn := grown_trans g gs
            refine hK.out _ _ gn (fun hHeld => ?_)
            clear hK K
            try simp only [Act.put]
            refine wpAnyH_take (i := 10) (v := ?_) rfl (by kernel_rfl) (by kernel_rfl) (by kernel_rfl) (fun _ _ _ h => h) (Or.inl ⟨by kernel_rfl, ?_⟩) (by assumption) ?_
            rotate_left 1
            · (intro wS hSw; go_simp; (try with_reducible rfl))
            try simp only [Act.put]
            have h13 := box_kept h13 gs
            clear g gs hHeld
            exact N9_13 u b9 b13 gn h9 h13 hb13
          exact AllReadyH.nil
        · intro v b9 g h9
          refine wpAnyH_ready (rs := [0, 11, 13]) (by kernel_rfl) (by simp) ?_
          refine AllReadyH.cons rfl (fun K hK => ?_) ?_
          · go_simp
            have h0 := heap_alloc_new v (.cells #[.string ⟨#[120]⟩] 9)
            have gs := grown_new v (.cells #[.string ⟨#[120]⟩] 9)
            generalize hvn : v.alloc (.cells #[.string ⟨#[120]⟩] 9) = u at h0 gs ⊢
            clear hvn
            generalize v.heap.size = b0 at h0 ⊢
            have gn := grown_trans g gs
            refine hK.out _ _ gn (fun hHeld => ?_)
            clear hK K
            try simp only [Act.put]
            have h9 := box_kept h9 gs
            clear g gs hHeld
            exact N0_9 u b0 b9 gn h0 h9
          refine AllReadyH.cons rfl (fun K hK => ?_) ?_
          · go_simp
            have h11 := heap_alloc_new v (.cells #[.string ⟨#[107, 101, 114, 110, 101, 108, 95, 115, 104, 97, 112, 101]⟩, .int .i64 7, .int .i64 0, .int .i64 0, .string ⟨#[]⟩, .int .i64 0, .slice none 0 0, .slice none 0 0, .slice (some ⟨b9, 0, none⟩) 2 2] 38)
            have gs := grown_new v (.cells #[.string ⟨#[107, 101, 114, 110, 101, 108, 95, 115, 104, 97, 112, 101]⟩, .int .i64 7, .int .i64 0, .int .i64 0, .string ⟨#[]⟩, .int .i64 0, .slice none 0 0, .slice none 0 0, .slice (some ⟨b9, 0, none⟩) 2 2] 38)
            generalize hvn : v.alloc (.cells #[.string ⟨#[107, 101, 114, 110, 101, 108, 95, 115, 104, 97, 112, 101]⟩, .int .i64 7, .int .i64 0, .int .i64 0, .string ⟨#[]⟩, .int .i64 0, .slice none 0 0, .slice none 0 0, .slice (some ⟨b9, 0, none⟩) 2 2] 38) = u at h11 gs ⊢
            clear hvn
            generalize v.heap.size = b11 at h11 ⊢
            have gn := grown_trans g gs
            refine hK.out _ _ gn (fun hHeld => ?_)
            clear hK K
            try simp only [Act.put]
            have h9 := box_kept h9 gs
            clear g gs hHeld
            exact N9_11 u b9 b11 gn h9 h11
          refine AllReadyH.cons rfl (fun K hK => ?_) ?_
          · go_simp
            have hb13 := g.size
            have h13 := heap_alloc_new v (.cells #[.string ⟨#[]⟩, .string ⟨#[]⟩, .slice none 0 0, .string ⟨#[]⟩, .slice none 0 0] 35)
            have gs := grown_new v (.cells #[.string ⟨#[]⟩, .string ⟨#[]⟩, .slice none 0 0, .string ⟨#[]⟩, .slice none 0 0] 35)
            generalize hvn : v.alloc (.cells #[.string ⟨#[]⟩, .string ⟨#[]⟩, .slice none 0 0, .string ⟨#[]⟩, .slice none 0 0] 35) = u at h13 gs ⊢
            clear hvn
            generalize v.heap.size = b13 at h13 hb13 ⊢
            have gn := grown_trans g gs
            refine hK.out _ _ gn (fun hHeld => ?_)
            clear hK K
            try simp only [Act.put]
            have h9 := box_kept h9 gs
            clear g gs hHeld
            refine cast ?_ (N9_13 u b9 b13 gn h9 h13 hb13)
            kernel_rfl
          exact AllReadyH.nil
        · intro v b0 g h0
          refine wpAnyH_ready (rs := [9, 13]) (by kernel_rfl) (by simp) ?_
          refine AllReadyH.cons rfl (fun K hK => ?_) ?_
          · go_simp
            have h9 := heap_alloc_new v (.cells #[.int .i64 d2, .int .i64 d3] 2)
            have gs := grown_new v (.cells #[.int .i64 d2, .int .i64 d3] 2)
            generalize hvn : v.alloc (.cells #[.int .i64 d2, .int .i64 d3] 2) = u at h9 gs ⊢
            clear hvn
            generalize v.heap.size = b9 at h9 ⊢
            have gn := grown_trans g gs
            refine hK.out _ _ gn (fun hHeld => ?_)
            clear hK K
            try simp only [Act.put]
            refine wpAnyH_take (i := 10) (v := ?_) rfl (by kernel_rfl) (by kernel_rfl) (by kernel_rfl) (fun _ _ _ h => h) (Or.inl ⟨by kernel_rfl, ?_⟩) (by assumption) ?_
            rotate_left 1
            · (intro wS hSw; go_simp; (try with_reducible rfl))
            try simp only [Act.put]
            have h0 := box_kept h0 gs
            clear g gs hHeld
            refine cast ?_ (N0_9 u b0 b9 gn h0 h9)
            kernel_rfl
          refine AllReadyH.cons rfl (fun K hK => ?_) ?_
          · go_simp
            have hb13 := g.size
            have h13 := heap_alloc_new v (.cells #[.string ⟨#[]⟩, .string ⟨#[]⟩, .slice none 0 0, .string ⟨#[]⟩, .slice none 0 0] 35)
            have gs := grown_new v (.cells #[.string ⟨#[]⟩, .string ⟨#[]⟩, .slice none 0 0, .string ⟨#[]⟩, .slice none 0 0] 35)
            generalize hvn : v.alloc (.cells #[.string ⟨#[]⟩, .string ⟨#[]⟩, .slice none 0 0, .string ⟨#[]⟩, .slice none 0 0] 35) = u at h13 gs ⊢
            clear hvn
            generalize v.heap.size = b13 at h13 hb13 ⊢
            have gn := grown_trans g gs
            refine hK.out _ _ gn (fun hHeld => ?_)
            clear hK K
            try simp only [Act.put]
            have h0 := box_kept h0 gs
            clear g gs hHeld
            refine cast ?_ (N0_13 u b0 b13 gn h0 h13 hb13)
            kernel_rfl
          exact AllReadyH.nil
        · intro v b9 b13 g h9 h13 hb13
          refine wpAnyH_ready (rs := [0, 11]) (by kernel_rfl) (by simp) ?_
          refine AllReadyH.cons rfl (fun K hK => ?_) ?_
          · go_simp
            have h0 := heap_alloc_new v (.cells #[.string ⟨#[120]⟩] 9)
            have gs := grown_new v (.cells #[.string ⟨#[120]⟩] 9)
            generalize hvn : v.alloc (.cells #[.string ⟨#[120]⟩] 9) = u at h0 gs ⊢
            clear hvn
            generalize v.heap.size = b0 at h0 ⊢
            have gn := grown_trans g gs
            refine hK.out _ _ gn (fun hHeld => ?_)
            clear hK K
            try simp only [Act.put]
            have h9 := box_kept h9 gs
            have h13 := box_kept h13 gs
            clear g gs hHeld
            exact N0_9_13 u b0 b9 b13 gn h0 h9 h13 hb13
          refine AllReadyH.cons rfl (fun K hK => ?_) ?_
          · go_simp
            have h11 := heap_alloc_new v (.cells #[.string ⟨#[107, 101, 114, 110, 101, 108, 95, 115, 104, 97, 112, 101]⟩, .int .i64 7, .int .i64 0, .int .i64 0, .string ⟨#[]⟩, .int .i64 0, .slice none 0 0, .slice none 0 0, .slice (some ⟨b9, 0, none⟩) 2 2] 38)
            have gs := grown_new v (.cells #[.string ⟨#[107, 101, 114, 110, 101, 108, 95, 115, 104, 97, 112, 101]⟩, .int .i64 7, .int .i64 0, .int .i64 0, .string ⟨#[]⟩, .int .i64 0, .slice none 0 0, .slice none 0 0, .slice (some ⟨b9, 0, none⟩) 2 2] 38)
            generalize hvn : v.alloc (.cells #[.string ⟨#[107, 101, 114, 110, 101, 108, 95, 115, 104, 97, 112, 101]⟩, .int .i64 7, .int .i64 0, .int .i64 0, .string ⟨#[]⟩, .int .i64 0, .slice none 0 0, .slice none 0 0, .slice (some ⟨b9, 0, none⟩) 2 2] 38) = u at h11 gs ⊢
            clear hvn
            generalize v.heap.size = b11 at h11 ⊢
            have gn := grown_trans g gs
            refine hK.out _ _ gn (fun hHeld => ?_)
            clear hK K
            try simp only [Act.put]
            have h9 := box_kept h9 gs
            have h13 := box_kept h13 gs
            clear g gs hHeld
            exact N9_11_13 u b9 b11 b13 gn h9 h11 h13 hb13
          exact AllReadyH.nil
        · intro v b9 b11 g h9 h11
          refine wpAnyH_ready (rs := [0, 13]) (by kernel_rfl) (by simp) ?_
          refine AllReadyH.cons rfl (fun K hK => ?_) ?_
          · go_simp
            have h0 := heap_alloc_new v (.cells #[.string ⟨#[120]⟩] 9)
            have gs := grown_new v (.cells #[.string ⟨#[120]⟩] 9)
            generalize hvn : v.alloc (.cells #[.string ⟨#[120]⟩] 9) = u at h0 gs ⊢
            clear hvn
            generalize v.heap.size = b0 at h0 ⊢
            have gn := grown_trans g gs
            refine hK.out _ _ gn (fun hHeld => ?_)
            clear hK K
            try simp only [Act.put]
            refine wpAnyH_take (i := 12) (v := ?_) rfl (by kernel_rfl) (by kernel_rfl) (by kernel_rfl) (fun _ _ _ h => h) (Or.inl ⟨by kernel_rfl, ?_⟩) (by assumption) ?_
            rotate_left 1
            · (intro wS hSw; go_simp; (try with_reducible rfl))
            try simp only [Act.put]
            have h9 := box_kept h9 gs
            have h11 := box_kept h11 gs
            clear g gs hHeld
            exact N0_9_11 u b0 b9 b11 gn h0 h9 h11
          refine AllReadyH.cons rfl (fun K hK => ?_) ?_
          · go_simp
            have hb13 := g.size
            have h13 := heap_alloc_new v (.cells #[.string ⟨#[]⟩, .string ⟨#[]⟩, .slice none 0 0, .string ⟨#[]⟩, .slice none 0 0] 35)
            have gs := grown_new v (.cells #[.string ⟨#[]⟩, .string ⟨#[]⟩, .slice none 0 0, .string ⟨#[]⟩, .slice none 0 0] 35)
            generalize hvn : v.alloc (.cells #[.string ⟨#[]⟩, .string ⟨#[]⟩, .slice none 0 0, .string ⟨#[]⟩, .slice none 0 0] 35) = u at h13 gs ⊢
            clear hvn
            generalize v.heap.size = b13 at h13 hb13 ⊢
            have gn := grown_trans g gs
            refine hK.out _ _ gn (fun hHeld => ?_)
            clear hK K
            try simp only [Act.put]
            have h9 := box_kept h9 gs
            have h11 := box_kept h11 gs
            clear g gs hHeld
            refine cast ?_ (N9_11_13 u b9 b11 b13 gn h9 h11 h13 hb13)
            kernel_rfl
          exact AllReadyH.nil
        · intro v b0 b13 g h0 h13 hb13
          refine wpAnyH_ready (rs := [9]) (by kernel_rfl) (by simp) ?_
          refine AllReadyH.cons rfl (fun K hK => ?_) ?_
          · go_simp
            have h9 := heap_alloc_new v (.cells #[.int .i64 d2, .int .i64 d3] 2)
            have gs := grown_new v (.cells #[.int .i64 d2, .int .i64 d3] 2)
            generalize hvn : v.alloc (.cells #[.int .i64 d2, .int .i64 d3] 2) = u at h9 gs ⊢
            clear hvn
            generalize v.heap.size = b9 at h9 ⊢
            have gn := grown_trans g gs
            refine hK.out _ _ gn (fun hHeld => ?_)
            clear hK K
            try simp only [Act.put]
            refine wpAnyH_take (i := 10) (v := ?_) rfl (by kernel_rfl) (by kernel_rfl) (by kernel_rfl) (fun _ _ _ h => h) (Or.inl ⟨by kernel_rfl, ?_⟩) (by assumption) ?_
            rotate_left 1
            · (intro wS hSw; go_simp; (try with_reducible rfl))
            try simp only [Act.put]
            have h0 := box_kept h0 gs
            have h13 := box_kept h13 gs
            clear g gs hHeld
            refine cast ?_ (N0_9_13 u b0 b9 b13 gn h0 h9 h13 hb13)
            kernel_rfl
          exact AllReadyH.nil
        · intro v b0 b9 g h0 h9
          refine wpAnyH_ready (rs := [11, 13]) (by kernel_rfl) (by simp) ?_
          refine AllReadyH.cons rfl (fun K hK => ?_) ?_
          · go_simp
            have h11 := heap_alloc_new v (.cells #[.string ⟨#[107, 101, 114, 110, 101, 108, 95, 115, 104, 97, 112, 101]⟩, .int .i64 7, .int .i64 0, .int .i64 0, .string ⟨#[]⟩, .int .i64 0, .slice none 0 0, .slice none 0 0, .slice (some ⟨b9, 0, none⟩) 2 2] 38)
            have gs := grown_new v (.cells #[.string ⟨#[107, 101, 114, 110, 101, 108, 95, 115, 104, 97, 112, 101]⟩, .int .i64 7, .int .i64 0, .int .i64 0, .string ⟨#[]⟩, .int .i64 0, .slice none 0 0, .slice none 0 0, .slice (some ⟨b9, 0, none⟩) 2 2] 38)
            generalize hvn : v.alloc (.cells #[.string ⟨#[107, 101, 114, 110, 101, 108, 95, 115, 104, 97, 112, 101]⟩, .int .i64 7, .int .i64 0, .int .i64 0, .string ⟨#[]⟩, .int .i64 0, .slice none 0 0, .slice none 0 0, .slice (some ⟨b9, 0, none⟩) 2 2] 38) = u at h11 gs ⊢
            clear hvn
            generalize v.heap.size = b11 at h11 ⊢
            have gn := grown_trans g gs
            refine hK.out _ _ gn (fun hHeld => ?_)
            clear hK K
            try simp only [Act.put]
            refine wpAnyH_take (i := 12) (v := ?_) rfl (by kernel_rfl) (by kernel_rfl) (by kernel_rfl) (fun _ _ _ h => h) (Or.inl ⟨by kernel_rfl, ?_⟩) (by assumption) ?_
            rotate_left 1
            · (intro wS hSw; go_simp; (try with_reducible rfl))
            try simp only [Act.put]
            have h0 := box_kept h0 gs
            have h9 := box_kept h9 gs
            clear g gs hHeld
            refine cast ?_ (N0_9_11 u b0 b9 b11 gn h0 h9 h11)
            kernel_rfl
          refine AllReadyH.cons rfl (fun K hK => ?_) ?_
          · go_simp
            have hb13 := g.size
            have h13 := heap_alloc_new v (.cells #[.string ⟨#[]⟩, .string ⟨#[]⟩, .slice none 0 0, .string ⟨#[]⟩, .slice none 0 0] 35)
            have gs := grown_new v (.cells #[.string ⟨#[]⟩, .string ⟨#[]⟩, .slice none 0 0, .string ⟨#[]⟩, .slice none 0 0] 35)
            generalize hvn : v.alloc (.cells #[.string ⟨#[]⟩, .string ⟨#[]⟩, .slice none 0 0, .string ⟨#[]⟩, .slice none 0 0] 35) = u at h13 gs ⊢
            clear hvn
            generalize v.heap.size = b13 at h13 hb13 ⊢
            have gn := grown_trans g gs
            refine hK.out _ _ gn (fun hHeld => ?_)
            clear hK K
            try simp only [Act.put]
            have h0 := box_kept h0 gs
            have h9 := box_kept h9 gs
            clear g gs hHeld
            refine cast ?_ (N0_9_13 u b0 b9 b13 gn h0 h9 h13 hb13)
            kernel_rfl
          exact AllReadyH.nil
        · intro v b9 b11 b13 g h9 h11 h13 hb13
          refine wpAnyH_ready (rs := [0]) (by kernel_rfl) (by simp) ?_
          refine AllReadyH.cons rfl (fun K hK => ?_) ?_
          · go_simp
            have h0 := heap_alloc_new v (.cells #[.string ⟨#[120]⟩] 9)
            have gs := grown_new v (.cells #[.string ⟨#[120]⟩] 9)
            generalize hvn : v.alloc (.cells #[.string ⟨#[120]⟩] 9) = u at h0 gs ⊢
            clear hvn
            generalize v.heap.size = b0 at h0 ⊢
            have gn := grown_trans g gs
            refine hK.out _ _ gn (fun hHeld => ?_)
            clear hK K
            try simp only [Act.put]
            refine wpAnyH_take (i := 12) (v := ?_) rfl (by kernel_rfl) (by kernel_rfl) (by kernel_rfl) (fun _ _ _ h => h) (Or.inl ⟨by kernel_rfl, ?_⟩) (by assumption) ?_
            rotate_left 1
            · (intro wS hSw; go_simp; (try with_reducible rfl))
            try simp only [Act.put]
            have h9 := box_kept h9 gs
            have h11 := box_kept h11 gs
            have h13 := box_kept h13 gs
            clear g gs hHeld
            exact N0_9_11_13 u b0 b9 b11 b13 gn h0 h9 h11 h13 hb13
          exact AllReadyH.nil
        · intro v b0 b9 b13 g h0 h9 h13 hb13
          refine wpAnyH_ready (rs := [11]) (by kernel_rfl) (by simp) ?_
          refine AllReadyH.cons rfl (fun K hK => ?_) ?_
          · go_simp
            have h11 := heap_alloc_new v (.cells #[.string ⟨#[107, 101, 114, 110, 101, 108, 95, 115, 104, 97, 112, 101]⟩, .int .i64 7, .int .i64 0, .int .i64 0, .string ⟨#[]⟩, .int .i64 0, .slice none 0 0, .slice none 0 0, .slice (some ⟨b9, 0, none⟩) 2 2] 38)
            have gs := grown_new v (.cells #[.string ⟨#[107, 101, 114, 110, 101, 108, 95, 115, 104, 97, 112, 101]⟩, .int .i64 7, .int .i64 0, .int .i64 0, .string ⟨#[]⟩, .int .i64 0, .slice none 0 0, .slice none 0 0, .slice (some ⟨b9, 0, none⟩) 2 2] 38)
            generalize hvn : v.alloc (.cells #[.string ⟨#[107, 101, 114, 110, 101, 108, 95, 115, 104, 97, 112, 101]⟩, .int .i64 7, .int .i64 0, .int .i64 0, .string ⟨#[]⟩, .int .i64 0, .slice none 0 0, .slice none 0 0, .slice (some ⟨b9, 0, none⟩) 2 2] 38) = u at h11 gs ⊢
            clear hvn
            generalize v.heap.size = b11 at h11 ⊢
            have gn := grown_trans g gs
            refine hK.out _ _ gn (fun hHeld => ?_)
            clear hK K
            try simp only [Act.put]
            refine wpAnyH_take (i := 12) (v := ?_) rfl (by kernel_rfl) (by kernel_rfl) (by kernel_rfl) (fun _ _ _ h => h) (Or.inl ⟨by kernel_rfl, ?_⟩) (by assumption) ?_
            rotate_left 1
            · (intro wS hSw; go_simp; (try with_reducible rfl))
            try simp only [Act.put]
            have h0 := box_kept h0 gs
            have h9 := box_kept h9 gs
            have h13 := box_kept h13 gs
            clear g gs hHeld
            refine cast ?_ (N0_9_11_13 u b0 b9 b11 b13 gn h0 h9 h11 h13 hb13)
            kernel_rfl
          exact AllReadyH.nil
        · intro v b0 b9 b11 g h0 h9 h11
          refine wpAnyH_ready (rs := [13]) (by kernel_rfl) (by simp) ?_
          refine AllReadyH.cons rfl (fun K hK => ?_) ?_
          · go_simp
            have hb13 := g.size
            have h13 := heap_alloc_new v (.cells #[.string ⟨#[]⟩, .string ⟨#[]⟩, .slice none 0 0, .string ⟨#[]⟩, .slice none 0 0] 35)
            have gs := grown_new v (.cells #[.string ⟨#[]⟩, .string ⟨#[]⟩, .slice none 0 0, .string ⟨#[]⟩, .slice none 0 0] 35)
            generalize hvn : v.alloc (.cells #[.string ⟨#[]⟩, .string ⟨#[]⟩, .slice none 0 0, .string ⟨#[]⟩, .slice none 0 0] 35) = u at h13 gs ⊢
            clear hvn
            generalize v.heap.size = b13 at h13 hb13 ⊢
            have gn := grown_trans g gs
            refine hK.out _ _ gn (fun hHeld => ?_)
            clear hK K
            try simp only [Act.put]
            have h0 := box_kept h0 gs
            have h9 := box_kept h9 gs
            have h11 := box_kept h11 gs
            clear g gs hHeld
            refine cast ?_ (N0_9_11_13 u b0 b9 b11 b13 gn h0 h9 h11 h13 hb13)
            kernel_rfl
          exact AllReadyH.nil
        · intro v b0 b9 b11 b13 g h0 h9 h11 h13 hb13
          refine wpAnyH_ready (rs := [14]) (by kernel_rfl) (by simp) ?_
          refine AllReadyH.cons rfl (fun K hK => ?_) ?_
          · rw [if_pos (by kernel_rfl)]
            refine wp_store_row 35 (.tmp 5) (.tmp 39) rfl b13 #[.string ⟨#[65, 118, 101, 114, 97, 103, 101, 80, 111, 111, 108]⟩, .string ⟨#[]⟩, .slice (some ⟨b0, 0, none⟩) 1 1, .string ⟨#[122]⟩, .slice (some ⟨b11, 0, none⟩) 1 1] rfl rfl 35 _ h13 nodInfoC rfl (by simp [Value.oneCell']) ?_
            have s14 := setRow_heap v b13 _ #[.string ⟨#[65, 118, 101, 114, 97, 103, 101, 80, 111, 111, 108]⟩, .string ⟨#[]⟩, .slice (some ⟨b0, 0, none⟩) 1 1, .string ⟨#[122]⟩, .slice (some ⟨b11, 0, none⟩) 1 1] _ _ h13
            have rg := row_grown v b13 #[.string ⟨#[65, 118, 101, 114, 97, 103, 101, 80, 111, 111, 108]⟩, .string ⟨#[]⟩, .slice (some ⟨b0, 0, none⟩) 1 1, .string ⟨#[122]⟩, .slice (some ⟨b11, 0, none⟩) 1 1]
            have y14 := grown_trans_row g rg (fun r e => by cases e; exact hb13)
            have k0 := (rg.block b0 (Array.getElem?_eq_some_iff.1 h0).1 (fun e => by injection e with e; rw [e, h13] at h0; cases h0)).trans h0
            have k9 := (rg.block b9 (Array.getElem?_eq_some_iff.1 h9).1 (fun e => by injection e with e; rw [e, h13] at h9; cases h9)).trans h9
            have k11 := (rg.block b11 (Array.getElem?_eq_some_iff.1 h11).1 (fun e => by injection e with e; rw [e, h13] at h11; cases h11)).trans h11
            refine hK.out _ _ y14 (fun hHeld => ?_)
            clear hK K
            try simp only [Act.put]
            refine wpAnyH_done (by kernel_rfl) ?_ _
            clear h0 h9 h11 h13 g hHeld rg
            go_simp
            go_wp2_with fail
            go_meet
            exact ⟨y14, b0, b9, b11, b13, rfl, s14, k0, k9, k11⟩
          exact AllReadyH.nil
      case rest =>
        obtain ⟨hgc, b0, b9, b11, b13, rfl, h13, h0, h9, h11⟩ := hcut
        obtain ⟨v, hv⟩ : ∃ v, v = wc := ⟨_, rfl⟩
        rw [← hv] at hgc h13 h0 h9 h11 ⊢
        clear hv x0 x1 x2 y2 y3
        obtain ⟨q2, hq2⟩ : ∃ q, q = v.alloc (.cells #[.int .i64 tx, .slice (some ⟨bx, ox, none⟩) 4 xc, .slice ua un uc] 25) := ⟨_, rfl⟩
        have c1 := heap_alloc_new v (.cells #[.int .i64 tx, .slice (some ⟨bx, ox, none⟩) 4 xc, .slice ua un uc] 25)
        rw [← hq2] at c1
        have gq : v.grownBy q2 none := by rw [hq2]; exact grown_new _ _
        have GV := hide (grown_trans GM.out hgc)
        have GQ2 := hide (grown_trans GV.out gq)
        have G0V := hide (grown_trans G0M.out hgc)
        have IK : IsInts q2 (.slice (some ⟨b9, 0, none⟩) 2 2) [d2, d3] := ints_two (box_kept h9 gq) DB2 DB3
        have AA := in_attrs (s := ⟨some ⟨b9, 0, none⟩, 2, 2⟩) (box_kept h11 gq)
        obtain ⟨r2, hr2⟩ : ∃ r, r = poolR meanL (inAt ⟨#[65, 118, 101, 114, 97, 103, 101, 80, 111, 111, 108]⟩ ⟨#[107, 101, 114, 110, 101, 108, 95, 115, 104, 97, 112, 101]⟩ ⟨some ⟨b9, 0, none⟩, 2, 2⟩ [d2, d3]) tx x xs := ⟨_, rfl⟩
        have E2 := hide (avp_do ⟨⟨#[65, 118, 101, 114, 97, 103, 101, 80, 111, 111, 108]⟩, ⟨#[]⟩, ⟨some ⟨b0, 0, none⟩, 1, 1⟩, ⟨#[122]⟩, ⟨some ⟨b11, 0, none⟩, 1, 1⟩⟩ (inAt ⟨#[65, 118, 101, 114, 97, 103, 101, 80, 111, 111, 108]⟩ ⟨#[107, 101, 114, 110, 101, 108, 95, 115, 104, 97, 112, 101]⟩ ⟨some ⟨b9, 0, none⟩, 2, 2⟩ [d2, d3]) ⟨#[120]⟩ rfl ⟨some ⟨v.heap.size, 0, none⟩, 1, 1⟩ ⟨tx, ⟨some ⟨bx, ox, none⟩, 4, xc⟩, ⟨ua, un, uc⟩⟩ x xs q2 (HL.out.more GQ2.out) (in_in (x_strs (box_kept h0 gq)) IK AA) (in_ok IK AA) (ap_check _ _) (mp_then _ _ _) (by show 1 ≤ 1048576; omega) (one_ten ⟨tx, ⟨some ⟨bx, ox, none⟩, 4, xc⟩, ⟨ua, un, uc⟩⟩ c1 (HX4.out.more GQ2.out) (HXS.out.more GQ2.out)) (mp_str _ _ _ _) (mp_dil _ _ _ _) (mp_pad _ _ _ _) (fun d => (mp_ker _ _ _ d).trans (mp_ker _ _ _ []).symm))
        simp only at E2
        rw [← hr2] at E2
        unfold nval at E2
        simp only at E2
        have HR2 := hide hr2
        obtain ⟨n0, n1, n2, n3, n4⟩ := nod_cells (n := ⟨⟨#[65, 118, 101, 114, 97, 103, 101, 80, 111, 111, 108]⟩, ⟨#[]⟩, ⟨some ⟨b0, 0, none⟩, 1, 1⟩, ⟨#[122]⟩, ⟨some ⟨b11, 0, none⟩, 1, 1⟩⟩) h13
        obtain ⟨x0, x1, x2⟩ := ten_cells (BX.out v G0V.out)
        simp only at n0 n1 n2 n3 n4
        have BM2 := hide (box_kept BM.out (grown_trans hgc gq))
        have ID2 := hide (ID.out.more (grown_trans hgc gq))
        have IT2 := hide (IT.out.more (grown_trans hgc gq))
        have G0Q2 := hide (grown_trans G0V.out gq)
        clear h13 h0 h9 h11 c1 gq IK AA hr2 hgc
        go_wp2_with fail
        rw [← hq2]
        clear hq2 n0 n1 n2 n3 n4 x0 x1 x2
        refine E2.out.mono ?_
        intro e w3 hdo
        obtain ⟨hg3, ⟨ea, en, ec⟩, ⟨fa, fn, fc⟩, rfl, id3, it3⟩ := do_any hdo
        simp only [Sl.v] at id3 it3 ⊢
        obtain ⟨k, hk⟩ : ∃ m, m = w3.alloc (.cells #[.int .i64 (rTy r2), .slice ea en ec, .slice fa fn fc] 25) := ⟨_, rfl⟩
        obtain ⟨bk, zk⟩ := new_alloc (.cells #[.int .i64 (rTy r2), .slice ea en ec, .slice fa fn fc] 25) (x := w3) rfl
        rw [← hk] at bk zk
        have gk : w3.grownBy k none := by rw [hk]; exact grown_new _ _
        have GK := hide (grown_trans GQ2.out (grown_trans hg3 gk))
        have LK := hide (LV.out k GK.out)
        obtain ⟨y0, y1, y2⟩ := ten_cells bk
        obtain ⟨m0, m1, m2⟩ := ten_cells (box_kept BM2.out (grown_trans hg3 gk))
        obtain ⟨x0, x1, x2⟩ := ten_cells (BX.out k (grown_trans G0Q2.out (grown_trans hg3 gk)))
        have i2 := cell_still Y2.out GK.out
        have i3 := cell_still Y3.out GK.out
        have ID3 := hide (ID2.out.more (grown_trans hg3 gk))
        have IT3 := hide (IT2.out.more (grown_trans hg3 gk))
        have JD := hide (id3.more gk)
        have JT := hide (it3.more gk)
        rw [hk] at y0 y1 y2 m0 m1 m2 x0 x1 x2 i2 i3
        clear bk zk gk hg3 id3 it3 hdo E2
        obtain ⟨z1, hz1⟩ : ∃ z, z = rC r2 := ⟨_, rfl⟩
        obtain ⟨z2, hz2⟩ : ∃ z, z = rTy r2 := ⟨_, rfl⟩
        rw [← hz1]
        rw [← hz2] at hk y0 y1 y2 m0 m1 m2 x0 x1 x2 i2 i3 ⊢
        have HZ1 := hide hz1
        have HZ2 := hide hz2
        clear hz1 hz2
        cases r with
        | error c =>
          have hc := nz_globR _ _ _ c HR.out.symm
          have bc : (c != 0) = true := by simpa using hc
          simp only [rC]
          have bc2 : (c == 0) = false := by simpa using hc
          have bc3 : decide (c = 0) = false := by simpa using hc
          clear y0 y1 y2 m0 m1 m2 x0 x1 x2 i2 i3 JD JT HR2
          go_wp2_with fail
          rw [← hk]
          clear hk
          refine LK.out.mono ?_
          rintro e w4 ⟨rfl, hg4⟩
          go_wp2
          go_ret
          exact ⟨rfl, grown_below (grown_trans GK.out hg4)⟩
        | ok rr =>
          obtain ⟨ty, l, zs⟩ := rr
          simp only [rC, rTy, rL, rZ] at m0 ID3 IT3 ⊢
          by_cases h2 : d2 ≤ 100
          · by_cases h3 : d3 ≤ 100
            · have HA := glob_answer (s := ⟨some ⟨b9, 0, none⟩, 2, 2⟩) HR.out.symm (by rw [← HD2.out]; exact h2) (by rw [← HD3.out]; exact h3)
              rw [← HD2.out, ← HD3.out, ← HR2.out] at HA
              have HA2 := hide HA
              clear HA
              obtain rfl : z1 = 0 := by rw [HZ1.out, HA2.out]; rfl
              obtain rfl : z2 = ty := by rw [HZ2.out, HA2.out]; rfl
              rw [HA2.out] at JD JT
              simp only [rL, rZ] at JD JT
              have SA := hide (sameten_eq z2 _ _ _ _ l zs k ID3.out IT3.out JD.out JT.out)
              have c2 : ¬ (100 : Int) < d2 := by omega
              have c3 : ¬ (100 : Int) < d3 := by omega
              clear HA2 HZ1 HZ2
              go_wp2_with fail
              rw [← hk]
              clear hk y0 y1 y2 m0 m1 m2 x0 x1 x2 i2 i3
              refine SA.out.mono ?_
              rintro e w4 ⟨rfl, hg4⟩
              have G4 := hide (grown_trans GK.out hg4)
              have L4 := hide (LV.out w4 G4.out)
              clear hg4
              go_wp2_with fail
              refine L4.out.mono ?_
              rintro e w5 ⟨rfl, hg5⟩
              go_wp2
              go_ret
              exact ⟨rfl, grown_below (grown_trans G4.out hg5)⟩
            · have c2 : ¬ (100 : Int) < d2 := by omega
              have c3 : (100 : Int) < d3 := by omega
              clear JD JT HR2 y0 y1 y2 m0 m1 m2
              go_wp2_with fail
              rw [← hk]
              clear hk x0 x1 x2 i2 i3
              refine LK.out.mono ?_
              rintro e w4 ⟨rfl, hg4⟩
              go_wp2
              go_ret
              exact ⟨rfl, grown_below (grown_trans GK.out hg4)⟩
          · have c2 : (100 : Int) < d2 := by omega
            clear JD JT HR2 y0 y1 y2 m0 m1 m2
            go_wp2_with fail
            rw [← hk]
            clear hk x0 x1 x2 i2 i3
            refine LK.out.mono ?_
            rintro e w4 ⟨rfl, hg4⟩
            go_wp2
            go_ret
            exact ⟨rfl, grown_below (grown_trans GK.out hg4)⟩
    · have b4 : ((x.length : Int) != 4) = true := by simp; omega
      clear h4
      go_wp2_with fail
      refine L1.out.mono ?_
      rintro e w2 ⟨rfl, hg2⟩
      go_wp2
      go_ret
      exact ⟨rfl, grown_below (grown_trans G1.out hg2)⟩

end Go.Proofs.YtkefdkboejimeaaGreatDoor
