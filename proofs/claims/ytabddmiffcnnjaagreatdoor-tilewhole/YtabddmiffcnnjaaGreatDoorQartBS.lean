/- Joined texts: TDo, TSem, TMade, TPlace, TCut, TKind. -/
import Derived.Test.YtabddmiffcnnjaaGreatDoorQartBG
import Derived.Test.YtabddmiffcnnjaaGreatDoorQartBR
import Derived.Deep.RegionHeld3
import Derived.Deep.QuietTactic
import Derived.BigQuiet
import Derived.Test.YtabddmiffcnnjaaGreatDoorQartBJ
import Derived.Test.YtabddmiffcnnjaaGreatDoorQartBN
namespace Go.Proofs.YtabddmiffcnnjaaGreatDoor

open Go.RowKit

set_option maxRecDepth 100000 in
theorem follow_none (op nam out : ByteArray) (iv : Sl) (t : Ten) (w : World) (hl : Laid w) : Calls Tryz.prog 53 #[nval ⟨op, nam, iv, out, nilS⟩, tval t] w fun e w' => e = .returned (.tuple #[]) ∧ w.grownBy w' none := by
  obtain ⟨w0, hw0⟩ : ∃ w0, w0 = (w.alloc (.cells #[.string op, .string nam, .slice iv.a iv.n iv.c, .string out, .slice none 0 0] 34)).alloc (.cells #[.int .i64 t.ty, .slice t.dv.a t.dv.n t.dv.c, .slice t.tv.a t.tv.n t.tv.c] 38) := ⟨_, rfl⟩
  have g0 : w.grownBy w0 none := by rw [hw0]; exact grown_trans (grown_new _ _) (grown_new _ _)
  have hbx := two_boxes w (.cells #[.string op, .string nam, .slice iv.a iv.n iv.c, .string out, .slice none 0 0] 34) (.cells #[.int .i64 t.ty, .slice t.dv.a t.dv.n t.dv.c, .slice t.tv.a t.tv.n t.tv.c] 38)
  rw [← hw0] at hbx
  have nilA : IsAttrs w0 nilS.v [] := OwnsL.isL (te := 65) (base := 0) acells_len (OwnsL.nil ..) (by simp)
  have T1 := hide (then_any ⟨op, nam, iv, out, nilS⟩ [] w0 (hl.more g0) nilA (by simp))
  obtain ⟨n0, n1, n2, n3, n4⟩ := nod_cells (n := ⟨op, nam, iv, out, nilS⟩) hbx.1
  have G0 := hide g0
  clear hbx g0 nilA hl
  obtain ⟨ia, il, ic⟩ := iv
  obtain ⟨ty, ⟨da, dn, dc⟩, ⟨ta, tn, tc⟩⟩ := t
  unfold nval nilS at T1
  unfold nval nilS tval
  unfold nilS at n0 n1 n2 n3 n4
  simp only at T1 n0 n1 n2 n3 n4 hw0 ⊢
  rw [hw0] at n0 n1 n2 n3 n4
  go_enter Tryz.func53, Tryz.ntmps53
  go_wp2_with fail
  rw [← hw0]
  clear hw0 n0 n1 n2 n3 n4
  refine T1.out.mono ?_
  rintro e w1 ⟨v, rfl, hv, hg⟩
  obtain ⟨ao, cap, hvv⟩ := OwnsL.form hv
  have hn : (thenL (List.find? (isA ⟨#[116, 104, 101, 110]⟩ 3) ([] : List Atr))).length = 0 := rfl
  rw [hn] at hvv
  subst hvv
  have G1 := hide (grown_trans G0.out hg)
  clear hv hg hn T1
  go_wp2_with fail
  refine wp_loop_rounds 1 ?_
  rw [rounds_succ]
  go_wp2_with fail
  go_end0
  exact ⟨rfl, G1.out⟩

set_option maxRecDepth 100000 in
set_option maxHeartbeats 1600000 in
theorem ldo_div (nam out : ByteArray) (iv u : Sl) (B : Nat) (r : R (Int × List Int × List Int)) (w : World) (hl : Laid w) (hF : FnMap w B layL) (hr : ∀ c, r = .error c → c ≠ 0)
    (DC : ∀ wx, w.grownBy wx none → Calls Tryz.prog 48 #[nval ⟨⟨#[68, 105, 118]⟩, nam, iv, out, nilS⟩, .slice u.a u.n u.c] wx (DoQ wx r)) :
    Calls Tryz.prog 28 #[.map (some B), nval ⟨⟨#[68, 105, 118]⟩, nam, iv, out, nilS⟩, .slice u.a u.n u.c] w (DoQ w r) := by
  obtain ⟨w0, hw0⟩ : ∃ w0, w0 = (w.alloc (.cells #[.string ⟨#[68, 105, 118]⟩, .string nam, .slice iv.a iv.n iv.c, .string out, .slice none 0 0] 34)).alloc (.cells #[.int .i64 0, .slice none 0 0, .slice none 0 0] 38) := ⟨_, rfl⟩
  have g0 : w.grownBy w0 none := by rw [hw0]; exact grown_trans (grown_new _ _) (grown_new _ _)
  have hbx := two_boxes w (.cells #[.string ⟨#[68, 105, 118]⟩, .string nam, .slice iv.a iv.n iv.c, .string out, .slice none 0 0] 34) (.cells #[.int .i64 0, .slice none 0 0, .slice none 0 0] 38)
  rw [← hw0] at hbx
  have BX : Hid (∀ wx, w0.grownBy wx none → wx.heap[w.heap.size]? = some (.cells #[.string ⟨#[68, 105, 118]⟩, .string nam, .slice iv.a iv.n iv.c, .string out, .slice none 0 0] 34 (0, 0)) ∧ wx.heap[w.heap.size + 1]? = some (.cells #[.int .i64 0, .slice none 0 0, .slice none 0 0] 38 (0, 0))) := fun wx hg => ⟨box_kept hbx.1 hg, box_kept hbx.2 hg⟩
  have F0 := hide (hF.more g0)
  have D1 := hide (DC w0 g0)
  have FO : Hid (∀ wx (t : Ten), w.grownBy wx none → Calls Tryz.prog 53 #[nval ⟨⟨#[68, 105, 118]⟩, nam, iv, out, nilS⟩, tval t] wx fun e w' => e = .returned (.tuple #[]) ∧ wx.grownBy w' none) := fun wx t hx => follow_none _ nam out iv t wx (hl.more hx)
  have G0 := hide g0
  have HR := hide hr
  have Z0 : Hid (w.heap.size + 1 < w0.heap.size) := (Array.getElem?_eq_some_iff.1 hbx.2).1
  obtain ⟨n0, n1, n2, n3, n4⟩ := nod_cells (n := ⟨⟨#[68, 105, 118]⟩, nam, iv, out, nilS⟩) hbx.1
  clear hbx g0 DC hl hF hr
  obtain ⟨ia, il, ic⟩ := iv
  obtain ⟨ua, un, uc⟩ := u
  unfold nval nilS at D1 FO
  unfold nval nilS
  unfold nilS at n0 n1 n2 n3 n4
  simp only at D1 FO n0 n1 n2 n3 n4 hw0 BX ⊢
  have q0 := n0
  rw [hw0] at q0
  have F0' := hide F0.out
  rw [hw0] at F0'
  go_enter Tryz.func28, Tryz.ntmps28
  go_wp2_with (first | (at_lookup; refine wpList_fnLookup _ rfl (.tmp 15) (.tmp 17) 67 rfl 9 92 Tryz.underlying67 Tryz.underlying9 B layL rfl F0'.out ⟨#[68, 105, 118]⟩ (.func (.func 48) #[] #[]) rfl lay_div.1 lay_div.2 ?_) | fail)
  rw [← hw0]
  clear hw0 q0 F0' n0 n1 n2 n3 n4
  refine D1.out.mono ?_
  rintro e w3 ⟨hg3, hq⟩
  have G3 := hide hg3
  have GW3 := hide (grown_trans G0.out hg3)
  have hz := Z0.out
  have hz3 := hg3.size
  clear hg3
  cases r with
  | error c =>
    obtain rfl := hq
    have hc := HR.out c rfl
    have c0 : (c != 0) = true := by simpa using hc
    obtain ⟨w4, hw4⟩ : ∃ w4, w4 = w3.alloc (.cells #[.int .i64 0, .slice none 0 0, .slice none 0 0] 38) := ⟨_, rfl⟩
    have g4 : w3.grownBy w4 none := by rw [hw4]; exact grown_new _ _
    have B4 := (BX.out w4 (grown_trans G3.out g4)).2
    obtain ⟨t0, t1, t2⟩ := ten_cells B4
    obtain ⟨f0, f1, f2⟩ := ten_frozen B4
    obtain ⟨hX, gX⟩ := store3t (.int .i64 0) (.slice none 0 0) (.slice none 0 0) B4
    have HX := hide hX
    have GX := hide (grown_drop (grown_trans GW3.out g4) gX (by omega))
    rw [hw4] at t0 t1 t2 f0 f1 f2 HX GX
    clear hX gX B4 g4 hc hw4
    go_wp2_with fail
    refine bodyPost_ret (ret_ten2 rfl _ _ (w.heap.size + 1) rfl HX.out) rfl ?_
    exact do_err rfl GX.out
  | ok rr =>
    obtain ⟨ty', l, zs⟩ := rr
    obtain ⟨⟨ty, ⟨da, dn, dc⟩, ⟨ta, tn, tc⟩⟩, e1, rfl, hd, ht⟩ := hq
    simp only at e1
    subst e1
    have HD := hide hd
    have HT := hide ht
    unfold tval at FO ⊢
    simp only
    obtain ⟨w4, hw4⟩ : ∃ w4, w4 = w3.alloc (.cells #[.int .i64 ty, .slice da dn dc, .slice ta tn tc] 38) := ⟨_, rfl⟩
    have h4 := heap_alloc_new w3 (.cells #[.int .i64 ty, .slice da dn dc, .slice ta tn tc] 38)
    rw [← hw4] at h4
    have g4 : w3.grownBy w4 none := by rw [hw4]; exact grown_new _ _
    obtain ⟨n0, n1, n2, n3, n4⟩ := nod_cells (n := ⟨⟨#[68, 105, 118]⟩, nam, ⟨ia, il, ic⟩, out, nilS⟩) (BX.out w4 (grown_trans G3.out g4)).1
    unfold nilS at n4
    simp only at n0 n1 n2 n3 n4
    have F1 := hide (FO.out w4 ⟨ty, ⟨da, dn, dc⟩, ⟨ta, tn, tc⟩⟩ (grown_trans GW3.out g4))
    simp only at F1
    rw [hw4] at n0 n1 n2 n3 n4
    have G4 := hide g4
    have H4 := hide h4
    clear hd ht g4 h4
    go_wp2_with fail
    rw [← hw4]
    clear hw4 n0 n1 n2 n3 n4
    refine F1.out.mono ?_
    rintro e w5 ⟨rfl, g5⟩
    obtain ⟨q0, q1, q2⟩ := ten_cells (box_kept H4.out g5)
    have g45 := grown_trans G4.out g5
    have B5 := (BX.out w5 (grown_trans G3.out g45)).2
    obtain ⟨f0, f1, f2⟩ := ten_frozen B5
    obtain ⟨t0, t1, t2⟩ := ten_cells B5
    obtain ⟨hX, gX⟩ := store3t (.int .i64 ty) (.slice da dn dc) (.slice ta tn tc) B5
    have HX := hide hX
    have GX := hide (grown_drop (grown_trans GW3.out g45) gX (by omega))
    have hd5 := HD.out.more g45 (by cases (Sl.v ⟨da, dn, dc⟩).ownBlock <;> simp)
    have ht5 := HT.out.more g45 (by cases (Sl.v ⟨ta, tn, tc⟩).ownBlock <;> simp)
    have OD := hide (hd5.more gX (row_lt hd5.1 Z0.out))
    have OT := hide (ht5.more gX (row_lt ht5.1 Z0.out))
    have g0s := G0.out.size
    clear hd5 ht5
    clear hX gX B5 g5 g45
    go_wp2_with fail
    refine bodyPost_ret (ret_ten2 rfl _ _ (w.heap.size + 1) rfl HX.out) rfl ?_
    exact do_ok (d := ⟨da, dn, dc⟩) (t := ⟨ta, tn, tc⟩) rfl GX.out (OD.out.base_le g0s) ⟨ownsRow_base OT.out.1 g0s, OT.out.2⟩

end Go.Proofs.YtabddmiffcnnjaaGreatDoor

namespace Go.Proofs.YtabddmiffcnnjaaGreatDoor

open Go.RowKit

set_option maxRecDepth 100000 in
set_option maxHeartbeats 3200000 in
theorem semdo_div (nam out : ByteArray) (iv u : Sl) (r : R (Int × List Int × List Int)) (w : World) (hl : Laid w) (hT : SpTab w) (hr : ∀ c, r = .error c → c ≠ 0)
    (DC : ∀ wx, w.grownBy wx none → Calls Tryz.prog 48 #[nval ⟨⟨#[68, 105, 118]⟩, nam, iv, out, nilS⟩, .slice u.a u.n u.c] wx (DoQ wx r)) :
    Calls Tryz.prog 19 #[nval ⟨⟨#[68, 105, 118]⟩, nam, iv, out, nilS⟩, .slice u.a u.n u.c] w (DoQ w r) := by
  obtain ⟨w0, hw0⟩ : ∃ w0, w0 = (w.alloc (.cells #[.string ⟨#[68, 105, 118]⟩, .string nam, .slice iv.a iv.n iv.c, .string out, .slice none 0 0] 34)).alloc (.cells #[.int .i64 0, .slice none 0 0, .slice none 0 0] 38) := ⟨_, rfl⟩
  have g0 : w.grownBy w0 none := by rw [hw0]; exact grown_trans (grown_new _ _) (grown_new _ _)
  have hbx := two_boxes w (.cells #[.string ⟨#[68, 105, 118]⟩, .string nam, .slice iv.a iv.n iv.c, .string out, .slice none 0 0] 34) (.cells #[.int .i64 0, .slice none 0 0, .slice none 0 0] 38)
  rw [← hw0] at hbx
  have BX : Hid (∀ wx, w0.grownBy wx none → wx.heap[w.heap.size + 1]? = some (.cells #[.int .i64 0, .slice none 0 0, .slice none 0 0] 38 (0, 0))) := fun wx hg => box_kept hbx.2 hg
  have LC : Hid (∀ wx, w0.grownBy wx none → Calls Tryz.prog 27 #[] wx fun e w' => ∃ B, e = .returned (.map (some B)) ∧ FnMap w' B layL ∧ wx.grownBy w' none) := fun wx hx => layers_any wx (hT.more (grown_trans g0 hx))
  have LD : Hid (∀ wx B, w0.grownBy wx none → FnMap wx B layL → Calls Tryz.prog 28 #[.map (some B), nval ⟨⟨#[68, 105, 118]⟩, nam, iv, out, nilS⟩, .slice u.a u.n u.c] wx (DoQ wx r)) := fun wx B hx hF => ldo_div nam out iv u B r wx (hl.more (grown_trans g0 hx)) hF hr (fun wy hy => DC wy (grown_trans (grown_trans g0 hx) hy))
  have G0 := hide g0
  have Z0 : Hid (w.heap.size + 1 < w0.heap.size) := (Array.getElem?_eq_some_iff.1 hbx.2).1
  have hbn := hbx.1
  clear hbx g0 DC hl hT hr
  obtain ⟨ia, il, ic⟩ := iv
  obtain ⟨ua, un, uc⟩ := u
  unfold nval nilS at LD
  unfold nval nilS
  simp only at LD hbn hw0 ⊢
  go_enter Tryz.func19, Tryz.ntmps19
  go_wp2_with fail
  rw [← hw0]
  clear hw0
  have hNb := hide hbn
  refine wp_region_held_drew (S := fun w' => w.grownBy w' none ∧ w'.heap[w.heap.size]? = some (.cells #[.string ⟨#[68, 105, 118]⟩, .string nam, .slice ia il ic, .string out, .slice none 0 0] 34 (0, 0))) (by kernel_rfl) ⟨grown_drew G0.out, hNb.out⟩ (fun hHeld => ?_)
  refine wpAnyH_take (i := 1) (v := .agg #[.string ⟨#[68, 105, 118]⟩, .string nam, .slice ia il ic, .string out, .slice none 0 0]) rfl (by kernel_rfl) (by kernel_rfl) (by kernel_rfl) (fun _ _ _ h => h) (Or.inl ⟨by kernel_rfl, ?_⟩) (by assumption) ?_
  · intro wS hSw
    obtain ⟨c0, c1, c2, c3, c4⟩ := nod_cells (n := ⟨⟨#[68, 105, 118]⟩, nam, ⟨ia, il, ic⟩, out, nilS⟩) hSw.2
    unfold nilS at c4
    simp only at c0 c1 c2 c3 c4
    go_simp
  try simp only [Act.put]
  refine wpAnyH_take (i := 2) (v := ?_) rfl (by kernel_rfl) (by kernel_rfl) (by kernel_rfl) (fun _ _ _ h => h) (Or.inl ⟨by kernel_rfl, ?_⟩) (by assumption) ?_
  rotate_left 1
  · (intro wS hSw; go_simp; (try with_reducible rfl))
  try simp only [Act.put]
  have g1 : w0.grownBy w0.drew none := grown_drew (grown_refl _)
  clear hHeld
  refine wpAnyH_ready (rs := [0]) (by kernel_rfl) (by simp) ?_
  refine AllReadyH.cons rfl (fun K hK => ?_) AllReadyH.nil
  go_simp
  refine (LC.out _ g1).mono ?_
  rintro e w2 ⟨B, rfl, hF, g2⟩
  have g2' := grown_trans g1 g2
  refine hK.out _ _ ⟨grown_trans G0.out g2', box_kept hNb.out g2'⟩ (fun hHeld => ?_)
  clear hK K g1 g2 hHeld
  try simp only [Act.put]
  refine wpAnyH_ready (rs := [3]) (by kernel_rfl) (by simp) ?_
  refine AllReadyH.cons rfl (fun K hK => ?_) AllReadyH.nil
  go_simp
  refine (LD.out w2 B g2' hF).mono ?_
  rintro e w3 ⟨g3, hq⟩
  have g3' := grown_trans g2' g3
  clear hF
  have B3 := BX.out w3 g3'
  obtain ⟨f0, f1, f2⟩ := ten_frozen B3
  obtain ⟨t0, t1, t2⟩ := ten_cells B3
  have hz := Z0.out
  have GW := hide (grown_trans G0.out g3')
  have g2s := g2'.size
  have g0s := G0.out.size
  cases r with
  | error c =>
    obtain rfl := hq
    refine hK.out _ _ ⟨GW.out, box_kept hNb.out g3'⟩ (fun hHeld => ?_)
    clear hK K
    try simp only [Act.put]
    obtain ⟨hX, gX⟩ := store3t (.int .i64 0) (.slice none 0 0) (.slice none 0 0) B3
    have HX := hide hX
    have GX := hide (grown_drop GW.out gX (by omega))
    refine wpAnyH_take (i := 4) (v := ?_) rfl (by kernel_rfl) (by kernel_rfl) (by kernel_rfl) (fun _ _ _ h => h) (Or.inl ⟨by kernel_rfl, ?_⟩) (by assumption) ?_
    rotate_left 1
    · (intro wS hSw; go_simp; (try with_reducible rfl))
    try simp only [Act.put]
    refine wpAnyH_take (i := 5) (v := ?_) rfl (by kernel_rfl) (by kernel_rfl) (by kernel_rfl) (fun _ _ _ h => h) (Or.inl ⟨by kernel_rfl, ?_⟩) (by assumption) ?_
    rotate_left 1
    · (intro wS hSw; go_simp; (try with_reducible rfl))
    try simp only [Act.put]
    refine wpAnyH_ready (rs := [6]) (by kernel_rfl) (by simp) ?_
    refine AllReadyH.cons rfl (fun K hK => ?_) AllReadyH.nil
    go_simp
    refine hK.out _ _ ⟨GX.out, (gX.block _ (by have := (Array.getElem?_eq_some_iff.1 (box_kept hNb.out g3')).1; exact this) (by simp)).trans (box_kept hNb.out g3')⟩ (fun hHeld => ?_)
    clear hK K
    try simp only [Act.put]
    refine wpAnyH_take (i := 7) (v := ?_) rfl (by kernel_rfl) (by kernel_rfl) (by kernel_rfl) (fun _ _ _ h => h) (Or.inl ⟨by kernel_rfl, ?_⟩) (by assumption) ?_
    rotate_left 1
    · (intro wS hSw; go_simp; (try with_reducible rfl))
    try simp only [Act.put]
    refine wpAnyH_done (by kernel_rfl) ?_ _
    clear t0 t1 t2 f0 f1 f2 hX gX B3
    go_simp
    go_wp2_with fail
    refine bodyPost_ret (ret_ten2 rfl _ _ (w.heap.size + 1) rfl HX.out) rfl ?_
    exact do_err rfl GX.out
  | ok rr =>
    obtain ⟨ty', l, zs⟩ := rr
    obtain ⟨⟨ty, ⟨da, dn, dc⟩, ⟨ta, tn, tc⟩⟩, e1, rfl, hd, ht⟩ := hq
    simp only at e1
    subst e1
    refine hK.out _ _ ⟨GW.out, box_kept hNb.out g3'⟩ (fun hHeld => ?_)
    clear hK K
    unfold tval
    obtain ⟨hX, gX⟩ := store3t (.int .i64 ty) (.slice da dn dc) (.slice ta tn tc) B3
    have HX := hide hX
    have GX := hide (grown_drop GW.out gX (by omega))
    have OD := hide (hd.more gX (row_lt hd.1 (by omega)))
    have OT := hide (ht.more gX (row_lt ht.1 (by omega)))
    refine wpAnyH_take (i := 4) (v := ?_) rfl (by kernel_rfl) (by kernel_rfl) (by kernel_rfl) (fun _ _ _ h => h) (Or.inl ⟨by kernel_rfl, ?_⟩) (by assumption) ?_
    rotate_left 1
    · (intro wS hSw; go_simp; (try with_reducible rfl))
    try simp only [Act.put]
    refine wpAnyH_take (i := 5) (v := ?_) rfl (by kernel_rfl) (by kernel_rfl) (by kernel_rfl) (fun _ _ _ h => h) (Or.inl ⟨by kernel_rfl, ?_⟩) (by assumption) ?_
    rotate_left 1
    · (intro wS hSw; go_simp; (try with_reducible rfl))
    try simp only [Act.put]
    refine wpAnyH_ready (rs := [6]) (by kernel_rfl) (by simp) ?_
    refine AllReadyH.cons rfl (fun K hK => ?_) AllReadyH.nil
    go_simp
    refine hK.out _ _ ⟨GX.out, (gX.block _ (by have := (Array.getElem?_eq_some_iff.1 (box_kept hNb.out g3')).1; exact this) (by simp)).trans (box_kept hNb.out g3')⟩ (fun hHeld => ?_)
    clear hK K
    try simp only [Act.put]
    refine wpAnyH_take (i := 7) (v := ?_) rfl (by kernel_rfl) (by kernel_rfl) (by kernel_rfl) (fun _ _ _ h => h) (Or.inl ⟨by kernel_rfl, ?_⟩) (by assumption) ?_
    rotate_left 1
    · (intro wS hSw; go_simp; (try with_reducible rfl))
    try simp only [Act.put]
    refine wpAnyH_done (by kernel_rfl) ?_ _
    clear t0 t1 t2 f0 f1 f2 hX gX B3
    go_simp
    go_wp2_with fail
    refine bodyPost_ret (ret_ten2 rfl _ _ (w.heap.size + 1) rfl HX.out) rfl ?_
    exact do_ok (d := ⟨da, dn, dc⟩) (t := ⟨ta, tn, tc⟩) rfl GX.out (OD.out.base_le (by omega)) ⟨ownsRow_base OT.out.1 (by omega), OT.out.2⟩

end Go.Proofs.YtabddmiffcnnjaaGreatDoor

namespace Go.Proofs.YtabddmiffcnnjaaGreatDoor

open Go.RowKit

def OneQ (w : World) (r : R Int) (e : Ending) (w' : World) : Prop := w.grownBy w' none ∧ match r with
  | .ok z => ∃ b o : Nat, e = .returned (.tuple #[.slice (some ⟨b, o, none⟩) 1 1, .int .i64 0]) ∧ w'.cell? ⟨b, o, none⟩ = some (.int .i64 z)
  | .error c => e = .returned (.tuple #[.slice none 0 0, .int .i64 c])

def oneR (r : R (Int × List Int × List Int)) : R Int := match r with
  | .ok (_, _, zs) => .ok (zs.getD 0 0)
  | .error c => .error c

set_option maxRecDepth 100000 in
set_option maxHeartbeats 1600000 in
theorem tmade_one (nam out : ByteArray) (iv u : Sl) (r : R (Int × List Int × List Int)) (w : World) (h1 : ∀ ty l zs, r = .ok (ty, l, zs) → zs.length = 1) (hr : ∀ c, r = .error c → c ≠ 0)
    (SC : ∀ wx, w.grownBy wx none → Calls Tryz.prog 19 #[nval ⟨⟨#[68, 105, 118]⟩, nam, iv, out, nilS⟩, .slice u.a u.n u.c] wx (DoQ wx r)) :
    Calls Tryz.prog 13 #[nval ⟨⟨#[68, 105, 118]⟩, nam, iv, out, nilS⟩, .slice u.a u.n u.c, .int .i64 0, .int .i64 1] w (OneQ w (oneR r)) := by
  obtain ⟨w0, hw0⟩ : ∃ w0, w0 = w.alloc (.cells #[.string ⟨#[68, 105, 118]⟩, .string nam, .slice iv.a iv.n iv.c, .string out, .slice none 0 0] 34) := ⟨_, rfl⟩
  have g0 : w.grownBy w0 none := by rw [hw0]; exact grown_new _ _
  have S1 := hide (SC w0 g0)
  have G0 := hide g0
  clear SC g0
  obtain ⟨ia, il, ic⟩ := iv
  obtain ⟨ua, un, uc⟩ := u
  unfold nval nilS at S1
  unfold nval nilS
  simp only at S1 hw0 ⊢
  have H1 := hide h1
  have HR := hide hr
  clear h1 hr
  go_enter Tryz.func13, Tryz.ntmps13
  go_wp2_with fail
  rw [← hw0]
  clear hw0
  refine S1.out.mono ?_
  rintro e w3 ⟨hg3, hq⟩
  have GW := hide (grown_trans G0.out hg3)
  clear hg3
  cases r with
  | error c =>
    obtain rfl := hq
    have c0 : (c != 0) = true := by simpa using HR.out c rfl
    go_wp2_with fail
    go_ret2
    exact ⟨grown_trans GW.out (grown_new _ _), rfl⟩
  | ok rr =>
    obtain ⟨ty', l, zs⟩ := rr
    obtain ⟨⟨ty, ⟨da, dn, dc⟩, ⟨ta, tn, tc⟩⟩, e1, rfl, hd, ht⟩ := hq
    simp only at e1
    subst e1
    have hl := H1.out _ _ _ rfl
    have hI := ht.ints
    obtain ⟨tb, tof, rfl, hc⟩ := hI.get (k := 0) (by omega)
    obtain ⟨_, _, ex, hcap, -⟩ := hI.sl
    simp only [Sl.v, Value.slice.injEq] at ex
    obtain ⟨-, en, ec⟩ := ex
    have q0 := hc 0 (by omega)
    rw [Nat.add_zero] at q0
    have en2 : tn = 1 := by omega
    subst en2
    have k1 : (1 : Int) ≤ (tc : Int) := by omega
    have k2 : ¬ tc = 0 := by omega
    have Q0 := hide q0
    clear hd ht hI hc q0 hcap en ec hl
    unfold tval
    simp only
    go_wp2_with fail
    go_ret2
    exact ⟨grown_trans GW.out (grown_new _ _), tb, tof, rfl, cell_still Q0.out (grown_new _ _)⟩

end Go.Proofs.YtabddmiffcnnjaaGreatDoor

namespace Go.Proofs.YtabddmiffcnnjaaGreatDoor

open Go.RowKit

set_option maxRecDepth 100000 in
set_option maxHeartbeats 1600000 in
theorem place_two (d s : Sl) (i : Int) (w : World) (hi : i = 0 ∨ i = 1) (hd : IsInts w d.v [2]) (hs : IsInts w s.v [1]) : Calls Tryz.prog 31 #[.agg #[.int .i64 0, .slice d.a d.n d.c, .slice s.a s.n s.c], .int .i64 i] w fun e w' => e = .returned (.int .i64 i) ∧ w.grownBy w' none := by
  obtain ⟨da, dn, dc⟩ := d
  obtain ⟨sa, sn, sc⟩ := s
  obtain ⟨db, dof, rfl, hcd⟩ := IsInts.get (k := 0) hd (by simp)
  obtain ⟨sb, sof, rfl, hcs⟩ := IsInts.get (k := 0) hs (by simp)
  obtain ⟨_, _, ed, -⟩ := hd.sl
  obtain ⟨_, _, es, -⟩ := hs.sl
  simp only [Sl.v, Value.slice.injEq, List.length_cons, List.length_nil, Nat.zero_add] at ed es
  obtain ⟨-, rfl, -⟩ := ed
  obtain ⟨-, rfl, -⟩ := es
  have q0 := hcd 0 (by simp)
  have r0 := hcs 0 (by simp)
  simp only [Nat.add_zero] at q0 r0
  have q1 := cell_still q0 (grown_new w (.cells #[.int .i64 0, .slice (some ⟨db, dof, none⟩) 1 dc, .slice (some ⟨sb, sof, none⟩) 1 sc] 70))
  have r1 := cell_still r0 (grown_new w (.cells #[.int .i64 0, .slice (some ⟨db, dof, none⟩) 1 dc, .slice (some ⟨sb, sof, none⟩) 1 sc] 70))
  clear hcd hcs hd hs q0 r0
  have GN := hide (grown_new w (.cells #[.int .i64 0, .slice (some ⟨db, dof, none⟩) 1 dc, .slice (some ⟨sb, sof, none⟩) 1 sc] 70))
  rcases hi with rfl | rfl
  all_goals
    go_enter Tryz.func31, Tryz.ntmps31
    go_wp2_with fail
    refine wp_loop_rounds 2 ?_
    rw [rounds_succ]
    go_wp2_with fail
    go_quiet (fail)
    go_wp2_with fail
    rw [rounds_succ]
    go_wp2_with fail
    go_ret
    exact ⟨rfl, ⟨GN.out.1, GN.out.2, GN.out.3, GN.out.4, GN.out.5⟩⟩

end Go.Proofs.YtabddmiffcnnjaaGreatDoor

namespace Go.Proofs.YtabddmiffcnnjaaGreatDoor

open Go.RowKit

theorem drew_left {a b : World} {row : Option Nat} (h : a.drew.grownBy b row) : a.grownBy b row := ⟨h.1, h.2, h.3, h.4, h.5⟩

theorem box1c {w : World} {B : Nat} {te : TypeId} {v : Value} (h : w.heap[B]? = some (.cells #[v] te (0, 0))) : w.cell? ⟨B, 0, none⟩ = some v ∧ w.frozen? ⟨B, 0, none⟩ = false := ⟨cell_of_one h, free_of_one h⟩

theorem set1c {w : World} {B : Nat} {te : TypeId} {v : Value} (h : w.heap[B]? = some (.cells #[v] te (0, 0))) (u : Value) : (w.setCell ⟨B, 0, none⟩ u).heap[B]? = some (.cells #[u] te (0, 0)) := one_setCell h

theorem grown_setT (w : World) (b o : Nat) (v : Value) : w.grownBy (w.setCell ⟨b, o, none⟩ v) (some b) :=
  ⟨rfl, rfl, rfl, by simp, fun k _ hne => by
    have hk : b ≠ k := fun e => hne (by rw [e])
    simp [World.setCell, Array.getElem?_modify, hk]⟩

theorem may2 : Vw.MayV 0 [2] [1] := Vw.may_whole (ds := [2]) ⟨by simp, by decide, by decide⟩

theorem spread2 {E off' : Int} {ds' ss' : List Int} (h : Vw.Spreaded 0 [2] [1] [2] E off' ds' ss') : off' = 0 ∧ ds' = [2] ∧ ss' = [1] := by
  rcases h with h | h | h | h
  · exact absurd may2 h.1
  · exact absurd (by decide) h.2.1
  · exact absurd (by decide) h.2.2.1
  · exact ⟨h.2.2.2.2.1, h.2.2.2.2.2.1, by rw [h.2.2.2.2.2.2]; decide⟩

set_option maxRecDepth 100000 in
set_option maxHeartbeats 3200000 in
theorem cut_one (ty : Int) (d t dv : Sl) (x0 x1 lo : Int) (x : Int) (w : World) (hlo : (lo = 0 ∧ x = x0) ∨ (lo = 1 ∧ x = x1)) (hd : IsInts w d.v [2]) (ht : IsInts w t.v [x0, x1]) (hdv : IsInts w dv.v [2]) :
    Calls Tryz.prog 20 #[.agg #[.int .i64 ty, .slice d.a d.n d.c, .slice t.a t.n t.c], .slice dv.a dv.n dv.c, .int .i64 lo, .int .i64 (lo + 1)] w fun e w' => ∃ b : Nat, e = .returned (.slice (some ⟨b, 0, none⟩) 1 1) ∧ w'.heap[b]? = some (.cells #[.int .i64 x] 2 (0, 0)) ∧ w.grownBy w' none := by
  have hmk : ∀ w, (Instr.makeSlice 36 (.int .i64 1) (.int .i64 1)).run Tryz.prog w = .ok (.slice (some ⟨w.heap.size, 0, none⟩) 1 1) (w.alloc (.cells #[.int .i64 0] 2)) := fun w => by
    have h := run_make_row' (P := Tryz.prog) 36 2 (.int .i64 0) 8 Tryz.underlying36 info64E rfl .i64 .i64 1 (by decide) (by decide) w
    rw [show madeCells #[Value.int .i64 0] 1 = #[Value.int .i64 0] from by kernel_rfl] at h
    exact h
  obtain ⟨da, dn, dc⟩ := d
  obtain ⟨ta, tn, tc⟩ := t
  obtain ⟨va, vn, vc⟩ := dv
  have WC : Hid (∀ wx, w.grownBy wx none → Calls Tryz.prog 29 #[.slice da dn dc] wx fun e w' => ∃ u, e = .returned (.tuple #[u, .int .i64 (cntE [2])]) ∧ Vw.OwnView w' wx.heap.size u 0 (Vw.rowDs [2]) (strdE [2]) ∧ wx.grownBy w' none) := fun wx hx => Vw.whole_any _ _ wx (hd.more hx)
  have SC : Hid (∀ wx v, w.grownBy wx none → Vw.IsView wx v 0 [2] [1] → Calls Tryz.prog 30 #[v, .slice va vn vc] wx fun e w' => ∃ u E off' ds' ss', e = .returned (.tuple #[u, .int .i64 E]) ∧ Vw.Spreaded 0 [2] [1] [2] E off' ds' ss' ∧ Vw.OwnView w' wx.heap.size u off' ds' ss' ∧ wx.grownBy w' none) := fun wx v hx hv => Vw.spread_any v _ 0 [2] [1] [2] wx hv (hdv.more hx)
  have HT := hide ht
  obtain ⟨xb, xo, rfl, hcx⟩ := IsInts.get (k := 0) ht (by simp)
  obtain ⟨_, _, et, -⟩ := ht.sl
  simp only [Sl.v, Value.slice.injEq, List.length_cons, List.length_nil, Nat.zero_add] at et
  obtain ⟨-, rfl, -⟩ := et
  have X0 := hide (hcx 0 (by simp))
  have X1 := hide (hcx 1 (by simp))
  obtain ⟨w0, hw0⟩ : ∃ w0, w0 = w.alloc (.cells #[.int .i64 ty, .slice da dn dc, .slice (some ⟨xb, xo, none⟩) 2 tc] 38) := ⟨_, rfl⟩
  have hb0 := heap_alloc_new w (.cells #[.int .i64 ty, .slice da dn dc, .slice (some ⟨xb, xo, none⟩) 2 tc] 38)
  have g0 : w.grownBy w0 none := by rw [hw0]; exact grown_new _ _
  rw [← hw0] at hb0
  have G0 := hide g0
  have B0 := hide hb0
  clear hd ht hdv hcx g0 hb0
  go_enter Tryz.func20, Tryz.ntmps20
  go_wp2_with fail
  rw [← hw0]
  clear hw0
  refine (WC.out w0 G0.out).mono ?_
  rintro e w1 ⟨u, rfl, hu, g1⟩
  obtain ⟨dv1, sv1, rfl, od1, os1, -⟩ := hu
  have id1 := od1.ints
  have is1 := os1.ints
  have er : Vw.rowDs [2] = [2] := by decide
  have es : strdE [2] = [1] := by decide
  rw [er] at id1
  rw [es] at is1
  clear od1 os1 er es
  obtain ⟨a1, c1, rfl, -⟩ := id1.sl
  obtain ⟨a2, c2, rfl, -⟩ := is1.sl
  simp only [List.length_cons, List.length_nil, Nat.zero_add] at id1 is1 ⊢
  obtain ⟨w2, hw2⟩ : ∃ w2, w2 = w1.alloc (.cells #[.int .i64 0, .slice a1 1 c1, .slice a2 1 c2] 70) := ⟨_, rfl⟩
  have g2 : w1.grownBy w2 none := by rw [hw2]; exact grown_new _ _
  have G2 := hide (grown_trans G0.out (grown_trans g1 g2))
  have G02 := hide (grown_trans g1 g2)
  have S1 := hide (SC.out w2 (.agg #[.int .i64 0, .slice a1 1 c1, .slice a2 1 c2]) G2.out ⟨_, _, rfl, id1.more g2, is1.more g2, by decide, by decide⟩)
  clear id1 is1 g1 g2 WC
  go_wp2_with fail
  rw [← hw2]
  clear hw2
  refine S1.out.mono ?_
  rintro e w3 ⟨u, E, off', ds', ss', rfl, hsp, hu, g3⟩
  obtain ⟨rfl, rfl, rfl⟩ := spread2 hsp
  obtain ⟨dv2, sv2, rfl, od2, os2, -⟩ := hu
  have id2 := od2.ints
  have is2 := os2.ints
  clear od2 os2 hsp
  obtain ⟨a3, c3, rfl, -⟩ := id2.sl
  obtain ⟨a4, c4, rfl, -⟩ := is2.sl
  simp only [List.length_cons, List.length_nil, Nat.zero_add] at id2 is2 ⊢
  obtain ⟨w4, hw4⟩ : ∃ w4, w4 = w3.alloc (.cells #[.int .i64 0, .slice a3 1 c3, .slice a4 1 c4] 70) := ⟨_, rfl⟩
  have hb4 := heap_alloc_new w3 (.cells #[.int .i64 0, .slice a3 1 c3, .slice a4 1 c4] 70)
  have g4 : w3.grownBy w4 none := by rw [hw4]; exact grown_new _ _
  rw [← hw4] at hb4
  have GW := hide (grown_trans G2.out (grown_trans g3 g4))
  obtain ⟨t0, t1, t2⟩ := ten_cells (box_kept B0.out (grown_trans G02.out (grown_trans g3 g4)))
  obtain ⟨v0, v1, v2⟩ := ten_cells hb4
  have y0 := cell_still X0.out GW.out
  have y1 := cell_still X1.out GW.out
  simp only [Nat.add_zero] at y0
  have PL : Hid (∀ wx i, w4.grownBy wx none → (i = 0 ∨ i = 1) → Calls Tryz.prog 31 #[.agg #[.int .i64 0, .slice a3 1 c3, .slice a4 1 c4], .int .i64 i] wx fun e w' => e = .returned (.int .i64 i) ∧ wx.grownBy w' none) := fun wx i hx hi => place_two ⟨a3, 1, c3⟩ ⟨a4, 1, c4⟩ i wx hi (id2.more (grown_trans g4 hx)) (is2.more (grown_trans g4 hx))
  clear id2 is2 g3 g4 S1 SC
  rcases hlo with ⟨rfl, rfl⟩ | ⟨rfl, rfl⟩
  · simp only [Int.zero_add]
    go_wp2_with fail
    rw [← hw4]
    have hs4 : w4.heap.size = w3.heap.size + 1 := by rw [hw4]; simp
    clear hw4
    obtain ⟨w5, hw5⟩ : ∃ w5, w5 = w4.alloc (.cells #[.int .i64 0] 2) := ⟨_, rfl⟩
    have hb5 := heap_alloc_new w4 (.cells #[.int .i64 0] 2)
    have g5 : w4.grownBy w5 none := by rw [hw5]; exact grown_new _ _
    rw [← hw5]
    rw [← hw5, hs4] at hb5
    clear hw5
    refine wp_loop_rounds 2 ?_
    rw [rounds_succ]
    go_wp2_with fail
    refine wp_region_held_drew (S := fun w' => w4.grownBy w' none) (by kernel_rfl) (grown_drew g5) (fun hHeld => ?_)
    refine wpAnyH_take (i := 0) (v := ?_) rfl (by kernel_rfl) (by kernel_rfl) (by kernel_rfl) (fun _ _ _ h => h) (Or.inl ⟨by kernel_rfl, ?_⟩) (by assumption) ?_
    rotate_left 1
    · (intro wS hSw; go_simp; (try with_reducible rfl))
    try simp only [Act.put]
    refine wpAnyH_take (i := 1) (v := ?_) rfl (by kernel_rfl) (by kernel_rfl) (by kernel_rfl) (fun _ _ _ h => h) (Or.inl ⟨by kernel_rfl, ?_⟩) (by assumption) ?_
    rotate_left 1
    · (intro wS hSw; go_simp; (try with_reducible rfl))
    try simp only [Act.put]
    refine wpAnyH_take (i := 2) (v := ?_) rfl (by kernel_rfl) (by kernel_rfl) (by kernel_rfl) (fun _ _ _ h => h) (Or.inl ⟨by kernel_rfl, ?_⟩) (by assumption) ?_
    rotate_left 1
    · (intro wS hSw; go_simp; (try with_reducible rfl))
    try simp only [Act.put]
    refine wpAnyH_take (i := 3) (v := ?_) rfl (by kernel_rfl) (by kernel_rfl) (by kernel_rfl) (fun _ _ _ h => h) (Or.inl ⟨by kernel_rfl, ?_⟩) (by assumption) ?_
    rotate_left 1
    · (intro wS hSw; have c0 := cell_still t2 hSw; go_simp; (try with_reducible rfl))
    try simp only [Act.put]
    refine wpAnyH_take (i := 4) (v := ?_) rfl (by kernel_rfl) (by kernel_rfl) (by kernel_rfl) (fun _ _ _ h => h) (Or.inl ⟨by kernel_rfl, ?_⟩) (by assumption) ?_
    rotate_left 1
    · (intro wS hSw; have c0 := cell_still v0 hSw; have c1 := cell_still v1 hSw; have c2 := cell_still v2 hSw; go_simp; (try with_reducible rfl))
    try simp only [Act.put]
    refine wpAnyH_take (i := 5) (v := ?_) rfl (by kernel_rfl) (by kernel_rfl) (by kernel_rfl) (fun _ _ _ h => h) (Or.inl ⟨by kernel_rfl, ?_⟩) (by assumption) ?_
    rotate_left 1
    · (intro wS hSw; go_simp; (try with_reducible rfl))
    try simp only [Act.put]
    refine wpAnyH_take (i := 6) (v := ?_) rfl (by kernel_rfl) (by kernel_rfl) (by kernel_rfl) (fun _ _ _ h => h) (Or.inl ⟨by kernel_rfl, ?_⟩) (by assumption) ?_
    rotate_left 1
    · (intro wS hSw; go_simp; (try with_reducible rfl))
    try simp only [Act.put]
    refine wpAnyH_take (i := 7) (v := ?_) rfl (by kernel_rfl) (by kernel_rfl) (by kernel_rfl) (fun _ _ _ h => h) (Or.inl ⟨by kernel_rfl, ?_⟩) (by assumption) ?_
    rotate_left 1
    · (intro wS hSw; go_simp; (try with_reducible rfl))
    try simp only [Act.put]
    refine wpAnyH_ready (rs := [8]) (by kernel_rfl) (by simp) ?_
    refine AllReadyH.cons rfl (fun K hK => ?_) AllReadyH.nil
    go_simp
    refine (PL.out _ 0 (grown_drew g5) (by simp)).mono ?_
    rintro e w6 ⟨rfl, g6⟩
    have g46 := grown_trans g5 (drew_left g6)
    refine hK.out _ _ g46 (fun hHeld => ?_)
    clear hK K
    try simp only [Act.put]
    refine wpAnyH_take (i := 9) (v := ?_) rfl (by kernel_rfl) (by kernel_rfl) (by kernel_rfl) (fun _ _ _ h => h) (Or.inl ⟨by kernel_rfl, ?_⟩) (by assumption) ?_
    rotate_left 1
    · (intro wS hSw; go_simp; (try with_reducible rfl))
    try simp only [Act.put]
    refine wpAnyH_take (i := 10) (v := ?_) rfl (by kernel_rfl) (by kernel_rfl) (by kernel_rfl) (fun _ _ _ h => h) (Or.inl ⟨by kernel_rfl, ?_⟩) (by assumption) ?_
    rotate_left 1
    · (intro wS hSw; have c0 := cell_still y0 hSw; go_simp; (try with_reducible rfl))
    try simp only [Act.put]
    refine wpAnyH_take (i := 11) (v := ?_) rfl (by kernel_rfl) (by kernel_rfl) (by kernel_rfl) (fun _ _ _ h => h) (Or.inl ⟨by kernel_rfl, ?_⟩) (by assumption) ?_
    rotate_left 1
    · (intro wS hSw; go_simp; (try with_reducible rfl))
    try simp only [Act.put]
    have h6 := box_kept hb5 (drew_left g6)
    obtain ⟨c6, f6⟩ := box1c h6
    refine wpAnyH_ready (rs := [12]) (by kernel_rfl) (by simp) ?_
    refine AllReadyH.cons rfl (fun K hK => ?_) AllReadyH.nil
    go_simp
    have gs := grown_setT w6 (w3.heap.size + 1) 0 (.int .i64 x)
    refine hK.out _ _ (grown_drop g46 gs (Nat.le_of_eq hs4)) (fun hHeld => ?_)
    clear hK K
    try simp only [Act.put]
    refine wpAnyH_done (by kernel_rfl) ?_ _
    have GF := hide (grown_trans GW.out (grown_drop g46 gs (Nat.le_of_eq hs4)))
    have H7 := hide (set1c h6 (.int .i64 x))
    clear gs h6 c6 f6 g46 g6 hHeld
    go_simp
    go_wp2_with fail
    rw [rounds_succ]
    go_wp2_with fail
    go_ret
    exact ⟨w3.heap.size + 1, rfl, H7.out, GF.out⟩
  · simp only [Int.reduceAdd]
    go_wp2_with fail
    rw [← hw4]
    have hs4 : w4.heap.size = w3.heap.size + 1 := by rw [hw4]; simp
    clear hw4
    obtain ⟨w5, hw5⟩ : ∃ w5, w5 = w4.alloc (.cells #[.int .i64 0] 2) := ⟨_, rfl⟩
    have hb5 := heap_alloc_new w4 (.cells #[.int .i64 0] 2)
    have g5 : w4.grownBy w5 none := by rw [hw5]; exact grown_new _ _
    rw [← hw5]
    rw [← hw5, hs4] at hb5
    clear hw5
    refine wp_loop_rounds 2 ?_
    rw [rounds_succ]
    go_wp2_with fail
    refine wp_region_held_drew (S := fun w' => w4.grownBy w' none) (by kernel_rfl) (grown_drew g5) (fun hHeld => ?_)
    refine wpAnyH_take (i := 0) (v := ?_) rfl (by kernel_rfl) (by kernel_rfl) (by kernel_rfl) (fun _ _ _ h => h) (Or.inl ⟨by kernel_rfl, ?_⟩) (by assumption) ?_
    rotate_left 1
    · (intro wS hSw; go_simp; (try with_reducible rfl))
    try simp only [Act.put]
    refine wpAnyH_take (i := 1) (v := ?_) rfl (by kernel_rfl) (by kernel_rfl) (by kernel_rfl) (fun _ _ _ h => h) (Or.inl ⟨by kernel_rfl, ?_⟩) (by assumption) ?_
    rotate_left 1
    · (intro wS hSw; go_simp; (try with_reducible rfl))
    try simp only [Act.put]
    refine wpAnyH_take (i := 2) (v := ?_) rfl (by kernel_rfl) (by kernel_rfl) (by kernel_rfl) (fun _ _ _ h => h) (Or.inl ⟨by kernel_rfl, ?_⟩) (by assumption) ?_
    rotate_left 1
    · (intro wS hSw; go_simp; (try with_reducible rfl))
    try simp only [Act.put]
    refine wpAnyH_take (i := 3) (v := ?_) rfl (by kernel_rfl) (by kernel_rfl) (by kernel_rfl) (fun _ _ _ h => h) (Or.inl ⟨by kernel_rfl, ?_⟩) (by assumption) ?_
    rotate_left 1
    · (intro wS hSw; have c0 := cell_still t2 hSw; go_simp; (try with_reducible rfl))
    try simp only [Act.put]
    refine wpAnyH_take (i := 4) (v := ?_) rfl (by kernel_rfl) (by kernel_rfl) (by kernel_rfl) (fun _ _ _ h => h) (Or.inl ⟨by kernel_rfl, ?_⟩) (by assumption) ?_
    rotate_left 1
    · (intro wS hSw; have c0 := cell_still v0 hSw; have c1 := cell_still v1 hSw; have c2 := cell_still v2 hSw; go_simp; (try with_reducible rfl))
    try simp only [Act.put]
    refine wpAnyH_take (i := 5) (v := ?_) rfl (by kernel_rfl) (by kernel_rfl) (by kernel_rfl) (fun _ _ _ h => h) (Or.inl ⟨by kernel_rfl, ?_⟩) (by assumption) ?_
    rotate_left 1
    · (intro wS hSw; go_simp; (try with_reducible rfl))
    try simp only [Act.put]
    refine wpAnyH_take (i := 6) (v := ?_) rfl (by kernel_rfl) (by kernel_rfl) (by kernel_rfl) (fun _ _ _ h => h) (Or.inl ⟨by kernel_rfl, ?_⟩) (by assumption) ?_
    rotate_left 1
    · (intro wS hSw; go_simp; (try with_reducible rfl))
    try simp only [Act.put]
    refine wpAnyH_take (i := 7) (v := ?_) rfl (by kernel_rfl) (by kernel_rfl) (by kernel_rfl) (fun _ _ _ h => h) (Or.inl ⟨by kernel_rfl, ?_⟩) (by assumption) ?_
    rotate_left 1
    · (intro wS hSw; go_simp; (try with_reducible rfl))
    try simp only [Act.put]
    refine wpAnyH_ready (rs := [8]) (by kernel_rfl) (by simp) ?_
    refine AllReadyH.cons rfl (fun K hK => ?_) AllReadyH.nil
    go_simp
    refine (PL.out _ 1 (grown_drew g5) (by simp)).mono ?_
    rintro e w6 ⟨rfl, g6⟩
    have g46 := grown_trans g5 (drew_left g6)
    refine hK.out _ _ g46 (fun hHeld => ?_)
    clear hK K
    try simp only [Act.put]
    refine wpAnyH_take (i := 9) (v := ?_) rfl (by kernel_rfl) (by kernel_rfl) (by kernel_rfl) (fun _ _ _ h => h) (Or.inl ⟨by kernel_rfl, ?_⟩) (by assumption) ?_
    rotate_left 1
    · (intro wS hSw; go_simp; (try with_reducible rfl))
    try simp only [Act.put]
    refine wpAnyH_take (i := 10) (v := ?_) rfl (by kernel_rfl) (by kernel_rfl) (by kernel_rfl) (fun _ _ _ h => h) (Or.inl ⟨by kernel_rfl, ?_⟩) (by assumption) ?_
    rotate_left 1
    · (intro wS hSw; have c0 := cell_still y1 hSw; go_simp; (try with_reducible rfl))
    try simp only [Act.put]
    refine wpAnyH_take (i := 11) (v := ?_) rfl (by kernel_rfl) (by kernel_rfl) (by kernel_rfl) (fun _ _ _ h => h) (Or.inl ⟨by kernel_rfl, ?_⟩) (by assumption) ?_
    rotate_left 1
    · (intro wS hSw; go_simp; (try with_reducible rfl))
    try simp only [Act.put]
    have h6 := box_kept hb5 (drew_left g6)
    obtain ⟨c6, f6⟩ := box1c h6
    refine wpAnyH_ready (rs := [12]) (by kernel_rfl) (by simp) ?_
    refine AllReadyH.cons rfl (fun K hK => ?_) AllReadyH.nil
    go_simp
    have gs := grown_setT w6 (w3.heap.size + 1) 0 (.int .i64 x)
    refine hK.out _ _ (grown_drop g46 gs (Nat.le_of_eq hs4)) (fun hHeld => ?_)
    clear hK K
    try simp only [Act.put]
    refine wpAnyH_done (by kernel_rfl) ?_ _
    have GF := hide (grown_trans GW.out (grown_drop g46 gs (Nat.le_of_eq hs4)))
    have H7 := hide (set1c h6 (.int .i64 x))
    clear gs h6 c6 f6 g46 g6 hHeld
    go_simp
    go_wp2_with fail
    rw [rounds_succ]
    go_wp2_with fail
    go_ret
    exact ⟨w3.heap.size + 1, rfl, H7.out, GF.out⟩

end Go.Proofs.YtabddmiffcnnjaaGreatDoor

namespace Go.Proofs.YtabddmiffcnnjaaGreatDoor

open Go.RowKit

set_option maxRecDepth 100000 in
set_option maxHeartbeats 1600000 in
theorem byelement_div (w : World) : Calls Tryz.prog 12 #[.string ⟨#[68, 105, 118]⟩] w fun e w' => e = .returned (.bool true) ∧ w = w' := by
  go_enter Tryz.func12, Tryz.ntmps12
  go_wp2_with fail
  go_ret
  exact ⟨rfl, rfl⟩

end Go.Proofs.YtabddmiffcnnjaaGreatDoor
