/- Joined texts: CvPd. -/
import Derived.Test.YtkefdkboejimeaaGreatDoorPartBM
import Derived.Test.YtkefdkboejimeaaGreatDoorPartBL
import Derived.Test.YtkefdkboejimeaaGreatDoorPartBG
import Derived.Laws.EntriesVeiled
namespace Go.Proofs.YtkefdkboejimeaaGreatDoor

open Go.RowKit

theorem three_boxesC (w : World) (o o' o'' : Obj) : (((w.alloc o).alloc o').alloc o'').heap[w.heap.size]? = some o ∧ (((w.alloc o).alloc o').alloc o'').heap[w.heap.size + 1]? = some o' ∧ (((w.alloc o).alloc o').alloc o'').heap[w.heap.size + 1 + 1]? = some o'' := by
  have h := two_boxes w o o'
  refine ⟨box_kept h.1 (grown_new _ _), box_kept h.2 (grown_new _ _), ?_⟩
  have h3 := heap_alloc_new ((w.alloc o).alloc o') o''
  simpa using h3

theorem ints_two {w : World} {B : Nat} {te : TypeId} {a b : Int} (h : w.heap[B]? = some (.cells #[.int .i64 a, .int .i64 b] te (0, 0))) (ha : -9223372036854775808 ≤ a ∧ a ≤ 9223372036854775807) (hb : -9223372036854775808 ≤ b ∧ b ≤ 9223372036854775807) : IsInts w (.slice (some ⟨B, 0, none⟩) 2 2) [a, b] := by
  refine ⟨_, 2, rfl, by simp, by decide, by simp, (fun e => by cases e), fun _ => ⟨B, 0, rfl, fun t ht => ?_⟩, fun z hz => ?_⟩
  · rw [Nat.zero_add, cell_of_row w B t _ _ (0, 0) h]
    match t, ht with
    | 0, _ => rfl
    | 1, _ => rfl
  · simp only [List.mem_cons, List.not_mem_nil, or_false] at hz
    rcases hz with rfl | rfl
    · exact ha
    · exact hb

theorem poolL_rng {f : List Int → Int} (hf : ∀ ys : List Int, (∀ y ∈ ys, Rng y) → Rng (f ys)) {xs : List Int} (hx : ∀ z ∈ xs, Rng z) (n H W kh kw oh ow : Nat) : ∀ z ∈ poolL f xs n H W kh kw oh ow, -9223372036854775808 ≤ z ∧ z ≤ 9223372036854775807 := by
  intro z hz
  unfold poolL at hz
  obtain ⟨i, -, hz⟩ := List.mem_flatMap.1 hz
  unfold eachW at hz
  obtain ⟨a, -, hz⟩ := List.mem_flatMap.1 hz
  obtain ⟨b, -, rfl⟩ := List.mem_map.1 hz
  refine hf _ fun y hy => ?_
  unfold winL at hy
  obtain ⟨p, -, rfl⟩ := List.mem_map.1 hy
  by_cases hp : p.2 < (imgL xs (H * W) i).length
  · rw [List.getD, List.getElem?_eq_getElem hp, Option.getD_some]
    exact hx _ (img_mem _ (List.getElem_mem _))
  · rw [List.getD, List.getElem?_eq_none (by omega)]
    exact rng0

theorem win_rng {f : List Int → Int} (hf : ∀ ys : List Int, (∀ y ∈ ys, Rng y) → Rng (f ys)) {img : List Int} (hx : ∀ z ∈ img, Rng z) (W kh kw h v : Nat) : Rng (f (winL img W kh kw h v)) := by
  refine hf _ fun y hy => ?_
  unfold winL at hy
  obtain ⟨p, -, rfl⟩ := List.mem_map.1 hy
  by_cases hp : p.2 < img.length
  · rw [List.getD, List.getElem?_eq_getElem hp, Option.getD_some]
    exact hx _ (List.getElem_mem _)
  · rw [List.getD, List.getElem?_eq_none (by omega)]
    exact rng0

set_option maxRecDepth 100000 in
set_option maxHeartbeats 8000000 in
theorem pooled_max (n : Nod) (A : At) (X : Ten) (D0 D1 H W kh kw oh ow N : Nat) (dv : Sl) (xs : List Int) (w : World) (hn : NodeOk w n A) (hx : IsInts w X.dv.v [(D0 : Int), D1, H, W]) (hxs : IsInts w X.tv.v xs) (hd : IsInts w dv.v [(D0 : Int), D1, oh, ow]) (hker : A.ints ⟨#[107, 101, 114, 110, 101, 108, 95, 115, 104, 97, 112, 101]⟩ [(H : Int), W] = [(kh : Int), kw]) (hs : A.ints ⟨#[115, 116, 114, 105, 100, 101, 115]⟩ [1, 1] = [1, 1]) (hl : A.ints ⟨#[100, 105, 108, 97, 116, 105, 111, 110, 115]⟩ [1, 1] = [1, 1]) (hp : A.ints ⟨#[112, 97, 100, 115]⟩ [0, 0, 0, 0] = [0, 0, 0, 0]) (hN : N = D0 * D1) (hxl : xs.length = N * (H * W)) (n1 : 1 ≤ N) (e1 : oh + kh = H + 1) (e2 : ow + kw = W + 1) (k1 : 1 ≤ kh) (k2 : 1 ≤ kw) (o1 : 1 ≤ oh) (o2 : 1 ≤ ow) (hb : xs.length ≤ 65536) :
    Calls Tryz.prog 26 #[nval n, .agg #[.int .i64 X.ty, .slice X.dv.a X.dv.n X.dv.c, .slice X.tv.a X.tv.n X.tv.c], .slice dv.a dv.n dv.c, .func (.func 27) #[] #[]] w fun e w' => ∃ s : Sl, e = .returned (.slice s.a s.n s.c) ∧ OwnsE w' w.heap.size s.v (poolL (mostL 1) xs N H W kh kw oh ow) ∧ w.grownBy w' none := by
  obtain ⟨i0, hi0, hz0, hz1, hz2⟩ := info_parts info64E
  have hH1 : 1 ≤ H := by omega
  have hW1 : 1 ≤ W := by omega
  have S1 : 1 ≤ H * W := Nat.mul_le_mul hH1 hW1
  have S3 : H * W ≤ 65536 := by rw [hxl] at hb; exact Nat.le_trans (Nat.le_mul_of_pos_left _ n1) hb
  have hN3 : N ≤ 65536 := by rw [hxl] at hb; exact Nat.le_trans (Nat.le_mul_of_pos_right _ S1) hb
  have hH3 : H ≤ 65536 := Nat.le_trans (Nat.le_mul_of_pos_right _ hW1) S3
  have hW3 : W ≤ 65536 := Nat.le_trans (Nat.le_mul_of_pos_left _ hH1) S3
  have K3 : kh * kw ≤ 65536 := Nat.le_trans (Nat.mul_le_mul (by omega) (by omega)) S3
  have O3 : oh * ow ≤ H * W := Nat.mul_le_mul (by omega) (by omega)
  have NO : N * (oh * ow) ≤ 65536 := Nat.le_trans (Nat.mul_le_mul_left _ O3) (by omega)
  obtain ⟨ty, ⟨da, dn, dc⟩, ⟨ta, tn, tc⟩⟩ := X
  obtain ⟨oa, on, oc⟩ := dv
  have II := hide (fun wx (hg : w.grownBy wx none) => images_any ⟨ty, ⟨da, dn, dc⟩, ⟨ta, tn, tc⟩⟩ D0 D1 H W N (H * W) xs wx (hx.more hg) (hxs.more hg) hN rfl hxl n1 S1 hb)
  have KI : Hid (∀ (wx : World) (B : Nat), w.grownBy wx none → wx.heap[B]? = some (.cells #[.int .i64 H, .int .i64 W] 2 (0, 0)) → Calls Tryz.prog 61 #[nval n, .string ⟨#[107, 101, 114, 110, 101, 108, 95, 115, 104, 97, 112, 101]⟩, .slice (some ⟨B, 0, none⟩) 2 2] wx fun e w' => ∃ u : Sl, e = .returned u.v ∧ IsInts w' u.v [(kh : Int), kw] ∧ wx.grownBy w' none) := fun wx B hg hB => by
    have h := nints_any n A ⟨#[107, 101, 114, 110, 101, 108, 95, 115, 104, 97, 112, 101]⟩ ⟨some ⟨B, 0, none⟩, 2, 2⟩ [(H : Int), W] wx (hn.more hg) (ints_two hB (by omega) (by omega))
    rw [hker] at h
    exact h
  have WI : Hid (∀ (wx : World) (u : Sl), w.grownBy wx none → IsInts wx u.v [(kh : Int), kw] → Calls Tryz.prog 55 #[nval n, .slice da dn dc, .slice u.a u.n u.c] wx fun e w' => e = .returned (.agg #[.int .i64 H, .int .i64 kh, .int .i64 1, .int .i64 1, .int .i64 0, .int .i64 W, .int .i64 kw, .int .i64 1, .int .i64 1, .int .i64 0]) ∧ wx.grownBy w' none) := fun wx u hg hu => windowsOf_any n A ⟨da, dn, dc⟩ u D0 D1 H W kh kw wx (hn.more hg) (hx.more hg) hu hs hl hp
  have XR : ∀ z ∈ xs, Rng z := hxs.wf
  have HXR := hide XR
  have HD := hide hd
  obtain ⟨_, _, ed, s1, s2, s3⟩ := hx.sl
  simp only [Sl.v, Value.slice.injEq, List.length_cons, List.length_nil, Nat.zero_add, Nat.reduceAdd] at ed hx
  obtain ⟨rfl, rfl, rfl⟩ := ed
  obtain ⟨bd, od, rfl⟩ := addr_of hx (by simp)
  have x2 := item_at hx (k := 2) (by simp)
  have x3 := item_at hx (k := 3) (by simp)
  simp only [List.getD_cons_zero, List.getD_cons_succ] at x2 x3
  obtain ⟨w0, hw0⟩ : ∃ w0, w0 = ((w.alloc (.cells #[.string n.op, .string n.name, .slice n.iv.a n.iv.n n.iv.c, .string n.out, .slice n.av.a n.av.n n.av.c] 35)).alloc (.cells #[.int .i64 ty, .slice (some ⟨bd, od, none⟩) 4 dc, .slice ta tn tc] 25)).alloc (.cells #[.func (.func 27) #[] #[]] 99) := ⟨_, rfl⟩
  have g0 : w.grownBy w0 none := by rw [hw0]; exact grown_trans (grown_new _ _) (grown_trans (grown_new _ _) (grown_new _ _))
  have hbx := three_boxesC w (.cells #[.string n.op, .string n.name, .slice n.iv.a n.iv.n n.iv.c, .string n.out, .slice n.av.a n.av.n n.av.c] 35) (.cells #[.int .i64 ty, .slice (some ⟨bd, od, none⟩) 4 dc, .slice ta tn tc] 25) (.cells #[.func (.func 27) #[] #[]] 99)
  rw [← hw0] at hbx
  obtain ⟨op, nam, ⟨ia, il, ic⟩, out, ⟨ao, al, cap⟩⟩ := n
  unfold nval at KI WI ⊢
  simp only at KI WI II hbx hw0 ⊢
  have BT := hide hbx.2.1
  have BN := hide hbx.1
  have BF := hide hbx.2.2
  obtain ⟨n0, n1', n2, n3, n4⟩ := nod_cells (n := ⟨op, nam, ⟨ia, il, ic⟩, out, ⟨ao, al, cap⟩⟩) hbx.1
  obtain ⟨t0, t1, t2⟩ := ten_cells hbx.2.1
  have y2 := cell_still x2 g0
  have y3 := cell_still x3 g0
  have G0 := hide g0
  have HNO := hide NO
  have XLEN := hide hxl
  have HO3 := hide O3
  clear hn hx hxs hd hker hs hl hp hN hxl hbx g0 x2 x3 XR s1 s2 s3 hb NO O3
  go_enter Tryz.func26, Tryz.ntmps26
  go_upto_region 1 with fail
  rw [← hw0]
  clear hw0
  refine wp_region_held_drew (S := fun w' => w0.grownBy w' none) (by kernel_rfl) (grown_drew (grown_refl _)) (fun hHeld => ?_)
  refine wpAnyH_take (i := 0) (v := ?_) rfl (by kernel_rfl) (by kernel_rfl) (by kernel_rfl) (fun _ _ _ h => h) (Or.inl ⟨by kernel_rfl, ?_⟩) (by assumption) ?_
  rotate_left 1
  · (intro wS hSw; have c0 := cell_still n0 hSw; have c1 := cell_still n1' hSw; have c2 := cell_still n2 hSw; have c3 := cell_still n3 hSw; have c4 := cell_still n4 hSw; go_simp; (try with_reducible rfl))
  try simp only [Act.put]
  refine wpAnyH_take (i := 1) (v := ?_) rfl (by kernel_rfl) (by kernel_rfl) (by kernel_rfl) (fun _ _ _ h => h) (Or.inl ⟨by kernel_rfl, ?_⟩) (by assumption) ?_
  rotate_left 1
  · (intro wS hSw; go_simp; (try with_reducible rfl))
  try simp only [Act.put]
  refine wpAnyH_take (i := 2) (v := ?_) rfl (by kernel_rfl) (by kernel_rfl) (by kernel_rfl) (fun _ _ _ h => h) (Or.inl ⟨by kernel_rfl, ?_⟩) (by assumption) ?_
  rotate_left 1
  · (intro wS hSw; have c0 := cell_still t1 hSw; go_simp; (try with_reducible rfl))
  try simp only [Act.put]
  refine wpAnyH_take (i := 3) (v := ?_) rfl (by kernel_rfl) (by kernel_rfl) (by kernel_rfl) (fun _ _ _ h => h) (Or.inl ⟨by kernel_rfl, ?_⟩) (by assumption) ?_
  rotate_left 1
  · (intro wS hSw; go_simp; (try with_reducible rfl))
  try simp only [Act.put]
  refine wpAnyH_take (i := 4) (v := ?_) rfl (by kernel_rfl) (by kernel_rfl) (by kernel_rfl) (fun _ _ _ h => h) (Or.inl ⟨by kernel_rfl, ?_⟩) (by assumption) ?_
  rotate_left 1
  · (intro wS hSw; have c0 := cell_still y2 hSw; go_simp; (try with_reducible rfl))
  try simp only [Act.put]
  refine wpAnyH_take (i := 5) (v := ?_) rfl (by kernel_rfl) (by kernel_rfl) (by kernel_rfl) (fun _ _ _ h => h) (Or.inl ⟨by kernel_rfl, ?_⟩) (by assumption) ?_
  rotate_left 1
  · (intro wS hSw; go_simp; (try with_reducible rfl))
  try simp only [Act.put]
  refine wpAnyH_take (i := 6) (v := ?_) rfl (by kernel_rfl) (by kernel_rfl) (by kernel_rfl) (fun _ _ _ h => h) (Or.inl ⟨by kernel_rfl, ?_⟩) (by assumption) ?_
  rotate_left 1
  · (intro wS hSw; have c0 := cell_still t1 hSw; go_simp; (try with_reducible rfl))
  try simp only [Act.put]
  refine wpAnyH_take (i := 7) (v := ?_) rfl (by kernel_rfl) (by kernel_rfl) (by kernel_rfl) (fun _ _ _ h => h) (Or.inl ⟨by kernel_rfl, ?_⟩) (by assumption) ?_
  rotate_left 1
  · (intro wS hSw; go_simp; (try with_reducible rfl))
  try simp only [Act.put]
  refine wpAnyH_take (i := 8) (v := ?_) rfl (by kernel_rfl) (by kernel_rfl) (by kernel_rfl) (fun _ _ _ h => h) (Or.inl ⟨by kernel_rfl, ?_⟩) (by assumption) ?_
  rotate_left 1
  · (intro wS hSw; have c0 := cell_still y3 hSw; go_simp; (try with_reducible rfl))
  try simp only [Act.put]
  refine wpAnyH_ready (rs := [9]) (by kernel_rfl) (by simp) ?_
  refine AllReadyH.cons rfl (fun K hK => ?_) AllReadyH.nil
  go_simp
  have hB := heap_alloc_new w0 (.cells #[.int .i64 H, .int .i64 W] 2)
  have g1 : w0.grownBy (w0.alloc (.cells #[.int .i64 H, .int .i64 W] 2)).drew none := grown_drew (grown_new _ _)
  replace hB : (w0.alloc (.cells #[.int .i64 H, .int .i64 W] 2)).drew.heap[w0.heap.size]? = some (.cells #[.int .i64 H, .int .i64 W] 2 (0, 0)) := hB
  generalize hv : (w0.alloc (.cells #[.int .i64 H, .int .i64 W] 2)).drew = w1 at g1 hB ⊢
  refine hK.out _ _ (g1) (fun hHeld => ?_)
  clear hK K
  try simp only [Act.put]
  refine wpAnyH_ready (rs := [10]) (by kernel_rfl) (by simp) ?_
  refine AllReadyH.cons rfl (fun K hK => ?_) AllReadyH.nil
  go_simp
  refine (KI.out w1 _ (grown_trans G0.out g1) hB).mono ?_
  rintro e w2 ⟨⟨ua, un, uc⟩, rfl, iu, hg2⟩
  have g2 := grown_trans g1 hg2
  simp only [Sl.v] at iu ⊢
  refine hK.out _ _ (g2) (fun hHeld => ?_)
  clear hK K
  try simp only [Act.put]
  refine wpAnyH_take (i := 11) (v := ?_) rfl (by kernel_rfl) (by kernel_rfl) (by kernel_rfl) (fun _ _ _ h => h) (Or.inl ⟨by kernel_rfl, ?_⟩) (by assumption) ?_
  rotate_left 1
  · (intro wS hSw; go_simp; (try with_reducible rfl))
  try simp only [Act.put]
  refine wpAnyH_done (by kernel_rfl) ?_ _
  have IU := hide iu
  have G2 := hide g2
  have WC := hide (WI.out w2 ⟨ua, un, uc⟩ (grown_trans G0.out g2) iu)
  obtain ⟨m0, m1, m2, m3, m4⟩ := nod_cells (n := ⟨op, nam, ⟨ia, il, ic⟩, out, ⟨ao, al, cap⟩⟩) (box_kept BN.out g2)
  obtain ⟨v0, v1, v2⟩ := ten_cells (box_kept BT.out g2)
  clear iu g1 g2 hg2 hB hv n0 n1' n2 n3 n4 t0 t1 t2 y2 y3 hHeld
  go_simp
  go_wp2_with fail
  clear m0 m1 m2 m3 m4 v0 v1 v2
  refine WC.out.mono ?_
  rintro e w3 ⟨rfl, hg3⟩
  obtain ⟨w4, hw4⟩ : ∃ w4, w4 = w3.alloc (.cells #[.int .i64 H, .int .i64 kh, .int .i64 1, .int .i64 1, .int .i64 0, .int .i64 W, .int .i64 kw, .int .i64 1, .int .i64 1, .int .i64 0] 90) := ⟨_, rfl⟩
  have hb4 := heap_alloc_new w3 (.cells #[.int .i64 H, .int .i64 kh, .int .i64 1, .int .i64 1, .int .i64 0, .int .i64 W, .int .i64 kw, .int .i64 1, .int .i64 1, .int .i64 0] 90)
  have g34 : w3.grownBy w4 none := by rw [hw4]; exact grown_new _ _
  rw [← hw4] at hb4
  have g4 := grown_trans G2.out (grown_trans hg3 g34)
  have IC := hide (II.out w4 (grown_trans G0.out g4))
  obtain ⟨v0, v1, v2⟩ := ten_cells (box_kept BT.out g4)
  have G4 := hide g4
  have HB4 := hide hb4
  rw [hw4] at v0 v1 v2
  clear hb4 g34 g4 hg3 WC
  go_wp2_with fail
  rw [← hw4]
  clear v0 v1 v2 hw4
  refine IC.out.mono ?_
  rintro e w5 ⟨B, ss, rfl, hrw, hB5, hg5⟩
  have HRW := hide hrw
  have G5 := hide (grown_trans G4.out hg5)
  have HB5 := hide (box_kept HB4.out hg5)
  have BF5 := hide (box_kept BF.out (grown_trans G4.out hg5))
  have Z5 := hide (grown_trans G0.out G5.out).size
  clear hrw hg5 IC
  go_wp2_with fail
  go_loopg [11, 33] N (fun gh d i wr => w5.grownBy wr none ∧ ∃ (t T : Nat) (ea : Option Addr) (ec : Nat), gh = N - t ∧ t ≤ N ∧ T = t * (oh * ow) ∧ i = .int .i64 t ∧ d = .slice ea T ec ∧ OwnsE wr w5.heap.size (.slice ea T ec) (poolL (mostL 1) xs t H W kh kw oh ow))
  case atStart => exact ⟨grown_refl _, 0, 0, _, _, rfl, Nat.zero_le _, by simp, rfl, rfl, by simpa [poolL] using ownsE_nil (World.ownsRow_nil _ _ _ _)⟩
  case round =>
    obtain ⟨hg, t, T, ea, ec, hgk, ht, hT, rfl, rfl, ho⟩ := hrel
    have HG := hide hg
    have HO := hide ho
    have HTT := hide hT
    by_cases hlt : t < N
    · have hlI : t < (imgsL xs (H * W) N).length := by simp [imgsL]; exact hlt
      have rc := (HRW.out.more hg).at' t hlI
      have ri := (HRW.out.more hg).each t hlI
      have LI : (imgsL xs (H * W) N).getD t [] = imgL xs (H * W) t := by simp [imgsL, List.getD, hlt]
      rw [LI] at ri
      obtain ⟨⟨ra, rn, rcap⟩, hrs⟩ : ∃ s, s = ss.getD t nilS := ⟨_, rfl⟩
      rw [← hrs] at rc ri
      rw [Nat.zero_add] at rc
      simp only at rc
      have HRI := hide ri
      have ILN : Hid ((imgL xs (H * W) t).length = H * W) := by
        obtain ⟨_, _, er, -⟩ := ri.sl
        show _ = _
        unfold imgL
        have h5 : (t + 1) * (H * W) ≤ N * (H * W) := Nat.mul_le_mul_right _ hlt
        have h6 := XLEN.out
        rw [Nat.add_mul] at h5
        rw [List.length_take, List.length_drop]
        omega
      have l1 : (t : Int) < (N : Int) := by omega
      obtain ⟨w6, hw6⟩ : ∃ w6, w6 = wr.alloc (.cells #[.slice ra rn rcap] 23) := ⟨_, rfl⟩
      have hb6 := heap_alloc_new wr (.cells #[.slice ra rn rcap] 23)
      have g6 : wr.grownBy w6 none := by rw [hw6]; exact grown_new _ _
      rw [← hw6] at hb6
      have gg6 := grown_trans hg g6
      have HB6 := hide hb6
      have BF6 := hide (box_kept BF5.out gg6)
      have IMR : ∀ z ∈ imgL xs (H * W) t, Rng z := fun z hz => HXR.out z (img_mem z hz)
      have EC : Hid (Calls Tryz.prog 57 #[.agg #[.int .i64 H, .int .i64 kh, .int .i64 1, .int .i64 1, .int .i64 0, .int .i64 W, .int .i64 kw, .int .i64 1, .int .i64 1, .int .i64 0], .slice oa on oc, .func (.func 62) #[] #[.pointer (some ⟨w.heap.size + 1 + 1, 0, none⟩), .pointer (some ⟨wr.heap.size, 0, none⟩)]] w6 fun e w' => ∃ s : Sl, e = .returned (.slice s.a s.n s.c) ∧ OwnsE w' w6.heap.size s.v (eachW (fun h v => (mostL 1) (winL (imgL xs (H * W) t) W kh kw h v)) oh ow) ∧ w6.grownBy w' none) := each_pool H kh W kw oh ow (fun h v => (mostL 1) (winL (imgL xs (H * W) t) W kh kw h v)) ⟨oa, on, oc⟩ [(D0 : Int), D1, oh, ow] _ _ w6 (HD.out.more (grown_trans G0.out (grown_trans G5.out gg6))) rfl rfl rfl (Nat.le_trans HO3.out S3) (by omega) (by omega) (fun h v => win_rng (fun ys h => mostL_rng 1 ys h) IMR W kh kw h v) (fun wx p1 p2 p3 h v hx hh hv hp => pool1_max H kh W kw h v p1 p2 p3 _ _ ⟨ra, rn, rcap⟩ (imgL xs (H * W) t) wx (box_kept BF6.out hx) (box_kept HB6.out hx) hp (by omega) (by omega) hW3 hH3 S3 K3 ((HRI.out.more g6).more hx) ILN.out S1)
      have OWN6 : Hid (∀ wx, w6.grownBy wx none → OwnsE wx w5.heap.size (.slice ea T ec) (poolL (mostL 1) xs t H W kh kw oh ow)) := fun wx hx => HO.out.more (grown_trans g6 hx) (by cases (Value.slice ea T ec).ownBlock <;> simp)
      have ELN := hide (eachW_len (fun h v => (mostL 1) (winL (imgL xs (H * W) t) W kh kw h v)) oh ow)
      have ERN : Hid (∀ z ∈ eachW (fun h v => (mostL 1) (winL (imgL xs (H * W) t) W kh kw h v)) oh ow, -9223372036854775808 ≤ z ∧ z ≤ 9223372036854775807) := fun z hz => by rw [← eachU_0] at hz; exact eachU_rng (fun h v => win_rng (fun ys h => mostL_rng 1 ys h) IMR W kh kw h v) ow oh 0 z hz
      have PST := hide (poolL_step (mostL 1) xs t H W kh kw oh ow)
      obtain ⟨q0, q1, q2, q3, q4, q5, q6, q7, q8, q9⟩ := win_cells (box_kept HB5.out gg6)
      rw [hw6] at q0 q1 q2 q3 q4 q5 q6 q7 q8 q9
      obtain ⟨E, hE⟩ : ∃ E, E = eachW (fun h v => (mostL 1) (winL (imgL xs (H * W) t) W kh kw h v)) oh ow := ⟨_, rfl⟩
      rw [← hE] at EC ELN ERN PST
      have hmf : ∀ (fn : Fn) (first cap : Array Value) (w : World), (Instr.makeFunc fn first cap).run Tryz.prog w = .ok (.func fn first cap) w := fun _ _ _ _ => rfl
      have OO1 : Hid (1 ≤ oh * ow) := Nat.mul_le_mul o1 o2
      have DL : Hid (T + oh * ow ≤ 65536) := by
        show _ ≤ _
        have h5 : (t + 1) * (oh * ow) ≤ N * (oh * ow) := Nat.mul_le_mul_right _ hlt
        rw [Nat.add_mul] at h5
        have h6 := HNO.out
        have h7 := HTT.out
        omega
      have LN : Hid ((poolL (mostL 1) xs t H W kh kw oh ow).length = T) := by show _ = _; rw [poolL_len]; exact HTT.out.symm
      have G6 := hide gg6
      clear hb6 g6 gg6 hE IMR ri hrs LI hlI hg ho hT
      go_wp2_with fail
      rw [← hw6]
      clear hw6 q0 q1 q2 q3 q4 q5 q6 q7 q8 q9 rc
      refine EC.out.mono ?_
      rintro e w7 ⟨⟨ua', un', uc'⟩, rfl, hO7, hg7⟩
      obtain ⟨ug, ⟨uc3, eu⟩, hu2, hu3⟩ := ownsE_cells hO7 (by rw [ELN.out]; exact OO1.out)
      rw [ELN.out] at eu
      simp only [Sl.v, Value.slice.injEq] at eu
      obtain ⟨rfl, rfl, rfl⟩ := eu
      have G7 := hide (grown_trans G6.out hg7)
      have OW7 : Hid (w7.ownsRow w5.heap.size 2 1 (.slice ea T ec) T ((poolL (mostL 1) xs t H W kh kw oh ow).map (Value.int .i64))) := ownsE_at (OWN6.out w7 hg7) LN.out
      have sz7 : w5.heap.size ≤ w7.heap.size := G7.out.size
      have HU2 := hide hu2
      have HU3 := hide hu3
      clear hO7 hg7 hu2 hu3 EC hmf
      obtain ⟨OO, hOO⟩ : ∃ OO, OO = oh * ow := ⟨_, rfl⟩
      rw [← hOO] at DL OO1 ELN ⊢
      have HOO := hide hOO
      clear hOO
      have d1 := DL.out
      have d2 := OO1.out
      go_wp2_with (at_builtin; refine wpList_append_lies _ rfl (.tmp 37) (.tmp 41) 23 rfl w5.heap.size 2 i0 (.int .i64 0) 1 8 Tryz.underlying23 hi0 hz0 hz1 hz2 rfl (by decide) (.slice ea T ec) T ((poolL (mostL 1) xs t H W kh kw oh ow).map (Value.int .i64)) rfl (by exact OW7.out) ⟨ug, 0, none⟩ OO _ (E.map (Value.int .i64)) rfl (by rw [List.length_map, ELN.out, Nat.mul_one]) HU2.out HU3.out d2 (by simp only [maxLen]; omega) (by omega) sz7 _ rfl ?_; intro gg cap8 w8 hown8 hgrow hat hlt8)
      have ST : Hid (w5.grownBy w8 none ∧ OwnsE w8 w5.heap.size (.slice (some ⟨gg, 0, none⟩) (T + OO) cap8) (poolL (mostL 1) xs (t + 1) H W kh kw oh ow)) := ⟨grown_trans_row G7.out hgrow (fun r e => (World.ownsRow.lt OW7.out r e).1), by rw [PST.out]; exact ownsE_app LN.out ELN.out hown8 (by omega) (poolL_rng (fun ys h => mostL_rng 1 ys h) HXR.out t H W kh kw oh ow) ERN.out⟩
      have TT1 : Hid (T + OO = (t + 1) * (oh * ow)) := by show _ = _; rw [Nat.add_mul, ← HTT.out, HOO.out, Nat.one_mul]
      clear hown8 hgrow hat hlt8
      go_wp2_with fail
      go_roundg (N - (t + 1))
      case measure => omega
      case rel => exact ⟨ST.out.1, t + 1, T + OO, _, _, rfl, by omega, TT1.out, by go_num, rfl, ST.out.2⟩
    · obtain rfl : t = N := by omega
      clear hg ho hT
      go_wp2
      go_ret
      exact ⟨⟨_, _, _⟩, rfl, ⟨row_base_leR HO.out.1 Z5.out, HO.out.2⟩, grown_trans G0.out (grown_trans G5.out HG.out)⟩

end Go.Proofs.YtkefdkboejimeaaGreatDoor
