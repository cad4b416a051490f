/- Joined texts: CvMd. -/
import Derived.Test.YtkefdkboejimeaaGreatDoorRartBN
import Derived.Test.YtkefdkboejimeaaGreatDoorRartBH
import Derived.Deep.RegionHeld3
namespace Go.Proofs.YtkefdkboejimeaaGreatDoor

open Go.RowKit

set_option maxRecDepth 100000 in
set_option maxHeartbeats 8000000 in
theorem made_mxp (n : Nod) (A : At) (hop : n.op = ⟨#[77, 97, 120, 80, 111, 111, 108]⟩) (u : Sl) (T0 : Ten) (D0 D1 H W kh kw oh ow N : Nat) (xs : List Int) (nam0 : ByteArray) (vty : Int) (dv : Sl) (w : World) (hno : NodeOk w n A) (hv : TensIn w u.v [(T0, ([(D0 : Int), D1, H, W], xs))]) (hd : IsInts w dv.v [(D0 : Int), D1, oh, ow]) (hker : A.ints ⟨#[107, 101, 114, 110, 101, 108, 95, 115, 104, 97, 112, 101]⟩ [(H : Int), W] = [(kh : Int), kw]) (hs : A.ints ⟨#[115, 116, 114, 105, 100, 101, 115]⟩ [1, 1] = [1, 1]) (hl : A.ints ⟨#[100, 105, 108, 97, 116, 105, 111, 110, 115]⟩ [1, 1] = [1, 1]) (hp : A.ints ⟨#[112, 97, 100, 115]⟩ [0, 0, 0, 0] = [0, 0, 0, 0]) (hN : N = D0 * D1) (hxl : xs.length = N * (H * W)) (n1 : 1 ≤ N) (e1 : oh + kh = H + 1) (e2 : ow + kw = W + 1) (k1 : 1 ≤ kh) (k2 : 1 ≤ kw) (o1 : 1 ≤ oh) (o2 : 1 ≤ ow) (hb : xs.length ≤ 65536) :
    Calls Tryz.prog 15 #[nval n, .slice u.a u.n u.c, .agg #[.string nam0, .int .i64 vty, .slice dv.a dv.n dv.c]] w (EvQ w (.ok (poolL (mostL 1) xs N H W kh kw oh ow))) := by
  obtain ⟨za, zn, zc⟩ := dv
  obtain ⟨xa, xc, ef, p1, p2, p3⟩ := hv.vals.form
  obtain ⟨ua, un, uc⟩ := u
  simp only [Sl.v, List.map_cons, List.map_nil, List.length_cons, List.length_nil, Value.slice.injEq] at ef
  obtain ⟨rfl, rfl, rfl⟩ := ef
  obtain ⟨ub, uo, rfl⟩ := hv.vals.addr (k := 0) (by simp)
  obtain ⟨t0, t1, t2⟩ := hv.at 0 (by simp)
  have HH0 := hide (hv.has (T0, ([(D0 : Int), D1, H, W], xs)) (by simp))
  obtain ⟨tx, ⟨xda, xdn, xdc⟩, ⟨xta, xtn, xtc⟩⟩ := T0
  simp only [List.getElem_cons_zero, Nat.zero_mul, Nat.add_zero] at t0 t1 t2 HH0
  have EC : Hid (∀ wx : World, w.grownBy wx none → Calls Tryz.prog 26 #[nval n, .agg #[.int .i64 tx, .slice xda xdn xdc, .slice xta xtn xtc], .slice za zn zc, .func (.func 27) #[] #[]] wx fun e w' => ∃ s : Sl, e = .returned (.slice s.a s.n s.c) ∧ OwnsE w' wx.heap.size s.v (poolL (mostL 1) xs N H W kh kw oh ow) ∧ wx.grownBy w' none) := fun wx hx => pooled_max n A ⟨tx, ⟨xda, xdn, xdc⟩, ⟨xta, xtn, xtc⟩⟩ D0 D1 H W kh kw oh ow N ⟨za, zn, zc⟩ xs wx (hno.more hx) (HH0.out.1.more hx) (HH0.out.2.more hx) (hd.more hx) hker hs hl hp hN hxl n1 e1 e2 k1 k2 o1 o2 hb
  obtain ⟨R0, hR0⟩ : ∃ R0, R0 = poolL (mostL 1) xs N H W kh kw oh ow := ⟨_, rfl⟩
  simp only
  rw [← hR0] at EC ⊢
  obtain ⟨op, nam, ⟨ia, il, ic⟩, out, ⟨ao, al, cap⟩⟩ := n
  simp only at hop
  subst hop
  unfold nval at EC ⊢
  simp only at EC ⊢
  obtain ⟨w0, hw0⟩ : ∃ w0, w0 = (w.alloc (.cells #[.string ⟨#[77, 97, 120, 80, 111, 111, 108]⟩, .string nam, .slice ia il ic, .string out, .slice ao al cap] 35)).alloc (.cells #[.string nam0, .int .i64 vty, .slice za zn zc] 53) := ⟨_, rfl⟩
  have g0 : w.grownBy w0 none := by rw [hw0]; exact grown_trans (grown_new _ _) (grown_new _ _)
  have hbx := two_boxes w (.cells #[.string ⟨#[77, 97, 120, 80, 111, 111, 108]⟩, .string nam, .slice ia il ic, .string out, .slice ao al cap] 35) (.cells #[.string nam0, .int .i64 vty, .slice za zn zc] 53)
  rw [← hw0] at hbx
  obtain ⟨n0, n1', n2, n3, n4⟩ := nod_cells (n := ⟨⟨#[77, 97, 120, 80, 111, 111, 108]⟩, nam, ⟨ia, il, ic⟩, out, ⟨ao, al, cap⟩⟩) hbx.1
  obtain ⟨v0, v1, v2⟩ := ten_cells hbx.2
  have t0 := cell_still t0 g0
  have t1 := cell_still t1 g0
  have t2 := cell_still t2 g0
  have G0 := hide g0
  clear hbx hv hno hd hker hs hl hp hN hxl n1 e1 e2 k1 k2 o1 o2 hb g0 p1 p2 p3 hR0 HH0 v0 v1
  rw [hw0] at n0
  go_enter Tryz.func15, Tryz.ntmps15
  go_upto_region 5 with fail
  rw [← hw0]
  rw [← hw0] at n0
  clear hw0
  refine wp_region_held_drew (S := fun w' => w0.grownBy w' none) (by kernel_rfl) (grown_drew (grown_refl _)) (fun hHeld => ?_)
  refine wpAnyH_take (i := 0) (v := ?_) rfl (by kernel_rfl) (by kernel_rfl) (by kernel_rfl) (fun _ _ _ h => h) (Or.inl ⟨by kernel_rfl, ?_⟩) (by assumption) ?_
  rotate_left 1
  · (intro wS hSw; have c0 := cell_still n0 hSw; have c1 := cell_still n1' hSw; have c2 := cell_still n2 hSw; have c3 := cell_still n3 hSw; have c4 := cell_still n4 hSw; go_simp; (try with_reducible rfl))
  try simp only [Act.put]
  refine wpAnyH_take (i := 1) (v := ?_) rfl (by kernel_rfl) (by kernel_rfl) (by kernel_rfl) (fun _ _ _ h => h) (Or.inl ⟨by kernel_rfl, ?_⟩) (by assumption) ?_
  rotate_left 1
  · (intro wS hSw; go_simp; (try with_reducible rfl))
  try simp only [Act.put]
  refine wpAnyH_take (i := 2) (v := ?_) rfl (by kernel_rfl) (by kernel_rfl) (by kernel_rfl) (fun _ _ _ h => h) (Or.inl ⟨by kernel_rfl, ?_⟩) (by assumption) ?_
  rotate_left 1
  · (intro wS hSw; go_simp; (try with_reducible rfl))
  try simp only [Act.put]
  refine wpAnyH_take (i := 3) (v := ?_) rfl (by kernel_rfl) (by kernel_rfl) (by kernel_rfl) (fun _ _ _ h => h) (Or.inl ⟨by kernel_rfl, ?_⟩) (by assumption) ?_
  rotate_left 1
  · (intro wS hSw; have c0 := cell_still t0 hSw; have c1 := cell_still t1 hSw; have c2 := cell_still t2 hSw; go_simp; (try with_reducible rfl))
  try simp only [Act.put]
  refine wpAnyH_take (i := 4) (v := ?_) rfl (by kernel_rfl) (by kernel_rfl) (by kernel_rfl) (fun _ _ _ h => h) (Or.inl ⟨by kernel_rfl, ?_⟩) (by assumption) ?_
  rotate_left 1
  · (intro wS hSw; go_simp; (try with_reducible rfl))
  try simp only [Act.put]
  refine wpAnyH_take (i := 5) (v := ?_) rfl (by kernel_rfl) (by kernel_rfl) (by kernel_rfl) (fun _ _ _ h => h) (Or.inl ⟨by kernel_rfl, ?_⟩) (by assumption) ?_
  rotate_left 1
  · (intro wS hSw; have c0 := cell_still v2 hSw; go_simp; (try with_reducible rfl))
  try simp only [Act.put]
  refine wpAnyH_ready (rs := [6]) (by kernel_rfl) (by simp) ?_
  refine AllReadyH.cons rfl (fun K hK => ?_) AllReadyH.nil
  go_simp
  refine (EC.out _ (grown_trans G0.out (grown_drew (grown_refl _)))).mono ?_
  rintro e w2 ⟨⟨sa, sn, sc⟩, rfl, os, hg2⟩
  have g2 : w0.grownBy w2 none := ⟨hg2.os, hg2.tape, hg2.output, hg2.size, hg2.block⟩
  refine hK.out _ _ (g2) (fun hHeld => ?_)
  clear hK K
  try simp only
  refine wpAnyH_take (i := 7) (v := ?_) rfl (by kernel_rfl) (by kernel_rfl) (by kernel_rfl) (fun _ _ _ h => h) (Or.inl ⟨by kernel_rfl, ?_⟩) (by assumption) ?_
  rotate_left 1
  · (intro wS hSw; go_simp; (try with_reducible rfl))
  try simp only [Act.put]
  refine wpAnyH_take (i := 8) (v := ?_) rfl (by kernel_rfl) (by kernel_rfl) (by kernel_rfl) (fun _ _ _ h => h) (Or.inl ⟨by kernel_rfl, ?_⟩) (by assumption) ?_
  rotate_left 1
  · (intro wS hSw; go_simp; (try with_reducible rfl))
  try simp only [Act.put]
  refine wpAnyH_done (by kernel_rfl) ?_ _
  have hz := G0.out.size
  have OS := hide (show OwnsE w2 w.heap.size (Sl.v ⟨sa, sn, sc⟩) R0 from ⟨row_base_leR os.1 hz, os.2⟩)
  have G2 := hide (grown_trans G0.out g2)
  clear os hg2 g2 hz
  go_simp
  go_wp2
  go_ret2
  exact ⟨G2.out, ⟨sa, sn, sc⟩, rfl, OS.out⟩

set_option maxRecDepth 100000 in
set_option maxHeartbeats 8000000 in
theorem made_cv (n : Nod) (A : At) (hop : n.op = ⟨#[67, 111, 110, 118]⟩) (u : Sl) (T0 T1 : Ten) (xs ys : List Int) (nam0 : ByteArray) (vty : Int) (dv : Sl) (w : World) (hno : NodeOk w n A) (hv : TensIn w u.v [(T0, ([1, 1, 2, 2], xs)), (T1, ([1, 1, 2, 2], ys))]) (hd : IsInts w dv.v [1, 1, 1, 1]) (lx : xs.length = 4) (ly : ys.length = 4) (hgr : A.int ⟨#[103, 114, 111, 117, 112]⟩ 1 = 1) (hs : A.ints ⟨#[115, 116, 114, 105, 100, 101, 115]⟩ [1, 1] = [1, 1]) (hl : A.ints ⟨#[100, 105, 108, 97, 116, 105, 111, 110, 115]⟩ [1, 1] = [1, 1]) (hp : A.ints ⟨#[112, 97, 100, 115]⟩ [0, 0, 0, 0] = [0, 0, 0, 0]) :
    Calls Tryz.prog 15 #[nval n, .slice u.a u.n u.c, .agg #[.string nam0, .int .i64 vty, .slice dv.a dv.n dv.c]] w (EvQ w (.ok [prod4 xs ys])) := by
  obtain ⟨za, zn, zc⟩ := dv
  have EC : Hid (∀ wx : World, w.grownBy wx none → Calls Tryz.prog 25 #[nval n, .slice u.a u.n u.c, .slice za zn zc] wx fun e w' => ∃ s : Sl, e = .returned (.slice s.a s.n s.c) ∧ OwnsE w' wx.heap.size s.v [prod4 xs ys] ∧ wx.grownBy w' none) := fun wx hx => convolved_one n A u T0 T1 xs ys ⟨za, zn, zc⟩ wx (hno.more hx) (hv.more hx) (hd.more hx) lx ly hgr hs hl hp
  obtain ⟨R0, hR0⟩ : ∃ R0, R0 = [prod4 xs ys] := ⟨_, rfl⟩
  simp only
  rw [← hR0] at EC ⊢
  obtain ⟨ua, un, uc⟩ := u
  obtain ⟨op, nam, ⟨ia, il, ic⟩, out, ⟨ao, al, cap⟩⟩ := n
  simp only at hop
  subst hop
  unfold nval at EC ⊢
  simp only at EC ⊢
  obtain ⟨w0, hw0⟩ : ∃ w0, w0 = (w.alloc (.cells #[.string ⟨#[67, 111, 110, 118]⟩, .string nam, .slice ia il ic, .string out, .slice ao al cap] 35)).alloc (.cells #[.string nam0, .int .i64 vty, .slice za zn zc] 53) := ⟨_, rfl⟩
  have g0 : w.grownBy w0 none := by rw [hw0]; exact grown_trans (grown_new _ _) (grown_new _ _)
  have hbx := two_boxes w (.cells #[.string ⟨#[67, 111, 110, 118]⟩, .string nam, .slice ia il ic, .string out, .slice ao al cap] 35) (.cells #[.string nam0, .int .i64 vty, .slice za zn zc] 53)
  rw [← hw0] at hbx
  obtain ⟨n0, n1, n2, n3, n4⟩ := nod_cells (n := ⟨⟨#[67, 111, 110, 118]⟩, nam, ⟨ia, il, ic⟩, out, ⟨ao, al, cap⟩⟩) hbx.1
  obtain ⟨v0, v1, v2⟩ := ten_cells hbx.2
  have EC2 := hide (EC.out w0 g0)
  have G0 := hide g0
  clear hbx hv hno hd lx ly hgr hs hl hp g0 hR0 v0 v1 EC
  rw [hw0] at n0 n1 n2 n3 n4 v2
  go_enter Tryz.func15, Tryz.ntmps15
  go_wp2_with fail
  rw [← hw0]
  clear hw0 n0 n1 n2 n3 n4 v2
  refine EC2.out.mono ?_
  rintro e w2 ⟨⟨sa, sn, sc⟩, rfl, os, g2⟩
  have hz := G0.out.size
  have OS := hide (show OwnsE w2 w.heap.size (Sl.v ⟨sa, sn, sc⟩) R0 from ⟨row_base_leR os.1 hz, os.2⟩)
  have G2 := hide (grown_trans G0.out g2)
  clear os g2 hz
  go_wp2
  go_ret2
  exact ⟨G2.out, ⟨sa, sn, sc⟩, rfl, OS.out⟩

end Go.Proofs.YtkefdkboejimeaaGreatDoor
