/- Joined texts: MvGaM, MvGathE, MvJoinP, MvJoin. -/
import Derived.Test.YtaoplfpigjkgpaaGreatDoorPartBI
import Derived.Deep.RegionHeld3
namespace Go.Proofs.YtaoplfpigjkgpaaGreatDoor

open Go.RowKit

set_option maxRecDepth 100000 in
set_option maxHeartbeats 8000000 in
theorem maxis_any (n : Nod) (A : At) (u : Sl) (ds : List Int) (w : World) (hno : NodeOk w n A) (hd : IsInts w u.v ds) (hl : ds.length ≤ 1000) (hz : -9223372036854775808 ≤ A.int ⟨#[97, 120, 105, 115]⟩ 0) :
    Calls Tryz.prog 33 #[nval n, .slice u.a u.n u.c] w fun e w' => e = .returned (.int .i64 (((axisO (A.int ⟨#[97, 120, 105, 115]⟩ 0) ds.length).getD 0 : Nat) : Int)) ∧ w.grownBy w' none := by
  obtain ⟨ua, un, uc⟩ := u
  obtain ⟨_, _, e1, -⟩ := hd.sl
  simp only [Sl.v, Value.slice.injEq] at e1
  obtain ⟨-, rfl, rfl⟩ := e1
  have NI : Hid (∀ wx, w.grownBy wx none → Calls Tryz.prog 59 #[nval n, .string ⟨#[97, 120, 105, 115]⟩, .int .i64 0] wx fun e w' => e = .returned (.int .i64 (A.int ⟨#[97, 120, 105, 115]⟩ 0)) ∧ wx.grownBy w' none) := fun wx hx => nint_any n A ⟨#[97, 120, 105, 115]⟩ 0 wx (hno.more hx)
  obtain ⟨z, hzz⟩ : ∃ z, z = A.int ⟨#[97, 120, 105, 115]⟩ 0 := ⟨_, rfl⟩
  rw [← hzz] at NI hz ⊢
  have AX : Hid (∀ wx, Calls Tryz.prog 54 #[.int .i64 z, .int .i64 ds.length] wx fun e w' => e = .returned (.tuple #[.int .i64 ((axisO z ds.length).getD 0 : Nat), .bool (axisO z ds.length).isSome]) ∧ wx = w') := fun wx => axis_any z ds.length wx (by omega) hz
  obtain ⟨op, nam, ⟨ia, il, ic⟩, out, ⟨ao, al, cap⟩⟩ := n
  unfold nval at NI ⊢
  simp only at NI ⊢
  obtain ⟨w0, hw0⟩ : ∃ w0, w0 = w.alloc (.cells #[.string op, .string nam, .slice ia il ic, .string out, .slice ao al cap] 25) := ⟨_, rfl⟩
  have hb0 := heap_alloc_new w (.cells #[.string op, .string nam, .slice ia il ic, .string out, .slice ao al cap] 25)
  obtain ⟨n0, n1, n2, n3, n4⟩ := nod_cells (n := ⟨op, nam, ⟨ia, il, ic⟩, out, ⟨ao, al, cap⟩⟩) hb0
  have g0 : w.grownBy w0 none := by rw [hw0]; exact grown_new _ _
  have N1 := hide (NI.out w0 g0)
  have G0 := hide g0
  clear hno hd hzz hb0 g0 NI
  go_enter Tryz.func33, Tryz.ntmps33
  go_wp2_with fail
  rw [← hw0]
  clear hw0 n0 n1 n2 n3 n4
  refine N1.out.mono ?_
  rintro e w1 ⟨rfl, hg1⟩
  have G1 := hide (grown_trans G0.out hg1)
  clear hg1
  go_wp2_with fail
  refine (AX.out w1).mono ?_
  rintro e w2 ⟨rfl, rfl⟩
  go_wp2
  go_ret
  exact ⟨rfl, G1.out⟩

set_option maxRecDepth 100000 in
set_option maxHeartbeats 8000000 in
theorem moved_gath (n : Nod) (A : At) (hop : n.op = ⟨#[71, 97, 116, 104, 101, 114]⟩) (u : Sl) (T0 T1 : Ten) (ds xs is idx : List Int) (nam0 : ByteArray) (vty : Int) (zv : Sl) (ax : Nat) (r : R (List Int)) (w : World) (hno : NodeOk w n A) (hv : TensIn w u.v [(T0, (ds, xs)), (T1, (is, idx))]) (hax : axisO (A.int ⟨#[97, 120, 105, 115]⟩ 0) ds.length = some ax) (hzi : -9223372036854775808 ≤ A.int ⟨#[97, 120, 105, 115]⟩ 0) (hr6 : ds.length ≤ 6)
    (GA : ∀ wx, w.grownBy wx none → Calls Tryz.prog 34 #[.agg #[.int .i64 T0.ty, .slice T0.dv.a T0.dv.n T0.dv.c, .slice T0.tv.a T0.tv.n T0.tv.c], .agg #[.int .i64 T1.ty, .slice T1.dv.a T1.dv.n T1.dv.c, .slice T1.tv.a T1.tv.n T1.tv.c], .slice zv.a zv.n zv.c, .int .i64 ax] wx (EvQ wx r)) :
    Calls Tryz.prog 18 #[nval n, .slice u.a u.n u.c, .agg #[.string nam0, .int .i64 vty, .slice zv.a zv.n zv.c]] w (EvQ w r) := by
  obtain ⟨xa, xc, e1, p1, p2, p3⟩ := hv.vals.form
  obtain ⟨ua, un, uc⟩ := u
  simp only [Sl.v, List.map_cons, List.map_nil, List.length_cons, List.length_nil, Value.slice.injEq] at e1
  obtain ⟨rfl, rfl, rfl⟩ := e1
  obtain ⟨ub, uo, rfl⟩ := hv.vals.addr (k := 0) (by simp)
  obtain ⟨t0, t1, t2⟩ := hv.at 0 (by simp)
  obtain ⟨s0, s1, s2⟩ := hv.at 1 (by simp)
  have HH0 := hide (hv.has (T0, (ds, xs)) (by simp))
  have HH1 := hide (hv.has (T1, (is, idx)) (by simp))
  obtain ⟨tx, ⟨xda, xdn, xdc⟩, ⟨xta, xtn, xtc⟩⟩ := T0
  obtain ⟨ty, ⟨yda, ydn, ydc⟩, ⟨yta, ytn, ytc⟩⟩ := T1
  obtain ⟨za, zn, zc⟩ := zv
  simp only [List.getElem_cons_zero, List.getElem_cons_succ, Nat.zero_mul, Nat.add_zero, Nat.one_mul] at t0 t1 t2 s0 s1 s2 HH0 HH1
  have MX : Hid (∀ wx, w.grownBy wx none → Calls Tryz.prog 33 #[nval n, .slice xda xdn xdc] wx fun e w' => e = .returned (.int .i64 (ax : Int)) ∧ wx.grownBy w' none) := fun wx hx => by
    have k := maxis_any n A ⟨xda, xdn, xdc⟩ ds wx (hno.more hx) (HH0.out.1.more hx) (by omega) hzi
    rw [hax] at k
    exact k
  have GA := hide GA
  simp only at GA
  obtain ⟨op, nam, ⟨ia, il, ic⟩, out, ⟨ao, al, cap⟩⟩ := n
  simp only at hop
  subst hop
  unfold nval at MX ⊢
  simp only at MX ⊢
  obtain ⟨w0, hw0⟩ : ∃ w0, w0 = (w.alloc (.cells #[.string ⟨#[71, 97, 116, 104, 101, 114]⟩, .string nam, .slice ia il ic, .string out, .slice ao al cap] 25)).alloc (.cells #[.string nam0, .int .i64 vty, .slice za zn zc] 50) := ⟨_, rfl⟩
  have g0 : w.grownBy w0 none := by rw [hw0]; exact grown_trans (grown_new _ _) (grown_new _ _)
  have hbx := two_boxes w (.cells #[.string ⟨#[71, 97, 116, 104, 101, 114]⟩, .string nam, .slice ia il ic, .string out, .slice ao al cap] 25) (.cells #[.string nam0, .int .i64 vty, .slice za zn zc] 50)
  rw [← hw0] at hbx
  obtain ⟨n0, n1, n2, n3, n4⟩ := nod_cells (n := ⟨⟨#[71, 97, 116, 104, 101, 114]⟩, nam, ⟨ia, il, ic⟩, out, ⟨ao, al, cap⟩⟩) hbx.1
  obtain ⟨v0, v1, v2⟩ := ten_cells hbx.2
  have t0 := cell_still t0 g0
  have t1 := cell_still t1 g0
  have t2 := cell_still t2 g0
  have s0 := cell_still s0 g0
  have s1 := cell_still s1 g0
  have s2 := cell_still s2 g0
  have G0 := hide g0
  have i0' : (0 : Int) < 2 := by decide
  have i1' : (1 : Int) < 2 := by decide
  clear hbx hv hno g0 p1 p2 p3 hax
  rw [hw0] at n0
  go_enter Tryz.func18, Tryz.ntmps18
  go_wp2_with fail
  rw [← hw0]
  rw [← hw0] at n0
  clear hw0
  refine wp_region_held_drew (S := fun w' => w0.grownBy w' none) (by kernel_rfl) (grown_drew (grown_refl _)) (fun hHeld => ?_)
  refine wpAnyH_take (i := 0) (v := ?_) rfl (by kernel_rfl) (by kernel_rfl) (by kernel_rfl) (fun _ _ _ h => h) (Or.inl ⟨by kernel_rfl, ?_⟩) (by assumption) ?_
  rotate_left 1
  · (intro wS hSw; go_simp; (try with_reducible rfl))
  try simp only [Act.put]
  refine wpAnyH_take (i := 1) (v := ?_) rfl (by kernel_rfl) (by kernel_rfl) (by kernel_rfl) (fun _ _ _ h => h) (Or.inl ⟨by kernel_rfl, ?_⟩) (by assumption) ?_
  rotate_left 1
  · (intro wS hSw; go_simp; (try with_reducible rfl))
  try simp only [Act.put]
  refine wpAnyH_take (i := 2) (v := ?_) rfl (by kernel_rfl) (by kernel_rfl) (by kernel_rfl) (fun _ _ _ h => h) (Or.inl ⟨by kernel_rfl, ?_⟩) (by assumption) ?_
  rotate_left 1
  · (intro wS hSw; have c0 := cell_still t0 hSw; have c1 := cell_still t1 hSw; have c2 := cell_still t2 hSw; go_simp; (try with_reducible rfl))
  try simp only [Act.put]
  refine wpAnyH_take (i := 3) (v := ?_) rfl (by kernel_rfl) (by kernel_rfl) (by kernel_rfl) (fun _ _ _ h => h) (Or.inl ⟨by kernel_rfl, ?_⟩) (by assumption) ?_
  rotate_left 1
  · (intro wS hSw; go_simp; (try with_reducible rfl))
  try simp only [Act.put]
  refine wpAnyH_take (i := 4) (v := ?_) rfl (by kernel_rfl) (by kernel_rfl) (by kernel_rfl) (fun _ _ _ h => h) (Or.inl ⟨by kernel_rfl, ?_⟩) (by assumption) ?_
  rotate_left 1
  · (intro wS hSw; go_simp; (try with_reducible rfl))
  try simp only [Act.put]
  refine wpAnyH_take (i := 5) (v := ?_) rfl (by kernel_rfl) (by kernel_rfl) (by kernel_rfl) (fun _ _ _ h => h) (Or.inl ⟨by kernel_rfl, ?_⟩) (by assumption) ?_
  rotate_left 1
  · (intro wS hSw; have c0 := cell_still s0 hSw; have c1 := cell_still s1 hSw; have c2 := cell_still s2 hSw; go_simp; (try with_reducible rfl))
  try simp only [Act.put]
  refine wpAnyH_take (i := 6) (v := ?_) rfl (by kernel_rfl) (by kernel_rfl) (by kernel_rfl) (fun _ _ _ h => h) (Or.inl ⟨by kernel_rfl, ?_⟩) (by assumption) ?_
  rotate_left 1
  · (intro wS hSw; go_simp; (try with_reducible rfl))
  try simp only [Act.put]
  refine wpAnyH_take (i := 7) (v := ?_) rfl (by kernel_rfl) (by kernel_rfl) (by kernel_rfl) (fun _ _ _ h => h) (Or.inl ⟨by kernel_rfl, ?_⟩) (by assumption) ?_
  rotate_left 1
  · (intro wS hSw; have c0 := cell_still v2 hSw; go_simp; (try with_reducible rfl))
  try simp only [Act.put]
  refine wpAnyH_take (i := 8) (v := ?_) rfl (by kernel_rfl) (by kernel_rfl) (by kernel_rfl) (fun _ _ _ h => h) (Or.inl ⟨by kernel_rfl, ?_⟩) (by assumption) ?_
  rotate_left 1
  · (intro wS hSw; have c0 := cell_still n0 hSw; have c1 := cell_still n1 hSw; have c2 := cell_still n2 hSw; have c3 := cell_still n3 hSw; have c4 := cell_still n4 hSw; go_simp; (try with_reducible rfl))
  try simp only [Act.put]
  refine wpAnyH_take (i := 9) (v := ?_) rfl (by kernel_rfl) (by kernel_rfl) (by kernel_rfl) (fun _ _ _ h => h) (Or.inl ⟨by kernel_rfl, ?_⟩) (by assumption) ?_
  rotate_left 1
  · (intro wS hSw; go_simp; (try with_reducible rfl))
  try simp only [Act.put]
  refine wpAnyH_take (i := 10) (v := ?_) rfl (by kernel_rfl) (by kernel_rfl) (by kernel_rfl) (fun _ _ _ h => h) (Or.inl ⟨by kernel_rfl, ?_⟩) (by assumption) ?_
  rotate_left 1
  · (intro wS hSw; go_simp; (try with_reducible rfl))
  try simp only [Act.put]
  refine wpAnyH_take (i := 11) (v := ?_) rfl (by kernel_rfl) (by kernel_rfl) (by kernel_rfl) (fun _ _ _ h => h) (Or.inl ⟨by kernel_rfl, ?_⟩) (by assumption) ?_
  rotate_left 1
  · (intro wS hSw; go_simp; (try with_reducible rfl))
  try simp only [Act.put]
  refine wpAnyH_take (i := 12) (v := ?_) rfl (by kernel_rfl) (by kernel_rfl) (by kernel_rfl) (fun _ _ _ h => h) (Or.inl ⟨by kernel_rfl, ?_⟩) (by assumption) ?_
  rotate_left 1
  · (intro wS hSw; have c0 := cell_still t1 hSw; go_simp; (try with_reducible rfl))
  try simp only [Act.put]
  refine wpAnyH_ready (rs := [13]) (by kernel_rfl) (by simp) ?_
  refine AllReadyH.cons rfl (fun K hK => ?_) AllReadyH.nil
  go_simp
  refine (MX.out w0.drew (grown_drew G0.out)).mono ?_
  rintro e w1 ⟨rfl, hg1⟩
  have g1 : w0.grownBy w1 none := grown_trans (grown_drew (grown_refl _)) hg1
  refine hK.out _ _ g1 (fun hHeld => ?_)
  clear hK K
  try simp only [Act.put]
  refine wpAnyH_ready (rs := [14]) (by kernel_rfl) (by simp) ?_
  refine AllReadyH.cons rfl (fun K hK => ?_) AllReadyH.nil
  go_simp
  refine (GA.out w1 (grown_trans G0.out g1)).mono ?_
  intro e w3 hq
  obtain ⟨hg3, hq⟩ := hq
  have g3 : w0.grownBy w3 none := grown_trans g1 hg3
  cases r with
  | error c =>
    subst hq
    refine hK.out _ _ g3 (fun hHeld => ?_)
    clear hK K
    refine wpAnyH_take (i := 15) (v := ?_) rfl (by kernel_rfl) (by kernel_rfl) (by kernel_rfl) (fun _ _ _ h => h) (Or.inl ⟨by kernel_rfl, ?_⟩) (by assumption) ?_
    rotate_left 1
    · (intro wS hSw; go_simp; (try with_reducible rfl))
    try simp only [Act.put]
    refine wpAnyH_take (i := 16) (v := ?_) rfl (by kernel_rfl) (by kernel_rfl) (by kernel_rfl) (fun _ _ _ h => h) (Or.inl ⟨by kernel_rfl, ?_⟩) (by assumption) ?_
    rotate_left 1
    · (intro wS hSw; go_simp; (try with_reducible rfl))
    try simp only [Act.put]
    refine wpAnyH_take (i := 17) (v := ?_) rfl (by kernel_rfl) (by kernel_rfl) (by kernel_rfl) (fun _ _ _ h => h) (Or.inl ⟨by kernel_rfl, ?_⟩) (by assumption) ?_
    rotate_left 1
    · (intro wS hSw; go_simp; (try with_reducible rfl))
    try simp only [Act.put]
    refine wpAnyH_take (i := 18) (v := ?_) rfl (by kernel_rfl) (by kernel_rfl) (by kernel_rfl) (fun _ _ _ h => h) (Or.inl ⟨by kernel_rfl, ?_⟩) (by assumption) ?_
    rotate_left 1
    · (intro wS hSw; go_simp; (try with_reducible rfl))
    try simp only [Act.put]
    refine wpAnyH_done (by kernel_rfl) ?_ _
    have HG := hide (grown_trans G0.out g3)
    clear hg3 g3 hg1 g1 t0 t1 t2 s0 s1 s2 n0 n1 n2 n3 n4 v0 v1 v2 hHeld
    go_simp
    go_wp2
    go_ret2
    exact ev_err rfl HG.out
  | ok zs =>
    obtain ⟨⟨ra, rn, rc⟩, rfl, ho3⟩ := hq
    refine hK.out _ _ g3 (fun hHeld => ?_)
    clear hK K
    refine wpAnyH_take (i := 15) (v := ?_) rfl (by kernel_rfl) (by kernel_rfl) (by kernel_rfl) (fun _ _ _ h => h) (Or.inl ⟨by kernel_rfl, ?_⟩) (by assumption) ?_
    rotate_left 1
    · (intro wS hSw; go_simp; (try with_reducible rfl))
    try simp only [Act.put]
    refine wpAnyH_take (i := 16) (v := ?_) rfl (by kernel_rfl) (by kernel_rfl) (by kernel_rfl) (fun _ _ _ h => h) (Or.inl ⟨by kernel_rfl, ?_⟩) (by assumption) ?_
    rotate_left 1
    · (intro wS hSw; go_simp; (try with_reducible rfl))
    try simp only [Act.put]
    refine wpAnyH_take (i := 17) (v := ?_) rfl (by kernel_rfl) (by kernel_rfl) (by kernel_rfl) (fun _ _ _ h => h) (Or.inl ⟨by kernel_rfl, ?_⟩) (by assumption) ?_
    rotate_left 1
    · (intro wS hSw; go_simp; (try with_reducible rfl))
    try simp only [Act.put]
    refine wpAnyH_take (i := 18) (v := ?_) rfl (by kernel_rfl) (by kernel_rfl) (by kernel_rfl) (fun _ _ _ h => h) (Or.inl ⟨by kernel_rfl, ?_⟩) (by assumption) ?_
    rotate_left 1
    · (intro wS hSw; go_simp; (try with_reducible rfl))
    try simp only [Act.put]
    refine wpAnyH_done (by kernel_rfl) ?_ _
    have HG := hide (grown_trans G0.out g3)
    have HO : Hid (OwnsE w3 w.heap.size (.slice ra rn rc) zs) := ⟨ownsRow_base ho3.1 (Nat.le_trans G0.out.size g1.size), ho3.2⟩
    clear ho3 hg3 g3 hg1 g1 t0 t1 t2 s0 s1 s2 n0 n1 n2 n3 n4 v0 v1 v2 hHeld
    go_simp
    go_wp2
    go_ret2
    exact ev_ok rfl HG.out ⟨⟨ra, rn, rc⟩, rfl, HO.out⟩

end Go.Proofs.YtaoplfpigjkgpaaGreatDoor

namespace Go.Proofs.YtaoplfpigjkgpaaGreatDoor

open Go.RowKit

set_option maxRecDepth 100000 in
set_option maxHeartbeats 16000000 in
theorem gathered_err (tx ty : Int) (dv xv iv zv : Sl) (yda : Option Addr) (ydn ydc : Nat) (ds xs idx : List Int) (ax A dim W : Nat) (w : World) (hd : IsInts w dv.v ds) (hx : IsInts w xv.v xs) (hi : IsInts w iv.v idx)
    (hax : ax < ds.length) (hdim : ds.getD ax 0 = (dim : Int)) (hd1 : dim ≤ 65536) (hi5 : idx.length ≤ 65536) (hxp : 0 < xs.length) (hp0 : plcAll dim idx = false) :
    Calls Tryz.prog 34 #[.agg #[.int .i64 tx, .slice dv.a dv.n dv.c, .slice xv.a xv.n xv.c], .agg #[.int .i64 ty, .slice yda ydn ydc, .slice iv.a iv.n iv.c], .slice zv.a zv.n zv.c, .int .i64 ax] w (EvQ w (gathR xs W dim A idx)) := by
  obtain ⟨da, dn, dc⟩ := dv
  obtain ⟨xa, xn, xc⟩ := xv
  obtain ⟨ia, inn, ic⟩ := iv
  obtain ⟨za, zn, zc⟩ := zv
  obtain ⟨_, _, e1, c1, -⟩ := hd.sl
  obtain ⟨_, _, e2, c2, -⟩ := hx.sl
  obtain ⟨_, _, e3, c3, -⟩ := hi.sl
  simp only [Sl.v, Value.slice.injEq] at e1 e2 e3
  obtain ⟨-, rfl, rfl⟩ := e1
  obtain ⟨-, rfl, rfl⟩ := e2
  obtain ⟨-, rfl, rfl⟩ := e3
  obtain ⟨db, df, rfl, hcd⟩ := hd.get (k := 0) (by omega)
  obtain ⟨xb, xf, rfl, -⟩ := hx.get (k := 0) hxp
  simp only [Sl.v] at hd hx hi
  have dcell := hcd ax (by omega)
  rw [hdim] at dcell
  have HD := hide hd
  have HX := hide hx
  have HI := hide hi
  obtain ⟨w0, hw0⟩ : ∃ w0, w0 = (w.alloc (.cells #[.int .i64 tx, .slice (some ⟨db, df, none⟩) ds.length dc, .slice (some ⟨xb, xf, none⟩) xs.length xc] 32)).alloc (.cells #[.int .i64 ty, .slice yda ydn ydc, .slice ia idx.length ic] 32) := ⟨_, rfl⟩
  have g0 : w.grownBy w0 none := by rw [hw0]; exact grown_trans (grown_new _ _) (grown_new _ _)
  have hbx := two_boxes w (.cells #[.int .i64 tx, .slice (some ⟨db, df, none⟩) ds.length dc, .slice (some ⟨xb, xf, none⟩) xs.length xc] 32) (.cells #[.int .i64 ty, .slice yda ydn ydc, .slice ia idx.length ic] 32)
  rw [← hw0] at hbx
  obtain ⟨x0, x1, x2⟩ := ten_cells hbx.1
  obtain ⟨y0, y1, y2⟩ := ten_cells hbx.2
  have BX : Hid (∀ wx, w0.grownBy wx none → wx.heap[w.heap.size]? = some (.cells #[.int .i64 tx, .slice (some ⟨db, df, none⟩) ds.length dc, .slice (some ⟨xb, xf, none⟩) xs.length xc] 32 (0, 0))) := fun wx h => box_kept hbx.1 h
  have dcell := cell_still dcell g0
  have PL := hide (gplaces_any ⟨ia, idx.length, ic⟩ idx dim w0 (hi.more g0) (by omega) (by omega))
  have j1 : (ax : Int) < (ds.length : Int) := by omega
  have j1n : ax < ds.length := by omega
  have G0 := hide g0
  rw [hw0] at x0 x1 x2 y0 y1 y2 dcell
  clear hd hx hi hcd hbx g0 c1 c2 c3 hdim
  go_enter Tryz.func34, Tryz.ntmps34
  go_wp2_with fail
  rw [← hw0]
  rw [← hw0] at x0 x1 x2 y0 y1 y2 dcell
  clear hw0
  refine PL.out.mono ?_
  rintro e w1 ⟨hg1, ⟨hp, ⟨pa, pn, pc⟩, rfl, ip⟩ | ⟨hp, rfl⟩⟩
  · rw [hp0] at hp
    cases hp
  · have ER : gathR xs W dim A idx = .error 8 := by unfold gathR; rw [hp]; rfl
    have HE := hide ER
    have G1 := hide (grown_trans G0.out hg1)
    clear ER hp hg1
    go_wp2
    go_ret2
    exact ev_err HE.out G1.out

end Go.Proofs.YtaoplfpigjkgpaaGreatDoor

namespace Go.Proofs.YtaoplfpigjkgpaaGreatDoor

open Go.RowKit

def rowsJ (ps : List (List Int × Nat)) (h : Nat) : List Int := ps.flatMap fun p => rowL p.1 p.2 h
def joinR (ps : List (List Int × Nat)) (A : Nat) : List Int := (List.range A).flatMap (rowsJ ps)
def donJ (ps : List (List Int × Nat)) (h j : Nat) : List Int := (List.range h).flatMap (rowsJ ps) ++ rowsJ (ps.take j) h
def datJ (D : List Int) (N : Nat) : List Int := D ++ List.replicate (N - D.length) 0

theorem donJ_zero (ps : List (List Int × Nat)) (h : Nat) : donJ ps h 0 = (List.range h).flatMap (rowsJ ps) := by
  unfold donJ
  rw [List.take_zero]
  simp [rowsJ]

theorem donJ_row (ps : List (List Int × Nat)) (h : Nat) : donJ ps h ps.length = donJ ps (h + 1) 0 := by
  rw [donJ_zero]
  unfold donJ
  rw [List.take_length, List.range_succ, List.flatMap_append]
  simp

theorem donJ_step (ps : List (List Int × Nat)) (h j : Nat) (hj : j < ps.length) : donJ ps h (j + 1) = donJ ps h j ++ rowL ps[j].1 ps[j].2 h := by
  unfold donJ
  rw [List.take_add_one, List.getElem?_eq_getElem hj, Option.toList_some]
  unfold rowsJ
  rw [List.flatMap_append, List.append_assoc]
  simp

theorem donJ_pre (ps : List (List Int × Nat)) (A h j : Nat) (hh : h < A) : donJ ps h j <+: joinR ps A := by
  have e : joinR ps A = donJ ps h j ++ ((rowsJ (ps.drop j) h) ++ ((List.range A).drop (h + 1)).flatMap (rowsJ ps)) := by
    unfold joinR donJ
    have e1 : List.range A = List.range h ++ (h :: (List.range A).drop (h + 1)) := by
      have := List.take_append_drop h (List.range A)
      rw [List.take_range, Nat.min_eq_left (by omega)] at this
      conv => lhs; rw [← this]
      congr 1
      have h1 : h < (List.range A).length := by simpa using hh
      rw [List.drop_eq_getElem_cons h1]
      simp
    rw [show (List.range A).flatMap (rowsJ ps) = (List.range h ++ (h :: (List.range A).drop (h + 1))).flatMap (rowsJ ps) from by rw [← e1]]
    rw [List.flatMap_append, List.flatMap_cons, List.append_assoc]
    congr 1
    have e2 : rowsJ ps h = rowsJ (ps.take j) h ++ rowsJ (ps.drop j) h := by
      unfold rowsJ
      rw [← List.flatMap_append, List.take_append_drop]
    rw [e2, List.append_assoc]
  rw [e]
  exact List.prefix_append _ _

theorem donJ_le (ps : List (List Int × Nat)) (A h j : Nat) (hh : h < A) : (donJ ps h j).length ≤ (joinR ps A).length := (donJ_pre ps A h j hh).length_le

theorem datJ_len {D : List Int} {N : Nat} (h : D.length ≤ N) : (datJ D N).length = N := by
  unfold datJ
  rw [List.length_append, List.length_replicate]
  omega

theorem datJ_step {D r : List Int} {N : Nat} (h : D.length + r.length ≤ N) : splice (datJ D N) D.length r = datJ (D ++ r) N := by
  unfold splice datJ
  rw [List.take_append_of_le_length (Nat.le_refl _), List.take_length, List.drop_append, List.drop_of_length_le (by omega), List.nil_append, List.drop_replicate, List.length_append, ← List.append_assoc]
  congr 2
  omega

theorem datJ_done (D : List Int) : datJ D D.length = D := by
  unfold datJ
  rw [Nat.sub_self, List.replicate_zero, List.append_nil]

end Go.Proofs.YtaoplfpigjkgpaaGreatDoor

namespace Go.Proofs.YtaoplfpigjkgpaaGreatDoor

open Go.RowKit

def wdJ (ax : Nat) (p : Ten × Tq) : Nat := (cnt (p.2.1.drop ax)).toNat
def pzJ (ax : Nat) (ps : List (Ten × Tq)) : List (List Int × Nat) := ps.map fun p => (p.2.2, wdJ ax p)

structure RowOk (ax A : Nat) (p : Ten × Tq) : Prop where
  rank : 1 ≤ p.2.1.length
  le : ax ≤ p.2.1.length
  pos : 1 ≤ cnt (p.2.1.drop ax)
  len : p.2.2.length = A * wdJ ax p
  few : p.2.2.length ≤ 65536

theorem cpy_ints {wx : World} {ra : Option Addr} {n c : Nat} {ROW : List Int} (hr : IsInts wx (.slice ra n c) ROW) (hp : 0 < (ROW.map (Value.int .i64)).length) : ∃ ad, ra = some ad ∧ ∀ j v, (ROW.map (Value.int .i64))[j]? = some v → wx.cell? (ad.add j) = some v := by
  obtain ⟨b, off, rfl, hc⟩ := hr.get (k := 0) (by rw [List.length_map] at hp; exact hp)
  refine ⟨_, rfl, fun j v hj => ?_⟩
  rw [List.getElem?_map] at hj
  have hl : j < ROW.length := by
    rcases Nat.lt_or_ge j ROW.length with h | h
    · exact h
    · rw [List.getElem?_eq_none h] at hj; cases hj
  rw [List.getElem?_eq_getElem hl] at hj
  cases hj
  have k := hc j hl
  rw [List.getD, List.getElem?_eq_getElem hl, Option.getD_some] at k
  have ea : Addr.add ⟨b, off, none⟩ j = ⟨b, off + j, none⟩ := by unfold Addr.add; split <;> simp_all
  rw [ea]
  exact k

set_option maxRecDepth 100000 in
set_option maxHeartbeats 16000000 in
theorem mjoined_any (u zv : Sl) (ps : List (Ten × Tq)) (dims : List Int) (ax A N : Nat) (w : World) (hv : TensIn w u.v ps) (hz : IsInts w zv.v dims) (hax : ax ≤ dims.length) (hz1 : 1 ≤ dims.length) (hA : cnt (dims.take ax) = (A : Int)) (hA5 : A ≤ 65536) (hN : cnt dims = (N : Int)) (hN5 : N ≤ 65536) (hNe : N = (joinR (pzJ ax ps) A).length) (hok : ∀ p ∈ ps, RowOk ax A p) (hps : ps.length ≤ 1000000) :
    Calls Tryz.prog 32 #[.slice u.a u.n u.c, .slice zv.a zv.n zv.c, .int .i64 ax] w fun e w' => ∃ v : Sl, e = .returned v.v ∧ OwnsE w' w.heap.size v.v (joinR (pzJ ax ps) A) ∧ w.grownBy w' none := by
  obtain ⟨i0, hi0, hz0, hzz1, hzz2⟩ := info_parts info64E
  obtain ⟨za, zn, zc⟩ := zv
  obtain ⟨_, _, e4, c4, -⟩ := hz.sl
  simp only [Sl.v, Value.slice.injEq] at e4
  obtain ⟨-, rfl, rfl⟩ := e4
  obtain ⟨zb, zf, rfl, -⟩ := hz.get (k := 0) (by omega)
  simp only [Sl.v] at hz
  obtain ⟨xa, xc, e1, p1, p2, p3⟩ := hv.vals.form
  rw [List.length_map] at e1 p1 p3
  obtain ⟨ua, un, uc⟩ := u
  simp only [Sl.v, Value.slice.injEq] at e1
  obtain ⟨rfl, rfl, rfl⟩ := e1
  have HV := hide hv
  have HZ := hide hz
  have OK := hide hok
  have EA := hide hA
  have EN := hide hN
  have ENE := hide hNe
  obtain ⟨PZ, hPZ⟩ : ∃ z, z = pzJ ax ps := ⟨_, rfl⟩
  rw [← hPZ] at ENE ⊢
  have PL : Hid (PZ.length = ps.length) := by show _ = _; rw [hPZ]; unfold pzJ; rw [List.length_map]
  have PA : Hid (∀ j (h : j < ps.length) (h2 : j < PZ.length), PZ[j] = (ps[j].2.2, wdJ ax ps[j])) := fun j h h2 => by subst hPZ; simp [pzJ]
  have WF : Hid (∀ z ∈ joinR PZ A, -9223372036854775808 ≤ z ∧ z ≤ 9223372036854775807) := fun z hz => by
    rw [hPZ] at hz
    unfold joinR at hz
    obtain ⟨h, -, hz⟩ := List.mem_flatMap.1 hz
    unfold rowsJ pzJ at hz
    obtain ⟨q, hq, hz⟩ := List.mem_flatMap.1 hz
    obtain ⟨p, hp, rfl⟩ := List.mem_map.1 hq
    exact (HV.out.has p hp).2.wf z (List.mem_of_mem_drop (List.mem_of_mem_take hz))
  have C1 := hide (mcount_any (.slice (some ⟨zb, zf, none⟩) dims.length zc) dims w hz)
  rw [EN.out] at C1
  have hb4 : i0.bytes * N ≤ 281474976710656 := by rw [hzz2]; omega
  have hb5 : N ≤ maxLen := by simp only [maxLen]; omega
  clear hv hz hok hA hN hNe hPZ p1 p2 p3
  go_enter Tryz.func32, Tryz.ntmps32
  go_wp2_with fail
  refine C1.out.mono ?_
  rintro e w1 ⟨rfl, rfl⟩
  go_wp2_with (first | (refine wpList_make_full _ rfl (.tmp 13) (.tmp 13) 30 rfl w.heap.size 2 i0 (.int .i64 0) 1 Tryz.underlying30 hi0 hz0 hzz1 .i64 .i64 _ _ N rfl rfl (by omega) (by omega) hb4 hb5 (Nat.le_refl _) ?_; intro w3 hown hg3) | fail)
  have C2 := hide (mcount_any (.slice (some ⟨zb, zf, none⟩) ax zc) (dims.take ax) w3 (by
    have k := ints_part (HZ.out.more hg3) 0 ax zc (by omega) (by omega) (by omega)
    rw [Nat.add_zero, List.drop_zero] at k
    exact k))
  rw [EA.out] at C2
  obtain ⟨g, hg⟩ : ∃ g, g = w.heap.size := ⟨_, rfl⟩
  have HG := hide hg
  have O3 : Hid (OwnsE w3 g (.slice (some ⟨g, 0, none⟩) N N) (datJ (donJ PZ 0 0) N)) := by
    rw [made_zeros] at hown
    show OwnsE _ _ _ _
    rw [show datJ (donJ PZ 0 0) N = List.replicate N 0 from by simp [datJ, donJ, rowsJ], hg]
    refine ⟨by rw [List.length_replicate]; exact hown, by rw [List.length_replicate]; omega, fun z hz => ?_⟩
    rw [(List.mem_replicate.1 hz).2]
    omega
  have G3 := hide hg3
  rw [← hg]
  clear hown hb4 hb5 hg3 hg C1
  go_wp2_with fail
  refine C2.out.mono ?_
  rintro e w4 ⟨rfl, rfl⟩
  go_wp2_with fail
  go_loopw [8, 19] (fun at' i wr => w.grownBy wr none ∧ ∃ h T : Nat, h ≤ A ∧ T = (donJ PZ h 0).length ∧ i = .int .i64 h ∧ at' = .int .i64 T ∧ OwnsE wr g (.slice (some ⟨g, 0, none⟩) N N) (datJ (donJ PZ h 0) N)) (fun _ i _ => A - (intOf i).toNat)
  case atStart => exact ⟨G3.out, 0, 0, Nat.zero_le _, by simp [donJ, rowsJ], rfl, rfl, O3.out⟩
  case round =>
    obtain ⟨hgo, h, T0, hh, hT0, rfl, rfl, ho⟩ := hrel
    obtain ⟨wo, rfl⟩ : ∃ wo, wo = wr := ⟨_, rfl⟩
    have HO := hide ho
    have HGO := hide hgo
    have HT0 := hide hT0
    clear ho hT0 hgo
    by_cases hlt : h < A
    · have hl1 : (h : Int) < (A : Int) := by omega
      go_wp2_with fail
      go_loopw [8, 24] (fun at' i wr => w.grownBy wr none ∧ ∃ j T : Nat, j ≤ ps.length ∧ T = (donJ PZ h j).length ∧ i = .int .i64 j ∧ at' = .int .i64 T ∧ OwnsE wr g (.slice (some ⟨g, 0, none⟩) N N) (datJ (donJ PZ h j) N)) (fun _ i _ => ps.length - (intOf i).toNat)
      case atStart => exact ⟨HGO.out, 0, T0, Nat.zero_le _, HT0.out, rfl, rfl, HO.out⟩
      case round =>
        obtain ⟨hgr, j, T, hj, hT, rfl, rfl, ho⟩ := hrel
        have HT := hide hT
        have OR := hide ho
        have GRr := hide hgr
        clear hT ho
        by_cases hjl : j < ps.length
        · have hjI : (j : Int) < (ps.length : Int) := by omega
          have rk := OK.out ps[j] (List.getElem_mem _)
          obtain ⟨b, off, rfl⟩ := HV.out.vals.addr (k := j) (by rw [List.length_map]; exact hjl)
          obtain ⟨a0, a1, a2⟩ := (HV.out.more hgr).at j hjl
          have HH := hide (HV.out.has ps[j] (List.getElem_mem _))
          have STP := hide (donJ_step PZ h j (by rw [PL.out]; exact hjl))
          rw [PA.out j hjl (by rw [PL.out]; exact hjl)] at STP
          simp only at STP
          have LE := donJ_le PZ A h (j + 1) hlt
          obtain ⟨p, hp⟩ : ∃ p, p = ps[j] := ⟨_, rfl⟩
          rw [← hp] at rk a0 a1 a2 HH STP
          obtain ⟨W, hW⟩ : ∃ W, W = wdJ ax p := ⟨_, rfl⟩
          have hcW : cnt (p.2.1.drop ax) = (W : Int) := by
            have := rk.pos
            rw [hW]
            unfold wdJ
            omega
          have hlen := rk.len
          rw [← hW] at hlen STP
          have HW1 : 1 ≤ W := by have := rk.pos; omega
          have IW : h * W + W ≤ p.2.2.length := by
            rw [hlen, show h * W + W = (h + 1) * W from by rw [Nat.add_mul]; omega]
            exact Nat.mul_le_mul_right _ hlt
          have few := rk.few
          obtain ⟨M, hM⟩ : ∃ M, ax + M = p.2.1.length := ⟨p.2.1.length - ax, by have := rk.le; omega⟩
          have rk1 := rk.rank
          obtain ⟨ROW, hROW⟩ : ∃ r, r = rowL p.2.2 W h := ⟨_, rfl⟩
          have RWL : Hid (ROW.length = W) := by show _ = _; rw [hROW]; exact rowL_len IW
          rw [← hROW] at STP
          obtain ⟨⟨tx, ⟨da, dn, dc⟩, ⟨ta, tn, tc⟩⟩, ⟨ds, ts⟩⟩ := p
          simp only at a0 a1 a2 HH hcW hM rk1 IW few hROW
          have RC : Hid (∀ wx, w.grownBy wx none → Calls Tryz.prog 58 #[.agg #[.int .i64 tx, .slice da dn dc, .slice ta tn tc], .int .i64 ax, .int .i64 h] wx fun e w' => ∃ u : Sl, e = .returned u.v ∧ IsInts w' u.v ROW ∧ wx.grownBy w' none) := fun wx hx => by
            have k := mrow_any ⟨tx, ⟨da, dn, dc⟩, ⟨ta, tn, tc⟩⟩ ds ts ax M h W wx (HH.out.1.more hx) (HH.out.2.more hx) rk1 hM hcW HW1 IW few
            rw [show (ts.drop (h * W)).take W = ROW from hROW.symm] at k
            exact k
          have DL : (donJ PZ h (j + 1)).length = T + W := by rw [STP.out, List.length_append, RWL.out, HT.out]
          have TW : T + W ≤ N := by rw [ENE.out, ← DL]; exact LE
          have PS : Hid (splice ((datJ (donJ PZ h j) N).map (Value.int .i64)) T (ROW.map (Value.int .i64)) = (datJ (donJ PZ h (j + 1)) N).map (Value.int .i64)) := by
            show _ = _
            rw [splice_map, HT.out, datJ_step (by rw [← HT.out, RWL.out]; exact TW), STP.out]
          have PLm : Hid ((datJ (donJ PZ h j) N).length = N) := datJ_len (by rw [← HT.out]; omega)
          have PLm1 : Hid ((datJ (donJ PZ h (j + 1)) N).length = N) := datJ_len (by rw [DL]; exact TW)
          have WF1 : Hid (∀ z ∈ datJ (donJ PZ h (j + 1)) N, -9223372036854775808 ≤ z ∧ z ≤ 9223372036854775807) := fun z hz => by
            unfold datJ at hz
            rcases List.mem_append.1 hz with hz | hz
            · exact WF.out z ((donJ_pre PZ A h (j + 1) hlt).subset hz)
            · rw [(List.mem_replicate.1 hz).2]
              omega
          have HE := hide (own_heap OR.out PLm.out)
          have DL2 := hide DL
          have t1 : ¬ T = N := by omega
          have t2 : ¬ N = T := by omega
          have t3 : (T : Int) ≤ (N : Int) := by omega
          have t4 : T ≤ N := by omega
          obtain ⟨TW2, hTW2⟩ : ∃ z, z = T + W := ⟨_, rfl⟩
          have T2 : Hid (TW2 = (donJ PZ h (j + 1)).length) := by show _ = _; rw [hTW2, DL]
          have w4' : Hid (IntKind.i64.wrap ((T : Int) + (W : Int)) = (TW2 : Int)) := by
            show _ = _
            rw [wrap_i64_eq, ← Int.natCast_add, ← hTW2]
            exact wrap64_id (Int.natCast_nonneg _) (Int.ofNat_le.2 (show TW2 ≤ 1000000 by omega))
          obtain ⟨wz, hwz⟩ : ∃ wz, wz = wr.alloc (.cells #[.int .i64 tx, .slice da dn dc, .slice ta tn tc] 32) := ⟨_, rfl⟩
          have bz := heap_alloc_new wr (.cells #[.int .i64 tx, .slice da dn dc, .slice ta tn tc] 32)
          rw [← hwz] at bz
          have gz : wr.grownBy wz none := by rw [hwz]; exact grown_new _ _
          have GZ := hide (grown_trans hgr gz)
          have GZr := hide gz
          clear hp rk hW hcW hlen hM rk1 hROW LE DL hTW2 IW few gz hgr
          go_wp2_with fail
          rw [← hwz]
          clear hwz
          obtain ⟨x0, x1, x2⟩ := ten_cells bz
          clear bz a0 a1 a2
          refine wp_region_held_drew (S := fun w' => w.grownBy w' none) (by kernel_rfl) (grown_drew GZ.out) (fun hHeld => ?_)
          refine wpAnyH_take (i := 0) (v := ?_) rfl (by kernel_rfl) (by kernel_rfl) (by kernel_rfl) (fun _ _ _ h => h) (Or.inl ⟨by kernel_rfl, ?_⟩) (by assumption) ?_
          rotate_left 1
          · (intro wS hSw; go_simp; (try with_reducible rfl))
          try simp only [Act.put]
          refine wpAnyH_take (i := 1) (v := ?_) rfl (by kernel_rfl) (by kernel_rfl) (by kernel_rfl) (fun _ _ _ h => h) (Or.inl ⟨by kernel_rfl, ?_⟩) (by assumption) ?_
          rotate_left 1
          · (intro wS hSw; go_simp; (try with_reducible rfl))
          try simp only [Act.put]
          refine wpAnyH_take (i := 2) (v := ?_) rfl (by kernel_rfl) (by kernel_rfl) (by kernel_rfl) (fun _ _ _ h => h) (Or.inl ⟨by kernel_rfl, ?_⟩) (by assumption) ?_
          rotate_left 1
          · (intro wS hSw; go_simp; (try with_reducible rfl))
          try simp only [Act.put]
          refine wpAnyH_take (i := 3) (v := .slice (some ⟨g, T, none⟩) (N - T) (N - T)) rfl (by kernel_rfl) (by kernel_rfl) (by kernel_rfl) (fun _ _ _ h => h) (Or.inl ⟨by kernel_rfl, ?_⟩) (by assumption) ?_
          · (intro wS hSw; go_simp; (try simp only []))
          try simp only [Act.put]
          refine wpAnyH_take (i := 5) (v := ?_) rfl (by kernel_rfl) (by kernel_rfl) (by kernel_rfl) (fun _ _ _ h => h) (Or.inl ⟨by kernel_rfl, ?_⟩) (by assumption) ?_
          rotate_left 1
          · (intro wS hSw; go_simp; (try with_reducible rfl))
          try simp only [Act.put]
          refine wpAnyH_take (i := 6) (v := ?_) rfl (by kernel_rfl) (by kernel_rfl) (by kernel_rfl) (fun _ _ _ h => h) (Or.inl ⟨by kernel_rfl, ?_⟩) (by assumption) ?_
          rotate_left 1
          · (intro wS hSw; go_simp; (try with_reducible rfl))
          try simp only [Act.put]
          refine wpAnyH_ready (rs := [4]) (by kernel_rfl) (by simp) ?_
          refine AllReadyH.cons rfl (fun K hK => ?_) AllReadyH.nil
          go_simp
          refine hK.out _ _ (by first | assumption | exact GZ.out | exact grown_drew GZ.out) (fun hHeld => ?_)
          clear hK K
          try simp only [Act.put]
          refine wpAnyH_ready (rs := [7]) (by kernel_rfl) (by simp) ?_
          refine AllReadyH.cons rfl (fun K hK => ?_) AllReadyH.nil
          go_simp
          refine (RC.out wz.drew (grown_drew GZ.out)).mono ?_
          rintro e v1 ⟨⟨ra, rn, rc⟩, rfl, ir, hy1⟩
          obtain ⟨_, _, er, -⟩ := ir.sl
          simp only [Sl.v, Value.slice.injEq] at er
          obtain ⟨-, er, -⟩ := er
          rw [RWL.out] at er
          have er2 := er.symm
          subst er2
          have gv1 : w.grownBy v1 none := grown_trans (grown_drew GZ.out) hy1
          have hH1 : v1.heap[g]? = some (.cells ((datJ (donJ PZ h j) N).map (Value.int .i64)).toArray 2 (0, 0)) := box_kept HE.out.1 (grown_trans GZr.out (grown_trans (grown_drew (grown_refl _)) hy1))
          refine hK.out _ _ gv1 (fun hHeld => ?_)
          clear hK K
          try simp only [Act.put]
          refine wpAnyH_ready (rs := [8]) (by kernel_rfl) (by simp) ?_
          refine AllReadyH.cons rfl (fun K hK => ?_) AllReadyH.nil
          refine step_copy_splice rfl (.tmp 31) (.tmp 35) 30 30 rfl 2 Tryz.underlying30 (by kernel_rfl) (some ⟨g, T, none⟩) ra (N - T) (N - T) W rc rfl rfl g T ((datJ (donJ PZ h j) N).map (Value.int .i64)) 2 hH1 (ROW.map (Value.int .i64)) (by rw [List.length_map, RWL.out]; exact (Nat.min_eq_left (by omega)).symm) (fun hp => ⟨rfl, cpy_ints ir hp⟩) (by rw [List.length_map, List.length_map, RWL.out, PLm.out]; exact TW) (by intro v hv; obtain ⟨z, -, rfl⟩ := List.mem_map.1 hv; rfl) g w (by rw [HG.out]; exact grown_below gv1) (Nat.le_refl _) ?_
          intro v2 hH2 hb2
          rw [PS.out] at hH2
          have gv2 : w.grownBy v2 none := grown_of_below (by rw [← HG.out]; exact hb2)
          rw [List.length_map, RWL.out]
          refine hK.out _ _ gv2 (fun hHeld => ?_)
          clear hK K
          try simp only [Act.put]
          refine wpAnyH_take (i := 9) (v := .int .i64 (TW2 : Int)) rfl (by kernel_rfl) (by kernel_rfl) (by kernel_rfl) (fun _ _ _ h => h) (Or.inl ⟨by kernel_rfl, ?_⟩) (by assumption) ?_
          · (intro wS hSw; go_simp; (try simp only [w4'.out]))
          try simp only [Act.put]
          refine wpAnyH_take (i := 10) (v := ?_) rfl (by kernel_rfl) (by kernel_rfl) (by kernel_rfl) (fun _ _ _ h => h) (Or.inl ⟨by kernel_rfl, ?_⟩) (by assumption) ?_
          rotate_left 1
          · (intro wS hSw; go_simp; (try with_reducible rfl))
          try simp only [Act.put]
          refine wpAnyH_done (by kernel_rfl) ?_ _
          have OF : Hid (OwnsE v2 g (.slice (some ⟨g, 0, none⟩) N N) (datJ (donJ PZ h (j + 1)) N)) := heap_own hH2.out (Nat.le_refl _) PLm1.out hN5 WF1.out
          clear hHeld hH1 hH2 hb2 ir hy1 gv1 x0 x1 x2
          go_simp
          go_wp2_with fail
          go_roundw
          case rel => exact ⟨gv2, j + 1, TW2, hjl, T2.out, by go_num, rfl, OF.out⟩
          case measure => simp [intOf]; omega
        · obtain rfl : ps.length = j := by omega
          have E1 : Hid (donJ PZ h ps.length = donJ PZ (h + 1) 0) := by show _ = _; rw [← PL.out]; exact donJ_row PZ h
          rw [E1.out] at OR HT
          clear hgr
          go_wp2_with fail
          go_roundw
          case rel => exact ⟨GRr.out, h + 1, T, hlt, HT.out, by go_num, rfl, OR.out⟩
          case measure => simp [intOf]; omega
    · obtain rfl : A = h := by omega
      have ok : Hid (datJ (donJ PZ A 0) N = joinR PZ A) := by
        show _ = _
        rw [donJ_zero, ENE.out]
        exact datJ_done _
      rw [ok.out] at HO
      go_wp2
      go_ret
      exact ⟨⟨some ⟨g, 0, none⟩, N, N⟩, rfl, ⟨ownsRow_base HO.out.1 (by rw [HG.out]; exact Nat.le_refl _), HO.out.2⟩, HGO.out⟩

end Go.Proofs.YtaoplfpigjkgpaaGreatDoor
