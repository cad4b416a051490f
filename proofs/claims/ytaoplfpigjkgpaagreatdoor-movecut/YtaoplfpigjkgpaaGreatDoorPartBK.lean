/- Joined texts: MvGaM, MvGathE. -/
import Derived.Test.YtaoplfpigjkgpaaGreatDoorPartBJ
import Derived.Deep.RegionHeld3
namespace Go.Proofs.YtaoplfpigjkgpaaGreatDoor

open Go.RowKit

set_option maxRecDepth 100000 in
set_option maxHeartbeats 8000000 in
theorem maxis_any (n : Nod) (A : At) (u : Sl) (ds : List Int) (w : World) (hno : NodeOk w n A) (hd : IsInts w u.v ds) (hl : ds.length ≤ 1000) (hz : -9223372036854775808 ≤ A.int ⟨#[97, 120, 105, 115]⟩ 0) :
    Calls Tryz.prog 33 #[nval n, .slice u.a u.n u.c] w fun e w' => e = .returned (.int .i64 (((axisO (A.int ⟨#[97, 120, 105, 115]⟩ 0) ds.length).getD 0 : Nat) : Int)) ∧ w.grownBy w' none := by
  obtain ⟨ua, un, uc⟩ := u
  obtain ⟨_, _, e1, -⟩ := hd.sl
  simp only [Sl.v, Value.slice.injEq] at e1
  obtain ⟨-, rfl, rfl⟩ := e1
  have NI : Hid (∀ wx, w.grownBy wx none → Calls Tryz.prog 59 #[nval n, .string ⟨#[97, 120, 105, 115]⟩, .int .i64 0] wx fun e w' => e = .returned (.int .i64 (A.int ⟨#[97, 120, 105, 115]⟩ 0)) ∧ wx.grownBy w' none) := fun wx hx => nint_any n A ⟨#[97, 120, 105, 115]⟩ 0 wx (hno.more hx)
  obtain ⟨z, hzz⟩ : ∃ z, z = A.int ⟨#[97, 120, 105, 115]⟩ 0 := ⟨_, rfl⟩
  rw [← hzz] at NI hz ⊢
  have AX : Hid (∀ wx, Calls Tryz.prog 54 #[.int .i64 z, .int .i64 ds.length] wx fun e w' => e = .returned (.tuple #[.int .i64 ((axisO z ds.length).getD 0 : Nat), .bool (axisO z ds.length).isSome]) ∧ wx = w') := fun wx => axis_any z ds.length wx (by omega) hz
  obtain ⟨op, nam, ⟨ia, il, ic⟩, out, ⟨ao, al, cap⟩⟩ := n
  unfold nval at NI ⊢
  simp only at NI ⊢
  obtain ⟨w0, hw0⟩ : ∃ w0, w0 = w.alloc (.cells #[.string op, .string nam, .slice ia il ic, .string out, .slice ao al cap] 25) := ⟨_, rfl⟩
  have hb0 := heap_alloc_new w (.cells #[.string op, .string nam, .slice ia il ic, .string out, .slice ao al cap] 25)
  obtain ⟨n0, n1, n2, n3, n4⟩ := nod_cells (n := ⟨op, nam, ⟨ia, il, ic⟩, out, ⟨ao, al, cap⟩⟩) hb0
  have g0 : w.grownBy w0 none := by rw [hw0]; exact grown_new _ _
  have N1 := hide (NI.out w0 g0)
  have G0 := hide g0
  clear hno hd hzz hb0 g0 NI
  go_enter Tryz.func33, Tryz.ntmps33
  go_wp2_with fail
  rw [← hw0]
  clear hw0 n0 n1 n2 n3 n4
  refine N1.out.mono ?_
  rintro e w1 ⟨rfl, hg1⟩
  have G1 := hide (grown_trans G0.out hg1)
  clear hg1
  go_wp2_with fail
  refine (AX.out w1).mono ?_
  rintro e w2 ⟨rfl, rfl⟩
  go_wp2
  go_ret
  exact ⟨rfl, G1.out⟩

set_option maxRecDepth 100000 in
set_option maxHeartbeats 8000000 in
theorem moved_gath (n : Nod) (A : At) (hop : n.op = ⟨#[71, 97, 116, 104, 101, 114]⟩) (u : Sl) (T0 T1 : Ten) (ds xs is idx : List Int) (nam0 : ByteArray) (vty : Int) (zv : Sl) (ax : Nat) (r : R (List Int)) (w : World) (hno : NodeOk w n A) (hv : TensIn w u.v [(T0, (ds, xs)), (T1, (is, idx))]) (hax : axisO (A.int ⟨#[97, 120, 105, 115]⟩ 0) ds.length = some ax) (hzi : -9223372036854775808 ≤ A.int ⟨#[97, 120, 105, 115]⟩ 0) (hr6 : ds.length ≤ 6)
    (GA : ∀ wx, w.grownBy wx none → Calls Tryz.prog 34 #[.agg #[.int .i64 T0.ty, .slice T0.dv.a T0.dv.n T0.dv.c, .slice T0.tv.a T0.tv.n T0.tv.c], .agg #[.int .i64 T1.ty, .slice T1.dv.a T1.dv.n T1.dv.c, .slice T1.tv.a T1.tv.n T1.tv.c], .slice zv.a zv.n zv.c, .int .i64 ax] wx (EvQ wx r)) :
    Calls Tryz.prog 18 #[nval n, .slice u.a u.n u.c, .agg #[.string nam0, .int .i64 vty, .slice zv.a zv.n zv.c]] w (EvQ w r) := by
  obtain ⟨xa, xc, e1, p1, p2, p3⟩ := hv.vals.form
  obtain ⟨ua, un, uc⟩ := u
  simp only [Sl.v, List.map_cons, List.map_nil, List.length_cons, List.length_nil, Value.slice.injEq] at e1
  obtain ⟨rfl, rfl, rfl⟩ := e1
  obtain ⟨ub, uo, rfl⟩ := hv.vals.addr (k := 0) (by simp)
  obtain ⟨t0, t1, t2⟩ := hv.at 0 (by simp)
  obtain ⟨s0, s1, s2⟩ := hv.at 1 (by simp)
  have HH0 := hide (hv.has (T0, (ds, xs)) (by simp))
  have HH1 := hide (hv.has (T1, (is, idx)) (by simp))
  obtain ⟨tx, ⟨xda, xdn, xdc⟩, ⟨xta, xtn, xtc⟩⟩ := T0
  obtain ⟨ty, ⟨yda, ydn, ydc⟩, ⟨yta, ytn, ytc⟩⟩ := T1
  obtain ⟨za, zn, zc⟩ := zv
  simp only [List.getElem_cons_zero, List.getElem_cons_succ, Nat.zero_mul, Nat.add_zero, Nat.one_mul] at t0 t1 t2 s0 s1 s2 HH0 HH1
  have MX : Hid (∀ wx, w.grownBy wx none → Calls Tryz.prog 33 #[nval n, .slice xda xdn xdc] wx fun e w' => e = .returned (.int .i64 (ax : Int)) ∧ wx.grownBy w' none) := fun wx hx => by
    have k := maxis_any n A ⟨xda, xdn, xdc⟩ ds wx (hno.more hx) (HH0.out.1.more hx) (by omega) hzi
    rw [hax] at k
    exact k
  have GA := hide GA
  simp only at GA
  obtain ⟨op, nam, ⟨ia, il, ic⟩, out, ⟨ao, al, cap⟩⟩ := n
  simp only at hop
  subst hop
  unfold nval at MX ⊢
  simp only at MX ⊢
  obtain ⟨w0, hw0⟩ : ∃ w0, w0 = (w.alloc (.cells #[.string ⟨#[71, 97, 116, 104, 101, 114]⟩, .string nam, .slice ia il ic, .string out, .slice ao al cap] 25)).alloc (.cells #[.string nam0, .int .i64 vty, .slice za zn zc] 50) := ⟨_, rfl⟩
  have g0 : w.grownBy w0 none := by rw [hw0]; exact grown_trans (grown_new _ _) (grown_new _ _)
  have hbx := two_boxes w (.cells #[.string ⟨#[71, 97, 116, 104, 101, 114]⟩, .string nam, .slice ia il ic, .string out, .slice ao al cap] 25) (.cells #[.string nam0, .int .i64 vty, .slice za zn zc] 50)
  rw [← hw0] at hbx
  obtain ⟨n0, n1, n2, n3, n4⟩ := nod_cells (n := ⟨⟨#[71, 97, 116, 104, 101, 114]⟩, nam, ⟨ia, il, ic⟩, out, ⟨ao, al, cap⟩⟩) hbx.1
  obtain ⟨v0, v1, v2⟩ := ten_cells hbx.2
  have t0 := cell_still t0 g0
  have t1 := cell_still t1 g0
  have t2 := cell_still t2 g0
  have s0 := cell_still s0 g0
  have s1 := cell_still s1 g0
  have s2 := cell_still s2 g0
  have G0 := hide g0
  have i0' : (0 : Int) < 2 := by decide
  have i1' : (1 : Int) < 2 := by decide
  clear hbx hv hno g0 p1 p2 p3 hax
  rw [hw0] at n0
  go_enter Tryz.func18, Tryz.ntmps18
  go_wp2_with fail
  rw [← hw0]
  rw [← hw0] at n0
  clear hw0
  refine wp_region_held_drew (S := fun w' => w0.grownBy w' none) (by kernel_rfl) (grown_drew (grown_refl _)) (fun hHeld => ?_)
  refine wpAnyH_take (i := 0) (v := ?_) rfl (by kernel_rfl) (by kernel_rfl) (by kernel_rfl) (fun _ _ _ h => h) (Or.inl ⟨by kernel_rfl, ?_⟩) (by assumption) ?_
  rotate_left 1
  · (intro wS hSw; go_simp; (try with_reducible rfl))
  try simp only [Act.put]
  refine wpAnyH_take (i := 1) (v := ?_) rfl (by kernel_rfl) (by kernel_rfl) (by kernel_rfl) (fun _ _ _ h => h) (Or.inl ⟨by kernel_rfl, ?_⟩) (by assumption) ?_
  rotate_left 1
  · (intro wS hSw; go_simp; (try with_reducible rfl))
  try simp only [Act.put]
  refine wpAnyH_take (i := 2) (v := ?_) rfl (by kernel_rfl) (by kernel_rfl) (by kernel_rfl) (fun _ _ _ h => h) (Or.inl ⟨by kernel_rfl, ?_⟩) (by assumption) ?_
  rotate_left 1
  · (intro wS hSw; have c0 := cell_still t0 hSw; have c1 := cell_still t1 hSw; have c2 := cell_still t2 hSw; go_simp; (try with_reducible rfl))
  try simp only [Act.put]
  refine wpAnyH_take (i := 3) (v := ?_) rfl (by kernel_rfl) (by kernel_rfl) (by kernel_rfl) (fun _ _ _ h => h) (Or.inl ⟨by kernel_rfl, ?_⟩) (by assumption) ?_
  rotate_left 1
  · (intro wS hSw; go_simp; (try with_reducible rfl))
  try simp only [Act.put]
  refine wpAnyH_take (i := 4) (v := ?_) rfl (by kernel_rfl) (by kernel_rfl) (by kernel_rfl) (fun _ _ _ h => h) (Or.inl ⟨by kernel_rfl, ?_⟩) (by assumption) ?_
  rotate_left 1
  · (intro wS hSw; go_simp; (try with_reducible rfl))
  try simp only [Act.put]
  refine wpAnyH_take (i := 5) (v := ?_) rfl (by kernel_rfl) (by kernel_rfl) (by kernel_rfl) (fun _ _ _ h => h) (Or.inl ⟨by kernel_rfl, ?_⟩) (by assumption) ?_
  rotate_left 1
  · (intro wS hSw; have c0 := cell_still s0 hSw; have c1 := cell_still s1 hSw; have c2 := cell_still s2 hSw; go_simp; (try with_reducible rfl))
  try simp only [Act.put]
  refine wpAnyH_take (i := 6) (v := ?_) rfl (by kernel_rfl) (by kernel_rfl) (by kernel_rfl) (fun _ _ _ h => h) (Or.inl ⟨by kernel_rfl, ?_⟩) (by assumption) ?_
  rotate_left 1
  · (intro wS hSw; go_simp; (try with_reducible rfl))
  try simp only [Act.put]
  refine wpAnyH_take (i := 7) (v := ?_) rfl (by kernel_rfl) (by kernel_rfl) (by kernel_rfl) (fun _ _ _ h => h) (Or.inl ⟨by kernel_rfl, ?_⟩) (by assumption) ?_
  rotate_left 1
  · (intro wS hSw; have c0 := cell_still v2 hSw; go_simp; (try with_reducible rfl))
  try simp only [Act.put]
  refine wpAnyH_take (i := 8) (v := ?_) rfl (by kernel_rfl) (by kernel_rfl) (by kernel_rfl) (fun _ _ _ h => h) (Or.inl ⟨by kernel_rfl, ?_⟩) (by assumption) ?_
  rotate_left 1
  · (intro wS hSw; have c0 := cell_still n0 hSw; have c1 := cell_still n1 hSw; have c2 := cell_still n2 hSw; have c3 := cell_still n3 hSw; have c4 := cell_still n4 hSw; go_simp; (try with_reducible rfl))
  try simp only [Act.put]
  refine wpAnyH_take (i := 9) (v := ?_) rfl (by kernel_rfl) (by kernel_rfl) (by kernel_rfl) (fun _ _ _ h => h) (Or.inl ⟨by kernel_rfl, ?_⟩) (by assumption) ?_
  rotate_left 1
  · (intro wS hSw; go_simp; (try with_reducible rfl))
  try simp only [Act.put]
  refine wpAnyH_take (i := 10) (v := ?_) rfl (by kernel_rfl) (by kernel_rfl) (by kernel_rfl) (fun _ _ _ h => h) (Or.inl ⟨by kernel_rfl, ?_⟩) (by assumption) ?_
  rotate_left 1
  · (intro wS hSw; go_simp; (try with_reducible rfl))
  try simp only [Act.put]
  refine wpAnyH_take (i := 11) (v := ?_) rfl (by kernel_rfl) (by kernel_rfl) (by kernel_rfl) (fun _ _ _ h => h) (Or.inl ⟨by kernel_rfl, ?_⟩) (by assumption) ?_
  rotate_left 1
  · (intro wS hSw; go_simp; (try with_reducible rfl))
  try simp only [Act.put]
  refine wpAnyH_take (i := 12) (v := ?_) rfl (by kernel_rfl) (by kernel_rfl) (by kernel_rfl) (fun _ _ _ h => h) (Or.inl ⟨by kernel_rfl, ?_⟩) (by assumption) ?_
  rotate_left 1
  · (intro wS hSw; have c0 := cell_still t1 hSw; go_simp; (try with_reducible rfl))
  try simp only [Act.put]
  refine wpAnyH_ready (rs := [13]) (by kernel_rfl) (by simp) ?_
  refine AllReadyH.cons rfl (fun K hK => ?_) AllReadyH.nil
  go_simp
  refine (MX.out w0.drew (grown_drew G0.out)).mono ?_
  rintro e w1 ⟨rfl, hg1⟩
  have g1 : w0.grownBy w1 none := grown_trans (grown_drew (grown_refl _)) hg1
  refine hK.out _ _ g1 (fun hHeld => ?_)
  clear hK K
  try simp only [Act.put]
  refine wpAnyH_ready (rs := [14]) (by kernel_rfl) (by simp) ?_
  refine AllReadyH.cons rfl (fun K hK => ?_) AllReadyH.nil
  go_simp
  refine (GA.out w1 (grown_trans G0.out g1)).mono ?_
  intro e w3 hq
  obtain ⟨hg3, hq⟩ := hq
  have g3 : w0.grownBy w3 none := grown_trans g1 hg3
  cases r with
  | error c =>
    subst hq
    refine hK.out _ _ g3 (fun hHeld => ?_)
    clear hK K
    refine wpAnyH_take (i := 15) (v := ?_) rfl (by kernel_rfl) (by kernel_rfl) (by kernel_rfl) (fun _ _ _ h => h) (Or.inl ⟨by kernel_rfl, ?_⟩) (by assumption) ?_
    rotate_left 1
    · (intro wS hSw; go_simp; (try with_reducible rfl))
    try simp only [Act.put]
    refine wpAnyH_take (i := 16) (v := ?_) rfl (by kernel_rfl) (by kernel_rfl) (by kernel_rfl) (fun _ _ _ h => h) (Or.inl ⟨by kernel_rfl, ?_⟩) (by assumption) ?_
    rotate_left 1
    · (intro wS hSw; go_simp; (try with_reducible rfl))
    try simp only [Act.put]
    refine wpAnyH_take (i := 17) (v := ?_) rfl (by kernel_rfl) (by kernel_rfl) (by kernel_rfl) (fun _ _ _ h => h) (Or.inl ⟨by kernel_rfl, ?_⟩) (by assumption) ?_
    rotate_left 1
    · (intro wS hSw; go_simp; (try with_reducible rfl))
    try simp only [Act.put]
    refine wpAnyH_take (i := 18) (v := ?_) rfl (by kernel_rfl) (by kernel_rfl) (by kernel_rfl) (fun _ _ _ h => h) (Or.inl ⟨by kernel_rfl, ?_⟩) (by assumption) ?_
    rotate_left 1
    · (intro wS hSw; go_simp; (try with_reducible rfl))
    try simp only [Act.put]
    refine wpAnyH_done (by kernel_rfl) ?_ _
    have HG := hide (grown_trans G0.out g3)
    clear hg3 g3 hg1 g1 t0 t1 t2 s0 s1 s2 n0 n1 n2 n3 n4 v0 v1 v2 hHeld
    go_simp
    go_wp2
    go_ret2
    exact ev_err rfl HG.out
  | ok zs =>
    obtain ⟨⟨ra, rn, rc⟩, rfl, ho3⟩ := hq
    refine hK.out _ _ g3 (fun hHeld => ?_)
    clear hK K
    refine wpAnyH_take (i := 15) (v := ?_) rfl (by kernel_rfl) (by kernel_rfl) (by kernel_rfl) (fun _ _ _ h => h) (Or.inl ⟨by kernel_rfl, ?_⟩) (by assumption) ?_
    rotate_left 1
    · (intro wS hSw; go_simp; (try with_reducible rfl))
    try simp only [Act.put]
    refine wpAnyH_take (i := 16) (v := ?_) rfl (by kernel_rfl) (by kernel_rfl) (by kernel_rfl) (fun _ _ _ h => h) (Or.inl ⟨by kernel_rfl, ?_⟩) (by assumption) ?_
    rotate_left 1
    · (intro wS hSw; go_simp; (try with_reducible rfl))
    try simp only [Act.put]
    refine wpAnyH_take (i := 17) (v := ?_) rfl (by kernel_rfl) (by kernel_rfl) (by kernel_rfl) (fun _ _ _ h => h) (Or.inl ⟨by kernel_rfl, ?_⟩) (by assumption) ?_
    rotate_left 1
    · (intro wS hSw; go_simp; (try with_reducible rfl))
    try simp only [Act.put]
    refine wpAnyH_take (i := 18) (v := ?_) rfl (by kernel_rfl) (by kernel_rfl) (by kernel_rfl) (fun _ _ _ h => h) (Or.inl ⟨by kernel_rfl, ?_⟩) (by assumption) ?_
    rotate_left 1
    · (intro wS hSw; go_simp; (try with_reducible rfl))
    try simp only [Act.put]
    refine wpAnyH_done (by kernel_rfl) ?_ _
    have HG := hide (grown_trans G0.out g3)
    have HO : Hid (OwnsE w3 w.heap.size (.slice ra rn rc) zs) := ⟨ownsRow_base ho3.1 (Nat.le_trans G0.out.size g1.size), ho3.2⟩
    clear ho3 hg3 g3 hg1 g1 t0 t1 t2 s0 s1 s2 n0 n1 n2 n3 n4 v0 v1 v2 hHeld
    go_simp
    go_wp2
    go_ret2
    exact ev_ok rfl HG.out ⟨⟨ra, rn, rc⟩, rfl, HO.out⟩

end Go.Proofs.YtaoplfpigjkgpaaGreatDoor

namespace Go.Proofs.YtaoplfpigjkgpaaGreatDoor

open Go.RowKit

set_option maxRecDepth 100000 in
set_option maxHeartbeats 16000000 in
theorem gathered_err (tx ty : Int) (dv xv iv zv : Sl) (yda : Option Addr) (ydn ydc : Nat) (ds xs idx : List Int) (ax A dim W : Nat) (w : World) (hd : IsInts w dv.v ds) (hx : IsInts w xv.v xs) (hi : IsInts w iv.v idx)
    (hax : ax < ds.length) (hdim : ds.getD ax 0 = (dim : Int)) (hd1 : dim ≤ 65536) (hi5 : idx.length ≤ 65536) (hxp : 0 < xs.length) (hp0 : plcAll dim idx = false) :
    Calls Tryz.prog 34 #[.agg #[.int .i64 tx, .slice dv.a dv.n dv.c, .slice xv.a xv.n xv.c], .agg #[.int .i64 ty, .slice yda ydn ydc, .slice iv.a iv.n iv.c], .slice zv.a zv.n zv.c, .int .i64 ax] w (EvQ w (gathR xs W dim A idx)) := by
  obtain ⟨da, dn, dc⟩ := dv
  obtain ⟨xa, xn, xc⟩ := xv
  obtain ⟨ia, inn, ic⟩ := iv
  obtain ⟨za, zn, zc⟩ := zv
  obtain ⟨_, _, e1, c1, -⟩ := hd.sl
  obtain ⟨_, _, e2, c2, -⟩ := hx.sl
  obtain ⟨_, _, e3, c3, -⟩ := hi.sl
  simp only [Sl.v, Value.slice.injEq] at e1 e2 e3
  obtain ⟨-, rfl, rfl⟩ := e1
  obtain ⟨-, rfl, rfl⟩ := e2
  obtain ⟨-, rfl, rfl⟩ := e3
  obtain ⟨db, df, rfl, hcd⟩ := hd.get (k := 0) (by omega)
  obtain ⟨xb, xf, rfl, -⟩ := hx.get (k := 0) hxp
  simp only [Sl.v] at hd hx hi
  have dcell := hcd ax (by omega)
  rw [hdim] at dcell
  have HD := hide hd
  have HX := hide hx
  have HI := hide hi
  obtain ⟨w0, hw0⟩ : ∃ w0, w0 = (w.alloc (.cells #[.int .i64 tx, .slice (some ⟨db, df, none⟩) ds.length dc, .slice (some ⟨xb, xf, none⟩) xs.length xc] 32)).alloc (.cells #[.int .i64 ty, .slice yda ydn ydc, .slice ia idx.length ic] 32) := ⟨_, rfl⟩
  have g0 : w.grownBy w0 none := by rw [hw0]; exact grown_trans (grown_new _ _) (grown_new _ _)
  have hbx := two_boxes w (.cells #[.int .i64 tx, .slice (some ⟨db, df, none⟩) ds.length dc, .slice (some ⟨xb, xf, none⟩) xs.length xc] 32) (.cells #[.int .i64 ty, .slice yda ydn ydc, .slice ia idx.length ic] 32)
  rw [← hw0] at hbx
  obtain ⟨x0, x1, x2⟩ := ten_cells hbx.1
  obtain ⟨y0, y1, y2⟩ := ten_cells hbx.2
  have BX : Hid (∀ wx, w0.grownBy wx none → wx.heap[w.heap.size]? = some (.cells #[.int .i64 tx, .slice (some ⟨db, df, none⟩) ds.length dc, .slice (some ⟨xb, xf, none⟩) xs.length xc] 32 (0, 0))) := fun wx h => box_kept hbx.1 h
  have dcell := cell_still dcell g0
  have PL := hide (gplaces_any ⟨ia, idx.length, ic⟩ idx dim w0 (hi.more g0) (by omega) (by omega))
  have j1 : (ax : Int) < (ds.length : Int) := by omega
  have j1n : ax < ds.length := by omega
  have G0 := hide g0
  rw [hw0] at x0 x1 x2 y0 y1 y2 dcell
  clear hd hx hi hcd hbx g0 c1 c2 c3 hdim
  go_enter Tryz.func34, Tryz.ntmps34
  go_wp2_with fail
  rw [← hw0]
  rw [← hw0] at x0 x1 x2 y0 y1 y2 dcell
  clear hw0
  refine PL.out.mono ?_
  rintro e w1 ⟨hg1, ⟨hp, ⟨pa, pn, pc⟩, rfl, ip⟩ | ⟨hp, rfl⟩⟩
  · rw [hp0] at hp
    cases hp
  · have ER : gathR xs W dim A idx = .error 8 := by unfold gathR; rw [hp]; rfl
    have HE := hide ER
    have G1 := hide (grown_trans G0.out hg1)
    clear ER hp hg1
    go_wp2
    go_ret2
    exact ev_err HE.out G1.out

end Go.Proofs.YtaoplfpigjkgpaaGreatDoor
