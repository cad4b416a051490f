/- move.moved at Transpose, by the walk. -/
import Derived.Test.YtfladhogkhhlcaaGreatDoorMvWholeJ
import Derived.Test.YtfladhogkhhlcaaGreatDoorLnDoMJ
import Derived.Test.YtfladhogkhhlcaaGreatDoorPartV
import Derived.Test.YtfladhogkhhlcaaGreatDoorPartP
import Derived.Deep.RegionHeld3
namespace Go.Proofs.YtfladhogkhhlcaaGreatDoor
open Go.RowKit

set_option maxRecDepth 100000 in
set_option maxHeartbeats 8000000 in
theorem moved_trans (n : Nod) (A : At) (hop : n.op = ⟨#[84, 114, 97, 110, 115, 112, 111, 115, 101]⟩) (u : Sl) (T0 : Ten) (x xs : List Int) (nam0 : ByteArray) (vty : Int) (dv : Sl) (l : List Int) (w : World) (hno : NodeOk w n A) (hv : TensIn w u.v [(T0, (x, xs))]) (hd : IsInts w dv.v l) (hl : l.length = x.length) (hc : cntE x = 0) (hp : Vw.IsPerm (permP A x.length) x.length) (hr : Vw.rdOk 0 (Vw.pickL x (permP A x.length)) (Vw.pickL (strd x) (permP A x.length)) xs = true) :
    Calls Tryz.prog 18 #[nval n, .slice u.a u.n u.c, .agg #[.string nam0, .int .i64 vty, .slice dv.a dv.n dv.c]] w (EvQ w (.ok (Vw.rdL 0 (Vw.pickL x (permP A x.length)) (Vw.pickL (strd x) (permP A x.length)) xs))) := by
  have hfew := (fine_of hc).few
  obtain ⟨P, hP⟩ : ∃ P, P = permP A x.length := ⟨_, rfl⟩
  rw [← hP] at hp hr ⊢
  have hPl : P.length = x.length := hp.1
  have PM : Hid (∀ wx, w.grownBy wx none → Calls Tryz.prog 28 #[nval n, .int .i64 x.length] wx fun e w' => ∃ u : Sl, e = .returned u.v ∧ IsInts w' u.v P ∧ wx.grownBy w' none) := fun wx hx => by rw [hP]; exact perm_any n A x.length wx (hno.more hx) (by omega)
  obtain ⟨za, zn, zc⟩ := dv
  obtain ⟨zx, zc', ez, -⟩ := hd.sl
  simp only [Sl.v, Value.slice.injEq] at ez
  obtain ⟨rfl, rfl, rfl⟩ := ez
  rw [hl]
  obtain ⟨xa, xc, e1, p1, p2, p3⟩ := hv.vals.form
  obtain ⟨ua, un, uc⟩ := u
  simp only [Sl.v, List.map_cons, List.map_nil, List.length_cons, List.length_nil, Value.slice.injEq] at e1
  obtain ⟨rfl, rfl, rfl⟩ := e1
  obtain ⟨ub, uo, rfl⟩ := hv.vals.addr (k := 0) (by simp)
  obtain ⟨t0, t1, t2⟩ := hv.at 0 (by simp)
  have HH0 := hide (hv.has (T0, (x, xs)) (by simp))
  obtain ⟨tx, ⟨xda, xdn, xdc⟩, ⟨xta, xtn, xtc⟩⟩ := T0
  simp only [List.getElem_cons_zero, Nat.zero_mul, Nat.add_zero] at t0 t1 t2 HH0
  have AS : Hid (∀ (wx : World) (lv : Sl), w.grownBy wx none → IsInts wx lv.v P → Calls Tryz.prog 22 #[.agg #[.int .i64 tx, .slice xda xdn xdc, .slice xta xtn xtc], .func (.func 26) #[] #[], .slice lv.a lv.n lv.c] wx (AstQ wx x xs P)) := fun wx lv hx hlv => ast_any ⟨tx, ⟨xda, xdn, xdc⟩, ⟨xta, xtn, xtc⟩⟩ x xs P lv wx hc hp (HH0.out.1.more hx) (HH0.out.2.more hx) hlv
  have RE : Hid (Vw.rdE 0 (Vw.pickL x P) (Vw.pickL (strd x) P) xs = 0) := if_pos hr
  obtain ⟨op, nam, ⟨ia, il, ic⟩, out, ⟨ao, al, cap⟩⟩ := n
  simp only at hop
  subst hop
  unfold nval at PM ⊢
  simp only at PM ⊢
  obtain ⟨w0, hw0⟩ : ∃ w0, w0 = (w.alloc (.cells #[.string ⟨#[84, 114, 97, 110, 115, 112, 111, 115, 101]⟩, .string nam, .slice ia il ic, .string out, .slice ao al cap] 36)).alloc (.cells #[.string nam0, .int .i64 vty, .slice za x.length zc] 48) := ⟨_, rfl⟩
  have g0 : w.grownBy w0 none := by rw [hw0]; exact grown_trans (grown_new _ _) (grown_new _ _)
  have hbx := two_boxes w (.cells #[.string ⟨#[84, 114, 97, 110, 115, 112, 111, 115, 101]⟩, .string nam, .slice ia il ic, .string out, .slice ao al cap] 36) (.cells #[.string nam0, .int .i64 vty, .slice za x.length zc] 48)
  rw [← hw0] at hbx
  obtain ⟨n0, n1, n2, n3, n4⟩ := nod_cells (n := ⟨⟨#[84, 114, 97, 110, 115, 112, 111, 115, 101]⟩, nam, ⟨ia, il, ic⟩, out, ⟨ao, al, cap⟩⟩) hbx.1
  obtain ⟨v0, v1, v2⟩ := ten_cells hbx.2
  have t0 := cell_still t0 g0
  have t1 := cell_still t1 g0
  have t2 := cell_still t2 g0
  have G0 := hide g0
  have i0' : (0 : Int) < 1 := by decide
  have HPL : Hid (P.length ≤ 1000) := by show P.length ≤ 1000; omega
  clear hbx hv hd hno hc hp hr hfew hP hPl g0 p1 p2 p3
  rw [hw0] at n0
  go_enter Tryz.func18, Tryz.ntmps18
  go_wp2_with fail
  rw [← hw0]
  rw [← hw0] at n0
  clear hw0
  refine wp_region_held_drew (S := fun w' => w0.grownBy w' none) (by kernel_rfl) (grown_drew (grown_refl _)) (fun hHeld => ?_)
  refine wpAnyH_take (i := 0) (v := ?_) rfl (by kernel_rfl) (by kernel_rfl) (by kernel_rfl) (fun _ _ _ h => h) (Or.inl ⟨by kernel_rfl, ?_⟩) (by assumption) ?_
  rotate_left 1
  · (intro wS hSw; go_simp; (try with_reducible rfl))
  try simp only [Act.put]
  refine wpAnyH_take (i := 1) (v := ?_) rfl (by kernel_rfl) (by kernel_rfl) (by kernel_rfl) (fun _ _ _ h => h) (Or.inl ⟨by kernel_rfl, ?_⟩) (by assumption) ?_
  rotate_left 1
  · (intro wS hSw; go_simp; (try with_reducible rfl))
  try simp only [Act.put]
  refine wpAnyH_take (i := 2) (v := ?_) rfl (by kernel_rfl) (by kernel_rfl) (by kernel_rfl) (fun _ _ _ h => h) (Or.inl ⟨by kernel_rfl, ?_⟩) (by assumption) ?_
  rotate_left 1
  · (intro wS hSw; have c0 := cell_still t0 hSw; have c1 := cell_still t1 hSw; have c2 := cell_still t2 hSw; go_simp; (try with_reducible rfl))
  try simp only [Act.put]
  refine wpAnyH_take (i := 3) (v := ?_) rfl (by kernel_rfl) (by kernel_rfl) (by kernel_rfl) (fun _ _ _ h => h) (Or.inl ⟨by kernel_rfl, ?_⟩) (by assumption) ?_
  rotate_left 1
  · (intro wS hSw; have c0 := cell_still n0 hSw; have c1 := cell_still n1 hSw; have c2 := cell_still n2 hSw; have c3 := cell_still n3 hSw; have c4 := cell_still n4 hSw; go_simp; (try with_reducible rfl))
  try simp only [Act.put]
  refine wpAnyH_take (i := 4) (v := ?_) rfl (by kernel_rfl) (by kernel_rfl) (by kernel_rfl) (fun _ _ _ h => h) (Or.inl ⟨by kernel_rfl, ?_⟩) (by assumption) ?_
  rotate_left 1
  · (intro wS hSw; go_simp; (try with_reducible rfl))
  try simp only [Act.put]
  refine wpAnyH_take (i := 5) (v := ?_) rfl (by kernel_rfl) (by kernel_rfl) (by kernel_rfl) (fun _ _ _ h => h) (Or.inl ⟨by kernel_rfl, ?_⟩) (by assumption) ?_
  rotate_left 1
  · (intro wS hSw; have c0 := cell_still v2 hSw; go_simp; (try with_reducible rfl))
  try simp only [Act.put]
  refine wpAnyH_take (i := 6) (v := ?_) rfl (by kernel_rfl) (by kernel_rfl) (by kernel_rfl) (fun _ _ _ h => h) (Or.inl ⟨by kernel_rfl, ?_⟩) (by assumption) ?_
  rotate_left 1
  · (intro wS hSw; go_simp; (try with_reducible rfl))
  try simp only [Act.put]
  refine wpAnyH_ready (rs := [7]) (by kernel_rfl) (by simp) ?_
  refine AllReadyH.cons rfl (fun K hK => ?_) AllReadyH.nil
  go_simp
  refine (PM.out w0.drew (grown_drew G0.out)).mono ?_
  rintro e w1 ⟨⟨pa, pn, pc⟩, rfl, ip, hg1⟩
  have g1 : w0.grownBy w1 none := grown_trans (grown_drew (grown_refl _)) hg1
  refine hK.out _ _ g1 (fun hHeld => ?_)
  clear hK K
  try simp only [Act.put]
  refine wpAnyH_ready (rs := [8]) (by kernel_rfl) (by simp) ?_
  refine AllReadyH.cons rfl (fun K hK => ?_) AllReadyH.nil
  go_simp
  refine (mwhole_any ⟨pa, pn, pc⟩ P w1 ip HPL.out).mono ?_
  rintro e w2 ⟨⟨qa, qn, qc⟩, rfl, iq, hg2⟩
  have g2 : w0.grownBy w2 none := grown_trans g1 hg2
  refine hK.out _ _ g2 (fun hHeld => ?_)
  clear hK K
  try simp only [Act.put]
  refine wpAnyH_ready (rs := [9]) (by kernel_rfl) (by simp) ?_
  refine AllReadyH.cons rfl (fun K hK => ?_) AllReadyH.nil
  go_simp
  refine (AS.out w2 ⟨qa, qn, qc⟩ (grown_trans G0.out g2) iq).mono ?_
  rintro e w3 ⟨⟨ra, rn, rc⟩, rfl, ho3, hg3⟩
  have g3 : w0.grownBy w3 none := grown_trans g2 hg3
  rw [RE.out]
  refine hK.out _ _ g3 (fun hHeld => ?_)
  clear hK K
  refine wpAnyH_take (i := 10) (v := ?_) rfl (by kernel_rfl) (by kernel_rfl) (by kernel_rfl) (fun _ _ _ h => h) (Or.inl ⟨by kernel_rfl, ?_⟩) (by assumption) ?_
  rotate_left 1
  · (intro wS hSw; go_simp; (try with_reducible rfl))
  try simp only [Act.put]
  refine wpAnyH_take (i := 11) (v := ?_) rfl (by kernel_rfl) (by kernel_rfl) (by kernel_rfl) (fun _ _ _ h => h) (Or.inl ⟨by kernel_rfl, ?_⟩) (by assumption) ?_
  rotate_left 1
  · (intro wS hSw; go_simp; (try with_reducible rfl))
  try simp only [Act.put]
  refine wpAnyH_take (i := 12) (v := ?_) rfl (by kernel_rfl) (by kernel_rfl) (by kernel_rfl) (fun _ _ _ h => h) (Or.inl ⟨by kernel_rfl, ?_⟩) (by assumption) ?_
  rotate_left 1
  · (intro wS hSw; go_simp; (try with_reducible rfl))
  try simp only [Act.put]
  refine wpAnyH_take (i := 13) (v := ?_) rfl (by kernel_rfl) (by kernel_rfl) (by kernel_rfl) (fun _ _ _ h => h) (Or.inl ⟨by kernel_rfl, ?_⟩) (by assumption) ?_
  rotate_left 1
  · (intro wS hSw; go_simp; (try with_reducible rfl))
  try simp only [Act.put]
  refine wpAnyH_done (by kernel_rfl) ?_ _
  have HO : Hid (OwnsE w3 w.heap.size (.slice ra rn rc) (Vw.rdL 0 (Vw.pickL x P) (Vw.pickL (strd x) P) xs)) := ⟨ownsRow_base ho3.1 (Nat.le_trans G0.out.size g2.size), ho3.2⟩
  have HG := hide (grown_trans G0.out g3)
  clear ho3 hg3 g3 hg2 g2 hg1 g1 ip iq t0 t1 t2 n0 n1 n2 n3 n4 v0 v1 v2 hHeld
  go_simp
  go_wp2
  go_ret2
  exact ev_ok rfl HG.out ⟨⟨ra, rn, rc⟩, rfl, HO.out⟩
end Go.Proofs.YtfladhogkhhlcaaGreatDoor
