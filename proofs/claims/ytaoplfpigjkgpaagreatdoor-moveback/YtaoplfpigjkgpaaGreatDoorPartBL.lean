/- Joined texts: LnDoM, MvTrans, MvTrDo. -/
import Derived.Test.YtaoplfpigjkgpaaGreatDoorPartBJ
import Derived.Test.YtaoplfpigjkgpaaGreatDoorPartAW
import Derived.Deep.RegionHeld3
import Derived.Test.YtaoplfpigjkgpaaGreatDoorPartBA
namespace Go.Proofs.YtaoplfpigjkgpaaGreatDoor

open Go.RowKit

set_option maxRecDepth 100000 in
set_option maxHeartbeats 8000000 in
theorem mbdo_any (n : Nod) (u : Sl) (R0 : R (Int × List Int)) (M : List Int → R (List Int)) (w : World) (h1 : ∀ c, R0 = .error c → c ≠ 0) (h2 : ∀ l c, M l = .error c → c ≠ 0)
    (NC : ∀ wx, w.grownBy wx none → Calls Tryz.prog 21 #[nval n, .slice u.a u.n u.c] wx (AttQ n.out wx R0))
    (MC : ∀ (wx : World) (ty : Int) (dv : Sl) (l : List Int), w.grownBy wx none → R0 = .ok (ty, l) → IsInts wx dv.v l → Calls Tryz.prog 18 #[nval n, .slice u.a u.n u.c, .agg #[.string n.out, .int .i64 ty, .slice dv.a dv.n dv.c]] wx (EvQ wx (M l))) :
    Calls Tryz.prog 17 #[nval n, .slice u.a u.n u.c, .func (.func 18) #[] #[]] w (DoQ w (doR R0 M)) := by
  have H1 := hide h1
  have H2 := hide h2
  have HMC := hide MC
  clear h1 h2 MC
  obtain ⟨w0, hw0⟩ : ∃ w0, w0 = (w.alloc (.cells #[.string n.op, .string n.name, .slice n.iv.a n.iv.n n.iv.c, .string n.out, .slice n.av.a n.av.n n.av.c] 25)).alloc (.cells #[.int .i64 0, .slice none 0 0, .slice none 0 0] 32) := ⟨_, rfl⟩
  have g0 : Hid (w.grownBy w0 none) := by show w.grownBy w0 none; rw [hw0]; exact grown_trans (grown_new _ _) (grown_new _ _)
  have hbx := two_boxes w (.cells #[.string n.op, .string n.name, .slice n.iv.a n.iv.n n.iv.c, .string n.out, .slice n.av.a n.av.n n.av.c] 25) (.cells #[.int .i64 0, .slice none 0 0, .slice none 0 0] 32)
  rw [← hw0] at hbx
  have BN : Hid (∀ wx, w0.grownBy wx none → wx.heap[w.heap.size]? = some (.cells #[.string n.op, .string n.name, .slice n.iv.a n.iv.n n.iv.c, .string n.out, .slice n.av.a n.av.n n.av.c] 25 (0, 0))) := fun wx hg => box_kept hbx.1 hg
  have BX : Hid (∀ wx, w0.grownBy wx none → wx.heap[w.heap.size + 1]? = some (.cells #[.int .i64 0, .slice none 0 0, .slice none 0 0] 32 (0, 0))) := fun wx hg => box_kept hbx.2 hg
  have Z0 : Hid (w.heap.size + 1 < w0.heap.size) := (Array.getElem?_eq_some_iff.1 hbx.2).1
  have N1 := hide (NC w0 g0.out)
  clear hbx NC
  obtain ⟨op, nam, ⟨ia, il, ic⟩, out, ⟨ao, al, cap⟩⟩ := n
  obtain ⟨ua, un, uc⟩ := u
  unfold nval at HMC N1 ⊢
  simp only at HMC N1 BN hw0 ⊢
  go_enter Tryz.func17, Tryz.ntmps17
  go_wp2_with fail
  rw [← hw0]
  clear hw0
  refine N1.out.mono ?_
  rintro e w1 ⟨hg1, hq⟩
  have G1 := hide hg1
  cases R0 with
  | error c =>
    obtain rfl := hq
    have hc := H1.out c rfl
    have bc : (c != 0) = true := by simpa using hc
    obtain ⟨w2, hw2⟩ : ∃ w2, w2 = w1.alloc (.cells #[.string ⟨#[]⟩, .int .i64 0, .slice none 0 0] 50) := ⟨_, rfl⟩
    have g2 : w1.grownBy w2 none := by rw [hw2]; exact grown_new _ _
    have B1 := BX.out w2 (grown_trans hg1 g2)
    obtain ⟨f0, f1, f2⟩ := ten_frozen B1
    have c0 : w2.cell? ⟨w.heap.size + 1, 0, none⟩ = some (.int .i64 0) := (cell_of_row _ _ 0 _ _ (0, 0) B1).trans rfl
    have c1 : w2.cell? ⟨w.heap.size + 1, 1, none⟩ = some (.slice none 0 0) := (cell_of_row _ _ 1 _ _ (0, 0) B1).trans rfl
    have c2 : w2.cell? ⟨w.heap.size + 1, 2, none⟩ = some (.slice none 0 0) := (cell_of_row _ _ 2 _ _ (0, 0) B1).trans rfl
    obtain ⟨hX, gX⟩ := store3t (.int .i64 0) (.slice none 0 0) (.slice none 0 0) B1
    have HX := hide hX
    have GX := hide (grown_drop (grown_trans g0.out (grown_trans hg1 g2)) gX (by omega))
    rw [hw2] at f0 f1 f2 c0 c1 c2 HX GX
    clear hX gX B1 hc hg1 g2 hw2
    go_wp2
    refine bodyPost_ret (ret_ten2 rfl _ _ (w.heap.size + 1) rfl HX.out) rfl ?_
    exact do_err rfl GX.out
  | ok rr =>
    obtain ⟨ty, l⟩ := rr
    obtain ⟨⟨s1, s2, s3⟩, rfl, ho⟩ := hq
    obtain ⟨w2, hw2⟩ : ∃ w2, w2 = w1.alloc (.cells #[.string out, .int .i64 ty, .slice s1 s2 s3] 50) := ⟨_, rfl⟩
    have g2 : w1.grownBy w2 none := by rw [hw2]; exact grown_new _ _
    have hB2 := heap_alloc_new w1 (.cells #[.string out, .int .i64 ty, .slice s1 s2 s3] 50)
    rw [← hw2] at hB2
    have BV : Hid (∀ wx, w2.grownBy wx none → wx.heap[w1.heap.size]? = some (.cells #[.string out, .int .i64 ty, .slice s1 s2 s3] 50 (0, 0))) := fun wx hg => box_kept hB2 hg
    have HO := hide ho
    obtain ⟨n0, n1, n2, n3, n4⟩ := nod_cells (n := ⟨op, nam, ⟨ia, il, ic⟩, out, ⟨ao, al, cap⟩⟩) (BN.out w2 (grown_trans hg1 g2))
    have M1 := hide (HMC.out w2 ty ⟨s1, s2, s3⟩ l (grown_trans g0.out (grown_trans hg1 g2)) rfl (ho.ints.more g2))
    have G2 := hide (grown_trans hg1 g2)
    have G12 := hide g2
    simp only at n0 n1 n2 n3 n4 M1
    rw [hw2] at n0 n1 n2 n3 n4
    clear ho hg1 g2 hB2
    go_wp2_with fail
    rw [← hw2]
    clear hw2 n0 n1 n2 n3 n4
    refine M1.out.mono ?_
    rintro e w3 ⟨hg3, hq⟩
    have B3 := BX.out w3 (grown_trans G2.out hg3)
    have G3 := hide (grown_trans g0.out (grown_trans G2.out hg3))
    obtain ⟨f0, f1, f2⟩ := ten_frozen B3
    have c0 : w3.cell? ⟨w.heap.size + 1, 0, none⟩ = some (.int .i64 0) := (cell_of_row _ _ 0 _ _ (0, 0) B3).trans rfl
    have c1 : w3.cell? ⟨w.heap.size + 1, 1, none⟩ = some (.slice none 0 0) := (cell_of_row _ _ 1 _ _ (0, 0) B3).trans rfl
    have c2 : w3.cell? ⟨w.heap.size + 1, 2, none⟩ = some (.slice none 0 0) := (cell_of_row _ _ 2 _ _ (0, 0) B3).trans rfl
    obtain ⟨mr, hmr⟩ : ∃ mr, mr = M l := ⟨_, rfl⟩
    rw [← hmr] at hq
    have ED : Hid (doR (.ok (ty, l)) M = mr.map fun zs => (ty, l, zs)) := by rw [hmr]; rfl
    cases mr with
    | error c =>
      obtain rfl := hq
      have hc := H2.out l c hmr.symm
      have bc : (c != 0) = true := by simpa using hc
      obtain ⟨hX, gX⟩ := store3t (.int .i64 0) (.slice none 0 0) (.slice none 0 0) B3
      have HX := hide hX
      have GX := hide (grown_drop G3.out gX (by omega))
      clear hX gX B3 hc hg3 hmr
      go_wp2
      refine bodyPost_ret (ret_ten2 rfl _ _ (w.heap.size + 1) rfl HX.out) rfl ?_
      exact do_err ED.out GX.out
    | ok zs =>
      obtain ⟨⟨t1, t2, t3⟩, rfl, ht⟩ := hq
      have bv := BV.out w3 hg3
      have v1 : w3.cell? ⟨w1.heap.size, 1, none⟩ = some (.int .i64 ty) := (cell_of_row _ _ 1 _ _ (0, 0) bv).trans rfl
      have v2 : w3.cell? ⟨w1.heap.size, 2, none⟩ = some (.slice s1 s2 s3) := (cell_of_row _ _ 2 _ _ (0, 0) bv).trans rfl
      obtain ⟨hX, gX⟩ := store3t (.int .i64 ty) (.slice s1 s2 s3) (.slice t1 t2 t3) B3
      have HX := hide hX
      have GX := hide (grown_drop G3.out gX (by omega))
      have z0 := Z0.out
      have z1 := g0.out.size
      have z2 := G2.out.size
      have OD := hide (((HO.out.more (grown_trans G12.out hg3) (by cases (Sl.v ⟨s1, s2, s3⟩).ownBlock <;> simp)).base_le (b' := w0.heap.size) (Nat.le_refl _)).more gX (row_lt HO.out.1 (by omega)))
      have OT : Hid (OwnsE _ w2.heap.size (Sl.v ⟨t1, t2, t3⟩) zs) := ht.more gX (row_lt ht.1 (by omega))
      clear hX gX B3 hg3 hmr bv ht z0 z1 z2
      go_wp2
      refine bodyPost_ret (ret_ten2 rfl _ _ (w.heap.size + 1) rfl HX.out) rfl ?_
      exact do_ok (d := ⟨s1, s2, s3⟩) (t := ⟨t1, t2, t3⟩) ED.out GX.out (OD.out.base_le (by have := g0.out.size; omega)) ⟨ownsRow_base OT.out.1 (by have := g0.out.size; have := G2.out.size; omega), OT.out.2⟩

set_option maxRecDepth 100000 in
set_option maxHeartbeats 8000000 in
theorem mdo_any (n : Nod) (u : Sl) (r : R (Int × List Int × List Int)) (w : World) (BC : ∀ wx, w.grownBy wx none → Calls Tryz.prog 17 #[nval n, .slice u.a u.n u.c, .func (.func 18) #[] #[]] wx (DoQ wx r)) :
    Calls Tryz.prog 11 #[nval n, .slice u.a u.n u.c] w (DoQ w r) := by
  obtain ⟨w0, hw0⟩ : ∃ w0, w0 = (w.alloc (.cells #[.string n.op, .string n.name, .slice n.iv.a n.iv.n n.iv.c, .string n.out, .slice n.av.a n.av.n n.av.c] 25)).alloc (.cells #[.int .i64 0, .slice none 0 0, .slice none 0 0] 32) := ⟨_, rfl⟩
  have g0 : Hid (w.grownBy w0 none) := by show w.grownBy w0 none; rw [hw0]; exact grown_trans (grown_new _ _) (grown_new _ _)
  have hbx := two_boxes w (.cells #[.string n.op, .string n.name, .slice n.iv.a n.iv.n n.iv.c, .string n.out, .slice n.av.a n.av.n n.av.c] 25) (.cells #[.int .i64 0, .slice none 0 0, .slice none 0 0] 32)
  rw [← hw0] at hbx
  have BX : Hid (∀ wx, w0.grownBy wx none → wx.heap[w.heap.size + 1]? = some (.cells #[.int .i64 0, .slice none 0 0, .slice none 0 0] 32 (0, 0))) := fun wx hg => box_kept hbx.2 hg
  have Z0 : Hid (w.heap.size + 1 < w0.heap.size) := (Array.getElem?_eq_some_iff.1 hbx.2).1
  have N1 := hide (BC w0 g0.out)
  clear hbx BC
  obtain ⟨op, nam, ⟨ia, il, ic⟩, out, ⟨ao, al, cap⟩⟩ := n
  obtain ⟨ua, un, uc⟩ := u
  unfold nval at N1 ⊢
  simp only at N1 hw0 ⊢
  go_enter Tryz.func11, Tryz.ntmps11
  go_wp2_with fail
  rw [← hw0]
  clear hw0
  refine N1.out.mono ?_
  rintro e w3 ⟨hg3, hq⟩
  have B3 := BX.out w3 hg3
  have G3 := hide (grown_trans g0.out hg3)
  obtain ⟨f0, f1, f2⟩ := ten_frozen B3
  have c0 : w3.cell? ⟨w.heap.size + 1, 0, none⟩ = some (.int .i64 0) := (cell_of_row _ _ 0 _ _ (0, 0) B3).trans rfl
  have c1 : w3.cell? ⟨w.heap.size + 1, 1, none⟩ = some (.slice none 0 0) := (cell_of_row _ _ 1 _ _ (0, 0) B3).trans rfl
  have c2 : w3.cell? ⟨w.heap.size + 1, 2, none⟩ = some (.slice none 0 0) := (cell_of_row _ _ 2 _ _ (0, 0) B3).trans rfl
  cases r with
  | error c =>
    obtain rfl := hq
    obtain ⟨hX, gX⟩ := store3t (.int .i64 0) (.slice none 0 0) (.slice none 0 0) B3
    have HX := hide hX
    have GX := hide (grown_drop G3.out gX (by omega))
    clear hX gX B3 hg3
    go_wp2
    refine bodyPost_ret (ret_ten2 rfl _ _ (w.heap.size + 1) rfl HX.out) rfl ?_
    exact do_err rfl GX.out
  | ok rr =>
    obtain ⟨ty, l, zs⟩ := rr
    obtain ⟨⟨ty', ⟨s1, s2, s3⟩, ⟨t1, t2, t3⟩⟩, e1, rfl, hd, ht⟩ := hq
    simp only at e1
    subst e1
    obtain ⟨hX, gX⟩ := store3t (.int .i64 ty') (.slice s1 s2 s3) (.slice t1 t2 t3) B3
    have HX := hide hX
    have GX := hide (grown_drop G3.out gX (by omega))
    have OD := hide (hd.more gX (row_lt hd.1 Z0.out))
    have OT := hide (ht.more gX (row_lt ht.1 Z0.out))
    clear hX gX B3 hg3 hd ht
    unfold tval
    go_wp2
    refine bodyPost_ret (ret_ten2 rfl _ _ (w.heap.size + 1) rfl HX.out) rfl ?_
    exact do_ok (d := ⟨s1, s2, s3⟩) (t := ⟨t1, t2, t3⟩) rfl GX.out (OD.out.base_le (by have := g0.out.size; omega)) ⟨ownsRow_base OT.out.1 (by have := g0.out.size; omega), OT.out.2⟩

end Go.Proofs.YtaoplfpigjkgpaaGreatDoor

namespace Go.Proofs.YtaoplfpigjkgpaaGreatDoor

open Go.RowKit

set_option maxRecDepth 100000 in
set_option maxHeartbeats 8000000 in
theorem moved_trans (n : Nod) (A : At) (hop : n.op = ⟨#[84, 114, 97, 110, 115, 112, 111, 115, 101]⟩) (u : Sl) (T0 : Ten) (x xs : List Int) (nam0 : ByteArray) (vty : Int) (dv : Sl) (l : List Int) (w : World) (hno : NodeOk w n A) (hv : TensIn w u.v [(T0, (x, xs))]) (hd : IsInts w dv.v l) (hl : l.length = x.length) (hc : cntE x = 0) (hp : Vw.IsPerm (permP A x.length) x.length) (hr : Vw.rdOk 0 (Vw.pickL x (permP A x.length)) (Vw.pickL (strd x) (permP A x.length)) xs = true) :
    Calls Tryz.prog 18 #[nval n, .slice u.a u.n u.c, .agg #[.string nam0, .int .i64 vty, .slice dv.a dv.n dv.c]] w (EvQ w (.ok (Vw.rdL 0 (Vw.pickL x (permP A x.length)) (Vw.pickL (strd x) (permP A x.length)) xs))) := by
  have hfew := (fine_of hc).few
  obtain ⟨P, hP⟩ : ∃ P, P = permP A x.length := ⟨_, rfl⟩
  rw [← hP] at hp hr ⊢
  have hPl : P.length = x.length := hp.1
  have PM : Hid (∀ wx, w.grownBy wx none → Calls Tryz.prog 28 #[nval n, .int .i64 x.length] wx fun e w' => ∃ u : Sl, e = .returned u.v ∧ IsInts w' u.v P ∧ wx.grownBy w' none) := fun wx hx => by rw [hP]; exact perm_any n A x.length wx (hno.more hx) (by omega)
  obtain ⟨za, zn, zc⟩ := dv
  obtain ⟨zx, zc', ez, -⟩ := hd.sl
  simp only [Sl.v, Value.slice.injEq] at ez
  obtain ⟨rfl, rfl, rfl⟩ := ez
  rw [hl]
  obtain ⟨xa, xc, e1, p1, p2, p3⟩ := hv.vals.form
  obtain ⟨ua, un, uc⟩ := u
  simp only [Sl.v, List.map_cons, List.map_nil, List.length_cons, List.length_nil, Value.slice.injEq] at e1
  obtain ⟨rfl, rfl, rfl⟩ := e1
  obtain ⟨ub, uo, rfl⟩ := hv.vals.addr (k := 0) (by simp)
  obtain ⟨t0, t1, t2⟩ := hv.at 0 (by simp)
  have HH0 := hide (hv.has (T0, (x, xs)) (by simp))
  obtain ⟨tx, ⟨xda, xdn, xdc⟩, ⟨xta, xtn, xtc⟩⟩ := T0
  simp only [List.getElem_cons_zero, Nat.zero_mul, Nat.add_zero] at t0 t1 t2 HH0
  have AS : Hid (∀ (wx : World) (lv : Sl), w.grownBy wx none → IsInts wx lv.v P → Calls Tryz.prog 22 #[.agg #[.int .i64 tx, .slice xda xdn xdc, .slice xta xtn xtc], .func (.func 26) #[] #[], .slice lv.a lv.n lv.c] wx (AstQ wx x xs P)) := fun wx lv hx hlv => ast_any ⟨tx, ⟨xda, xdn, xdc⟩, ⟨xta, xtn, xtc⟩⟩ x xs P lv wx hc hp (HH0.out.1.more hx) (HH0.out.2.more hx) hlv
  have RE : Hid (Vw.rdE 0 (Vw.pickL x P) (Vw.pickL (strd x) P) xs = 0) := if_pos hr
  obtain ⟨op, nam, ⟨ia, il, ic⟩, out, ⟨ao, al, cap⟩⟩ := n
  simp only at hop
  subst hop
  unfold nval at PM ⊢
  simp only at PM ⊢
  obtain ⟨w0, hw0⟩ : ∃ w0, w0 = (w.alloc (.cells #[.string ⟨#[84, 114, 97, 110, 115, 112, 111, 115, 101]⟩, .string nam, .slice ia il ic, .string out, .slice ao al cap] 25)).alloc (.cells #[.string nam0, .int .i64 vty, .slice za x.length zc] 50) := ⟨_, rfl⟩
  have g0 : w.grownBy w0 none := by rw [hw0]; exact grown_trans (grown_new _ _) (grown_new _ _)
  have hbx := two_boxes w (.cells #[.string ⟨#[84, 114, 97, 110, 115, 112, 111, 115, 101]⟩, .string nam, .slice ia il ic, .string out, .slice ao al cap] 25) (.cells #[.string nam0, .int .i64 vty, .slice za x.length zc] 50)
  rw [← hw0] at hbx
  obtain ⟨n0, n1, n2, n3, n4⟩ := nod_cells (n := ⟨⟨#[84, 114, 97, 110, 115, 112, 111, 115, 101]⟩, nam, ⟨ia, il, ic⟩, out, ⟨ao, al, cap⟩⟩) hbx.1
  obtain ⟨v0, v1, v2⟩ := ten_cells hbx.2
  have t0 := cell_still t0 g0
  have t1 := cell_still t1 g0
  have t2 := cell_still t2 g0
  have G0 := hide g0
  have i0' : (0 : Int) < 1 := by decide
  have HPL : Hid (P.length ≤ 1000) := by show P.length ≤ 1000; omega
  clear hbx hv hd hno hc hp hr hfew hP hPl g0 p1 p2 p3
  rw [hw0] at n0
  go_enter Tryz.func18, Tryz.ntmps18
  go_wp2_with fail
  rw [← hw0]
  rw [← hw0] at n0
  clear hw0
  refine wp_region_held_drew (S := fun w' => w0.grownBy w' none) (by kernel_rfl) (grown_drew (grown_refl _)) (fun hHeld => ?_)
  refine wpAnyH_take (i := 0) (v := ?_) rfl (by kernel_rfl) (by kernel_rfl) (by kernel_rfl) (fun _ _ _ h => h) (Or.inl ⟨by kernel_rfl, ?_⟩) (by assumption) ?_
  rotate_left 1
  · (intro wS hSw; go_simp; (try with_reducible rfl))
  try simp only [Act.put]
  refine wpAnyH_take (i := 1) (v := ?_) rfl (by kernel_rfl) (by kernel_rfl) (by kernel_rfl) (fun _ _ _ h => h) (Or.inl ⟨by kernel_rfl, ?_⟩) (by assumption) ?_
  rotate_left 1
  · (intro wS hSw; go_simp; (try with_reducible rfl))
  try simp only [Act.put]
  refine wpAnyH_take (i := 2) (v := ?_) rfl (by kernel_rfl) (by kernel_rfl) (by kernel_rfl) (fun _ _ _ h => h) (Or.inl ⟨by kernel_rfl, ?_⟩) (by assumption) ?_
  rotate_left 1
  · (intro wS hSw; have c0 := cell_still t0 hSw; have c1 := cell_still t1 hSw; have c2 := cell_still t2 hSw; go_simp; (try with_reducible rfl))
  try simp only [Act.put]
  refine wpAnyH_take (i := 3) (v := ?_) rfl (by kernel_rfl) (by kernel_rfl) (by kernel_rfl) (fun _ _ _ h => h) (Or.inl ⟨by kernel_rfl, ?_⟩) (by assumption) ?_
  rotate_left 1
  · (intro wS hSw; have c0 := cell_still n0 hSw; have c1 := cell_still n1 hSw; have c2 := cell_still n2 hSw; have c3 := cell_still n3 hSw; have c4 := cell_still n4 hSw; go_simp; (try with_reducible rfl))
  try simp only [Act.put]
  refine wpAnyH_take (i := 4) (v := ?_) rfl (by kernel_rfl) (by kernel_rfl) (by kernel_rfl) (fun _ _ _ h => h) (Or.inl ⟨by kernel_rfl, ?_⟩) (by assumption) ?_
  rotate_left 1
  · (intro wS hSw; go_simp; (try with_reducible rfl))
  try simp only [Act.put]
  refine wpAnyH_take (i := 5) (v := ?_) rfl (by kernel_rfl) (by kernel_rfl) (by kernel_rfl) (fun _ _ _ h => h) (Or.inl ⟨by kernel_rfl, ?_⟩) (by assumption) ?_
  rotate_left 1
  · (intro wS hSw; have c0 := cell_still v2 hSw; go_simp; (try with_reducible rfl))
  try simp only [Act.put]
  refine wpAnyH_take (i := 6) (v := ?_) rfl (by kernel_rfl) (by kernel_rfl) (by kernel_rfl) (fun _ _ _ h => h) (Or.inl ⟨by kernel_rfl, ?_⟩) (by assumption) ?_
  rotate_left 1
  · (intro wS hSw; go_simp; (try with_reducible rfl))
  try simp only [Act.put]
  refine wpAnyH_ready (rs := [7]) (by kernel_rfl) (by simp) ?_
  refine AllReadyH.cons rfl (fun K hK => ?_) AllReadyH.nil
  go_simp
  refine (PM.out w0.drew (grown_drew G0.out)).mono ?_
  rintro e w1 ⟨⟨pa, pn, pc⟩, rfl, ip, hg1⟩
  have g1 : w0.grownBy w1 none := grown_trans (grown_drew (grown_refl _)) hg1
  refine hK.out _ _ g1 (fun hHeld => ?_)
  clear hK K
  try simp only [Act.put]
  refine wpAnyH_ready (rs := [8]) (by kernel_rfl) (by simp) ?_
  refine AllReadyH.cons rfl (fun K hK => ?_) AllReadyH.nil
  go_simp
  refine (mwhole_any ⟨pa, pn, pc⟩ P w1 ip HPL.out).mono ?_
  rintro e w2 ⟨⟨qa, qn, qc⟩, rfl, iq, hg2⟩
  have g2 : w0.grownBy w2 none := grown_trans g1 hg2
  refine hK.out _ _ g2 (fun hHeld => ?_)
  clear hK K
  try simp only [Act.put]
  refine wpAnyH_ready (rs := [9]) (by kernel_rfl) (by simp) ?_
  refine AllReadyH.cons rfl (fun K hK => ?_) AllReadyH.nil
  go_simp
  refine (AS.out w2 ⟨qa, qn, qc⟩ (grown_trans G0.out g2) iq).mono ?_
  rintro e w3 ⟨⟨ra, rn, rc⟩, rfl, ho3, hg3⟩
  have g3 : w0.grownBy w3 none := grown_trans g2 hg3
  rw [RE.out]
  refine hK.out _ _ g3 (fun hHeld => ?_)
  clear hK K
  refine wpAnyH_take (i := 10) (v := ?_) rfl (by kernel_rfl) (by kernel_rfl) (by kernel_rfl) (fun _ _ _ h => h) (Or.inl ⟨by kernel_rfl, ?_⟩) (by assumption) ?_
  rotate_left 1
  · (intro wS hSw; go_simp; (try with_reducible rfl))
  try simp only [Act.put]
  refine wpAnyH_take (i := 11) (v := ?_) rfl (by kernel_rfl) (by kernel_rfl) (by kernel_rfl) (fun _ _ _ h => h) (Or.inl ⟨by kernel_rfl, ?_⟩) (by assumption) ?_
  rotate_left 1
  · (intro wS hSw; go_simp; (try with_reducible rfl))
  try simp only [Act.put]
  refine wpAnyH_take (i := 12) (v := ?_) rfl (by kernel_rfl) (by kernel_rfl) (by kernel_rfl) (fun _ _ _ h => h) (Or.inl ⟨by kernel_rfl, ?_⟩) (by assumption) ?_
  rotate_left 1
  · (intro wS hSw; go_simp; (try with_reducible rfl))
  try simp only [Act.put]
  refine wpAnyH_take (i := 13) (v := ?_) rfl (by kernel_rfl) (by kernel_rfl) (by kernel_rfl) (fun _ _ _ h => h) (Or.inl ⟨by kernel_rfl, ?_⟩) (by assumption) ?_
  rotate_left 1
  · (intro wS hSw; go_simp; (try with_reducible rfl))
  try simp only [Act.put]
  refine wpAnyH_done (by kernel_rfl) ?_ _
  have HO : Hid (OwnsE w3 w.heap.size (.slice ra rn rc) (Vw.rdL 0 (Vw.pickL x P) (Vw.pickL (strd x) P) xs)) := ⟨ownsRow_base ho3.1 (Nat.le_trans G0.out.size g2.size), ho3.2⟩
  have HG := hide (grown_trans G0.out g3)
  clear ho3 hg3 g3 hg2 g2 hg1 g1 ip iq t0 t1 t2 n0 n1 n2 n3 n4 v0 v1 v2 hHeld
  go_simp
  go_wp2
  go_ret2
  exact ev_ok rfl HG.out ⟨⟨ra, rn, rc⟩, rfl, HO.out⟩

end Go.Proofs.YtaoplfpigjkgpaaGreatDoor

namespace Go.Proofs.YtaoplfpigjkgpaaGreatDoor

open Go.RowKit

def outT (t : Int) (x : List Int) (d : R (List Int)) : R (Int × List Int) :=
  (typP t).bind fun _ => (countP x).bind fun _ => d.bind fun d => (countP d).bind fun _ => .ok (t, d)

theorem valueT (v0 : Val) (x : List Int) (d : R (List Int)) : valueP 0 true [(v0, x)] (sameP (tysOf [(v0, x)])) d [] = outT v0.ty x d := by
  unfold valueP outT
  simp only [stopP, mustP, if_true, vinP, tysOf, List.map_cons, List.map_nil, thenP, bind_assocE]
  rfl

theorem vinT {v0 : Val} {x : List Int} (h : vinP [(v0, x)] = .ok ()) : (∀ s ∈ tysOf [(v0, x)], isTypeP s = true) ∧ cntE x = 0 := by
  simp only [vinP] at h
  obtain ⟨_, h1, h⟩ := bind_ok h
  obtain ⟨_, h2, h⟩ := bind_ok h
  refine ⟨fun s hs => ?_, count_ok h2⟩
  simp only [tysOf, List.map_cons, List.map_nil, List.mem_cons, List.not_mem_nil, or_false] at hs
  subst hs
  exact isType_of h1

theorem outT_inv {t ty : Int} {x l : List Int} {d : R (List Int)} (h : outT t x d = .ok (ty, l)) : ty = t ∧ cntE x = 0 ∧ d = .ok l ∧ cntE l = 0 := by
  unfold outT at h
  obtain ⟨_, -, h⟩ := bind_ok h
  obtain ⟨_, hx, h⟩ := bind_ok h
  obtain ⟨d', hd, h⟩ := bind_ok h
  obtain ⟨_, hc, h⟩ := bind_ok h
  cases h
  exact ⟨rfl, count_ok hx, hd, count_ok hc⟩

theorem one_valT {vs : List (Val × List Int)} {t0 : Int} {x : List Int} (h1 : vs.map (·.1.ty) = [t0]) (h2 : vs.map (·.2) = [x]) : ∃ v0, vs = [(v0, x)] ∧ v0.ty = t0 := by
  match vs, h1, h2 with
  | [(v0, a)], h1, h2 =>
    simp only [List.map_cons, List.map_nil, List.cons.injEq, and_true] at h1 h2
    subst h2
    exact ⟨v0, rfl, h1⟩

theorem nz_typT {t c : Int} (h : typP t = .error c) : c ≠ 0 := by
  unfold typP at h
  split at h
  · cases h
  · cases h; decide

theorem nz_cntT {x : List Int} {c : Int} (h : countP x = .error c) : c ≠ 0 := by
  unfold countP at h
  split at h
  · cases h
  · rename_i h1
    cases h
    exact h1

end Go.Proofs.YtaoplfpigjkgpaaGreatDoor
