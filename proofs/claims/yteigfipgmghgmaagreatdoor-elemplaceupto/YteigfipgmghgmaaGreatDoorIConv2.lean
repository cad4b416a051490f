/- Convolutions of two inputs, by the walk (mkIConv.py). -/
import Derived.Test.YteigfipgmghgmaaGreatDoorIConv
namespace Go.Proofs.YteigfipgmghgmaaGreatDoor
open Go.RowKit

set_option maxRecDepth 100000 in
set_option maxHeartbeats 16000000 in
theorem conv2_any (n : Nod) (A : At) (u : Sl) (p0 p1 : Val × List Int) (w : World) (hn : NodeOk w n A) (hv : ValsIn w u.v [p0, p1]) (hl4 : p0.2.length = 4) (hk4 : p1.2.length = 4) (hf : Fine p0.2) (hfk : Fine p1.2) : Calls Tryz.prog 125 #[nval n, .slice u.a u.n u.c] w (Ended w (convT A p0.2 p1.2) DimsQ) := by
  obtain ⟨xa, xc, e1, q1, q2, q3⟩ := hv.vals.form
  simp only [List.map_cons, List.map_nil, List.length_cons, List.length_nil, Nat.zero_add, Nat.reduceAdd] at e1 q1 q3
  obtain ⟨ua, un, uc⟩ := u
  simp only [Sl.v, Value.slice.injEq] at e1
  obtain ⟨rfl, rfl, rfl⟩ := e1
  obtain ⟨b, off, rfl⟩ := hv.vals.addr (k := 0) (by simp)
  obtain ⟨-, z0⟩ := hv.at 0 (by simp)
  obtain ⟨-, z1⟩ := hv.at 1 (by simp)
  rw [Nat.zero_mul, Nat.add_zero] at z0
  simp only [List.getElem_cons_zero, List.getElem_cons_succ, Nat.one_mul] at z0 z1
  have HX := hide (hv.dims p0 (by simp))
  have HK := hide (hv.dims p1 (by simp))
  obtain ⟨⟨vn0, vt0, ⟨d0a, d0n, d0c⟩⟩, x⟩ := p0
  obtain ⟨⟨vn1, vt1, ⟨d1a, d1n, d1c⟩⟩, k⟩ := p1
  simp only at z0 z1 HX HK  hl4 hk4 hf hfk ⊢
  obtain ⟨xx, xcc, ex, f1, f2, f3⟩ := HX.out.sl
  simp only [Sl.v, Value.slice.injEq] at ex
  obtain ⟨rfl, rfl, rfl⟩ := ex
  obtain ⟨kx, kcc, ek, g1, g2, g3⟩ := HK.out.sl
  simp only [Sl.v, Value.slice.injEq] at ek
  obtain ⟨rfl, rfl, rfl⟩ := ek
  have PB : Hid (∀ z ∈ x, 1 ≤ z ∧ z ≤ 65536) := fun z hz => ⟨hf.pos z hz, hf.le_each hz⟩
  have PK : Hid (∀ z ∈ k, 1 ≤ z ∧ z ≤ 65536) := fun z hz => ⟨hfk.pos z hz, hfk.le_each hz⟩
  obtain ⟨xb, xo, rfl, hcx⟩ := HX.out.get (k := 0) (by omega)
  obtain ⟨kb, ko, rfl, hck⟩ := HK.out.get (k := 0) (by omega)
  have X0 := hide (hcx 0 (by omega))
  have X1 := hide (hcx 1 (by omega))
  have K0 := hide (hck 0 (by omega))
  have K1 := hide (hck 1 (by omega))
  have K2 := hide (hck 2 (by omega))
  have K3 := hide (hck 3 (by omega))
  have bx0 := PB.out _ (getD_mem (l := x) (k := 0) (by omega))
  have bx1 := PB.out _ (getD_mem (l := x) (k := 1) (by omega))
  have bk0 := PK.out _ (getD_mem (l := k) (k := 0) (by omega))
  have bk1 := PK.out _ (getD_mem (l := k) (k := 1) (by omega))
  have bk2 := PK.out _ (getD_mem (l := k) (k := 2) (by omega))
  have bk3 := PK.out _ (getD_mem (l := k) (k := 3) (by omega))
  rw [Nat.add_zero] at X0 K0
  obtain ⟨x0, hx0⟩ : ∃ q, q = x.getD 0 0 := ⟨_, rfl⟩
  obtain ⟨x1, hx1⟩ : ∃ q, q = x.getD 1 0 := ⟨_, rfl⟩
  obtain ⟨k0, hk0⟩ : ∃ q, q = k.getD 0 0 := ⟨_, rfl⟩
  obtain ⟨k1, hk1⟩ : ∃ q, q = k.getD 1 0 := ⟨_, rfl⟩
  obtain ⟨k2, hk2⟩ : ∃ q, q = k.getD 2 0 := ⟨_, rfl⟩
  obtain ⟨k3, hk3⟩ : ∃ q, q = k.getD 3 0 := ⟨_, rfl⟩
  obtain ⟨G, hG⟩ : ∃ q, q = A.int ⟨#[103, 114, 111, 117, 112]⟩ 1 := ⟨_, rfl⟩
  have GB := hn.int ⟨#[103, 114, 111, 117, 112]⟩ 1 (by decide)
  have E0 : Hid (convT A x k = (mustP (decide (1 ≤ G))).bind (fun _ => (mustP (decide (x1 % G = 0 ∧ k0 % G = 0 ∧ x1 / G = k1))).bind (fun _ => (placesP A x [k2, k3] 0).bind (fun a => (placesP A x [k2, k3] 1).bind (fun b => .ok [x0, k0, a, b]))))) := by show _ = _; unfold convT; rw [hx0, hx1, hk0, hk1, hk2, hk3, hG]
  rw [← hx0] at X0 bx0
  rw [← hx1] at X1 bx1
  rw [← hk0] at K0 bk0
  rw [← hk1] at K1 bk1
  rw [← hk2] at K2 bk2
  rw [← hk3] at K3 bk3
  rw [← hG] at GB
  have Z0 := hide z0
  have Z1 := hide z1
  have bx : ((x.length : Int) == 4) = true := by simp [hl4]
  have bk : ((k.length : Int) == 4) = true := by simp [hk4]
  have HL4 := hide hl4
  have HK4 := hide hk4
  have l0 : (0 : Int) < (x.length : Int) := by omega
  have l1 : (1 : Int) < (x.length : Int) := by omega
  have l2 : 0 < x.length := by omega
  have l3 : 1 < x.length := by omega
  have j0 : (0 : Int) < (k.length : Int) := by omega
  have j1 : (1 : Int) < (k.length : Int) := by omega
  have j2 : (2 : Int) < (k.length : Int) := by omega
  have j3 : (3 : Int) < (k.length : Int) := by omega
  have j4 : 0 < k.length := by omega
  have j5 : 1 < k.length := by omega
  have j6 : 2 < k.length := by omega
  have j7 : 3 < k.length := by omega
  have bG1 := GB.1
  have bG2 := GB.2
  clear hv z0 z1 hl4 hk4 hx0 hx1 hk0 hk1 hk2 hk3 hcx hck hf hfk GB
  have NI := hide (fun (wx : World) (hg : w.grownBy wx none) => nint_any n A ⟨#[103, 114, 111, 117, 112]⟩ 1 wx (hn.more hg))
  rw [← hG] at NI
  clear hG
  have NK := hide hn
  obtain ⟨op, nam, ⟨ia, il, ic⟩, out, ⟨ao, al, cap⟩⟩ := n
  unfold nval
  simp only
  obtain ⟨w0, hw0⟩ : ∃ w0, w0 = w.alloc (.cells #[.string op, .string nam, .slice ia il ic, .string out, .slice ao al cap] 25) := ⟨_, rfl⟩
  have g0 : Hid (w.grownBy w0 none) := by show w.grownBy w0 none; rw [hw0]; exact grown_new _ _
  have hb0 := heap_alloc_new w (.cells #[.string op, .string nam, .slice ia il ic, .string out, .slice ao al cap] 25)
  rw [← hw0] at hb0
  have BX : Hid (∀ wx, w0.grownBy wx none → wx.heap[w.heap.size]? = some (.cells #[.string op, .string nam, .slice ia il ic, .string out, .slice ao al cap] 25 (0, 0))) := fun wx hg => box_kept hb0 hg
  clear hb0 hn
  have PL := hide (fun (wx : World) (hg : w.grownBy wx none) (v : Sl) (K : List Int) (lng : Nat) (hK : IsInts wx v.v K) (hlK : K.length = 2) (bK : ∀ z ∈ K, 1 ≤ z ∧ z ≤ 65536) (ha : lng < 2) => places_any ⟨op, nam, ⟨ia, il, ic⟩, out, ⟨ao, al, cap⟩⟩ A ⟨some ⟨xb, xo, none⟩, x.length, d0c⟩ v x K lng wx (NK.out.more hg) (HX.out.more hg) hK HL4.out hlK PB.out bK ha)
  unfold nval at NI PL
  simp only at NI PL
  go_enter Tryz.func125, Tryz.ntmps125
  go_wp2_with fail
  rw [← hw0]
  clear hw0
  have y0 := cell_still Z0.out g0.out
  have y1 := cell_still Z1.out g0.out
  have i1 : (1 : Int) < 2 := by decide
  have i2 : (2 : Int) < 3 := by decide
  go_quiet (fail)
  have gq : w0.grownBy (w0.drewN nq) none := ⟨rfl, rfl, rfl, Nat.le_refl _, fun k hk hn => rfl⟩
  obtain ⟨wq, hwq⟩ : ∃ wq, wq = w0.drewN nq := ⟨_, rfl⟩
  rw [← hwq] at gq ⊢
  have GQ0 := hide gq
  have GQ := hide (grown_trans g0.out gq)
  clear hwq y0 y1 gq
  obtain ⟨wp, hwp⟩ : ∃ wp, wp = wq := ⟨_, rfl⟩
  rw [← hwp] at GQ GQ0 ⊢
  have GP0 := GQ0
  have GP := GQ
  clear hwp
  obtain ⟨n0, n1, n2, n3, n4⟩ := nod_cells (n := ⟨op, nam, ⟨ia, il, ic⟩, out, ⟨ao, al, cap⟩⟩) (BX.out wp (GP0.out))
  go_wp2_with (first | (go_at_call 71; refine (must_yes _).mono ?_; rintro e w' ⟨rfl, rfl⟩) | fail)
  refine (NI.out wp GP.out).mono ?_
  rintro e w1 ⟨rfl, hg1⟩
  go_wp2_with fail
  have G1 := hide (grown_trans GP.out hg1)
  have G10 := hide (grown_trans GP0.out hg1)
  clear hg1 NI n0 n1 n2 n3 n4
  by_cases hG1 : 1 ≤ G
  · have E1 : Hid (convT A x k = (mustP (decide (x1 % G = 0 ∧ k0 % G = 0 ∧ x1 / G = k1))).bind (fun _ => (placesP A x [k2, k3] 0).bind (fun a => (placesP A x [k2, k3] 1).bind (fun b => .ok [x0, k0, a, b])))) := by show _ = _; rw [E0.out]; simp [mustP, hG1]; rfl
    have y1 := cell_still X1.out G1.out
    rw [show decide (1 ≤ G) = true from decide_eq_true hG1]
    refine (must_yes _).mono ?_
    rintro e w' ⟨rfl, rfl⟩
    go_wp2_with fail
    clear y1
    have t1 : x1.tmod G = x1 % G := Int.tmod_eq_emod_of_nonneg (by omega)
    have t2 : k0.tmod G = k0 % G := Int.tmod_eq_emod_of_nonneg (by omega)
    have t3 : x1.tdiv G = x1 / G := Int.tdiv_eq_ediv_of_nonneg (by omega)
    have q1 : 0 ≤ x1 / G := Int.ediv_nonneg (by omega) (by omega)
    have q2 : x1 / G ≤ x1 := Int.ediv_le_self _ (by omega)
    have g0' : ¬ G = 0 := by omega
    have wQ : IntKind.i64.wrap (x1 / G) = x1 / G := wrap_smallI (by omega) (by omega)
    have yk0 := cell_still K0.out G1.out
    have yk1 := cell_still K1.out G1.out
    obtain ⟨M1, hM1⟩ : ∃ q, q = x1 % G := ⟨_, rfl⟩
    obtain ⟨M2, hM2⟩ : ∃ q, q = k0 % G := ⟨_, rfl⟩
    obtain ⟨Q, hQ⟩ : ∃ q, q = x1 / G := ⟨_, rfl⟩
    rw [← hM1] at t1 E1
    rw [← hM2] at t2 E1
    rw [← hQ] at t3 E1 q1 q2 wQ
    clear hM1 hM2 hQ hG1
    by_cases c1 : M1 = 0
    · have d1 : (M1 == 0) = true := by simp [c1]
      by_cases c2 : M2 = 0
      · have d2 : (M2 == 0) = true := by simp [c2]
        by_cases c3 : Q = k1
        · have d3 : (Q == k1) = true := by simp [c3]
          have E4 : Hid (convT A x k = (placesP A x [k2, k3] 0).bind (fun a => (placesP A x [k2, k3] 1).bind (fun b => .ok [x0, k0, a, b]))) := by show _ = _; rw [E1.out]; simp [mustP, c1, c2, c3]; rfl
          clear c1 c2 c3
          go_quiet (first | (go_at_call 71; refine (must_yes _).mono ?_; rintro e w' ⟨rfl, rfl⟩; exact ⟨rfl, _, rfl⟩) | fail)
          have gq : w1.grownBy (w1.drewN nq) none := ⟨rfl, rfl, rfl, Nat.le_refl _, fun k hk hn => rfl⟩
          obtain ⟨w2, hw2⟩ : ∃ w2, w2 = w1.drewN nq := ⟨_, rfl⟩
          rw [← hw2] at gq ⊢
          have G2 := hide (grown_trans G1.out gq)
          have G20 := hide (grown_trans G10.out gq)
          clear hw2 gq yk0 yk1 t1 t2 t3 q1 q2 d1 d2 d3 wQ
          have yk2 := cell_still K2.out G2.out
          have yk3 := cell_still K3.out G2.out
          go_wp2_with fail
          go_region_held3 (fun w' => w'.cell? ⟨kb, ko + 2, none⟩ = some (.int .i64 k2) ∧ w'.cell? ⟨kb, ko + 3, none⟩ = some (.int .i64 k3)) (go_keep) (fail)
          obtain ⟨w4, hw4⟩ : ∃ w4, w4 = (w2.alloc (.cells #[.int .i64 k2, .int .i64 k3] 2)).drew := ⟨_, rfl⟩
          have G4 : Hid (w.grownBy w4 none) := by show w.grownBy w4 none; rw [hw4]; exact grown_drew (grown_trans G2.out (grown_new _ _))
          have G04 : Hid (w0.grownBy w4 none) := by show w0.grownBy w4 none; rw [hw4]; exact grown_drew (grown_trans G20.out (grown_new _ _))
          have HKI : Hid (IsInts w4 (.slice (some ⟨w2.heap.size, 0, none⟩) 2 2) [k2, k3]) := by show IsInts w4 _ _; rw [hw4]; exact (ints_new w2 [k2, k3] 2 (by simp) (fun y hy => by simp at hy; omega)).more (grown_drew (grown_refl _))
          rw [← hw4]
          clear hw4 yk2 yk3
          have y0 := cell_still X0.out G4.out
          have y1 := cell_still K0.out G4.out
          have L0 := hide (fun (wx : World) (hg : w4.grownBy wx none) => PL.out wx (grown_trans G4.out hg) ⟨some ⟨w2.heap.size, 0, none⟩, 2, 2⟩ [k2, k3] 0 (HKI.out.more hg) rfl (fun z hz => by simp at hz; omega) (by decide))
          have L1 := hide (fun (wx : World) (hg : w4.grownBy wx none) => PL.out wx (grown_trans G4.out hg) ⟨some ⟨w2.heap.size, 0, none⟩, 2, 2⟩ [k2, k3] 1 (HKI.out.more hg) rfl (fun z hz => by simp at hz; omega) (by decide))
          simp only [Int.natCast_zero, Int.natCast_one] at L0 L1
          obtain ⟨n0, n1, n2, n3, n4⟩ := nod_cells (n := ⟨op, nam, ⟨ia, il, ic⟩, out, ⟨ao, al, cap⟩⟩) (BX.out w4 (G04.out))
          clear PL
          go_wp2_with fail
          cases hA0 : placesP A x [k2, k3] 0 with
          | error c =>
            rw [hA0] at L0
            have E5 : Hid (convT A x k = .error c) := by show _ = _; rw [E4.out, hA0]; rfl
            clear hA0
            refine wp_region_held_drew (S := (fun w' => w'.cell? ⟨w.heap.size, 0, none⟩ = some (.string op) ∧ w'.cell? ⟨w.heap.size, 1, none⟩ = some (.string nam) ∧ w'.cell? ⟨w.heap.size, 2, none⟩ = some (.slice ia il ic) ∧ w'.cell? ⟨w.heap.size, 3, none⟩ = some (.string out) ∧ w'.cell? ⟨w.heap.size, 4, none⟩ = some (.slice ao al cap) ∧ w'.cell? ⟨xb, xo, none⟩ = some (.int .i64 x0) ∧ w'.cell? ⟨kb, ko, none⟩ = some (.int .i64 k0))) (by kernel_rfl) (by go_keep) (fun hHeld => ?_)
            refine wpAnyH_take (i := 0) (v := ?_) rfl (by kernel_rfl) (by kernel_rfl) (by kernel_rfl) (fun _ _ _ h => h) (Or.inl ⟨by rfl, ?_⟩) (by assumption) ?_
            rotate_left 1
            · (intro w hSw; (try dsimp only at hSw); go_simp; (try with_reducible rfl))
            try simp only [Act.put]
            refine wpAnyH_take (i := 1) (v := ?_) rfl (by kernel_rfl) (by kernel_rfl) (by kernel_rfl) (fun _ _ _ h => h) (Or.inl ⟨by rfl, ?_⟩) (by assumption) ?_
            rotate_left 1
            · (intro w hSw; (try dsimp only at hSw); go_simp; (try with_reducible rfl))
            try simp only [Act.put]
            refine wpAnyH_take (i := 2) (v := ?_) rfl (by kernel_rfl) (by kernel_rfl) (by kernel_rfl) (fun _ _ _ h => h) (Or.inl ⟨by rfl, ?_⟩) (by assumption) ?_
            rotate_left 1
            · (intro w hSw; (try dsimp only at hSw); go_simp; (try with_reducible rfl))
            try simp only [Act.put]
            refine wpAnyH_take (i := 3) (v := ?_) rfl (by kernel_rfl) (by kernel_rfl) (by kernel_rfl) (fun _ _ _ h => h) (Or.inl ⟨by rfl, ?_⟩) (by assumption) ?_
            rotate_left 1
            · (intro w hSw; (try dsimp only at hSw); go_simp; (try with_reducible rfl))
            try simp only [Act.put]
            refine wpAnyH_take (i := 4) (v := ?_) rfl (by kernel_rfl) (by kernel_rfl) (by kernel_rfl) (fun _ _ _ h => h) (Or.inl ⟨by rfl, ?_⟩) (by assumption) ?_
            rotate_left 1
            · (intro w hSw; (try dsimp only at hSw); go_simp; (try with_reducible rfl))
            try simp only [Act.put]
            refine wpAnyH_take (i := 5) (v := ?_) rfl (by kernel_rfl) (by kernel_rfl) (by kernel_rfl) (fun _ _ _ h => h) (Or.inl ⟨by rfl, ?_⟩) (by assumption) ?_
            rotate_left 1
            · (intro w hSw; (try dsimp only at hSw); go_simp; (try with_reducible rfl))
            try simp only [Act.put]
            refine wpAnyH_take (i := 6) (v := ?_) rfl (by kernel_rfl) (by kernel_rfl) (by kernel_rfl) (fun _ _ _ h => h) (Or.inl ⟨by rfl, ?_⟩) (by assumption) ?_
            rotate_left 1
            · (intro w hSw; (try dsimp only at hSw); go_simp; (try with_reducible rfl))
            try simp only [Act.put]
            refine wpAnyH_take (i := 7) (v := ?_) rfl (by kernel_rfl) (by kernel_rfl) (by kernel_rfl) (fun _ _ _ h => h) (Or.inl ⟨by rfl, ?_⟩) (by assumption) ?_
            rotate_left 1
            · (intro w hSw; (try dsimp only at hSw); go_simp; (try with_reducible rfl))
            try simp only [Act.put]
            refine wpAnyH_take (i := 8) (v := ?_) rfl (by kernel_rfl) (by kernel_rfl) (by kernel_rfl) (fun _ _ _ h => h) (Or.inl ⟨by rfl, ?_⟩) (by assumption) ?_
            rotate_left 1
            · (intro w hSw; (try dsimp only at hSw); go_simp; (try with_reducible rfl))
            try simp only [Act.put]
            refine wpAnyH_take (i := 10) (v := ?_) rfl (by kernel_rfl) (by kernel_rfl) (by kernel_rfl) (fun _ _ _ h => h) (Or.inl ⟨by rfl, ?_⟩) (by assumption) ?_
            rotate_left 1
            · (intro w hSw; (try dsimp only at hSw); go_simp; (try with_reducible rfl))
            try simp only [Act.put]
            refine wpAnyH_take (i := 11) (v := ?_) rfl (by kernel_rfl) (by kernel_rfl) (by kernel_rfl) (fun _ _ _ h => h) (Or.inl ⟨by rfl, ?_⟩) (by assumption) ?_
            rotate_left 1
            · (intro w hSw; (try dsimp only at hSw); go_simp; (try with_reducible rfl))
            try simp only [Act.put]
            refine wpAnyH_take (i := 12) (v := ?_) rfl (by kernel_rfl) (by kernel_rfl) (by kernel_rfl) (fun _ _ _ h => h) (Or.inl ⟨by rfl, ?_⟩) (by assumption) ?_
            rotate_left 1
            · (intro w hSw; (try dsimp only at hSw); go_simp; (try with_reducible rfl))
            try simp only [Act.put]
            refine wpAnyH_ready (rs := [9]) (by kernel_rfl) (by simp) ?_
            refine AllReadyH.cons rfl (fun K hK => ?_) ?_
            · skip
              go_simp
              refine (L0.out _ (grown_drew (grown_refl _))).mono ?_
              rintro e wy ⟨hg, rfl⟩
              exact ⟨rfl, ended_err E5.out (grown_trans (grown_drew G4.out) hg)⟩
            exact AllReadyH.nil
          | ok pa =>
            rw [hA0] at L0
            cases hA1 : placesP A x [k2, k3] 1 with
            | error c =>
              rw [hA1] at L1
              have E6 : Hid (convT A x k = .error c) := by show _ = _; rw [E4.out, hA0, hA1]; rfl
              clear hA0 hA1
              refine wp_region_held_drew (S := (fun w' => w'.cell? ⟨w.heap.size, 0, none⟩ = some (.string op) ∧ w'.cell? ⟨w.heap.size, 1, none⟩ = some (.string nam) ∧ w'.cell? ⟨w.heap.size, 2, none⟩ = some (.slice ia il ic) ∧ w'.cell? ⟨w.heap.size, 3, none⟩ = some (.string out) ∧ w'.cell? ⟨w.heap.size, 4, none⟩ = some (.slice ao al cap) ∧ w'.cell? ⟨xb, xo, none⟩ = some (.int .i64 x0) ∧ w'.cell? ⟨kb, ko, none⟩ = some (.int .i64 k0))) (by kernel_rfl) (by go_keep) (fun hHeld => ?_)
              refine wpAnyH_take (i := 0) (v := ?_) rfl (by kernel_rfl) (by kernel_rfl) (by kernel_rfl) (fun _ _ _ h => h) (Or.inl ⟨by rfl, ?_⟩) (by assumption) ?_
              rotate_left 1
              · (intro w hSw; (try dsimp only at hSw); go_simp; (try with_reducible rfl))
              try simp only [Act.put]
              refine wpAnyH_take (i := 1) (v := ?_) rfl (by kernel_rfl) (by kernel_rfl) (by kernel_rfl) (fun _ _ _ h => h) (Or.inl ⟨by rfl, ?_⟩) (by assumption) ?_
              rotate_left 1
              · (intro w hSw; (try dsimp only at hSw); go_simp; (try with_reducible rfl))
              try simp only [Act.put]
              refine wpAnyH_take (i := 2) (v := ?_) rfl (by kernel_rfl) (by kernel_rfl) (by kernel_rfl) (fun _ _ _ h => h) (Or.inl ⟨by rfl, ?_⟩) (by assumption) ?_
              rotate_left 1
              · (intro w hSw; (try dsimp only at hSw); go_simp; (try with_reducible rfl))
              try simp only [Act.put]
              refine wpAnyH_take (i := 3) (v := ?_) rfl (by kernel_rfl) (by kernel_rfl) (by kernel_rfl) (fun _ _ _ h => h) (Or.inl ⟨by rfl, ?_⟩) (by assumption) ?_
              rotate_left 1
              · (intro w hSw; (try dsimp only at hSw); go_simp; (try with_reducible rfl))
              try simp only [Act.put]
              refine wpAnyH_take (i := 4) (v := ?_) rfl (by kernel_rfl) (by kernel_rfl) (by kernel_rfl) (fun _ _ _ h => h) (Or.inl ⟨by rfl, ?_⟩) (by assumption) ?_
              rotate_left 1
              · (intro w hSw; (try dsimp only at hSw); go_simp; (try with_reducible rfl))
              try simp only [Act.put]
              refine wpAnyH_take (i := 5) (v := ?_) rfl (by kernel_rfl) (by kernel_rfl) (by kernel_rfl) (fun _ _ _ h => h) (Or.inl ⟨by rfl, ?_⟩) (by assumption) ?_
              rotate_left 1
              · (intro w hSw; (try dsimp only at hSw); go_simp; (try with_reducible rfl))
              try simp only [Act.put]
              refine wpAnyH_take (i := 6) (v := ?_) rfl (by kernel_rfl) (by kernel_rfl) (by kernel_rfl) (fun _ _ _ h => h) (Or.inl ⟨by rfl, ?_⟩) (by assumption) ?_
              rotate_left 1
              · (intro w hSw; (try dsimp only at hSw); go_simp; (try with_reducible rfl))
              try simp only [Act.put]
              refine wpAnyH_take (i := 7) (v := ?_) rfl (by kernel_rfl) (by kernel_rfl) (by kernel_rfl) (fun _ _ _ h => h) (Or.inl ⟨by rfl, ?_⟩) (by assumption) ?_
              rotate_left 1
              · (intro w hSw; (try dsimp only at hSw); go_simp; (try with_reducible rfl))
              try simp only [Act.put]
              refine wpAnyH_take (i := 8) (v := ?_) rfl (by kernel_rfl) (by kernel_rfl) (by kernel_rfl) (fun _ _ _ h => h) (Or.inl ⟨by rfl, ?_⟩) (by assumption) ?_
              rotate_left 1
              · (intro w hSw; (try dsimp only at hSw); go_simp; (try with_reducible rfl))
              try simp only [Act.put]
              refine wpAnyH_take (i := 10) (v := ?_) rfl (by kernel_rfl) (by kernel_rfl) (by kernel_rfl) (fun _ _ _ h => h) (Or.inl ⟨by rfl, ?_⟩) (by assumption) ?_
              rotate_left 1
              · (intro w hSw; (try dsimp only at hSw); go_simp; (try with_reducible rfl))
              try simp only [Act.put]
              refine wpAnyH_take (i := 11) (v := ?_) rfl (by kernel_rfl) (by kernel_rfl) (by kernel_rfl) (fun _ _ _ h => h) (Or.inl ⟨by rfl, ?_⟩) (by assumption) ?_
              rotate_left 1
              · (intro w hSw; (try dsimp only at hSw); go_simp; (try with_reducible rfl))
              try simp only [Act.put]
              refine wpAnyH_take (i := 12) (v := ?_) rfl (by kernel_rfl) (by kernel_rfl) (by kernel_rfl) (fun _ _ _ h => h) (Or.inl ⟨by rfl, ?_⟩) (by assumption) ?_
              rotate_left 1
              · (intro w hSw; (try dsimp only at hSw); go_simp; (try with_reducible rfl))
              try simp only [Act.put]
              refine wpAnyH_ready (rs := [9]) (by kernel_rfl) (by simp) ?_
              refine AllReadyH.cons rfl (fun K hK => ?_) ?_
              · skip
                go_simp
                refine (L0.out _ (grown_drew (grown_refl _))).mono ?_
                rintro e w5 ⟨hg5, v, rfl, rfl, hb1, hb2⟩
                have g5 := grown_trans (grown_drew (grown_refl w4)) hg5
                have g5w := grown_trans G04.out g5
                obtain ⟨n0, n1, n2, n3, n4⟩ := nod_cells (n := ⟨op, nam, ⟨ia, il, ic⟩, out, ⟨ao, al, cap⟩⟩) (BX.out w5 (g5w))
                have y0 := cell_still X0.out (grown_trans g0.out g5w)
                have y1 := cell_still K0.out (grown_trans g0.out g5w)
                try dsimp only
                refine hK.out _ _ (by first | assumption | go_keep) (fun hHeld => ?_)
                clear hK K
                try simp only [Act.put]
                refine wpAnyH_ready (rs := [13]) (by kernel_rfl) (by simp) ?_
                refine AllReadyH.cons rfl (fun K hK => ?_) ?_
                · skip
                  go_simp
                  refine (L1.out _ g5).mono ?_
                  rintro e wy ⟨hg, rfl⟩
                  exact ⟨rfl, ended_err E6.out (grown_trans (grown_trans G4.out g5) hg)⟩
                exact AllReadyH.nil
              exact AllReadyH.nil
            | ok pb =>
              rw [hA1] at L1
              have E7 : Hid (convT A x k = .ok [x0, k0, pa, pb]) := by show _ = _; rw [E4.out, hA0, hA1]; rfl
              clear hA0 hA1
              refine wp_region_held_drew (S := (fun w' => w'.cell? ⟨w.heap.size, 0, none⟩ = some (.string op) ∧ w'.cell? ⟨w.heap.size, 1, none⟩ = some (.string nam) ∧ w'.cell? ⟨w.heap.size, 2, none⟩ = some (.slice ia il ic) ∧ w'.cell? ⟨w.heap.size, 3, none⟩ = some (.string out) ∧ w'.cell? ⟨w.heap.size, 4, none⟩ = some (.slice ao al cap) ∧ w'.cell? ⟨xb, xo, none⟩ = some (.int .i64 x0) ∧ w'.cell? ⟨kb, ko, none⟩ = some (.int .i64 k0))) (by kernel_rfl) (by go_keep) (fun hHeld => ?_)
              refine wpAnyH_take (i := 0) (v := ?_) rfl (by kernel_rfl) (by kernel_rfl) (by kernel_rfl) (fun _ _ _ h => h) (Or.inl ⟨by rfl, ?_⟩) (by assumption) ?_
              rotate_left 1
              · (intro w hSw; (try dsimp only at hSw); go_simp; (try with_reducible rfl))
              try simp only [Act.put]
              refine wpAnyH_take (i := 1) (v := ?_) rfl (by kernel_rfl) (by kernel_rfl) (by kernel_rfl) (fun _ _ _ h => h) (Or.inl ⟨by rfl, ?_⟩) (by assumption) ?_
              rotate_left 1
              · (intro w hSw; (try dsimp only at hSw); go_simp; (try with_reducible rfl))
              try simp only [Act.put]
              refine wpAnyH_take (i := 2) (v := ?_) rfl (by kernel_rfl) (by kernel_rfl) (by kernel_rfl) (fun _ _ _ h => h) (Or.inl ⟨by rfl, ?_⟩) (by assumption) ?_
              rotate_left 1
              · (intro w hSw; (try dsimp only at hSw); go_simp; (try with_reducible rfl))
              try simp only [Act.put]
              refine wpAnyH_take (i := 3) (v := ?_) rfl (by kernel_rfl) (by kernel_rfl) (by kernel_rfl) (fun _ _ _ h => h) (Or.inl ⟨by rfl, ?_⟩) (by assumption) ?_
              rotate_left 1
              · (intro w hSw; (try dsimp only at hSw); go_simp; (try with_reducible rfl))
              try simp only [Act.put]
              refine wpAnyH_take (i := 4) (v := ?_) rfl (by kernel_rfl) (by kernel_rfl) (by kernel_rfl) (fun _ _ _ h => h) (Or.inl ⟨by rfl, ?_⟩) (by assumption) ?_
              rotate_left 1
              · (intro w hSw; (try dsimp only at hSw); go_simp; (try with_reducible rfl))
              try simp only [Act.put]
              refine wpAnyH_take (i := 5) (v := ?_) rfl (by kernel_rfl) (by kernel_rfl) (by kernel_rfl) (fun _ _ _ h => h) (Or.inl ⟨by rfl, ?_⟩) (by assumption) ?_
              rotate_left 1
              · (intro w hSw; (try dsimp only at hSw); go_simp; (try with_reducible rfl))
              try simp only [Act.put]
              refine wpAnyH_take (i := 6) (v := ?_) rfl (by kernel_rfl) (by kernel_rfl) (by kernel_rfl) (fun _ _ _ h => h) (Or.inl ⟨by rfl, ?_⟩) (by assumption) ?_
              rotate_left 1
              · (intro w hSw; (try dsimp only at hSw); go_simp; (try with_reducible rfl))
              try simp only [Act.put]
              refine wpAnyH_take (i := 7) (v := ?_) rfl (by kernel_rfl) (by kernel_rfl) (by kernel_rfl) (fun _ _ _ h => h) (Or.inl ⟨by rfl, ?_⟩) (by assumption) ?_
              rotate_left 1
              · (intro w hSw; (try dsimp only at hSw); go_simp; (try with_reducible rfl))
              try simp only [Act.put]
              refine wpAnyH_take (i := 8) (v := ?_) rfl (by kernel_rfl) (by kernel_rfl) (by kernel_rfl) (fun _ _ _ h => h) (Or.inl ⟨by rfl, ?_⟩) (by assumption) ?_
              rotate_left 1
              · (intro w hSw; (try dsimp only at hSw); go_simp; (try with_reducible rfl))
              try simp only [Act.put]
              refine wpAnyH_take (i := 10) (v := ?_) rfl (by kernel_rfl) (by kernel_rfl) (by kernel_rfl) (fun _ _ _ h => h) (Or.inl ⟨by rfl, ?_⟩) (by assumption) ?_
              rotate_left 1
              · (intro w hSw; (try dsimp only at hSw); go_simp; (try with_reducible rfl))
              try simp only [Act.put]
              refine wpAnyH_take (i := 11) (v := ?_) rfl (by kernel_rfl) (by kernel_rfl) (by kernel_rfl) (fun _ _ _ h => h) (Or.inl ⟨by rfl, ?_⟩) (by assumption) ?_
              rotate_left 1
              · (intro w hSw; (try dsimp only at hSw); go_simp; (try with_reducible rfl))
              try simp only [Act.put]
              refine wpAnyH_take (i := 12) (v := ?_) rfl (by kernel_rfl) (by kernel_rfl) (by kernel_rfl) (fun _ _ _ h => h) (Or.inl ⟨by rfl, ?_⟩) (by assumption) ?_
              rotate_left 1
              · (intro w hSw; (try dsimp only at hSw); go_simp; (try with_reducible rfl))
              try simp only [Act.put]
              refine wpAnyH_ready (rs := [9]) (by kernel_rfl) (by simp) ?_
              refine AllReadyH.cons rfl (fun K hK => ?_) ?_
              · skip
                go_simp
                refine (L0.out _ (grown_drew (grown_refl _))).mono ?_
                rintro e w5 ⟨hg5, v, rfl, rfl, hb1, hb2⟩
                have g5 := grown_trans (grown_drew (grown_refl w4)) hg5
                have g5w := grown_trans G04.out g5
                obtain ⟨n0, n1, n2, n3, n4⟩ := nod_cells (n := ⟨op, nam, ⟨ia, il, ic⟩, out, ⟨ao, al, cap⟩⟩) (BX.out w5 (g5w))
                have y0 := cell_still X0.out (grown_trans g0.out g5w)
                have y1 := cell_still K0.out (grown_trans g0.out g5w)
                try dsimp only
                refine hK.out _ _ (by first | assumption | go_keep) (fun hHeld => ?_)
                clear hK K
                try simp only [Act.put]
                refine wpAnyH_ready (rs := [13]) (by kernel_rfl) (by simp) ?_
                refine AllReadyH.cons rfl (fun K hK => ?_) ?_
                · skip
                  go_simp
                  refine (L1.out _ g5).mono ?_
                  rintro e w6 ⟨hg6, v, rfl, rfl, hc1, hc2⟩
                  have g6 := grown_trans g5 hg6
                  have g6w := grown_trans G04.out g6
                  obtain ⟨n0, n1, n2, n3, n4⟩ := nod_cells (n := ⟨op, nam, ⟨ia, il, ic⟩, out, ⟨ao, al, cap⟩⟩) (BX.out w6 (g6w))
                  have y0 := cell_still X0.out (grown_trans g0.out g6w)
                  have y1 := cell_still K0.out (grown_trans g0.out g6w)
                  try dsimp only
                  refine hK.out _ _ (by first | assumption | go_keep) (fun hHeld => ?_)
                  clear hK K
                  try simp only [Act.put]
                  refine wpAnyH_ready (rs := [14]) (by kernel_rfl) (by simp) ?_
                  refine AllReadyH.cons rfl (fun K hK => ?_) ?_
                  · skip
                    go_simp
                    have y0 := cell_still y0 (grown_new w6 (.cells #[.int .i64 x0, .int .i64 k0, .int .i64 pa, .int .i64 pb] 3))
                    have y1 := cell_still y1 (grown_new w6 (.cells #[.int .i64 x0, .int .i64 k0, .int .i64 pa, .int .i64 pb] 3))
                    obtain ⟨n0, n1, n2, n3, n4⟩ := nod_cells (n := ⟨op, nam, ⟨ia, il, ic⟩, out, ⟨ao, al, cap⟩⟩) (BX.out _ (grown_trans g6w (grown_new w6 (.cells #[.int .i64 x0, .int .i64 k0, .int .i64 pa, .int .i64 pb] 3))))
                    refine hK.out _ _ (by first | assumption | go_keep) (fun hHeld => ?_)
                    clear hK K
                    try simp only [Act.put]
                    refine wpAnyH_take (i := 15) (v := ?_) rfl (by kernel_rfl) (by kernel_rfl) (by kernel_rfl) (fun _ _ _ h => h) (Or.inl ⟨by rfl, ?_⟩) (by assumption) ?_
                    rotate_left 1
                    · (intro w hSw; (try dsimp only at hSw); go_simp; (try with_reducible rfl))
                    try simp only [Act.put]
                    refine wpAnyH_done (by kernel_rfl) ?_ _
                    try go_simp
                    go_wp2
                    go_ret
                    exact ended_ok E7.out (grown_trans (grown_trans G4.out g6) (grown_new _ _)) ⟨⟨some ⟨w6.heap.size, 0, none⟩, 4, 4⟩, rfl, ints_new w6 [x0, k0, pa, pb] 3 (by simp) (fun y hy => by simp at hy; omega)⟩
                  exact AllReadyH.nil
                exact AllReadyH.nil
              exact AllReadyH.nil
        · have d3 : (Q == k1) = false := by simpa using c3
          have E4 : Hid (convT A x k = .error 4) := by show _ = _; rw [E1.out]; simp [mustP, c1, c2, c3]; rfl
          clear c1 c2 c3
          refine wp_region_held_drew (S := (fun w' => w'.cell? ⟨kb, ko, none⟩ = some (.int .i64 k0) ∧ w'.cell? ⟨kb, ko + 1, none⟩ = some (.int .i64 k1))) (by kernel_rfl) (by go_keep) (fun hHeld => ?_)
          refine wpAnyH_take (i := 0) (v := ?_) rfl (by kernel_rfl) (by kernel_rfl) (by kernel_rfl) (fun _ _ _ h => h) (Or.inl ⟨by kernel_rfl, ?_⟩) (by assumption) ?_
          rotate_left 1
          · (intro w hSw; (try dsimp only at hSw); go_simp; (try with_reducible rfl))
          try simp only [Act.put]
          refine wpAnyH_take (i := 1) (v := ?_) rfl (by kernel_rfl) (by kernel_rfl) (by kernel_rfl) (fun _ _ _ h => h) (Or.inl ⟨by kernel_rfl, ?_⟩) (by assumption) ?_
          rotate_left 1
          · (intro w hSw; (try dsimp only at hSw); go_simp; (try with_reducible rfl))
          try simp only [Act.put]
          refine wpAnyH_take (i := 2) (v := .int .i64 M1) rfl (by kernel_rfl) (by kernel_rfl) (by kernel_rfl) (fun _ _ _ h => h) (Or.inl ⟨by kernel_rfl, ?_⟩) (by assumption) ?_
          · (intro w hSw; (try dsimp only at hSw); go_simp; (try simp only [t1]))
          try simp only [Act.put]
          refine wpAnyH_take (i := 3) (v := .bool true) rfl (by kernel_rfl) (by kernel_rfl) (by kernel_rfl) (fun _ _ _ h => h) (Or.inl ⟨by kernel_rfl, ?_⟩) (by assumption) ?_
          · (intro w hSw; (try dsimp only at hSw); go_simp; (try simp only [d1]))
          try simp only [Act.put]
          refine wpAnyH_take (i := 4) (v := ?_) rfl (by kernel_rfl) (by kernel_rfl) (by kernel_rfl) (fun _ _ _ h => h) (Or.inl ⟨by kernel_rfl, ?_⟩) (by assumption) ?_
          rotate_left 1
          · (intro w hSw; (try dsimp only at hSw); go_simp; (try with_reducible rfl))
          try simp only [Act.put]
          refine wpAnyH_take (i := 5) (v := ?_) rfl (by kernel_rfl) (by kernel_rfl) (by kernel_rfl) (fun _ _ _ h => h) (Or.inl ⟨by kernel_rfl, ?_⟩) (by assumption) ?_
          rotate_left 1
          · (intro w hSw; (try dsimp only at hSw); go_simp; (try with_reducible rfl))
          try simp only [Act.put]
          refine wpAnyH_take (i := 6) (v := ?_) rfl (by kernel_rfl) (by kernel_rfl) (by kernel_rfl) (fun _ _ _ h => h) (Or.inl ⟨by kernel_rfl, ?_⟩) (by assumption) ?_
          rotate_left 1
          · (intro w hSw; (try dsimp only at hSw); go_simp; (try with_reducible rfl))
          try simp only [Act.put]
          refine wpAnyH_take (i := 7) (v := ?_) rfl (by kernel_rfl) (by kernel_rfl) (by kernel_rfl) (fun _ _ _ h => h) (Or.inl ⟨by kernel_rfl, ?_⟩) (by assumption) ?_
          rotate_left 1
          · (intro w hSw; (try dsimp only at hSw); go_simp; (try with_reducible rfl))
          try simp only [Act.put]
          refine wpAnyH_take (i := 8) (v := ?_) rfl (by kernel_rfl) (by kernel_rfl) (by kernel_rfl) (fun _ _ _ h => h) (Or.inl ⟨by kernel_rfl, ?_⟩) (by assumption) ?_
          rotate_left 1
          · (intro w hSw; (try dsimp only at hSw); go_simp; (try with_reducible rfl))
          try simp only [Act.put]
          refine wpAnyH_take (i := 9) (v := .int .i64 M2) rfl (by kernel_rfl) (by kernel_rfl) (by kernel_rfl) (fun _ _ _ h => h) (Or.inl ⟨by kernel_rfl, ?_⟩) (by assumption) ?_
          · (intro w hSw; (try dsimp only at hSw); go_simp; (try simp only [t2]))
          try simp only [Act.put]
          refine wpAnyH_take (i := 10) (v := .bool true) rfl (by kernel_rfl) (by kernel_rfl) (by kernel_rfl) (fun _ _ _ h => h) (Or.inl ⟨by kernel_rfl, ?_⟩) (by assumption) ?_
          · (intro w hSw; (try dsimp only at hSw); go_simp; (try simp only [d2]))
          try simp only [Act.put]
          refine wpAnyH_take (i := 11) (v := ?_) rfl (by kernel_rfl) (by kernel_rfl) (by kernel_rfl) (fun _ _ _ h => h) (Or.inl ⟨by kernel_rfl, ?_⟩) (by assumption) ?_
          rotate_left 1
          · (intro w hSw; (try dsimp only at hSw); go_simp; (try with_reducible rfl))
          try simp only [Act.put]
          refine wpAnyH_take (i := 12) (v := ?_) rfl (by kernel_rfl) (by kernel_rfl) (by kernel_rfl) (fun _ _ _ h => h) (Or.inl ⟨by kernel_rfl, ?_⟩) (by assumption) ?_
          rotate_left 1
          · (intro w hSw; (try dsimp only at hSw); go_simp; (try with_reducible rfl))
          try simp only [Act.put]
          refine wpAnyH_take (i := 13) (v := ?_) rfl (by kernel_rfl) (by kernel_rfl) (by kernel_rfl) (fun _ _ _ h => h) (Or.inl ⟨by kernel_rfl, ?_⟩) (by assumption) ?_
          rotate_left 1
          · (intro w hSw; (try dsimp only at hSw); go_simp; (try with_reducible rfl))
          try simp only [Act.put]
          refine wpAnyH_take (i := 14) (v := ?_) rfl (by kernel_rfl) (by kernel_rfl) (by kernel_rfl) (fun _ _ _ h => h) (Or.inl ⟨by kernel_rfl, ?_⟩) (by assumption) ?_
          rotate_left 1
          · (intro w hSw; (try dsimp only at hSw); go_simp; (try with_reducible rfl))
          try simp only [Act.put]
          refine wpAnyH_take (i := 15) (v := .int .i64 Q) rfl (by kernel_rfl) (by kernel_rfl) (by kernel_rfl) (fun _ _ _ h => h) (Or.inl ⟨by kernel_rfl, ?_⟩) (by assumption) ?_
          · (intro w hSw; (try dsimp only at hSw); go_simp; (try simp only [t3, wQ]))
          try simp only [Act.put]
          refine wpAnyH_take (i := 16) (v := ?_) rfl (by kernel_rfl) (by kernel_rfl) (by kernel_rfl) (fun _ _ _ h => h) (Or.inl ⟨by kernel_rfl, ?_⟩) (by assumption) ?_
          rotate_left 1
          · (intro w hSw; (try dsimp only at hSw); go_simp; (try with_reducible rfl))
          try simp only [Act.put]
          refine wpAnyH_take (i := 17) (v := ?_) rfl (by kernel_rfl) (by kernel_rfl) (by kernel_rfl) (fun _ _ _ h => h) (Or.inl ⟨by kernel_rfl, ?_⟩) (by assumption) ?_
          rotate_left 1
          · (intro w hSw; (try dsimp only at hSw); go_simp; (try with_reducible rfl))
          try simp only [Act.put]
          refine wpAnyH_take (i := 18) (v := ?_) rfl (by kernel_rfl) (by kernel_rfl) (by kernel_rfl) (fun _ _ _ h => h) (Or.inl ⟨by kernel_rfl, ?_⟩) (by assumption) ?_
          rotate_left 1
          · (intro w hSw; (try dsimp only at hSw); go_simp; (try with_reducible rfl))
          try simp only [Act.put]
          refine wpAnyH_take (i := 19) (v := .bool false) rfl (by kernel_rfl) (by kernel_rfl) (by kernel_rfl) (fun _ _ _ h => h) (Or.inl ⟨by kernel_rfl, ?_⟩) (by assumption) ?_
          · (intro w hSw; (try dsimp only at hSw); go_simp; (try simp only [d3]))
          try simp only [Act.put]
          refine wpAnyH_take (i := 20) (v := ?_) rfl (by kernel_rfl) (by kernel_rfl) (by kernel_rfl) (fun _ _ _ h => h) (Or.inl ⟨by kernel_rfl, ?_⟩) (by assumption) ?_
          rotate_left 1
          · (intro w hSw; (try dsimp only at hSw); go_simp; (try with_reducible rfl))
          try simp only [Act.put]
          refine wpAnyH_ready (rs := [21]) (by kernel_rfl) (by simp) ?_
          refine AllReadyH.cons rfl (fun K hK => ?_) ?_
          · skip
            go_simp
            refine (must_no _).mono ?_
            rintro e wy ⟨rfl, rfl⟩
            exact ⟨rfl, ended_err E4.out (grown_drew G1.out)⟩
          exact AllReadyH.nil
      · have d2 : (M2 == 0) = false := by simpa using c2
        have E4 : Hid (convT A x k = .error 4) := by show _ = _; rw [E1.out]; simp [mustP, c1, c2]; rfl
        clear c1 c2
        refine wp_region_held_drew (S := (fun w' => w'.cell? ⟨kb, ko, none⟩ = some (.int .i64 k0) ∧ w'.cell? ⟨kb, ko + 1, none⟩ = some (.int .i64 k1))) (by kernel_rfl) (by go_keep) (fun hHeld => ?_)
        refine wpAnyH_take (i := 0) (v := ?_) rfl (by kernel_rfl) (by kernel_rfl) (by kernel_rfl) (fun _ _ _ h => h) (Or.inl ⟨by kernel_rfl, ?_⟩) (by assumption) ?_
        rotate_left 1
        · (intro w hSw; (try dsimp only at hSw); go_simp; (try with_reducible rfl))
        try simp only [Act.put]
        refine wpAnyH_take (i := 1) (v := ?_) rfl (by kernel_rfl) (by kernel_rfl) (by kernel_rfl) (fun _ _ _ h => h) (Or.inl ⟨by kernel_rfl, ?_⟩) (by assumption) ?_
        rotate_left 1
        · (intro w hSw; (try dsimp only at hSw); go_simp; (try with_reducible rfl))
        try simp only [Act.put]
        refine wpAnyH_take (i := 2) (v := .int .i64 M1) rfl (by kernel_rfl) (by kernel_rfl) (by kernel_rfl) (fun _ _ _ h => h) (Or.inl ⟨by kernel_rfl, ?_⟩) (by assumption) ?_
        · (intro w hSw; (try dsimp only at hSw); go_simp; (try simp only [t1]))
        try simp only [Act.put]
        refine wpAnyH_take (i := 3) (v := .bool true) rfl (by kernel_rfl) (by kernel_rfl) (by kernel_rfl) (fun _ _ _ h => h) (Or.inl ⟨by kernel_rfl, ?_⟩) (by assumption) ?_
        · (intro w hSw; (try dsimp only at hSw); go_simp; (try simp only [d1]))
        try simp only [Act.put]
        refine wpAnyH_take (i := 4) (v := ?_) rfl (by kernel_rfl) (by kernel_rfl) (by kernel_rfl) (fun _ _ _ h => h) (Or.inl ⟨by kernel_rfl, ?_⟩) (by assumption) ?_
        rotate_left 1
        · (intro w hSw; (try dsimp only at hSw); go_simp; (try with_reducible rfl))
        try simp only [Act.put]
        refine wpAnyH_take (i := 5) (v := ?_) rfl (by kernel_rfl) (by kernel_rfl) (by kernel_rfl) (fun _ _ _ h => h) (Or.inl ⟨by kernel_rfl, ?_⟩) (by assumption) ?_
        rotate_left 1
        · (intro w hSw; (try dsimp only at hSw); go_simp; (try with_reducible rfl))
        try simp only [Act.put]
        refine wpAnyH_take (i := 6) (v := ?_) rfl (by kernel_rfl) (by kernel_rfl) (by kernel_rfl) (fun _ _ _ h => h) (Or.inl ⟨by kernel_rfl, ?_⟩) (by assumption) ?_
        rotate_left 1
        · (intro w hSw; (try dsimp only at hSw); go_simp; (try with_reducible rfl))
        try simp only [Act.put]
        refine wpAnyH_take (i := 7) (v := ?_) rfl (by kernel_rfl) (by kernel_rfl) (by kernel_rfl) (fun _ _ _ h => h) (Or.inl ⟨by kernel_rfl, ?_⟩) (by assumption) ?_
        rotate_left 1
        · (intro w hSw; (try dsimp only at hSw); go_simp; (try with_reducible rfl))
        try simp only [Act.put]
        refine wpAnyH_take (i := 8) (v := ?_) rfl (by kernel_rfl) (by kernel_rfl) (by kernel_rfl) (fun _ _ _ h => h) (Or.inl ⟨by kernel_rfl, ?_⟩) (by assumption) ?_
        rotate_left 1
        · (intro w hSw; (try dsimp only at hSw); go_simp; (try with_reducible rfl))
        try simp only [Act.put]
        refine wpAnyH_take (i := 9) (v := .int .i64 M2) rfl (by kernel_rfl) (by kernel_rfl) (by kernel_rfl) (fun _ _ _ h => h) (Or.inl ⟨by kernel_rfl, ?_⟩) (by assumption) ?_
        · (intro w hSw; (try dsimp only at hSw); go_simp; (try simp only [t2]))
        try simp only [Act.put]
        refine wpAnyH_take (i := 10) (v := .bool false) rfl (by kernel_rfl) (by kernel_rfl) (by kernel_rfl) (fun _ _ _ h => h) (Or.inl ⟨by kernel_rfl, ?_⟩) (by assumption) ?_
        · (intro w hSw; (try dsimp only at hSw); go_simp; (try simp only [d2]))
        try simp only [Act.put]
        refine wpAnyH_take (i := 11) (v := ?_) rfl (by kernel_rfl) (by kernel_rfl) (by kernel_rfl) (fun _ _ _ h => h) (Or.inl ⟨by kernel_rfl, ?_⟩) (by assumption) ?_
        rotate_left 1
        · (intro w hSw; (try dsimp only at hSw); go_simp; (try with_reducible rfl))
        try simp only [Act.put]
        refine wpAnyH_take (i := 12) (v := ?_) rfl (by kernel_rfl) (by kernel_rfl) (by kernel_rfl) (fun _ _ _ h => h) (Or.inl ⟨by kernel_rfl, ?_⟩) (by assumption) ?_
        rotate_left 1
        · (intro w hSw; (try dsimp only at hSw); go_simp; (try with_reducible rfl))
        try simp only [Act.put]
        refine wpAnyH_take (i := 13) (v := undef) rfl (by kernel_rfl) (by kernel_rfl) (by kernel_rfl) (fun _ _ _ h => h) (Or.inr ⟨by kernel_rfl, rfl⟩) (by assumption) ?_
        try simp only [Act.put]
        refine wpAnyH_take (i := 14) (v := undef) rfl (by kernel_rfl) (by kernel_rfl) (by kernel_rfl) (fun _ _ _ h => h) (Or.inr ⟨by kernel_rfl, rfl⟩) (by assumption) ?_
        try simp only [Act.put]
        refine wpAnyH_take (i := 15) (v := undef) rfl (by kernel_rfl) (by kernel_rfl) (by kernel_rfl) (fun _ _ _ h => h) (Or.inr ⟨by kernel_rfl, rfl⟩) (by assumption) ?_
        try simp only [Act.put]
        refine wpAnyH_take (i := 16) (v := undef) rfl (by kernel_rfl) (by kernel_rfl) (by kernel_rfl) (fun _ _ _ h => h) (Or.inr ⟨by kernel_rfl, rfl⟩) (by assumption) ?_
        try simp only [Act.put]
        refine wpAnyH_take (i := 17) (v := undef) rfl (by kernel_rfl) (by kernel_rfl) (by kernel_rfl) (fun _ _ _ h => h) (Or.inr ⟨by kernel_rfl, rfl⟩) (by assumption) ?_
        try simp only [Act.put]
        refine wpAnyH_take (i := 18) (v := undef) rfl (by kernel_rfl) (by kernel_rfl) (by kernel_rfl) (fun _ _ _ h => h) (Or.inr ⟨by kernel_rfl, rfl⟩) (by assumption) ?_
        try simp only [Act.put]
        refine wpAnyH_take (i := 19) (v := undef) rfl (by kernel_rfl) (by kernel_rfl) (by kernel_rfl) (fun _ _ _ h => h) (Or.inr ⟨by kernel_rfl, rfl⟩) (by assumption) ?_
        try simp only [Act.put]
        refine wpAnyH_take (i := 20) (v := ?_) rfl (by kernel_rfl) (by kernel_rfl) (by kernel_rfl) (fun _ _ _ h => h) (Or.inl ⟨by kernel_rfl, ?_⟩) (by assumption) ?_
        rotate_left 1
        · (intro w hSw; (try dsimp only at hSw); go_simp; (try with_reducible rfl))
        try simp only [Act.put]
        refine wpAnyH_ready (rs := [21]) (by kernel_rfl) (by simp) ?_
        refine AllReadyH.cons rfl (fun K hK => ?_) ?_
        · skip
          go_simp
          refine (must_no _).mono ?_
          rintro e wy ⟨rfl, rfl⟩
          exact ⟨rfl, ended_err E4.out (grown_drew G1.out)⟩
        exact AllReadyH.nil
    · have d1 : (M1 == 0) = false := by simpa using c1
      have E4 : Hid (convT A x k = .error 4) := by show _ = _; rw [E1.out]; simp [mustP, c1]; rfl
      clear c1
      refine wp_region_held_drew (S := (fun w' => w'.cell? ⟨kb, ko, none⟩ = some (.int .i64 k0) ∧ w'.cell? ⟨kb, ko + 1, none⟩ = some (.int .i64 k1))) (by kernel_rfl) (by go_keep) (fun hHeld => ?_)
      refine wpAnyH_take (i := 0) (v := ?_) rfl (by kernel_rfl) (by kernel_rfl) (by kernel_rfl) (fun _ _ _ h => h) (Or.inl ⟨by kernel_rfl, ?_⟩) (by assumption) ?_
      rotate_left 1
      · (intro w hSw; (try dsimp only at hSw); go_simp; (try with_reducible rfl))
      try simp only [Act.put]
      refine wpAnyH_take (i := 1) (v := ?_) rfl (by kernel_rfl) (by kernel_rfl) (by kernel_rfl) (fun _ _ _ h => h) (Or.inl ⟨by kernel_rfl, ?_⟩) (by assumption) ?_
      rotate_left 1
      · (intro w hSw; (try dsimp only at hSw); go_simp; (try with_reducible rfl))
      try simp only [Act.put]
      refine wpAnyH_take (i := 2) (v := .int .i64 M1) rfl (by kernel_rfl) (by kernel_rfl) (by kernel_rfl) (fun _ _ _ h => h) (Or.inl ⟨by kernel_rfl, ?_⟩) (by assumption) ?_
      · (intro w hSw; (try dsimp only at hSw); go_simp; (try simp only [t1]))
      try simp only [Act.put]
      refine wpAnyH_take (i := 3) (v := .bool false) rfl (by kernel_rfl) (by kernel_rfl) (by kernel_rfl) (fun _ _ _ h => h) (Or.inl ⟨by kernel_rfl, ?_⟩) (by assumption) ?_
      · (intro w hSw; (try dsimp only at hSw); go_simp; (try simp only [d1]))
      try simp only [Act.put]
      refine wpAnyH_take (i := 4) (v := ?_) rfl (by kernel_rfl) (by kernel_rfl) (by kernel_rfl) (fun _ _ _ h => h) (Or.inl ⟨by kernel_rfl, ?_⟩) (by assumption) ?_
      rotate_left 1
      · (intro w hSw; (try dsimp only at hSw); go_simp; (try with_reducible rfl))
      try simp only [Act.put]
      refine wpAnyH_take (i := 5) (v := undef) rfl (by kernel_rfl) (by kernel_rfl) (by kernel_rfl) (fun _ _ _ h => h) (Or.inr ⟨by kernel_rfl, rfl⟩) (by assumption) ?_
      try simp only [Act.put]
      refine wpAnyH_take (i := 6) (v := undef) rfl (by kernel_rfl) (by kernel_rfl) (by kernel_rfl) (fun _ _ _ h => h) (Or.inr ⟨by kernel_rfl, rfl⟩) (by assumption) ?_
      try simp only [Act.put]
      refine wpAnyH_take (i := 7) (v := undef) rfl (by kernel_rfl) (by kernel_rfl) (by kernel_rfl) (fun _ _ _ h => h) (Or.inr ⟨by kernel_rfl, rfl⟩) (by assumption) ?_
      try simp only [Act.put]
      refine wpAnyH_take (i := 8) (v := undef) rfl (by kernel_rfl) (by kernel_rfl) (by kernel_rfl) (fun _ _ _ h => h) (Or.inr ⟨by kernel_rfl, rfl⟩) (by assumption) ?_
      try simp only [Act.put]
      refine wpAnyH_take (i := 9) (v := undef) rfl (by kernel_rfl) (by kernel_rfl) (by kernel_rfl) (fun _ _ _ h => h) (Or.inr ⟨by kernel_rfl, rfl⟩) (by assumption) ?_
      try simp only [Act.put]
      refine wpAnyH_take (i := 10) (v := undef) rfl (by kernel_rfl) (by kernel_rfl) (by kernel_rfl) (fun _ _ _ h => h) (Or.inr ⟨by kernel_rfl, rfl⟩) (by assumption) ?_
      try simp only [Act.put]
      refine wpAnyH_take (i := 11) (v := ?_) rfl (by kernel_rfl) (by kernel_rfl) (by kernel_rfl) (fun _ _ _ h => h) (Or.inl ⟨by kernel_rfl, ?_⟩) (by assumption) ?_
      rotate_left 1
      · (intro w hSw; (try dsimp only at hSw); go_simp; (try with_reducible rfl))
      try simp only [Act.put]
      refine wpAnyH_take (i := 12) (v := ?_) rfl (by kernel_rfl) (by kernel_rfl) (by kernel_rfl) (fun _ _ _ h => h) (Or.inl ⟨by kernel_rfl, ?_⟩) (by assumption) ?_
      rotate_left 1
      · (intro w hSw; (try dsimp only at hSw); go_simp; (try with_reducible rfl))
      try simp only [Act.put]
      refine wpAnyH_take (i := 13) (v := undef) rfl (by kernel_rfl) (by kernel_rfl) (by kernel_rfl) (fun _ _ _ h => h) (Or.inr ⟨by kernel_rfl, rfl⟩) (by assumption) ?_
      try simp only [Act.put]
      refine wpAnyH_take (i := 14) (v := undef) rfl (by kernel_rfl) (by kernel_rfl) (by kernel_rfl) (fun _ _ _ h => h) (Or.inr ⟨by kernel_rfl, rfl⟩) (by assumption) ?_
      try simp only [Act.put]
      refine wpAnyH_take (i := 15) (v := undef) rfl (by kernel_rfl) (by kernel_rfl) (by kernel_rfl) (fun _ _ _ h => h) (Or.inr ⟨by kernel_rfl, rfl⟩) (by assumption) ?_
      try simp only [Act.put]
      refine wpAnyH_take (i := 16) (v := undef) rfl (by kernel_rfl) (by kernel_rfl) (by kernel_rfl) (fun _ _ _ h => h) (Or.inr ⟨by kernel_rfl, rfl⟩) (by assumption) ?_
      try simp only [Act.put]
      refine wpAnyH_take (i := 17) (v := undef) rfl (by kernel_rfl) (by kernel_rfl) (by kernel_rfl) (fun _ _ _ h => h) (Or.inr ⟨by kernel_rfl, rfl⟩) (by assumption) ?_
      try simp only [Act.put]
      refine wpAnyH_take (i := 18) (v := undef) rfl (by kernel_rfl) (by kernel_rfl) (by kernel_rfl) (fun _ _ _ h => h) (Or.inr ⟨by kernel_rfl, rfl⟩) (by assumption) ?_
      try simp only [Act.put]
      refine wpAnyH_take (i := 19) (v := undef) rfl (by kernel_rfl) (by kernel_rfl) (by kernel_rfl) (fun _ _ _ h => h) (Or.inr ⟨by kernel_rfl, rfl⟩) (by assumption) ?_
      try simp only [Act.put]
      refine wpAnyH_take (i := 20) (v := ?_) rfl (by kernel_rfl) (by kernel_rfl) (by kernel_rfl) (fun _ _ _ h => h) (Or.inl ⟨by kernel_rfl, ?_⟩) (by assumption) ?_
      rotate_left 1
      · (intro w hSw; (try dsimp only at hSw); go_simp; (try with_reducible rfl))
      try simp only [Act.put]
      refine wpAnyH_ready (rs := [21]) (by kernel_rfl) (by simp) ?_
      refine AllReadyH.cons rfl (fun K hK => ?_) ?_
      · skip
        go_simp
        refine (must_no _).mono ?_
        rintro e wy ⟨rfl, rfl⟩
        exact ⟨rfl, ended_err E4.out (grown_drew G1.out)⟩
      exact AllReadyH.nil
  · have E1 : Hid (convT A x k = .error 4) := by show _ = _; rw [E0.out]; simp [mustP, hG1]; rfl
    have bG : decide (1 ≤ G) = false := by simpa using hG1
    clear hG1
    rw [bG]
    refine (must_no _).mono ?_
    rintro e w' ⟨rfl, rfl⟩
    exact ⟨rfl, ended_err E1.out G1.out⟩
end Go.Proofs.YteigfipgmghgmaaGreatDoor
