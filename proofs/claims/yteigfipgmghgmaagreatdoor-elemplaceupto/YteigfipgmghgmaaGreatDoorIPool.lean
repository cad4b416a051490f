/- Pools, by the walk (mkIPool.py). -/
import Derived.Test.YteigfipgmghgmaaGreatDoorIWin
import Derived.Deep.RegionHeld3
namespace Go.Proofs.YteigfipgmghgmaaGreatDoor
open Go.RowKit

/-- What a pool makes, once the kernel and the pads are known. -/
def poolP (A : At) (x K pa : List Int) : R (List Int) := (mustP ((List.range 4).all (fun i => decide (pa.getD i 0 < K.getD (i % 2) 0)))).bind (fun _ => (placesP A x K 0).bind (fun a => (placesP A x K 1).bind (fun b => .ok [x.getD 0 0, x.getD 1 0, a, b])))

theorem pads_bad {pa K : List Int} {k : Nat} (hk : k < 4) (h : ¬ pa.getD k 0 < K.getD (k % 2) 0) : (List.range 4).all (fun i => decide (pa.getD i 0 < K.getD (i % 2) 0)) = false := by
  rw [List.all_eq_false]
  exact ⟨k, List.mem_range.2 hk, by simpa using h⟩

theorem pads_good {pa K : List Int} (h : ∀ t, t < 4 → pa.getD t 0 < K.getD (t % 2) 0) : (List.range 4).all (fun i => decide (pa.getD i 0 < K.getD (i % 2) 0)) = true := by
  rw [List.all_eq_true]
  intro t ht
  simpa using h t (List.mem_range.1 ht)

set_option maxRecDepth 100000 in
set_option maxHeartbeats 4000000 in
theorem pooled_any (n : Nod) (A : At) (u : Sl) (x : List Int) (w : World) (hn : NodeOk w n A) (hx : IsInts w u.v x) (hf : Fine x) : Calls Tryz.prog 126 #[nval n, .slice u.a u.n u.c] w (Ended w (pooledP A x) DimsQ) := by
  obtain ⟨ux, uc, eu, c1, c2, c3⟩ := hx.sl
  obtain ⟨ua, un, uu⟩ := u
  simp only [Sl.v, Value.slice.injEq] at eu
  obtain ⟨rfl, rfl, rfl⟩ := eu
  have HX := hide hx
  have PB : Hid (∀ z ∈ x, 1 ≤ z ∧ z ≤ 65536) := fun z hz => ⟨hf.pos z hz, hf.le_each hz⟩
  have E0 : Hid (pooledP A x = (mustP (decide (x.length = 4))).bind (fun _ => (withinP (A.ints ⟨#[107, 101, 114, 110, 101, 108, 95, 115, 104, 97, 112, 101]⟩ []) 2 1).bind (fun K => (padsP A).bind (fun pa => poolP A x K pa)))) := rfl
  clear hx hf
  have NK := hide hn
  obtain ⟨op, nam, ⟨ia, il, ic⟩, out, ⟨ao, al, cap⟩⟩ := n
  unfold nval
  simp only
  obtain ⟨w0, hw0⟩ : ∃ w0, w0 = w.alloc (.cells #[.string op, .string nam, .slice ia il ic, .string out, .slice ao al cap] 25) := ⟨_, rfl⟩
  have g0 : Hid (w.grownBy w0 none) := by show w.grownBy w0 none; rw [hw0]; exact grown_new _ _
  have hb0 := heap_alloc_new w (.cells #[.string op, .string nam, .slice ia il ic, .string out, .slice ao al cap] 25)
  rw [← hw0] at hb0
  have BX : Hid (∀ wx, w0.grownBy wx none → wx.heap[w.heap.size]? = some (.cells #[.string op, .string nam, .slice ia il ic, .string out, .slice ao al cap] 25 (0, 0))) := fun wx hg => box_kept hb0 hg
  clear hb0 hn
  have NI := hide (nints_any ⟨op, nam, ⟨ia, il, ic⟩, out, ⟨ao, al, cap⟩⟩ A ⟨#[107, 101, 114, 110, 101, 108, 95, 115, 104, 97, 112, 101]⟩ ⟨none, 0, 0⟩ [] w0 (NK.out.more g0.out) ⟨none, 0, rfl, Nat.le_refl _, by decide, by simp, fun _ => ⟨rfl, rfl⟩, fun h => (by simp at h), fun z hz => (by simp at hz)⟩)
  have PA := hide (fun (wx : World) (hg : w.grownBy wx none) => padsof_any ⟨op, nam, ⟨ia, il, ic⟩, out, ⟨ao, al, cap⟩⟩ A wx (NK.out.more hg))
  have PL := hide (fun (wx : World) (hg : w.grownBy wx none) (v : Sl) (K : List Int) (lng : Nat) (hK : IsInts wx v.v K) (hl : x.length = 4) (hlK : K.length = 2) (bK : ∀ z ∈ K, 1 ≤ z ∧ z ≤ 65536) (ha : lng < 2) => places_any ⟨op, nam, ⟨ia, il, ic⟩, out, ⟨ao, al, cap⟩⟩ A ⟨ua, x.length, uu⟩ v x K lng wx (NK.out.more hg) (HX.out.more hg) hK hl hlK PB.out bK ha)
  unfold nval at NI PA PL
  simp only at NI PA PL
  by_cases hl : x.length = 4
  · have b0 : ((x.length : Int) == 4) = true := by simp [hl]
    have E1 : Hid (pooledP A x = (withinP (A.ints ⟨#[107, 101, 114, 110, 101, 108, 95, 115, 104, 97, 112, 101]⟩ []) 2 1).bind (fun K => (padsP A).bind (fun pa => poolP A x K pa))) := by show _ = _; rw [E0.out]; simp [mustP, hl]; rfl
    have HL := hide hl
    clear hl
    go_enter Tryz.func126, Tryz.ntmps126
    go_wp2_with (first | (go_at_call 71; refine (must_yes _).mono ?_; rintro e w' ⟨rfl, rfl⟩) | fail)
    rw [← hw0]
    clear hw0 b0
    refine NI.out.mono ?_
    rintro e w1 ⟨s, rfl, hs, hg1⟩
    have G1 := hide hg1
    have WD := hide (within_any s _ 2 1 w1 hs (by decide))
    have HS := hide hs
    clear hs hg1 NI
    cases hk : withinP (A.ints ⟨#[107, 101, 114, 110, 101, 108, 95, 115, 104, 97, 112, 101]⟩ []) 2 1 with
    | error c =>
      rw [hk] at WD
      have E : Hid (pooledP A x = .error c) := by show _ = _; rw [E1.out, hk]; rfl
      clear hk
      go_wp2_with (first | (go_at_call 155; refine WD.out.mono ?_; rintro e w' ⟨hg, rfl⟩) | fail)
      exact ⟨rfl, ended_err E.out (grown_trans g0.out (grown_trans G1.out hg))⟩
    | ok K =>
      rw [hk] at WD E1
      obtain ⟨e1, kl, kbd⟩ := withinP_ok hk
      rw [← e1] at HS
      have SL : s.n = 2 := by
        obtain ⟨a', c', e, -⟩ := HS.out.sl
        have : s.n = K.length := by simp only [Sl.v, Value.slice.injEq] at e; exact e.2.1
        rw [this, kl]
      obtain ⟨sa, sn, sc⟩ := s
      obtain ⟨kb, ko, esa, hck⟩ := HS.out.get (k := 0) (by omega)
      simp only at esa SL
      subst esa SL
      simp only [Sl.v] at WD HS ⊢
      have E2 : Hid (pooledP A x = (padsP A).bind (fun pa => poolP A x K pa)) := E1.out
      have KL := hide kl
      have KB := hide kbd
      have KC := hide hck
      obtain ⟨n0, n1, n2, n3, n4⟩ := nod_cells (n := ⟨op, nam, ⟨ia, il, ic⟩, out, ⟨ao, al, cap⟩⟩) (BX.out w1 (G1.out))
      clear hk e1 kl kbd hck E1
      go_wp2_with (first | (go_at_call 155; refine WD.out.mono ?_; rintro e w' ⟨-, v, rfl, rfl, -, rfl⟩) | fail)
      have P3 := hide (PA.out w1 (grown_trans g0.out G1.out))
      clear WD PA n0 n1 n2 n3 n4
      cases hk : padsP A with
      | error c =>
        rw [hk] at P3
        have E : Hid (pooledP A x = .error c) := by show _ = _; rw [E2.out, hk]; rfl
        clear hk
        refine P3.out.mono ?_
        rintro e w' ⟨hg, rfl⟩
        exact ⟨rfl, ended_err E.out (grown_trans g0.out (grown_trans G1.out hg))⟩
      | ok pa =>
        rw [hk] at P3 E2
        have E3 : Hid (pooledP A x = poolP A x K pa) := E2.out
        clear hk E2
        refine P3.out.mono ?_
        rintro e w4 ⟨hg3, v, rfl, ⟨pa1, pn, pc⟩, rfl, hp, hpl, hpb⟩
        obtain ⟨pb', po, epa, hpc⟩ := hp.get (k := 0) (by omega)
        have pcb : 4 ≤ pc ∧ pc ≤ 9223372036854775807 := by
          obtain ⟨a', c', e, f1, f2, -⟩ := hp.sl
          simp only [Sl.v, Value.slice.injEq] at e
          rw [hpl] at f1
          rw [e.2.2]
          exact ⟨f1, f2⟩
        have SL : pn = 4 := by
          obtain ⟨a', c', e, -⟩ := hp.sl
          simp only [Sl.v, Value.slice.injEq] at e
          rw [← hpl]; exact e.2.1
        simp only at epa
        subst epa SL
        obtain ⟨pc1, pc2⟩ := pcb
        have G04 := hide (grown_trans G1.out hg3)
        have G4 := hide (grown_trans g0.out (grown_trans G1.out hg3))
        have KC4 : Hid (∀ i, i < K.length → w4.cell? ⟨kb, ko + i, none⟩ = some (.int .i64 (K.getD i 0))) := fun i hi => cell_still (KC.out i hi) hg3
        have HPC := hide hpc
        have HPL := hide hpl
        have HK4 := hide (HS.out.more hg3)
        clear hp hpl hpb hpc hg3 P3 KC HS
        simp only [Sl.v]
        go_wp2
        go_loopw [18] (fun i wr => w4 = wr ∧ ∃ k : Nat, k ≤ 4 ∧ i = .int .i64 k ∧ ∀ t, t < k → pa.getD t 0 < K.getD (t % 2) 0) (fun i _ => 4 - (intOf i).toNat)
        case atStart => exact ⟨rfl, 0, Nat.zero_le _, rfl, fun t h => absurd h (by omega)⟩
        case round =>
          obtain ⟨hw, k, hk, rfl, hall⟩ := hrel
          subst hw
          have HA := hide hall
          clear hall
          by_cases hkl : k < 4
          · have p1 := HPC.out k (by have := HPL.out; omega)
            obtain ⟨m, hm⟩ : ∃ m : Nat, m = k % 2 := ⟨_, rfl⟩
            have q1 := KC4.out m (by have := KL.out; omega)
            have hmod : (k : Int).tmod 2 = (m : Int) := by rw [hm, Int.tmod_eq_emod_of_nonneg (by omega)]; omega
            have hm2 : m < 2 := by omega
            have i1 : (k : Int) < 4 := by omega
            have i2 : (m : Int) < 2 := by omega
            obtain ⟨P, hP⟩ : ∃ P, P = pa.getD k 0 := ⟨_, rfl⟩
            obtain ⟨Q, hQ⟩ : ∃ Q, Q = K.getD m 0 := ⟨_, rfl⟩
            rw [← hP] at p1
            rw [← hQ] at q1
            have HPP := hide hP
            have HQQ : Hid (Q = K.getD (k % 2) 0) := by show _ = _; rw [hQ, hm]
            clear hP hQ hm
            by_cases hpq : P < Q
            · go_wp2_with (first | (go_at_call 71; refine (must_yes _).mono ?_; rintro e w' ⟨rfl, rfl⟩) | fail)
              go_roundw
              case rel =>
                refine ⟨by trivial, k + 1, by omega, by go_num, fun t ht => ?_⟩
                rcases lt_succ_cases ht with h | rfl
                · exact HA.out t h
                · rw [← HPP.out, ← HQQ.out]; exact hpq
              case measure => simp [intOf]; omega
            · have bpq : decide (P < Q) = false := by simpa using hpq
              have E4 : Hid (pooledP A x = .error 4) := by show _ = _; rw [E3.out]; unfold poolP; rw [pads_bad hkl (by rw [← HPP.out, ← HQQ.out]; exact hpq)]; rfl
              clear hpq
              go_wp2_with (first | (go_at_call 71; refine (must_no _).mono ?_; rintro e w' ⟨rfl, rfl⟩) | fail)
              exact ⟨rfl, ended_err E4.out G4.out⟩
          · have E4 : Hid (pooledP A x = (placesP A x K 0).bind (fun a => (placesP A x K 1).bind (fun b => .ok [x.getD 0 0, x.getD 1 0, a, b]))) := by show _ = _; rw [E3.out]; unfold poolP; rw [pads_good (fun t ht => HA.out t (by omega))]; rfl
            have hl := HL.out
            obtain ⟨xb, xo, rfl, hcx⟩ := HX.out.get (k := 0) (by omega)
            have X0 := hide (hcx 0 (by omega))
            have X1 := hide (hcx 1 (by omega))
            have bx0 := PB.out _ (getD_mem (l := x) (k := 0) (by omega))
            have bx1 := PB.out _ (getD_mem (l := x) (k := 1) (by omega))
            rw [Nat.add_zero] at X0
            obtain ⟨x0, hx0⟩ : ∃ z, z = x.getD 0 0 := ⟨_, rfl⟩
            obtain ⟨x1, hx1⟩ : ∃ z, z = x.getD 1 0 := ⟨_, rfl⟩
            rw [← hx0] at X0 bx0 E4
            rw [← hx1] at X1 bx1 E4
            have y0 := cell_still X0.out G4.out
            have y1 := cell_still X1.out G4.out
            have L0 := hide (fun (wx : World) (hg : w4.grownBy wx none) => PL.out wx (grown_trans G4.out hg) ⟨some ⟨kb, ko, none⟩, 2, sc⟩ K 0 (HK4.out.more hg) HL.out KL.out (fun z hz => by have := KB.out z hz; omega) (by decide))
            have L1 := hide (fun (wx : World) (hg : w4.grownBy wx none) => PL.out wx (grown_trans G4.out hg) ⟨some ⟨kb, ko, none⟩, 2, sc⟩ K 1 (HK4.out.more hg) HL.out KL.out (fun z hz => by have := KB.out z hz; omega) (by decide))
            simp only [Int.natCast_zero, Int.natCast_one] at L0 L1
            have l0 : (0 : Int) < (x.length : Int) := by omega
            have l1 : (1 : Int) < (x.length : Int) := by omega
            have m0 : 0 < x.length := by omega
            have m1 : 1 < x.length := by omega
            obtain ⟨n0, n1, n2, n3, n4⟩ := nod_cells (n := ⟨op, nam, ⟨ia, il, ic⟩, out, ⟨ao, al, cap⟩⟩) (BX.out w4 (G04.out))
            clear hcx hx0 hx1 hl PL
            go_wp2_with fail
            cases hA0 : placesP A x K 0 with
            | error c =>
              rw [hA0] at L0
              have E5 : Hid (pooledP A x = .error c) := by show _ = _; rw [E4.out, hA0]; rfl
              clear hA0
              refine wp_region_held_drew (S := (fun w' => w'.cell? ⟨w.heap.size, 0, none⟩ = some (.string op) ∧ w'.cell? ⟨w.heap.size, 1, none⟩ = some (.string nam) ∧ w'.cell? ⟨w.heap.size, 2, none⟩ = some (.slice ia il ic) ∧ w'.cell? ⟨w.heap.size, 3, none⟩ = some (.string out) ∧ w'.cell? ⟨w.heap.size, 4, none⟩ = some (.slice ao al cap) ∧ w'.cell? ⟨xb, xo, none⟩ = some (.int .i64 x0) ∧ w'.cell? ⟨xb, xo + 1, none⟩ = some (.int .i64 x1))) (by kernel_rfl) (by go_keep) (fun hHeld => ?_)
              refine wpAnyH_take (i := 0) (v := ?_) rfl (by kernel_rfl) (by kernel_rfl) (by kernel_rfl) (fun _ _ _ h => h) (Or.inl ⟨by rfl, ?_⟩) (by assumption) ?_
              rotate_left 1
              · (intro w hSw; (try dsimp only at hSw); go_simp; (try with_reducible rfl))
              try simp only [Act.put]
              refine wpAnyH_take (i := 1) (v := ?_) rfl (by kernel_rfl) (by kernel_rfl) (by kernel_rfl) (fun _ _ _ h => h) (Or.inl ⟨by rfl, ?_⟩) (by assumption) ?_
              rotate_left 1
              · (intro w hSw; (try dsimp only at hSw); go_simp; (try with_reducible rfl))
              try simp only [Act.put]
              refine wpAnyH_take (i := 2) (v := ?_) rfl (by kernel_rfl) (by kernel_rfl) (by kernel_rfl) (fun _ _ _ h => h) (Or.inl ⟨by rfl, ?_⟩) (by assumption) ?_
              rotate_left 1
              · (intro w hSw; (try dsimp only at hSw); go_simp; (try with_reducible rfl))
              try simp only [Act.put]
              refine wpAnyH_take (i := 3) (v := ?_) rfl (by kernel_rfl) (by kernel_rfl) (by kernel_rfl) (fun _ _ _ h => h) (Or.inl ⟨by rfl, ?_⟩) (by assumption) ?_
              rotate_left 1
              · (intro w hSw; (try dsimp only at hSw); go_simp; (try with_reducible rfl))
              try simp only [Act.put]
              refine wpAnyH_take (i := 4) (v := ?_) rfl (by kernel_rfl) (by kernel_rfl) (by kernel_rfl) (fun _ _ _ h => h) (Or.inl ⟨by rfl, ?_⟩) (by assumption) ?_
              rotate_left 1
              · (intro w hSw; (try dsimp only at hSw); go_simp; (try with_reducible rfl))
              try simp only [Act.put]
              refine wpAnyH_take (i := 5) (v := ?_) rfl (by kernel_rfl) (by kernel_rfl) (by kernel_rfl) (fun _ _ _ h => h) (Or.inl ⟨by rfl, ?_⟩) (by assumption) ?_
              rotate_left 1
              · (intro w hSw; (try dsimp only at hSw); go_simp; (try with_reducible rfl))
              try simp only [Act.put]
              refine wpAnyH_take (i := 6) (v := ?_) rfl (by kernel_rfl) (by kernel_rfl) (by kernel_rfl) (fun _ _ _ h => h) (Or.inl ⟨by rfl, ?_⟩) (by assumption) ?_
              rotate_left 1
              · (intro w hSw; (try dsimp only at hSw); go_simp; (try with_reducible rfl))
              try simp only [Act.put]
              refine wpAnyH_take (i := 7) (v := ?_) rfl (by kernel_rfl) (by kernel_rfl) (by kernel_rfl) (fun _ _ _ h => h) (Or.inl ⟨by rfl, ?_⟩) (by assumption) ?_
              rotate_left 1
              · (intro w hSw; (try dsimp only at hSw); go_simp; (try with_reducible rfl))
              try simp only [Act.put]
              refine wpAnyH_take (i := 8) (v := ?_) rfl (by kernel_rfl) (by kernel_rfl) (by kernel_rfl) (fun _ _ _ h => h) (Or.inl ⟨by rfl, ?_⟩) (by assumption) ?_
              rotate_left 1
              · (intro w hSw; (try dsimp only at hSw); go_simp; (try with_reducible rfl))
              try simp only [Act.put]
              refine wpAnyH_take (i := 10) (v := ?_) rfl (by kernel_rfl) (by kernel_rfl) (by kernel_rfl) (fun _ _ _ h => h) (Or.inl ⟨by rfl, ?_⟩) (by assumption) ?_
              rotate_left 1
              · (intro w hSw; (try dsimp only at hSw); go_simp; (try with_reducible rfl))
              try simp only [Act.put]
              refine wpAnyH_take (i := 11) (v := ?_) rfl (by kernel_rfl) (by kernel_rfl) (by kernel_rfl) (fun _ _ _ h => h) (Or.inl ⟨by rfl, ?_⟩) (by assumption) ?_
              rotate_left 1
              · (intro w hSw; (try dsimp only at hSw); go_simp; (try with_reducible rfl))
              try simp only [Act.put]
              refine wpAnyH_take (i := 12) (v := ?_) rfl (by kernel_rfl) (by kernel_rfl) (by kernel_rfl) (fun _ _ _ h => h) (Or.inl ⟨by rfl, ?_⟩) (by assumption) ?_
              rotate_left 1
              · (intro w hSw; (try dsimp only at hSw); go_simp; (try with_reducible rfl))
              try simp only [Act.put]
              refine wpAnyH_ready (rs := [9]) (by kernel_rfl) (by simp) ?_
              refine AllReadyH.cons rfl (fun K hK => ?_) ?_
              · skip
                go_simp
                refine (L0.out _ (grown_drew (grown_refl _))).mono ?_
                rintro e wy ⟨hg, rfl⟩
                exact ⟨rfl, ended_err E5.out (grown_trans (grown_drew G4.out) hg)⟩
              exact AllReadyH.nil
            | ok pa =>
              rw [hA0] at L0
              cases hA1 : placesP A x K 1 with
              | error c =>
                rw [hA1] at L1
                have E6 : Hid (pooledP A x = .error c) := by show _ = _; rw [E4.out, hA0, hA1]; rfl
                clear hA0 hA1
                refine wp_region_held_drew (S := (fun w' => w'.cell? ⟨w.heap.size, 0, none⟩ = some (.string op) ∧ w'.cell? ⟨w.heap.size, 1, none⟩ = some (.string nam) ∧ w'.cell? ⟨w.heap.size, 2, none⟩ = some (.slice ia il ic) ∧ w'.cell? ⟨w.heap.size, 3, none⟩ = some (.string out) ∧ w'.cell? ⟨w.heap.size, 4, none⟩ = some (.slice ao al cap) ∧ w'.cell? ⟨xb, xo, none⟩ = some (.int .i64 x0) ∧ w'.cell? ⟨xb, xo + 1, none⟩ = some (.int .i64 x1))) (by kernel_rfl) (by go_keep) (fun hHeld => ?_)
                refine wpAnyH_take (i := 0) (v := ?_) rfl (by kernel_rfl) (by kernel_rfl) (by kernel_rfl) (fun _ _ _ h => h) (Or.inl ⟨by rfl, ?_⟩) (by assumption) ?_
                rotate_left 1
                · (intro w hSw; (try dsimp only at hSw); go_simp; (try with_reducible rfl))
                try simp only [Act.put]
                refine wpAnyH_take (i := 1) (v := ?_) rfl (by kernel_rfl) (by kernel_rfl) (by kernel_rfl) (fun _ _ _ h => h) (Or.inl ⟨by rfl, ?_⟩) (by assumption) ?_
                rotate_left 1
                · (intro w hSw; (try dsimp only at hSw); go_simp; (try with_reducible rfl))
                try simp only [Act.put]
                refine wpAnyH_take (i := 2) (v := ?_) rfl (by kernel_rfl) (by kernel_rfl) (by kernel_rfl) (fun _ _ _ h => h) (Or.inl ⟨by rfl, ?_⟩) (by assumption) ?_
                rotate_left 1
                · (intro w hSw; (try dsimp only at hSw); go_simp; (try with_reducible rfl))
                try simp only [Act.put]
                refine wpAnyH_take (i := 3) (v := ?_) rfl (by kernel_rfl) (by kernel_rfl) (by kernel_rfl) (fun _ _ _ h => h) (Or.inl ⟨by rfl, ?_⟩) (by assumption) ?_
                rotate_left 1
                · (intro w hSw; (try dsimp only at hSw); go_simp; (try with_reducible rfl))
                try simp only [Act.put]
                refine wpAnyH_take (i := 4) (v := ?_) rfl (by kernel_rfl) (by kernel_rfl) (by kernel_rfl) (fun _ _ _ h => h) (Or.inl ⟨by rfl, ?_⟩) (by assumption) ?_
                rotate_left 1
                · (intro w hSw; (try dsimp only at hSw); go_simp; (try with_reducible rfl))
                try simp only [Act.put]
                refine wpAnyH_take (i := 5) (v := ?_) rfl (by kernel_rfl) (by kernel_rfl) (by kernel_rfl) (fun _ _ _ h => h) (Or.inl ⟨by rfl, ?_⟩) (by assumption) ?_
                rotate_left 1
                · (intro w hSw; (try dsimp only at hSw); go_simp; (try with_reducible rfl))
                try simp only [Act.put]
                refine wpAnyH_take (i := 6) (v := ?_) rfl (by kernel_rfl) (by kernel_rfl) (by kernel_rfl) (fun _ _ _ h => h) (Or.inl ⟨by rfl, ?_⟩) (by assumption) ?_
                rotate_left 1
                · (intro w hSw; (try dsimp only at hSw); go_simp; (try with_reducible rfl))
                try simp only [Act.put]
                refine wpAnyH_take (i := 7) (v := ?_) rfl (by kernel_rfl) (by kernel_rfl) (by kernel_rfl) (fun _ _ _ h => h) (Or.inl ⟨by rfl, ?_⟩) (by assumption) ?_
                rotate_left 1
                · (intro w hSw; (try dsimp only at hSw); go_simp; (try with_reducible rfl))
                try simp only [Act.put]
                refine wpAnyH_take (i := 8) (v := ?_) rfl (by kernel_rfl) (by kernel_rfl) (by kernel_rfl) (fun _ _ _ h => h) (Or.inl ⟨by rfl, ?_⟩) (by assumption) ?_
                rotate_left 1
                · (intro w hSw; (try dsimp only at hSw); go_simp; (try with_reducible rfl))
                try simp only [Act.put]
                refine wpAnyH_take (i := 10) (v := ?_) rfl (by kernel_rfl) (by kernel_rfl) (by kernel_rfl) (fun _ _ _ h => h) (Or.inl ⟨by rfl, ?_⟩) (by assumption) ?_
                rotate_left 1
                · (intro w hSw; (try dsimp only at hSw); go_simp; (try with_reducible rfl))
                try simp only [Act.put]
                refine wpAnyH_take (i := 11) (v := ?_) rfl (by kernel_rfl) (by kernel_rfl) (by kernel_rfl) (fun _ _ _ h => h) (Or.inl ⟨by rfl, ?_⟩) (by assumption) ?_
                rotate_left 1
                · (intro w hSw; (try dsimp only at hSw); go_simp; (try with_reducible rfl))
                try simp only [Act.put]
                refine wpAnyH_take (i := 12) (v := ?_) rfl (by kernel_rfl) (by kernel_rfl) (by kernel_rfl) (fun _ _ _ h => h) (Or.inl ⟨by rfl, ?_⟩) (by assumption) ?_
                rotate_left 1
                · (intro w hSw; (try dsimp only at hSw); go_simp; (try with_reducible rfl))
                try simp only [Act.put]
                refine wpAnyH_ready (rs := [9]) (by kernel_rfl) (by simp) ?_
                refine AllReadyH.cons rfl (fun K hK => ?_) ?_
                · skip
                  go_simp
                  refine (L0.out _ (grown_drew (grown_refl _))).mono ?_
                  rintro e w5 ⟨hg5, v, rfl, rfl, hb1, hb2⟩
                  have g5 := grown_trans (grown_drew (grown_refl w4)) hg5
                  have g5w := grown_trans G04.out g5
                  obtain ⟨n0, n1, n2, n3, n4⟩ := nod_cells (n := ⟨op, nam, ⟨ia, il, ic⟩, out, ⟨ao, al, cap⟩⟩) (BX.out w5 g5w)
                  have y0 := cell_still X0.out (grown_trans g0.out g5w)
                  have y1 := cell_still X1.out (grown_trans g0.out g5w)
                  try dsimp only
                  refine hK.out _ _ (by first | assumption | go_keep) (fun hHeld => ?_)
                  clear hK K
                  try simp only [Act.put]
                  refine wpAnyH_ready (rs := [13]) (by kernel_rfl) (by simp) ?_
                  refine AllReadyH.cons rfl (fun K hK => ?_) ?_
                  · skip
                    go_simp
                    refine (L1.out _ g5).mono ?_
                    rintro e wy ⟨hg, rfl⟩
                    exact ⟨rfl, ended_err E6.out (grown_trans (grown_trans G4.out g5) hg)⟩
                  exact AllReadyH.nil
                exact AllReadyH.nil
              | ok pb =>
                rw [hA1] at L1
                have E7 : Hid (pooledP A x = .ok [x0, x1, pa, pb]) := by show _ = _; rw [E4.out, hA0, hA1]; rfl
                clear hA0 hA1
                refine wp_region_held_drew (S := (fun w' => w'.cell? ⟨w.heap.size, 0, none⟩ = some (.string op) ∧ w'.cell? ⟨w.heap.size, 1, none⟩ = some (.string nam) ∧ w'.cell? ⟨w.heap.size, 2, none⟩ = some (.slice ia il ic) ∧ w'.cell? ⟨w.heap.size, 3, none⟩ = some (.string out) ∧ w'.cell? ⟨w.heap.size, 4, none⟩ = some (.slice ao al cap) ∧ w'.cell? ⟨xb, xo, none⟩ = some (.int .i64 x0) ∧ w'.cell? ⟨xb, xo + 1, none⟩ = some (.int .i64 x1))) (by kernel_rfl) (by go_keep) (fun hHeld => ?_)
                refine wpAnyH_take (i := 0) (v := ?_) rfl (by kernel_rfl) (by kernel_rfl) (by kernel_rfl) (fun _ _ _ h => h) (Or.inl ⟨by rfl, ?_⟩) (by assumption) ?_
                rotate_left 1
                · (intro w hSw; (try dsimp only at hSw); go_simp; (try with_reducible rfl))
                try simp only [Act.put]
                refine wpAnyH_take (i := 1) (v := ?_) rfl (by kernel_rfl) (by kernel_rfl) (by kernel_rfl) (fun _ _ _ h => h) (Or.inl ⟨by rfl, ?_⟩) (by assumption) ?_
                rotate_left 1
                · (intro w hSw; (try dsimp only at hSw); go_simp; (try with_reducible rfl))
                try simp only [Act.put]
                refine wpAnyH_take (i := 2) (v := ?_) rfl (by kernel_rfl) (by kernel_rfl) (by kernel_rfl) (fun _ _ _ h => h) (Or.inl ⟨by rfl, ?_⟩) (by assumption) ?_
                rotate_left 1
                · (intro w hSw; (try dsimp only at hSw); go_simp; (try with_reducible rfl))
                try simp only [Act.put]
                refine wpAnyH_take (i := 3) (v := ?_) rfl (by kernel_rfl) (by kernel_rfl) (by kernel_rfl) (fun _ _ _ h => h) (Or.inl ⟨by rfl, ?_⟩) (by assumption) ?_
                rotate_left 1
                · (intro w hSw; (try dsimp only at hSw); go_simp; (try with_reducible rfl))
                try simp only [Act.put]
                refine wpAnyH_take (i := 4) (v := ?_) rfl (by kernel_rfl) (by kernel_rfl) (by kernel_rfl) (fun _ _ _ h => h) (Or.inl ⟨by rfl, ?_⟩) (by assumption) ?_
                rotate_left 1
                · (intro w hSw; (try dsimp only at hSw); go_simp; (try with_reducible rfl))
                try simp only [Act.put]
                refine wpAnyH_take (i := 5) (v := ?_) rfl (by kernel_rfl) (by kernel_rfl) (by kernel_rfl) (fun _ _ _ h => h) (Or.inl ⟨by rfl, ?_⟩) (by assumption) ?_
                rotate_left 1
                · (intro w hSw; (try dsimp only at hSw); go_simp; (try with_reducible rfl))
                try simp only [Act.put]
                refine wpAnyH_take (i := 6) (v := ?_) rfl (by kernel_rfl) (by kernel_rfl) (by kernel_rfl) (fun _ _ _ h => h) (Or.inl ⟨by rfl, ?_⟩) (by assumption) ?_
                rotate_left 1
                · (intro w hSw; (try dsimp only at hSw); go_simp; (try with_reducible rfl))
                try simp only [Act.put]
                refine wpAnyH_take (i := 7) (v := ?_) rfl (by kernel_rfl) (by kernel_rfl) (by kernel_rfl) (fun _ _ _ h => h) (Or.inl ⟨by rfl, ?_⟩) (by assumption) ?_
                rotate_left 1
                · (intro w hSw; (try dsimp only at hSw); go_simp; (try with_reducible rfl))
                try simp only [Act.put]
                refine wpAnyH_take (i := 8) (v := ?_) rfl (by kernel_rfl) (by kernel_rfl) (by kernel_rfl) (fun _ _ _ h => h) (Or.inl ⟨by rfl, ?_⟩) (by assumption) ?_
                rotate_left 1
                · (intro w hSw; (try dsimp only at hSw); go_simp; (try with_reducible rfl))
                try simp only [Act.put]
                refine wpAnyH_take (i := 10) (v := ?_) rfl (by kernel_rfl) (by kernel_rfl) (by kernel_rfl) (fun _ _ _ h => h) (Or.inl ⟨by rfl, ?_⟩) (by assumption) ?_
                rotate_left 1
                · (intro w hSw; (try dsimp only at hSw); go_simp; (try with_reducible rfl))
                try simp only [Act.put]
                refine wpAnyH_take (i := 11) (v := ?_) rfl (by kernel_rfl) (by kernel_rfl) (by kernel_rfl) (fun _ _ _ h => h) (Or.inl ⟨by rfl, ?_⟩) (by assumption) ?_
                rotate_left 1
                · (intro w hSw; (try dsimp only at hSw); go_simp; (try with_reducible rfl))
                try simp only [Act.put]
                refine wpAnyH_take (i := 12) (v := ?_) rfl (by kernel_rfl) (by kernel_rfl) (by kernel_rfl) (fun _ _ _ h => h) (Or.inl ⟨by rfl, ?_⟩) (by assumption) ?_
                rotate_left 1
                · (intro w hSw; (try dsimp only at hSw); go_simp; (try with_reducible rfl))
                try simp only [Act.put]
                refine wpAnyH_ready (rs := [9]) (by kernel_rfl) (by simp) ?_
                refine AllReadyH.cons rfl (fun K hK => ?_) ?_
                · skip
                  go_simp
                  refine (L0.out _ (grown_drew (grown_refl _))).mono ?_
                  rintro e w5 ⟨hg5, v, rfl, rfl, hb1, hb2⟩
                  have g5 := grown_trans (grown_drew (grown_refl w4)) hg5
                  have g5w := grown_trans G04.out g5
                  obtain ⟨n0, n1, n2, n3, n4⟩ := nod_cells (n := ⟨op, nam, ⟨ia, il, ic⟩, out, ⟨ao, al, cap⟩⟩) (BX.out w5 g5w)
                  have y0 := cell_still X0.out (grown_trans g0.out g5w)
                  have y1 := cell_still X1.out (grown_trans g0.out g5w)
                  try dsimp only
                  refine hK.out _ _ (by first | assumption | go_keep) (fun hHeld => ?_)
                  clear hK K
                  try simp only [Act.put]
                  refine wpAnyH_ready (rs := [13]) (by kernel_rfl) (by simp) ?_
                  refine AllReadyH.cons rfl (fun K hK => ?_) ?_
                  · skip
                    go_simp
                    refine (L1.out _ g5).mono ?_
                    rintro e w6 ⟨hg6, v, rfl, rfl, hc1, hc2⟩
                    have g6 := grown_trans g5 hg6
                    have g6w := grown_trans G04.out g6
                    obtain ⟨n0, n1, n2, n3, n4⟩ := nod_cells (n := ⟨op, nam, ⟨ia, il, ic⟩, out, ⟨ao, al, cap⟩⟩) (BX.out w6 g6w)
                    have y0 := cell_still X0.out (grown_trans g0.out g6w)
                    have y1 := cell_still X1.out (grown_trans g0.out g6w)
                    try dsimp only
                    refine hK.out _ _ (by first | assumption | go_keep) (fun hHeld => ?_)
                    clear hK K
                    try simp only [Act.put]
                    refine wpAnyH_ready (rs := [14]) (by kernel_rfl) (by simp) ?_
                    refine AllReadyH.cons rfl (fun K hK => ?_) ?_
                    · skip
                      go_simp
                      have y0 := cell_still y0 (grown_new w6 (.cells #[.int .i64 x0, .int .i64 x1, .int .i64 pa, .int .i64 pb] 3))
                      have y1 := cell_still y1 (grown_new w6 (.cells #[.int .i64 x0, .int .i64 x1, .int .i64 pa, .int .i64 pb] 3))
                      obtain ⟨n0, n1, n2, n3, n4⟩ := nod_cells (n := ⟨op, nam, ⟨ia, il, ic⟩, out, ⟨ao, al, cap⟩⟩) (BX.out _ (grown_trans g6w (grown_new w6 (.cells #[.int .i64 x0, .int .i64 x1, .int .i64 pa, .int .i64 pb] 3))))
                      refine hK.out _ _ (by first | assumption | go_keep) (fun hHeld => ?_)
                      clear hK K
                      try simp only [Act.put]
                      refine wpAnyH_take (i := 15) (v := ?_) rfl (by kernel_rfl) (by kernel_rfl) (by kernel_rfl) (fun _ _ _ h => h) (Or.inl ⟨by rfl, ?_⟩) (by assumption) ?_
                      rotate_left 1
                      · (intro w hSw; (try dsimp only at hSw); go_simp; (try with_reducible rfl))
                      try simp only [Act.put]
                      refine wpAnyH_done (by kernel_rfl) ?_ _
                      try go_simp
                      go_wp2
                      go_ret
                      exact ended_ok E7.out (grown_trans (grown_trans G4.out g6) (grown_new _ _)) ⟨⟨some ⟨w6.heap.size, 0, none⟩, 4, 4⟩, rfl, ints_new w6 [x0, x1, pa, pb] 3 (by simp) (fun y hy => by simp at hy; omega)⟩
                    exact AllReadyH.nil
                  exact AllReadyH.nil
                exact AllReadyH.nil
  · have b0 : ((x.length : Int) == 4) = false := by simpa using (fun h => hl (by omega) : ¬ (x.length : Int) = 4)
    have E1 : Hid (pooledP A x = .error 4) := by show _ = _; rw [E0.out]; simp [mustP, hl]; rfl
    clear hl
    go_enter Tryz.func126, Tryz.ntmps126
    go_wp2_with (first | (go_at_call 71; refine (must_no _).mono ?_; rintro e w' ⟨rfl, rfl⟩) | fail)
    rw [← hw0]
    exact ⟨rfl, ended_err E1.out g0.out⟩
end Go.Proofs.YteigfipgmghgmaaGreatDoor
