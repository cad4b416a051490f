/- Joined texts: IPool, IDm, IWhere, IConv. -/
import Derived.Test.YtkefdkboejimeaaGreatDoorRartAY
import Derived.Deep.RegionHeld3
import Derived.Test.YtkefdkboejimeaaGreatDoorRartAT
import Derived.BigQuiet
import Derived.Deep.AppendLies
import Derived.Test.YtkefdkboejimeaaGreatDoorRartAV
namespace Go.Proofs.YtkefdkboejimeaaGreatDoor

open Go.RowKit

def poolP (A : At) (x K pa : List Int) : R (List Int) := (mustP ((List.range 4).all (fun i => decide (pa.getD i 0 < K.getD (i % 2) 0)))).bind (fun _ => (placesP A x K 0).bind (fun a => (placesP A x K 1).bind (fun b => .ok [x.getD 0 0, x.getD 1 0, a, b])))

theorem pads_bad {pa K : List Int} {k : Nat} (hk : k < 4) (h : ¬ pa.getD k 0 < K.getD (k % 2) 0) : (List.range 4).all (fun i => decide (pa.getD i 0 < K.getD (i % 2) 0)) = false := by
  rw [List.all_eq_false]
  exact ⟨k, List.mem_range.2 hk, by simpa using h⟩

theorem pads_good {pa K : List Int} (h : ∀ t, t < 4 → pa.getD t 0 < K.getD (t % 2) 0) : (List.range 4).all (fun i => decide (pa.getD i 0 < K.getD (i % 2) 0)) = true := by
  rw [List.all_eq_true]
  intro t ht
  simpa using h t (List.mem_range.1 ht)

set_option maxRecDepth 100000 in
set_option maxHeartbeats 4000000 in
theorem pooled_any (n : Nod) (A : At) (u : Sl) (x : List Int) (w : World) (hn : NodeOk w n A) (hx : IsInts w u.v x) (hf : Fine x) : Calls Tryz.prog 157 #[nval n, .slice u.a u.n u.c] w (Ended w (pooledP A x) DimsQ) := by
  obtain ⟨ux, uc, eu, c1, c2, c3⟩ := hx.sl
  obtain ⟨ua, un, uu⟩ := u
  simp only [Sl.v, Value.slice.injEq] at eu
  obtain ⟨rfl, rfl, rfl⟩ := eu
  have HX := hide hx
  have PB : Hid (∀ z ∈ x, 1 ≤ z ∧ z ≤ 65536) := fun z hz => ⟨hf.pos z hz, hf.le_each hz⟩
  have E0 : Hid (pooledP A x = (mustP (decide (x.length = 4))).bind (fun _ => (withinP (A.ints ⟨#[107, 101, 114, 110, 101, 108, 95, 115, 104, 97, 112, 101]⟩ []) 2 1).bind (fun K => (padsP A).bind (fun pa => poolP A x K pa)))) := rfl
  clear hx hf
  have NK := hide hn
  obtain ⟨op, nam, ⟨ia, il, ic⟩, out, ⟨ao, al, cap⟩⟩ := n
  unfold nval
  simp only
  obtain ⟨w0, hw0⟩ : ∃ w0, w0 = w.alloc (.cells #[.string op, .string nam, .slice ia il ic, .string out, .slice ao al cap] 35) := ⟨_, rfl⟩
  have g0 : Hid (w.grownBy w0 none) := by show w.grownBy w0 none; rw [hw0]; exact grown_new _ _
  have hb0 := heap_alloc_new w (.cells #[.string op, .string nam, .slice ia il ic, .string out, .slice ao al cap] 35)
  rw [← hw0] at hb0
  have BX : Hid (∀ wx, w0.grownBy wx none → wx.heap[w.heap.size]? = some (.cells #[.string op, .string nam, .slice ia il ic, .string out, .slice ao al cap] 35 (0, 0))) := fun wx hg => box_kept hb0 hg
  clear hb0 hn
  have NI := hide (nints_any ⟨op, nam, ⟨ia, il, ic⟩, out, ⟨ao, al, cap⟩⟩ A ⟨#[107, 101, 114, 110, 101, 108, 95, 115, 104, 97, 112, 101]⟩ ⟨none, 0, 0⟩ [] w0 (NK.out.more g0.out) ⟨none, 0, rfl, Nat.le_refl _, by decide, by simp, fun _ => ⟨rfl, rfl⟩, fun h => (by simp at h), fun z hz => (by simp at hz)⟩)
  have PA := hide (fun (wx : World) (hg : w.grownBy wx none) => padsof_any ⟨op, nam, ⟨ia, il, ic⟩, out, ⟨ao, al, cap⟩⟩ A wx (NK.out.more hg))
  have PL := hide (fun (wx : World) (hg : w.grownBy wx none) (v : Sl) (K : List Int) (lng : Nat) (hK : IsInts wx v.v K) (hl : x.length = 4) (hlK : K.length = 2) (bK : ∀ z ∈ K, 1 ≤ z ∧ z ≤ 65536) (ha : lng < 2) => places_any ⟨op, nam, ⟨ia, il, ic⟩, out, ⟨ao, al, cap⟩⟩ A ⟨ua, x.length, uu⟩ v x K lng wx (NK.out.more hg) (HX.out.more hg) hK hl hlK PB.out bK ha)
  unfold nval at NI PA PL
  simp only at NI PA PL
  by_cases hl : x.length = 4
  · have b0 : ((x.length : Int) == 4) = true := by simp [hl]
    have E1 : Hid (pooledP A x = (withinP (A.ints ⟨#[107, 101, 114, 110, 101, 108, 95, 115, 104, 97, 112, 101]⟩ []) 2 1).bind (fun K => (padsP A).bind (fun pa => poolP A x K pa))) := by show _ = _; rw [E0.out]; simp [mustP, hl]; rfl
    have HL := hide hl
    clear hl
    go_enter Tryz.func157, Tryz.ntmps157
    go_wp2_with (first | (go_at_call 118; refine (must_yes _).mono ?_; rintro e w' ⟨rfl, rfl⟩) | fail)
    rw [← hw0]
    clear hw0 b0
    refine NI.out.mono ?_
    rintro e w1 ⟨s, rfl, hs, hg1⟩
    have G1 := hide hg1
    have WD := hide (within_any s _ 2 1 w1 hs (by decide))
    have HS := hide hs
    clear hs hg1 NI
    cases hk : withinP (A.ints ⟨#[107, 101, 114, 110, 101, 108, 95, 115, 104, 97, 112, 101]⟩ []) 2 1 with
    | error c =>
      rw [hk] at WD
      have E : Hid (pooledP A x = .error c) := by show _ = _; rw [E1.out, hk]; rfl
      clear hk
      go_wp2_with (first | (go_at_call 176; refine WD.out.mono ?_; rintro e w' ⟨hg, rfl⟩) | fail)
      exact ⟨rfl, ended_err E.out (grown_trans g0.out (grown_trans G1.out hg))⟩
    | ok K =>
      rw [hk] at WD E1
      obtain ⟨e1, kl, kbd⟩ := withinP_ok hk
      rw [← e1] at HS
      have SL : s.n = 2 := by
        obtain ⟨a', c', e, -⟩ := HS.out.sl
        have : s.n = K.length := by simp only [Sl.v, Value.slice.injEq] at e; exact e.2.1
        rw [this, kl]
      obtain ⟨sa, sn, sc⟩ := s
      obtain ⟨kb, ko, esa, hck⟩ := HS.out.get (k := 0) (by omega)
      simp only at esa SL
      subst esa SL
      simp only [Sl.v] at WD HS ⊢
      have E2 : Hid (pooledP A x = (padsP A).bind (fun pa => poolP A x K pa)) := E1.out
      have KL := hide kl
      have KB := hide kbd
      have KC := hide hck
      obtain ⟨n0, n1, n2, n3, n4⟩ := nod_cells (n := ⟨op, nam, ⟨ia, il, ic⟩, out, ⟨ao, al, cap⟩⟩) (BX.out w1 (G1.out))
      clear hk e1 kl kbd hck E1
      go_wp2_with (first | (go_at_call 176; refine WD.out.mono ?_; rintro e w' ⟨-, v, rfl, rfl, -, rfl⟩) | fail)
      have P3 := hide (PA.out w1 (grown_trans g0.out G1.out))
      clear WD PA n0 n1 n2 n3 n4
      cases hk : padsP A with
      | error c =>
        rw [hk] at P3
        have E : Hid (pooledP A x = .error c) := by show _ = _; rw [E2.out, hk]; rfl
        clear hk
        refine P3.out.mono ?_
        rintro e w' ⟨hg, rfl⟩
        exact ⟨rfl, ended_err E.out (grown_trans g0.out (grown_trans G1.out hg))⟩
      | ok pa =>
        rw [hk] at P3 E2
        have E3 : Hid (pooledP A x = poolP A x K pa) := E2.out
        clear hk E2
        refine P3.out.mono ?_
        rintro e w4 ⟨hg3, v, rfl, ⟨pa1, pn, pc⟩, rfl, hp, hpl, hpb⟩
        obtain ⟨pb', po, epa, hpc⟩ := hp.get (k := 0) (by omega)
        have pcb : 4 ≤ pc ∧ pc ≤ 9223372036854775807 := by
          obtain ⟨a', c', e, f1, f2, -⟩ := hp.sl
          simp only [Sl.v, Value.slice.injEq] at e
          rw [hpl] at f1
          rw [e.2.2]
          exact ⟨f1, f2⟩
        have SL : pn = 4 := by
          obtain ⟨a', c', e, -⟩ := hp.sl
          simp only [Sl.v, Value.slice.injEq] at e
          rw [← hpl]; exact e.2.1
        simp only at epa
        subst epa SL
        obtain ⟨pc1, pc2⟩ := pcb
        have G04 := hide (grown_trans G1.out hg3)
        have G4 := hide (grown_trans g0.out (grown_trans G1.out hg3))
        have KC4 : Hid (∀ i, i < K.length → w4.cell? ⟨kb, ko + i, none⟩ = some (.int .i64 (K.getD i 0))) := fun i hi => cell_still (KC.out i hi) hg3
        have HPC := hide hpc
        have HPL := hide hpl
        have HK4 := hide (HS.out.more hg3)
        clear hp hpl hpb hpc hg3 P3 KC HS
        simp only [Sl.v]
        go_wp2
        go_loopw [18] (fun i wr => w4 = wr ∧ ∃ k : Nat, k ≤ 4 ∧ i = .int .i64 k ∧ ∀ t, t < k → pa.getD t 0 < K.getD (t % 2) 0) (fun i _ => 4 - (intOf i).toNat)
        case atStart => exact ⟨rfl, 0, Nat.zero_le _, rfl, fun t h => absurd h (by omega)⟩
        case round =>
          obtain ⟨hw, k, hk, rfl, hall⟩ := hrel
          subst hw
          have HA := hide hall
          clear hall
          by_cases hkl : k < 4
          · have p1 := HPC.out k (by have := HPL.out; omega)
            obtain ⟨m, hm⟩ : ∃ m : Nat, m = k % 2 := ⟨_, rfl⟩
            have q1 := KC4.out m (by have := KL.out; omega)
            have hmod : (k : Int).tmod 2 = (m : Int) := by rw [hm, Int.tmod_eq_emod_of_nonneg (by omega)]; omega
            have hm2 : m < 2 := by omega
            have i1 : (k : Int) < 4 := by omega
            have i2 : (m : Int) < 2 := by omega
            obtain ⟨P, hP⟩ : ∃ P, P = pa.getD k 0 := ⟨_, rfl⟩
            obtain ⟨Q, hQ⟩ : ∃ Q, Q = K.getD m 0 := ⟨_, rfl⟩
            rw [← hP] at p1
            rw [← hQ] at q1
            have HPP := hide hP
            have HQQ : Hid (Q = K.getD (k % 2) 0) := by show _ = _; rw [hQ, hm]
            clear hP hQ hm
            by_cases hpq : P < Q
            · go_wp2_with (first | (go_at_call 118; refine (must_yes _).mono ?_; rintro e w' ⟨rfl, rfl⟩) | fail)
              go_roundw
              case rel =>
                refine ⟨by trivial, k + 1, by omega, by go_num, fun t ht => ?_⟩
                rcases lt_succ_cases ht with h | rfl
                · exact HA.out t h
                · rw [← HPP.out, ← HQQ.out]; exact hpq
              case measure => simp [intOf]; omega
            · have bpq : decide (P < Q) = false := by simpa using hpq
              have E4 : Hid (pooledP A x = .error 4) := by show _ = _; rw [E3.out]; unfold poolP; rw [pads_bad hkl (by rw [← HPP.out, ← HQQ.out]; exact hpq)]; rfl
              clear hpq
              go_wp2_with (first | (go_at_call 118; refine (must_no _).mono ?_; rintro e w' ⟨rfl, rfl⟩) | fail)
              exact ⟨rfl, ended_err E4.out G4.out⟩
          · have E4 : Hid (pooledP A x = (placesP A x K 0).bind (fun a => (placesP A x K 1).bind (fun b => .ok [x.getD 0 0, x.getD 1 0, a, b]))) := by show _ = _; rw [E3.out]; unfold poolP; rw [pads_good (fun t ht => HA.out t (by omega))]; rfl
            have hl := HL.out
            obtain ⟨xb, xo, rfl, hcx⟩ := HX.out.get (k := 0) (by omega)
            have X0 := hide (hcx 0 (by omega))
            have X1 := hide (hcx 1 (by omega))
            have bx0 := PB.out _ (getD_mem (l := x) (k := 0) (by omega))
            have bx1 := PB.out _ (getD_mem (l := x) (k := 1) (by omega))
            rw [Nat.add_zero] at X0
            obtain ⟨x0, hx0⟩ : ∃ z, z = x.getD 0 0 := ⟨_, rfl⟩
            obtain ⟨x1, hx1⟩ : ∃ z, z = x.getD 1 0 := ⟨_, rfl⟩
            rw [← hx0] at X0 bx0 E4
            rw [← hx1] at X1 bx1 E4
            have y0 := cell_still X0.out G4.out
            have y1 := cell_still X1.out G4.out
            have L0 := hide (fun (wx : World) (hg : w4.grownBy wx none) => PL.out wx (grown_trans G4.out hg) ⟨some ⟨kb, ko, none⟩, 2, sc⟩ K 0 (HK4.out.more hg) HL.out KL.out (fun z hz => by have := KB.out z hz; omega) (by decide))
            have L1 := hide (fun (wx : World) (hg : w4.grownBy wx none) => PL.out wx (grown_trans G4.out hg) ⟨some ⟨kb, ko, none⟩, 2, sc⟩ K 1 (HK4.out.more hg) HL.out KL.out (fun z hz => by have := KB.out z hz; omega) (by decide))
            simp only [Int.natCast_zero, Int.natCast_one] at L0 L1
            have l0 : (0 : Int) < (x.length : Int) := by omega
            have l1 : (1 : Int) < (x.length : Int) := by omega
            have m0 : 0 < x.length := by omega
            have m1 : 1 < x.length := by omega
            obtain ⟨n0, n1, n2, n3, n4⟩ := nod_cells (n := ⟨op, nam, ⟨ia, il, ic⟩, out, ⟨ao, al, cap⟩⟩) (BX.out w4 (G04.out))
            clear hcx hx0 hx1 hl PL
            go_wp2_with fail
            cases hA0 : placesP A x K 0 with
            | error c =>
              rw [hA0] at L0
              have E5 : Hid (pooledP A x = .error c) := by show _ = _; rw [E4.out, hA0]; rfl
              clear hA0
              refine wp_region_held_drew (S := (fun w' => w'.cell? ⟨w.heap.size, 0, none⟩ = some (.string op) ∧ w'.cell? ⟨w.heap.size, 1, none⟩ = some (.string nam) ∧ w'.cell? ⟨w.heap.size, 2, none⟩ = some (.slice ia il ic) ∧ w'.cell? ⟨w.heap.size, 3, none⟩ = some (.string out) ∧ w'.cell? ⟨w.heap.size, 4, none⟩ = some (.slice ao al cap) ∧ w'.cell? ⟨xb, xo, none⟩ = some (.int .i64 x0) ∧ w'.cell? ⟨xb, xo + 1, none⟩ = some (.int .i64 x1))) (by kernel_rfl) (by go_keep) (fun hHeld => ?_)
              refine wpAnyH_take (i := 0) (v := ?_) rfl (by kernel_rfl) (by kernel_rfl) (by kernel_rfl) (fun _ _ _ h => h) (Or.inl ⟨by rfl, ?_⟩) (by assumption) ?_
              rotate_left 1
              · (intro w hSw; (try dsimp only at hSw); go_simp; (try with_reducible rfl))
              try simp only [Act.put]
              refine wpAnyH_take (i := 1) (v := ?_) rfl (by kernel_rfl) (by kernel_rfl) (by kernel_rfl) (fun _ _ _ h => h) (Or.inl ⟨by rfl, ?_⟩) (by assumption) ?_
              rotate_left 1
              · (intro w hSw; (try dsimp only at hSw); go_simp; (try with_reducible rfl))
              try simp only [Act.put]
              refine wpAnyH_take (i := 2) (v := ?_) rfl (by kernel_rfl) (by kernel_rfl) (by kernel_rfl) (fun _ _ _ h => h) (Or.inl ⟨by rfl, ?_⟩) (by assumption) ?_
              rotate_left 1
              · (intro w hSw; (try dsimp only at hSw); go_simp; (try with_reducible rfl))
              try simp only [Act.put]
              refine wpAnyH_take (i := 3) (v := ?_) rfl (by kernel_rfl) (by kernel_rfl) (by kernel_rfl) (fun _ _ _ h => h) (Or.inl ⟨by rfl, ?_⟩) (by assumption) ?_
              rotate_left 1
              · (intro w hSw; (try dsimp only at hSw); go_simp; (try with_reducible rfl))
              try simp only [Act.put]
              refine wpAnyH_take (i := 4) (v := ?_) rfl (by kernel_rfl) (by kernel_rfl) (by kernel_rfl) (fun _ _ _ h => h) (Or.inl ⟨by rfl, ?_⟩) (by assumption) ?_
              rotate_left 1
              · (intro w hSw; (try dsimp only at hSw); go_simp; (try with_reducible rfl))
              try simp only [Act.put]
              refine wpAnyH_take (i := 5) (v := ?_) rfl (by kernel_rfl) (by kernel_rfl) (by kernel_rfl) (fun _ _ _ h => h) (Or.inl ⟨by rfl, ?_⟩) (by assumption) ?_
              rotate_left 1
              · (intro w hSw; (try dsimp only at hSw); go_simp; (try with_reducible rfl))
              try simp only [Act.put]
              refine wpAnyH_take (i := 6) (v := ?_) rfl (by kernel_rfl) (by kernel_rfl) (by kernel_rfl) (fun _ _ _ h => h) (Or.inl ⟨by rfl, ?_⟩) (by assumption) ?_
              rotate_left 1
              · (intro w hSw; (try dsimp only at hSw); go_simp; (try with_reducible rfl))
              try simp only [Act.put]
              refine wpAnyH_take (i := 7) (v := ?_) rfl (by kernel_rfl) (by kernel_rfl) (by kernel_rfl) (fun _ _ _ h => h) (Or.inl ⟨by rfl, ?_⟩) (by assumption) ?_
              rotate_left 1
              · (intro w hSw; (try dsimp only at hSw); go_simp; (try with_reducible rfl))
              try simp only [Act.put]
              refine wpAnyH_take (i := 8) (v := ?_) rfl (by kernel_rfl) (by kernel_rfl) (by kernel_rfl) (fun _ _ _ h => h) (Or.inl ⟨by rfl, ?_⟩) (by assumption) ?_
              rotate_left 1
              · (intro w hSw; (try dsimp only at hSw); go_simp; (try with_reducible rfl))
              try simp only [Act.put]
              refine wpAnyH_take (i := 10) (v := ?_) rfl (by kernel_rfl) (by kernel_rfl) (by kernel_rfl) (fun _ _ _ h => h) (Or.inl ⟨by rfl, ?_⟩) (by assumption) ?_
              rotate_left 1
              · (intro w hSw; (try dsimp only at hSw); go_simp; (try with_reducible rfl))
              try simp only [Act.put]
              refine wpAnyH_take (i := 11) (v := ?_) rfl (by kernel_rfl) (by kernel_rfl) (by kernel_rfl) (fun _ _ _ h => h) (Or.inl ⟨by rfl, ?_⟩) (by assumption) ?_
              rotate_left 1
              · (intro w hSw; (try dsimp only at hSw); go_simp; (try with_reducible rfl))
              try simp only [Act.put]
              refine wpAnyH_take (i := 12) (v := ?_) rfl (by kernel_rfl) (by kernel_rfl) (by kernel_rfl) (fun _ _ _ h => h) (Or.inl ⟨by rfl, ?_⟩) (by assumption) ?_
              rotate_left 1
              · (intro w hSw; (try dsimp only at hSw); go_simp; (try with_reducible rfl))
              try simp only [Act.put]
              refine wpAnyH_ready (rs := [9]) (by kernel_rfl) (by simp) ?_
              refine AllReadyH.cons rfl (fun K hK => ?_) ?_
              · skip
                go_simp
                refine (L0.out _ (grown_drew (grown_refl _))).mono ?_
                rintro e wy ⟨hg, rfl⟩
                exact ⟨rfl, ended_err E5.out (grown_trans (grown_drew G4.out) hg)⟩
              exact AllReadyH.nil
            | ok pa =>
              rw [hA0] at L0
              cases hA1 : placesP A x K 1 with
              | error c =>
                rw [hA1] at L1
                have E6 : Hid (pooledP A x = .error c) := by show _ = _; rw [E4.out, hA0, hA1]; rfl
                clear hA0 hA1
                refine wp_region_held_drew (S := (fun w' => w'.cell? ⟨w.heap.size, 0, none⟩ = some (.string op) ∧ w'.cell? ⟨w.heap.size, 1, none⟩ = some (.string nam) ∧ w'.cell? ⟨w.heap.size, 2, none⟩ = some (.slice ia il ic) ∧ w'.cell? ⟨w.heap.size, 3, none⟩ = some (.string out) ∧ w'.cell? ⟨w.heap.size, 4, none⟩ = some (.slice ao al cap) ∧ w'.cell? ⟨xb, xo, none⟩ = some (.int .i64 x0) ∧ w'.cell? ⟨xb, xo + 1, none⟩ = some (.int .i64 x1))) (by kernel_rfl) (by go_keep) (fun hHeld => ?_)
                refine wpAnyH_take (i := 0) (v := ?_) rfl (by kernel_rfl) (by kernel_rfl) (by kernel_rfl) (fun _ _ _ h => h) (Or.inl ⟨by rfl, ?_⟩) (by assumption) ?_
                rotate_left 1
                · (intro w hSw; (try dsimp only at hSw); go_simp; (try with_reducible rfl))
                try simp only [Act.put]
                refine wpAnyH_take (i := 1) (v := ?_) rfl (by kernel_rfl) (by kernel_rfl) (by kernel_rfl) (fun _ _ _ h => h) (Or.inl ⟨by rfl, ?_⟩) (by assumption) ?_
                rotate_left 1
                · (intro w hSw; (try dsimp only at hSw); go_simp; (try with_reducible rfl))
                try simp only [Act.put]
                refine wpAnyH_take (i := 2) (v := ?_) rfl (by kernel_rfl) (by kernel_rfl) (by kernel_rfl) (fun _ _ _ h => h) (Or.inl ⟨by rfl, ?_⟩) (by assumption) ?_
                rotate_left 1
                · (intro w hSw; (try dsimp only at hSw); go_simp; (try with_reducible rfl))
                try simp only [Act.put]
                refine wpAnyH_take (i := 3) (v := ?_) rfl (by kernel_rfl) (by kernel_rfl) (by kernel_rfl) (fun _ _ _ h => h) (Or.inl ⟨by rfl, ?_⟩) (by assumption) ?_
                rotate_left 1
                · (intro w hSw; (try dsimp only at hSw); go_simp; (try with_reducible rfl))
                try simp only [Act.put]
                refine wpAnyH_take (i := 4) (v := ?_) rfl (by kernel_rfl) (by kernel_rfl) (by kernel_rfl) (fun _ _ _ h => h) (Or.inl ⟨by rfl, ?_⟩) (by assumption) ?_
                rotate_left 1
                · (intro w hSw; (try dsimp only at hSw); go_simp; (try with_reducible rfl))
                try simp only [Act.put]
                refine wpAnyH_take (i := 5) (v := ?_) rfl (by kernel_rfl) (by kernel_rfl) (by kernel_rfl) (fun _ _ _ h => h) (Or.inl ⟨by rfl, ?_⟩) (by assumption) ?_
                rotate_left 1
                · (intro w hSw; (try dsimp only at hSw); go_simp; (try with_reducible rfl))
                try simp only [Act.put]
                refine wpAnyH_take (i := 6) (v := ?_) rfl (by kernel_rfl) (by kernel_rfl) (by kernel_rfl) (fun _ _ _ h => h) (Or.inl ⟨by rfl, ?_⟩) (by assumption) ?_
                rotate_left 1
                · (intro w hSw; (try dsimp only at hSw); go_simp; (try with_reducible rfl))
                try simp only [Act.put]
                refine wpAnyH_take (i := 7) (v := ?_) rfl (by kernel_rfl) (by kernel_rfl) (by kernel_rfl) (fun _ _ _ h => h) (Or.inl ⟨by rfl, ?_⟩) (by assumption) ?_
                rotate_left 1
                · (intro w hSw; (try dsimp only at hSw); go_simp; (try with_reducible rfl))
                try simp only [Act.put]
                refine wpAnyH_take (i := 8) (v := ?_) rfl (by kernel_rfl) (by kernel_rfl) (by kernel_rfl) (fun _ _ _ h => h) (Or.inl ⟨by rfl, ?_⟩) (by assumption) ?_
                rotate_left 1
                · (intro w hSw; (try dsimp only at hSw); go_simp; (try with_reducible rfl))
                try simp only [Act.put]
                refine wpAnyH_take (i := 10) (v := ?_) rfl (by kernel_rfl) (by kernel_rfl) (by kernel_rfl) (fun _ _ _ h => h) (Or.inl ⟨by rfl, ?_⟩) (by assumption) ?_
                rotate_left 1
                · (intro w hSw; (try dsimp only at hSw); go_simp; (try with_reducible rfl))
                try simp only [Act.put]
                refine wpAnyH_take (i := 11) (v := ?_) rfl (by kernel_rfl) (by kernel_rfl) (by kernel_rfl) (fun _ _ _ h => h) (Or.inl ⟨by rfl, ?_⟩) (by assumption) ?_
                rotate_left 1
                · (intro w hSw; (try dsimp only at hSw); go_simp; (try with_reducible rfl))
                try simp only [Act.put]
                refine wpAnyH_take (i := 12) (v := ?_) rfl (by kernel_rfl) (by kernel_rfl) (by kernel_rfl) (fun _ _ _ h => h) (Or.inl ⟨by rfl, ?_⟩) (by assumption) ?_
                rotate_left 1
                · (intro w hSw; (try dsimp only at hSw); go_simp; (try with_reducible rfl))
                try simp only [Act.put]
                refine wpAnyH_ready (rs := [9]) (by kernel_rfl) (by simp) ?_
                refine AllReadyH.cons rfl (fun K hK => ?_) ?_
                · skip
                  go_simp
                  refine (L0.out _ (grown_drew (grown_refl _))).mono ?_
                  rintro e w5 ⟨hg5, v, rfl, rfl, hb1, hb2⟩
                  have g5 := grown_trans (grown_drew (grown_refl w4)) hg5
                  have g5w := grown_trans G04.out g5
                  obtain ⟨n0, n1, n2, n3, n4⟩ := nod_cells (n := ⟨op, nam, ⟨ia, il, ic⟩, out, ⟨ao, al, cap⟩⟩) (BX.out w5 g5w)
                  have y0 := cell_still X0.out (grown_trans g0.out g5w)
                  have y1 := cell_still X1.out (grown_trans g0.out g5w)
                  try dsimp only
                  refine hK.out _ _ (by first | assumption | go_keep) (fun hHeld => ?_)
                  clear hK K
                  try simp only [Act.put]
                  refine wpAnyH_ready (rs := [13]) (by kernel_rfl) (by simp) ?_
                  refine AllReadyH.cons rfl (fun K hK => ?_) ?_
                  · skip
                    go_simp
                    refine (L1.out _ g5).mono ?_
                    rintro e wy ⟨hg, rfl⟩
                    exact ⟨rfl, ended_err E6.out (grown_trans (grown_trans G4.out g5) hg)⟩
                  exact AllReadyH.nil
                exact AllReadyH.nil
              | ok pb =>
                rw [hA1] at L1
                have E7 : Hid (pooledP A x = .ok [x0, x1, pa, pb]) := by show _ = _; rw [E4.out, hA0, hA1]; rfl
                clear hA0 hA1
                refine wp_region_held_drew (S := (fun w' => w'.cell? ⟨w.heap.size, 0, none⟩ = some (.string op) ∧ w'.cell? ⟨w.heap.size, 1, none⟩ = some (.string nam) ∧ w'.cell? ⟨w.heap.size, 2, none⟩ = some (.slice ia il ic) ∧ w'.cell? ⟨w.heap.size, 3, none⟩ = some (.string out) ∧ w'.cell? ⟨w.heap.size, 4, none⟩ = some (.slice ao al cap) ∧ w'.cell? ⟨xb, xo, none⟩ = some (.int .i64 x0) ∧ w'.cell? ⟨xb, xo + 1, none⟩ = some (.int .i64 x1))) (by kernel_rfl) (by go_keep) (fun hHeld => ?_)
                refine wpAnyH_take (i := 0) (v := ?_) rfl (by kernel_rfl) (by kernel_rfl) (by kernel_rfl) (fun _ _ _ h => h) (Or.inl ⟨by rfl, ?_⟩) (by assumption) ?_
                rotate_left 1
                · (intro w hSw; (try dsimp only at hSw); go_simp; (try with_reducible rfl))
                try simp only [Act.put]
                refine wpAnyH_take (i := 1) (v := ?_) rfl (by kernel_rfl) (by kernel_rfl) (by kernel_rfl) (fun _ _ _ h => h) (Or.inl ⟨by rfl, ?_⟩) (by assumption) ?_
                rotate_left 1
                · (intro w hSw; (try dsimp only at hSw); go_simp; (try with_reducible rfl))
                try simp only [Act.put]
                refine wpAnyH_take (i := 2) (v := ?_) rfl (by kernel_rfl) (by kernel_rfl) (by kernel_rfl) (fun _ _ _ h => h) (Or.inl ⟨by rfl, ?_⟩) (by assumption) ?_
                rotate_left 1
                · (intro w hSw; (try dsimp only at hSw); go_simp; (try with_reducible rfl))
                try simp only [Act.put]
                refine wpAnyH_take (i := 3) (v := ?_) rfl (by kernel_rfl) (by kernel_rfl) (by kernel_rfl) (fun _ _ _ h => h) (Or.inl ⟨by rfl, ?_⟩) (by assumption) ?_
                rotate_left 1
                · (intro w hSw; (try dsimp only at hSw); go_simp; (try with_reducible rfl))
                try simp only [Act.put]
                refine wpAnyH_take (i := 4) (v := ?_) rfl (by kernel_rfl) (by kernel_rfl) (by kernel_rfl) (fun _ _ _ h => h) (Or.inl ⟨by rfl, ?_⟩) (by assumption) ?_
                rotate_left 1
                · (intro w hSw; (try dsimp only at hSw); go_simp; (try with_reducible rfl))
                try simp only [Act.put]
                refine wpAnyH_take (i := 5) (v := ?_) rfl (by kernel_rfl) (by kernel_rfl) (by kernel_rfl) (fun _ _ _ h => h) (Or.inl ⟨by rfl, ?_⟩) (by assumption) ?_
                rotate_left 1
                · (intro w hSw; (try dsimp only at hSw); go_simp; (try with_reducible rfl))
                try simp only [Act.put]
                refine wpAnyH_take (i := 6) (v := ?_) rfl (by kernel_rfl) (by kernel_rfl) (by kernel_rfl) (fun _ _ _ h => h) (Or.inl ⟨by rfl, ?_⟩) (by assumption) ?_
                rotate_left 1
                · (intro w hSw; (try dsimp only at hSw); go_simp; (try with_reducible rfl))
                try simp only [Act.put]
                refine wpAnyH_take (i := 7) (v := ?_) rfl (by kernel_rfl) (by kernel_rfl) (by kernel_rfl) (fun _ _ _ h => h) (Or.inl ⟨by rfl, ?_⟩) (by assumption) ?_
                rotate_left 1
                · (intro w hSw; (try dsimp only at hSw); go_simp; (try with_reducible rfl))
                try simp only [Act.put]
                refine wpAnyH_take (i := 8) (v := ?_) rfl (by kernel_rfl) (by kernel_rfl) (by kernel_rfl) (fun _ _ _ h => h) (Or.inl ⟨by rfl, ?_⟩) (by assumption) ?_
                rotate_left 1
                · (intro w hSw; (try dsimp only at hSw); go_simp; (try with_reducible rfl))
                try simp only [Act.put]
                refine wpAnyH_take (i := 10) (v := ?_) rfl (by kernel_rfl) (by kernel_rfl) (by kernel_rfl) (fun _ _ _ h => h) (Or.inl ⟨by rfl, ?_⟩) (by assumption) ?_
                rotate_left 1
                · (intro w hSw; (try dsimp only at hSw); go_simp; (try with_reducible rfl))
                try simp only [Act.put]
                refine wpAnyH_take (i := 11) (v := ?_) rfl (by kernel_rfl) (by kernel_rfl) (by kernel_rfl) (fun _ _ _ h => h) (Or.inl ⟨by rfl, ?_⟩) (by assumption) ?_
                rotate_left 1
                · (intro w hSw; (try dsimp only at hSw); go_simp; (try with_reducible rfl))
                try simp only [Act.put]
                refine wpAnyH_take (i := 12) (v := ?_) rfl (by kernel_rfl) (by kernel_rfl) (by kernel_rfl) (fun _ _ _ h => h) (Or.inl ⟨by rfl, ?_⟩) (by assumption) ?_
                rotate_left 1
                · (intro w hSw; (try dsimp only at hSw); go_simp; (try with_reducible rfl))
                try simp only [Act.put]
                refine wpAnyH_ready (rs := [9]) (by kernel_rfl) (by simp) ?_
                refine AllReadyH.cons rfl (fun K hK => ?_) ?_
                · skip
                  go_simp
                  refine (L0.out _ (grown_drew (grown_refl _))).mono ?_
                  rintro e w5 ⟨hg5, v, rfl, rfl, hb1, hb2⟩
                  have g5 := grown_trans (grown_drew (grown_refl w4)) hg5
                  have g5w := grown_trans G04.out g5
                  obtain ⟨n0, n1, n2, n3, n4⟩ := nod_cells (n := ⟨op, nam, ⟨ia, il, ic⟩, out, ⟨ao, al, cap⟩⟩) (BX.out w5 g5w)
                  have y0 := cell_still X0.out (grown_trans g0.out g5w)
                  have y1 := cell_still X1.out (grown_trans g0.out g5w)
                  try dsimp only
                  refine hK.out _ _ (by first | assumption | go_keep) (fun hHeld => ?_)
                  clear hK K
                  try simp only [Act.put]
                  refine wpAnyH_ready (rs := [13]) (by kernel_rfl) (by simp) ?_
                  refine AllReadyH.cons rfl (fun K hK => ?_) ?_
                  · skip
                    go_simp
                    refine (L1.out _ g5).mono ?_
                    rintro e w6 ⟨hg6, v, rfl, rfl, hc1, hc2⟩
                    have g6 := grown_trans g5 hg6
                    have g6w := grown_trans G04.out g6
                    obtain ⟨n0, n1, n2, n3, n4⟩ := nod_cells (n := ⟨op, nam, ⟨ia, il, ic⟩, out, ⟨ao, al, cap⟩⟩) (BX.out w6 g6w)
                    have y0 := cell_still X0.out (grown_trans g0.out g6w)
                    have y1 := cell_still X1.out (grown_trans g0.out g6w)
                    try dsimp only
                    refine hK.out _ _ (by first | assumption | go_keep) (fun hHeld => ?_)
                    clear hK K
                    try simp only [Act.put]
                    refine wpAnyH_ready (rs := [14]) (by kernel_rfl) (by simp) ?_
                    refine AllReadyH.cons rfl (fun K hK => ?_) ?_
                    · skip
                      go_simp
                      have y0 := cell_still y0 (grown_new w6 (.cells #[.int .i64 x0, .int .i64 x1, .int .i64 pa, .int .i64 pb] 3))
                      have y1 := cell_still y1 (grown_new w6 (.cells #[.int .i64 x0, .int .i64 x1, .int .i64 pa, .int .i64 pb] 3))
                      obtain ⟨n0, n1, n2, n3, n4⟩ := nod_cells (n := ⟨op, nam, ⟨ia, il, ic⟩, out, ⟨ao, al, cap⟩⟩) (BX.out _ (grown_trans g6w (grown_new w6 (.cells #[.int .i64 x0, .int .i64 x1, .int .i64 pa, .int .i64 pb] 3))))
                      refine hK.out _ _ (by first | assumption | go_keep) (fun hHeld => ?_)
                      clear hK K
                      try simp only [Act.put]
                      refine wpAnyH_take (i := 15) (v := ?_) rfl (by kernel_rfl) (by kernel_rfl) (by kernel_rfl) (fun _ _ _ h => h) (Or.inl ⟨by rfl, ?_⟩) (by assumption) ?_
                      rotate_left 1
                      · (intro w hSw; (try dsimp only at hSw); go_simp; (try with_reducible rfl))
                      try simp only [Act.put]
                      refine wpAnyH_done (by kernel_rfl) ?_ _
                      try go_simp
                      go_wp2
                      go_ret
                      exact ended_ok E7.out (grown_trans (grown_trans G4.out g6) (grown_new _ _)) ⟨⟨some ⟨w6.heap.size, 0, none⟩, 4, 4⟩, rfl, ints_new w6 [x0, x1, pa, pb] 3 (by simp) (fun y hy => by simp at hy; omega)⟩
                    exact AllReadyH.nil
                  exact AllReadyH.nil
                exact AllReadyH.nil
  · have b0 : ((x.length : Int) == 4) = false := by simpa using (fun h => hl (by omega) : ¬ (x.length : Int) = 4)
    have E1 : Hid (pooledP A x = .error 4) := by show _ = _; rw [E0.out]; simp [mustP, hl]; rfl
    clear hl
    go_enter Tryz.func157, Tryz.ntmps157
    go_wp2_with (first | (go_at_call 118; refine (must_no _).mono ?_; rintro e w' ⟨rfl, rfl⟩) | fail)
    rw [← hw0]
    exact ⟨rfl, ended_err E1.out g0.out⟩

end Go.Proofs.YtkefdkboejimeaaGreatDoor

namespace Go.Proofs.YtkefdkboejimeaaGreatDoor

open Go.RowKit

set_option maxRecDepth 100000 in
set_option maxHeartbeats 40000000 in
theorem dims_pooled (n : Nod) (A : At) (u : Sl) (v0 : Val) (x : List Int) (w : World) (hop : n.op ∈ ([⟨#[77, 97, 120, 80, 111, 111, 108]⟩, ⟨#[65, 118, 101, 114, 97, 103, 101, 80, 111, 111, 108]⟩] : List ByteArray)) (hn : NodeOk w n A) (hv : ValsIn w u.v [(v0, x)]) (hf : Fine x) : Calls Tryz.prog 122 #[nval n, .slice u.a u.n u.c] w (Ended w (pooledP A x) DimsQ) := by
  obtain ⟨xa, xc, e1, q1, q2, q3⟩ := hv.vals.form
  simp only [List.map_cons, List.map_nil, List.length_cons, List.length_nil, Nat.zero_add] at e1 q1 q3
  obtain ⟨ua, un, uc⟩ := u
  simp only [Sl.v, Value.slice.injEq] at e1
  obtain ⟨rfl, rfl, rfl⟩ := e1
  obtain ⟨b, off, rfl⟩ := hv.vals.addr (k := 0) (by simp)
  obtain ⟨-, z0⟩ := hv.at 0 (by simp)
  rw [Nat.zero_mul, Nat.add_zero] at z0
  simp only [List.getElem_cons_zero] at z0
  have HX := hide (hv.dims (v0, x) (by simp))
  obtain ⟨vn0, vt0, ⟨d0a, d0n, d0c⟩⟩ := v0
  simp only at z0 HX
  have Z0 := hide z0
  clear hv z0
  have NK := hide hn
  obtain ⟨op, nam, ⟨ia, il, ic⟩, out, ⟨ao, al, cap⟩⟩ := n
  unfold nval
  simp only
  obtain ⟨w0, hw0⟩ : ∃ w0, w0 = w.alloc (.cells #[.string op, .string nam, .slice ia il ic, .string out, .slice ao al cap] 35) := ⟨_, rfl⟩
  have g0 : Hid (w.grownBy w0 none) := by show w.grownBy w0 none; rw [hw0]; exact grown_new _ _
  have hb0 := heap_alloc_new w (.cells #[.string op, .string nam, .slice ia il ic, .string out, .slice ao al cap] 35)
  rw [← hw0] at hb0
  have BX : Hid (∀ wx, w0.grownBy wx none → wx.heap[w.heap.size]? = some (.cells #[.string op, .string nam, .slice ia il ic, .string out, .slice ao al cap] 35 (0, 0))) := fun wx hg => box_kept hb0 hg
  clear hb0 hn
  simp only at hop
  have z0 : (w.alloc (.cells #[.string op, .string nam, .slice ia il ic, .string out, .slice ao al cap] 35)).cell? ⟨b, off + 2, none⟩ = some (.slice d0a d0n d0c) := cell_still Z0.out (grown_new _ _)
  have C := hide (pooled_any ⟨op, nam, ⟨ia, il, ic⟩, out, ⟨ao, al, cap⟩⟩ A ⟨d0a, d0n, d0c⟩ x w0 (NK.out.more g0.out) (HX.out.more g0.out) hf)
  unfold nval at C
  simp only at C
  simp only [List.mem_cons, List.not_mem_nil, or_false] at hop
  rcases hop with rfl | rfl
  all_goals
    go_enter Tryz.func122, Tryz.ntmps122
    go_wp2_with fail
    rw [← hw0]
    clear hw0
    cases hk : pooledP A x with
    | error c =>
      rw [hk] at C
      have HK := hide hk
      clear hk
      refine C.out.mono ?_
      rintro e w' ⟨hg, rfl⟩
      exact ⟨rfl, ended_err (by first | exact HK.out | rfl) (grown_trans g0.out hg)⟩
    | ok zs =>
      rw [hk] at C
      have HK := hide hk
      clear hk
      refine C.out.mono ?_
      rintro e w' ⟨hg, v, rfl, ⟨s1, s2, s3⟩, rfl, hs⟩
      simp only [Sl.v]
      go_wp2
      go_ret
      exact ended_ok (by first | exact HK.out | rfl) (grown_trans g0.out hg) ⟨⟨s1, s2, s3⟩, rfl, hs⟩

end Go.Proofs.YtkefdkboejimeaaGreatDoor

namespace Go.Proofs.YtkefdkboejimeaaGreatDoor

open Go.RowKit

theorem ValsIn.tail {w : World} {b off n c : Nat} {p : Val × List Int} {l : List (Val × List Int)} (h : ValsIn w (.slice (some ⟨b, off, none⟩) n c) (p :: l)) : ValsIn w (.slice (some ⟨b, off + 3, none⟩) l.length (c - 1)) l := by
  refine ⟨?_, fun q hq => h.dims q (List.mem_cons_of_mem _ hq)⟩
  obtain ⟨ao, cap, e, h1, h2, h3, h4, h5⟩ := h.vals
  cases e
  simp only [List.map_cons, List.length_cons] at h1 h3 h5
  refine ⟨_, c - 1, by rw [List.length_map], by omega, by omega, by omega, (fun h => by cases h), fun hp => ⟨b, off + 3, rfl, fun k hk j hj => ?_⟩⟩
  obtain ⟨b', off', e', hc⟩ := h5 (by omega)
  cases e'
  have := hc (k + 1) (by omega) j hj
  simp only [List.getElem_cons_succ] at this
  rw [show off + 3 + k * 3 + j = off + (k + 1) * 3 + j by omega]
  exact this

end Go.Proofs.YtkefdkboejimeaaGreatDoor

namespace Go.Proofs.YtkefdkboejimeaaGreatDoor

open Go.RowKit

theorem wrap_smallI {z : Int} (h0 : 0 ≤ z) (h1 : z ≤ 9223372036854775807) : IntKind.i64.wrap z = z := by
  rw [IntKind.wrap_i64]
  omega

def convT (A : At) (x k : List Int) : R (List Int) := (mustP (decide (1 ≤ A.int ⟨#[103, 114, 111, 117, 112]⟩ 1))).bind (fun _ => (mustP (decide (x.getD 1 0 % A.int ⟨#[103, 114, 111, 117, 112]⟩ 1 = 0 ∧ k.getD 0 0 % A.int ⟨#[103, 114, 111, 117, 112]⟩ 1 = 0 ∧ x.getD 1 0 / A.int ⟨#[103, 114, 111, 117, 112]⟩ 1 = k.getD 1 0))).bind (fun _ => (placesP A x [k.getD 2 0, k.getD 3 0] 0).bind (fun a => (placesP A x [k.getD 2 0, k.getD 3 0] 1).bind (fun b => .ok [x.getD 0 0, k.getD 0 0, a, b]))))

set_option maxRecDepth 100000 in
set_option maxHeartbeats 8000000 in
theorem convz_any (n : Nod) (A : At) (u : Sl) (p0 p1 p2 : Val × List Int) (w : World) (hn : NodeOk w n A) (hv : ValsIn w u.v [p0, p1, p2]) (hl4 : p0.2.length = 4) (hk4 : p1.2.length = 4) (hz : ¬ (p2.2.length = 1 ∧ p2.2.getD 0 0 = p1.2.getD 0 0)) : Calls Tryz.prog 156 #[nval n, .slice u.a u.n u.c] w (Ended w (.error 4 : R (List Int)) DimsQ) := by
  obtain ⟨xa, xc, e1, q1, q2, q3⟩ := hv.vals.form
  simp only [List.map_cons, List.map_nil, List.length_cons, List.length_nil, Nat.zero_add, Nat.reduceAdd] at e1 q1 q3
  obtain ⟨ua, un, uc⟩ := u
  simp only [Sl.v, Value.slice.injEq] at e1
  obtain ⟨rfl, rfl, rfl⟩ := e1
  obtain ⟨b, off, rfl⟩ := hv.vals.addr (k := 0) (by simp)
  obtain ⟨-, z0⟩ := hv.at 0 (by simp)
  obtain ⟨-, z1⟩ := hv.at 1 (by simp)
  obtain ⟨-, z2⟩ := hv.at 2 (by simp)
  rw [Nat.zero_mul, Nat.add_zero] at z0
  simp only [List.getElem_cons_zero, List.getElem_cons_succ, Nat.one_mul, Nat.reduceMul] at z0 z1 z2
  have HX := hide (hv.dims p0 (by simp))
  have HK := hide (hv.dims p1 (by simp))
  have HZ := hide (hv.dims p2 (by simp))
  obtain ⟨⟨vn0, vt0, ⟨d0a, d0n, d0c⟩⟩, x⟩ := p0
  obtain ⟨⟨vn1, vt1, ⟨d1a, d1n, d1c⟩⟩, k⟩ := p1
  obtain ⟨⟨vn2, vt2, ⟨d2a, d2n, d2c⟩⟩, z⟩ := p2
  simp only at z0 z1 z2 HX HK HZ hz hl4 hk4 ⊢
  obtain ⟨xx, xcc, ex, f1, f2, f3⟩ := HX.out.sl
  simp only [Sl.v, Value.slice.injEq] at ex
  obtain ⟨rfl, rfl, rfl⟩ := ex
  obtain ⟨kx, kcc, ek, g1, g2, g3⟩ := HK.out.sl
  simp only [Sl.v, Value.slice.injEq] at ek
  obtain ⟨rfl, rfl, rfl⟩ := ek
  obtain ⟨zx, zcc, ez, h1, h2, h3⟩ := HZ.out.sl
  simp only [Sl.v, Value.slice.injEq] at ez
  obtain ⟨rfl, rfl, rfl⟩ := ez
  have Z0 := hide z0
  have Z1 := hide z1
  have Z2 := hide z2
  have bx : ((x.length : Int) == 4) = true := by simp [hl4]
  have bk : ((k.length : Int) == 4) = true := by simp [hk4]
  have HK4 := hide hk4
  clear hv z0 z1 z2 hl4 hk4
  have NK := hide hn
  obtain ⟨op, nam, ⟨ia, il, ic⟩, out, ⟨ao, al, cap⟩⟩ := n
  unfold nval
  simp only
  obtain ⟨w0, hw0⟩ : ∃ w0, w0 = w.alloc (.cells #[.string op, .string nam, .slice ia il ic, .string out, .slice ao al cap] 35) := ⟨_, rfl⟩
  have g0 : Hid (w.grownBy w0 none) := by show w.grownBy w0 none; rw [hw0]; exact grown_new _ _
  have hb0 := heap_alloc_new w (.cells #[.string op, .string nam, .slice ia il ic, .string out, .slice ao al cap] 35)
  rw [← hw0] at hb0
  have BX : Hid (∀ wx, w0.grownBy wx none → wx.heap[w.heap.size]? = some (.cells #[.string op, .string nam, .slice ia il ic, .string out, .slice ao al cap] 35 (0, 0))) := fun wx hg => box_kept hb0 hg
  clear hb0 hn
  go_enter Tryz.func156, Tryz.ntmps156
  go_wp2_with fail
  rw [← hw0]
  clear hw0
  have y0 := cell_still Z0.out g0.out
  have y1 := cell_still Z1.out g0.out
  have i1 : (1 : Int) < 3 := by decide
  have i2 : (2 : Int) < 3 := by decide
  go_quiet (fail)
  have gq : w0.grownBy (w0.drewN nq) none := ⟨rfl, rfl, rfl, Nat.le_refl _, fun k hk hn => rfl⟩
  obtain ⟨wq, hwq⟩ : ∃ wq, wq = w0.drewN nq := ⟨_, rfl⟩
  rw [← hwq] at gq ⊢
  have GQ := hide (grown_trans g0.out gq)
  clear hwq y0 y1 gq
  have y2 := cell_still Z2.out GQ.out
  go_wp2_with (first | (go_at_call 118; refine (must_yes _).mono ?_; rintro e w' ⟨rfl, rfl⟩) | fail)
  by_cases hzl : z.length = 1
  · have bz : ((z.length : Int) == 1) = true := by simp [hzl]
    have hne : z.getD 0 0 ≠ k.getD 0 0 := fun h => hz ⟨hzl, h⟩
    obtain ⟨zb, zo, rfl, hcz⟩ := HZ.out.get (k := 0) (by omega)
    obtain ⟨wb, wo, rfl, hck⟩ := HK.out.get (k := 0) (by have := HK4.out; omega)
    have cz := cell_still (hcz 0 (by omega)) GQ.out
    have ck := cell_still (hck 0 (by have := HK4.out; omega)) GQ.out
    rw [Nat.add_zero] at cz ck
    obtain ⟨zz, hzz⟩ : ∃ q, q = z.getD 0 0 := ⟨_, rfl⟩
    obtain ⟨k0, hk0⟩ : ∃ q, q = k.getD 0 0 := ⟨_, rfl⟩
    rw [← hzz] at cz hne
    rw [← hk0] at ck hne
    have bne : (zz == k0) = false := by simpa using hne
    obtain ⟨d2n, hd2⟩ : ∃ q, q = z.length := ⟨_, rfl⟩
    obtain ⟨kn, hkn⟩ : ∃ q, q = k.length := ⟨_, rfl⟩
    have m0 : 0 < d2n := by omega
    have m0' : (0 : Int) < (d2n : Int) := by omega
    have m1 : 0 < kn := by have := HK4.out; omega
    have m1' : (0 : Int) < (kn : Int) := by omega
    rw [← hd2] at y2 bz
    rw [← hkn] at bk ⊢
    clear hzz hk0 hcz hck hne hz hzl hd2 hkn
    refine wp_region_held_drew (S := (fun w' => w'.cell? ⟨b, off + 6 + 2, none⟩ = some (.slice (some ⟨zb, zo, none⟩) d2n d2c) ∧ w'.cell? ⟨zb, zo, none⟩ = some (.int .i64 zz) ∧ w'.cell? ⟨wb, wo, none⟩ = some (.int .i64 k0))) (by kernel_rfl) (by go_keep) (fun hHeld => ?_)
    refine wpAnyH_take (i := 0) (v := ?_) rfl (by kernel_rfl) (by kernel_rfl) (by kernel_rfl) (fun _ _ _ h => h) (Or.inl ⟨by kernel_rfl, ?_⟩) (by assumption) ?_
    rotate_left 1
    · (intro w hSw; (try dsimp only at hSw); go_simp; (try with_reducible rfl))
    try simp only [Act.put]
    refine wpAnyH_take (i := 1) (v := ?_) rfl (by kernel_rfl) (by kernel_rfl) (by kernel_rfl) (fun _ _ _ h => h) (Or.inl ⟨by kernel_rfl, ?_⟩) (by assumption) ?_
    rotate_left 1
    · (intro w hSw; (try dsimp only at hSw); go_simp; (try with_reducible rfl))
    try simp only [Act.put]
    refine wpAnyH_take (i := 2) (v := ?_) rfl (by kernel_rfl) (by kernel_rfl) (by kernel_rfl) (fun _ _ _ h => h) (Or.inl ⟨by kernel_rfl, ?_⟩) (by assumption) ?_
    rotate_left 1
    · (intro w hSw; (try dsimp only at hSw); go_simp; (try with_reducible rfl))
    try simp only [Act.put]
    refine wpAnyH_take (i := 3) (v := ?_) rfl (by kernel_rfl) (by kernel_rfl) (by kernel_rfl) (fun _ _ _ h => h) (Or.inl ⟨by kernel_rfl, ?_⟩) (by assumption) ?_
    rotate_left 1
    · (intro w hSw; (try dsimp only at hSw); go_simp; (try with_reducible rfl))
    try simp only [Act.put]
    refine wpAnyH_take (i := 4) (v := ?_) rfl (by kernel_rfl) (by kernel_rfl) (by kernel_rfl) (fun _ _ _ h => h) (Or.inl ⟨by kernel_rfl, ?_⟩) (by assumption) ?_
    rotate_left 1
    · (intro w hSw; (try dsimp only at hSw); go_simp; (try with_reducible rfl))
    try simp only [Act.put]
    refine wpAnyH_take (i := 5) (v := .bool true) rfl (by kernel_rfl) (by kernel_rfl) (by kernel_rfl) (fun _ _ _ h => h) (Or.inl ⟨by kernel_rfl, ?_⟩) (by assumption) ?_
    · (intro w hSw; (try dsimp only at hSw); go_simp; (try simp only [bz]))
    try simp only [Act.put]
    refine wpAnyH_take (i := 6) (v := ?_) rfl (by kernel_rfl) (by kernel_rfl) (by kernel_rfl) (fun _ _ _ h => h) (Or.inl ⟨by kernel_rfl, ?_⟩) (by assumption) ?_
    rotate_left 1
    · (intro w hSw; (try dsimp only at hSw); go_simp; (try with_reducible rfl))
    try simp only [Act.put]
    refine wpAnyH_take (i := 7) (v := ?_) rfl (by kernel_rfl) (by kernel_rfl) (by kernel_rfl) (fun _ _ _ h => h) (Or.inl ⟨by kernel_rfl, ?_⟩) (by assumption) ?_
    rotate_left 1
    · (intro w hSw; (try dsimp only at hSw); go_simp; (try with_reducible rfl))
    try simp only [Act.put]
    refine wpAnyH_take (i := 8) (v := ?_) rfl (by kernel_rfl) (by kernel_rfl) (by kernel_rfl) (fun _ _ _ h => h) (Or.inl ⟨by kernel_rfl, ?_⟩) (by assumption) ?_
    rotate_left 1
    · (intro w hSw; (try dsimp only at hSw); go_simp; (try with_reducible rfl))
    try simp only [Act.put]
    refine wpAnyH_take (i := 9) (v := ?_) rfl (by kernel_rfl) (by kernel_rfl) (by kernel_rfl) (fun _ _ _ h => h) (Or.inl ⟨by kernel_rfl, ?_⟩) (by assumption) ?_
    rotate_left 1
    · (intro w hSw; (try dsimp only at hSw); go_simp; (try with_reducible rfl))
    try simp only [Act.put]
    refine wpAnyH_take (i := 10) (v := ?_) rfl (by kernel_rfl) (by kernel_rfl) (by kernel_rfl) (fun _ _ _ h => h) (Or.inl ⟨by kernel_rfl, ?_⟩) (by assumption) ?_
    rotate_left 1
    · (intro w hSw; (try dsimp only at hSw); go_simp; (try with_reducible rfl))
    try simp only [Act.put]
    refine wpAnyH_take (i := 11) (v := ?_) rfl (by kernel_rfl) (by kernel_rfl) (by kernel_rfl) (fun _ _ _ h => h) (Or.inl ⟨by kernel_rfl, ?_⟩) (by assumption) ?_
    rotate_left 1
    · (intro w hSw; (try dsimp only at hSw); go_simp; (try with_reducible rfl))
    try simp only [Act.put]
    refine wpAnyH_take (i := 12) (v := ?_) rfl (by kernel_rfl) (by kernel_rfl) (by kernel_rfl) (fun _ _ _ h => h) (Or.inl ⟨by kernel_rfl, ?_⟩) (by assumption) ?_
    rotate_left 1
    · (intro w hSw; (try dsimp only at hSw); go_simp; (try with_reducible rfl))
    try simp only [Act.put]
    refine wpAnyH_take (i := 13) (v := ?_) rfl (by kernel_rfl) (by kernel_rfl) (by kernel_rfl) (fun _ _ _ h => h) (Or.inl ⟨by kernel_rfl, ?_⟩) (by assumption) ?_
    rotate_left 1
    · (intro w hSw; (try dsimp only at hSw); go_simp; (try with_reducible rfl))
    try simp only [Act.put]
    refine wpAnyH_take (i := 14) (v := ?_) rfl (by kernel_rfl) (by kernel_rfl) (by kernel_rfl) (fun _ _ _ h => h) (Or.inl ⟨by kernel_rfl, ?_⟩) (by assumption) ?_
    rotate_left 1
    · (intro w hSw; (try dsimp only at hSw); go_simp; (try with_reducible rfl))
    try simp only [Act.put]
    refine wpAnyH_take (i := 15) (v := ?_) rfl (by kernel_rfl) (by kernel_rfl) (by kernel_rfl) (fun _ _ _ h => h) (Or.inl ⟨by kernel_rfl, ?_⟩) (by assumption) ?_
    rotate_left 1
    · (intro w hSw; (try dsimp only at hSw); go_simp; (try with_reducible rfl))
    try simp only [Act.put]
    refine wpAnyH_take (i := 16) (v := .bool false) rfl (by kernel_rfl) (by kernel_rfl) (by kernel_rfl) (fun _ _ _ h => h) (Or.inl ⟨by kernel_rfl, ?_⟩) (by assumption) ?_
    · (intro w hSw; (try dsimp only at hSw); go_simp; (try simp only [bne]))
    try simp only [Act.put]
    refine wpAnyH_take (i := 17) (v := ?_) rfl (by kernel_rfl) (by kernel_rfl) (by kernel_rfl) (fun _ _ _ h => h) (Or.inl ⟨by kernel_rfl, ?_⟩) (by assumption) ?_
    rotate_left 1
    · (intro w hSw; (try dsimp only at hSw); go_simp; (try with_reducible rfl))
    try simp only [Act.put]
    refine wpAnyH_ready (rs := [18]) (by kernel_rfl) (by simp) ?_
    refine AllReadyH.cons rfl (fun K hK => ?_) ?_
    · skip
      go_simp
      refine (must_no _).mono ?_
      rintro e wy ⟨rfl, rfl⟩
      exact ⟨rfl, ended_err rfl (grown_drew GQ.out)⟩
    exact AllReadyH.nil
  · have bz : ((z.length : Int) == 1) = false := by simpa using (fun h => hzl (by omega) : ¬ (z.length : Int) = 1)
    obtain ⟨d2n, hd2⟩ : ∃ q, q = z.length := ⟨_, rfl⟩
    rw [← hd2] at y2 bz
    clear hd2 hz hzl
    refine wp_region_held_drew (S := (fun w' => w'.cell? ⟨b, off + 6 + 2, none⟩ = some (.slice d2a d2n d2c))) (by kernel_rfl) (by go_keep) (fun hHeld => ?_)
    refine wpAnyH_take (i := 0) (v := ?_) rfl (by kernel_rfl) (by kernel_rfl) (by kernel_rfl) (fun _ _ _ h => h) (Or.inl ⟨by kernel_rfl, ?_⟩) (by assumption) ?_
    rotate_left 1
    · (intro w hSw; (try dsimp only at hSw); go_simp; (try with_reducible rfl))
    try simp only [Act.put]
    refine wpAnyH_take (i := 1) (v := ?_) rfl (by kernel_rfl) (by kernel_rfl) (by kernel_rfl) (fun _ _ _ h => h) (Or.inl ⟨by kernel_rfl, ?_⟩) (by assumption) ?_
    rotate_left 1
    · (intro w hSw; (try dsimp only at hSw); go_simp; (try with_reducible rfl))
    try simp only [Act.put]
    refine wpAnyH_take (i := 2) (v := ?_) rfl (by kernel_rfl) (by kernel_rfl) (by kernel_rfl) (fun _ _ _ h => h) (Or.inl ⟨by kernel_rfl, ?_⟩) (by assumption) ?_
    rotate_left 1
    · (intro w hSw; (try dsimp only at hSw); go_simp; (try with_reducible rfl))
    try simp only [Act.put]
    refine wpAnyH_take (i := 3) (v := ?_) rfl (by kernel_rfl) (by kernel_rfl) (by kernel_rfl) (fun _ _ _ h => h) (Or.inl ⟨by kernel_rfl, ?_⟩) (by assumption) ?_
    rotate_left 1
    · (intro w hSw; (try dsimp only at hSw); go_simp; (try with_reducible rfl))
    try simp only [Act.put]
    refine wpAnyH_take (i := 4) (v := ?_) rfl (by kernel_rfl) (by kernel_rfl) (by kernel_rfl) (fun _ _ _ h => h) (Or.inl ⟨by kernel_rfl, ?_⟩) (by assumption) ?_
    rotate_left 1
    · (intro w hSw; (try dsimp only at hSw); go_simp; (try with_reducible rfl))
    try simp only [Act.put]
    refine wpAnyH_take (i := 5) (v := .bool false) rfl (by kernel_rfl) (by kernel_rfl) (by kernel_rfl) (fun _ _ _ h => h) (Or.inl ⟨by kernel_rfl, ?_⟩) (by assumption) ?_
    · (intro w hSw; (try dsimp only at hSw); go_simp; (try simp only [bz]))
    try simp only [Act.put]
    refine wpAnyH_take (i := 6) (v := ?_) rfl (by kernel_rfl) (by kernel_rfl) (by kernel_rfl) (fun _ _ _ h => h) (Or.inl ⟨by kernel_rfl, ?_⟩) (by assumption) ?_
    rotate_left 1
    · (intro w hSw; (try dsimp only at hSw); go_simp; (try with_reducible rfl))
    try simp only [Act.put]
    refine wpAnyH_take (i := 7) (v := undef) rfl (by kernel_rfl) (by kernel_rfl) (by kernel_rfl) (fun _ _ _ h => h) (Or.inr ⟨by kernel_rfl, rfl⟩) (by assumption) ?_
    try simp only [Act.put]
    refine wpAnyH_take (i := 8) (v := undef) rfl (by kernel_rfl) (by kernel_rfl) (by kernel_rfl) (fun _ _ _ h => h) (Or.inr ⟨by kernel_rfl, rfl⟩) (by assumption) ?_
    try simp only [Act.put]
    refine wpAnyH_take (i := 9) (v := undef) rfl (by kernel_rfl) (by kernel_rfl) (by kernel_rfl) (fun _ _ _ h => h) (Or.inr ⟨by kernel_rfl, rfl⟩) (by assumption) ?_
    try simp only [Act.put]
    refine wpAnyH_take (i := 10) (v := undef) rfl (by kernel_rfl) (by kernel_rfl) (by kernel_rfl) (fun _ _ _ h => h) (Or.inr ⟨by kernel_rfl, rfl⟩) (by assumption) ?_
    try simp only [Act.put]
    refine wpAnyH_take (i := 11) (v := undef) rfl (by kernel_rfl) (by kernel_rfl) (by kernel_rfl) (fun _ _ _ h => h) (Or.inr ⟨by kernel_rfl, rfl⟩) (by assumption) ?_
    try simp only [Act.put]
    refine wpAnyH_take (i := 12) (v := undef) rfl (by kernel_rfl) (by kernel_rfl) (by kernel_rfl) (fun _ _ _ h => h) (Or.inr ⟨by kernel_rfl, rfl⟩) (by assumption) ?_
    try simp only [Act.put]
    refine wpAnyH_take (i := 13) (v := undef) rfl (by kernel_rfl) (by kernel_rfl) (by kernel_rfl) (fun _ _ _ h => h) (Or.inr ⟨by kernel_rfl, rfl⟩) (by assumption) ?_
    try simp only [Act.put]
    refine wpAnyH_take (i := 14) (v := undef) rfl (by kernel_rfl) (by kernel_rfl) (by kernel_rfl) (fun _ _ _ h => h) (Or.inr ⟨by kernel_rfl, rfl⟩) (by assumption) ?_
    try simp only [Act.put]
    refine wpAnyH_take (i := 15) (v := undef) rfl (by kernel_rfl) (by kernel_rfl) (by kernel_rfl) (fun _ _ _ h => h) (Or.inr ⟨by kernel_rfl, rfl⟩) (by assumption) ?_
    try simp only [Act.put]
    refine wpAnyH_take (i := 16) (v := undef) rfl (by kernel_rfl) (by kernel_rfl) (by kernel_rfl) (fun _ _ _ h => h) (Or.inr ⟨by kernel_rfl, rfl⟩) (by assumption) ?_
    try simp only [Act.put]
    refine wpAnyH_take (i := 17) (v := ?_) rfl (by kernel_rfl) (by kernel_rfl) (by kernel_rfl) (fun _ _ _ h => h) (Or.inl ⟨by kernel_rfl, ?_⟩) (by assumption) ?_
    rotate_left 1
    · (intro w hSw; (try dsimp only at hSw); go_simp; (try with_reducible rfl))
    try simp only [Act.put]
    refine wpAnyH_ready (rs := [18]) (by kernel_rfl) (by simp) ?_
    refine AllReadyH.cons rfl (fun K hK => ?_) ?_
    · skip
      go_simp
      refine (must_no _).mono ?_
      rintro e wy ⟨rfl, rfl⟩
      exact ⟨rfl, ended_err rfl (grown_drew GQ.out)⟩
    exact AllReadyH.nil

end Go.Proofs.YtkefdkboejimeaaGreatDoor
