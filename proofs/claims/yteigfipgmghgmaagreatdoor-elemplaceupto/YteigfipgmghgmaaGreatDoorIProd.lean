/- What infer makes of dims: products, by the walk. -/
import Derived.Test.YteigfipgmghgmaaGreatDoorIDim4
import Derived.BigQuiet
import Derived.Deep.RegionHeld3
import Derived.Deep.AppendLies
namespace Go.Proofs.YteigfipgmghgmaaGreatDoor
open Go.RowKit

set_option maxRecDepth 100000 in
set_option maxHeartbeats 1000000 in
theorem turned_any (u : Sl) (x : List Int) (t : Int) (w : World) (hx : IsInts w u.v x) : Calls Tryz.prog 153 #[.slice u.a u.n u.c, .int .i64 t] w (Ended w (turnedP x t) DimsQ) := by
  obtain ⟨ux, uc, eu, c1, c2, c3⟩ := hx.sl
  obtain ⟨ua, un, uu⟩ := u
  simp only [Sl.v, Value.slice.injEq] at eu
  obtain ⟨rfl, rfl, rfl⟩ := eu
  have HX := hide hx
  have ON := hide (ison_any t w)
  simp only
  by_cases hl : x.length = 2
  · have b0 : ((x.length : Int) == 2) = true := by simp [hl]
    have E0 : Hid (turnedP x t = (isOnP t).bind (fun on => .ok (if on = true then [x.getD 1 0, x.getD 0 0] else x))) := by show _ = _; unfold turnedP; simp [mustP, hl]; rfl
    obtain ⟨b, off, rfl, hc⟩ := hx.get (k := 0) (by omega)
    have q0 := hc 0 (by omega)
    have q1 := hc 1 (by omega)
    rw [Nat.add_zero] at q0
    have w0 := hx.wf (x.getD 0 0) (by rw [List.getD, List.getElem?_eq_getElem (by omega)]; exact List.getElem_mem _)
    have w1 := hx.wf (x.getD 1 0) (by rw [List.getD, List.getElem?_eq_getElem (by omega)]; exact List.getElem_mem _)
    obtain ⟨p, hp⟩ : ∃ p, p = x.getD 0 0 := ⟨_, rfl⟩
    obtain ⟨q, hq⟩ : ∃ q, q = x.getD 1 0 := ⟨_, rfl⟩
    rw [← hp] at q0 w0 E0
    rw [← hq] at q1 w1 E0
    have l1 : (1 : Int) < (x.length : Int) := by omega
    have l0 : (0 : Int) < (x.length : Int) := by omega
    have m0 : 0 < x.length := by omega
    have m1 : 1 < x.length := by omega
    clear hp hq hc hl hx
    cases hk : isOnP t with
    | error c =>
      rw [hk] at ON
      have E : Hid (turnedP x t = .error c) := by show _ = _; rw [E0.out, hk]; rfl
      clear hk
      go_enter Tryz.func153, Tryz.ntmps153
      go_wp2_with (first | (go_at_call 71; refine (must_yes _).mono ?_; rintro e w' ⟨rfl, rfl⟩) | (go_at_call 146; refine ON.out.mono ?_; rintro e w' ⟨hg, rfl⟩) | fail)
      exact ⟨rfl, ended_err E.out hg⟩
    | ok on =>
      rw [hk] at ON
      cases on with
      | true =>
        have E : Hid (turnedP x t = .ok [q, p]) := by show _ = _; rw [E0.out, hk]; rfl
        clear hk
        go_enter Tryz.func153, Tryz.ntmps153
        go_wp2_with (first | (go_at_call 71; refine (must_yes _).mono ?_; rintro e w' ⟨rfl, rfl⟩) | (go_at_call 146; refine ON.out.mono ?_; rintro e w' ⟨-, v, rfl, rfl, rfl⟩) | fail)
        go_region_held3 (fun w' => w'.cell? ⟨b, off, none⟩ = some (.int .i64 p) ∧ w'.cell? ⟨b, off + 1, none⟩ = some (.int .i64 q)) (go_keep) (fail)
        go_wp2
        go_ret
        exact ended_ok E.out (grown_trans (grown_drew (grown_refl _)) (grown_new _ _)) ⟨⟨_, 2, 2⟩, rfl, ints_new _ [q, p] 3 (by simp) (fun y hy => by simp at hy; rcases hy with rfl | rfl <;> assumption)⟩
      | false =>
        have E : Hid (turnedP x t = .ok x) := by show _ = _; rw [E0.out, hk]; rfl
        clear hk
        go_enter Tryz.func153, Tryz.ntmps153
        go_wp2_with (first | (go_at_call 71; refine (must_yes _).mono ?_; rintro e w' ⟨rfl, rfl⟩) | (go_at_call 146; refine ON.out.mono ?_; rintro e w' ⟨-, v, rfl, rfl, rfl⟩) | fail)
        go_ret
        exact ended_ok E.out (grown_refl _) ⟨⟨_, _, _⟩, rfl, HX.out⟩
  · have b0 : ((x.length : Int) == 2) = false := by simpa using (fun h => hl (by omega) : ¬ (x.length : Int) = 2)
    have E : Hid (turnedP x t = .error 4) := by show _ = _; unfold turnedP; simp [mustP, hl]; rfl
    clear hl
    go_enter Tryz.func153, Tryz.ntmps153
    go_wp2_with (first | (go_at_call 71; refine (must_no _).mono ?_; rintro e w' ⟨rfl, rfl⟩) | fail)
    exact ⟨rfl, ended_err E.out (grown_refl _)⟩

theorem spreadP_len {a b zs : List Int} (h : spreadP a b = .ok zs) (ha : a.length ≤ 6) (hb : b.length ≤ 6) : zs.length ≤ 6 := by
  unfold spreadP at h
  split at h
  · rename_i h0
    cases h
    unfold bcR
    rw [if_pos h0, bcL_length]
    unfold rank
    omega
  · cases h

set_option maxRecDepth 100000 in
set_option maxHeartbeats 2000000 in
theorem product_any (u v : Sl) (x y : List Int) (w : World) (hx : IsInts w u.v x) (hy : IsInts w v.v y) (hlx : x.length ≤ 6) (hly : y.length ≤ 6) : Calls Tryz.prog 123 #[.slice u.a u.n u.c, .slice v.a v.n v.c] w (Ended w (productP x y) DimsQ) := by
  obtain ⟨ux, uc, eu, c1, c2, c3⟩ := hx.sl
  obtain ⟨ua, un, uu⟩ := u
  simp only [Sl.v, Value.slice.injEq] at eu
  obtain ⟨rfl, rfl, rfl⟩ := eu
  obtain ⟨vx, vc, ev, d1, d2, d3⟩ := hy.sl
  obtain ⟨va, vn, vv⟩ := v
  simp only [Sl.v, Value.slice.injEq] at ev
  obtain ⟨rfl, rfl, rfl⟩ := ev
  simp only
  obtain ⟨i0, hi, hz0, hz1, hz2⟩ := info_parts infoInt
  by_cases h2 : 2 ≤ x.length
  · by_cases h3 : 2 ≤ y.length
    · obtain ⟨a, ha⟩ : ∃ a, x.length = a + 2 := ⟨x.length - 2, by omega⟩
      obtain ⟨b, hb⟩ : ∃ b, y.length = b + 2 := ⟨y.length - 2, by omega⟩
      have E0 : Hid (productP x y = (mustP (x.getD (a + 1) 0 == y.getD b 0)).bind (fun _ => (spreadP (x.take a) (y.take b)).bind (fun s => .ok (s ++ [x.getD a 0, y.getD (b + 1) 0])))) := by
        show _ = _
        unfold productP
        rw [ha, hb]
        simp [mustP]
        rfl
      obtain ⟨xb, xo, rfl, hcx⟩ := hx.get (k := 0) (by omega)
      obtain ⟨yb, yo, rfl, hcy⟩ := hy.get (k := 0) (by omega)
      have x1 := hcx (a + 1) (by omega)
      have x0 := hcx a (by omega)
      have y0 := hcy b (by omega)
      have y1 := hcy (b + 1) (by omega)
      have wx0 := hx.wf (x.getD a 0) (by rw [List.getD, List.getElem?_eq_getElem (by omega)]; exact List.getElem_mem _)
      have wy1 := hy.wf (y.getD (b + 1) 0) (by rw [List.getD, List.getElem?_eq_getElem (by omega)]; exact List.getElem_mem _)
      have SP := hide (fun (wx : World) (hg : w.grownBy wx none) => spread_any ⟨some ⟨xb, xo, none⟩, a, uu⟩ ⟨some ⟨yb, yo, none⟩, b, vv⟩ (x.take a) (y.take b) wx ((hx.front (by show a ≤ x.length; omega)).more hg) ((hy.front (by show b ≤ y.length; omega)).more hg))
      simp only at SP
      obtain ⟨p, hp⟩ : ∃ p, p = x.getD a 0 := ⟨_, rfl⟩
      obtain ⟨q, hq⟩ : ∃ q, q = y.getD (b + 1) 0 := ⟨_, rfl⟩
      obtain ⟨r, hr⟩ : ∃ r, r = x.getD (a + 1) 0 := ⟨_, rfl⟩
      obtain ⟨s, hs⟩ : ∃ s, s = y.getD b 0 := ⟨_, rfl⟩
      rw [← hp] at x0 wx0 E0
      rw [← hq] at y1 wy1 E0
      rw [← hr] at x1 E0
      rw [← hs] at y0 E0
      rw [ha] at c1 ⊢
      rw [hb] at d1 ⊢
      have i7 : decide ((2 : Int) ≤ (b : Int) + 2) = true := by simp; omega
      have i8 : decide ((2 : Int) ≤ (a : Int) + 2) = true := by simp; omega
      have i9 : (a : Int) + 2 - 2 = (a : Int) := by omega
      have i10 : (b : Int) + 2 - 2 = (b : Int) := by omega
      have kw : IntKind.i64.wrap ((a : Int) + 1) = (a : Int) + 1 := by rw [wrap_i64_eq]; unfold wrap64; omega
      have ka : (a : Int) < (a : Int) + 2 := by omega
      have kb : (b : Int) < (b : Int) + 2 := by omega
      have k1 : (a : Int) + 1 < (a : Int) + 2 := by omega
      have k2 : (0 : Int) ≤ (a : Int) + 1 := by omega
      have k3 : ((a : Int) + 1).toNat = a + 1 := by omega
      have j1 : a + 1 < a + 2 := by omega
      have j2 : b < b + 2 := by omega
      have j3 : a < a + 2 := by omega
      have j4 : b + 1 < b + 2 := by omega
      clear hp hq hr hs hcx hcy hx hy ha hb h2 h3 c3 d3
      go_enter Tryz.func123, Tryz.ntmps123
      go_wp2_with (first | (go_at_call 71; refine (must_yes _).mono ?_; rintro e w' ⟨rfl, rfl⟩) | fail)
      by_cases hrs : r = s
      · have brs : (r == s) = true := by simp [hrs]
        have E1 : Hid (productP x y = (spreadP (x.take a) (y.take b)).bind (fun t => .ok (t ++ [p, q]))) := by show _ = _; rw [E0.out, brs]; rfl
        clear hrs
        go_quiet (first | (go_at_call 71; refine (must_yes _).mono ?_; rintro e w' ⟨rfl, rfl⟩; exact ⟨rfl, _, rfl⟩) | fail)
        go_wp2_with fail
        have gq : w.grownBy (w.drewN nq) none := ⟨rfl, rfl, rfl, Nat.le_refl _, fun k hk hn => rfl⟩
        obtain ⟨wq, hwq⟩ : ∃ wq, wq = w.drewN nq := ⟨_, rfl⟩
        rw [← hwq] at gq ⊢
        have x0' := cell_still x0 gq
        have y1' := cell_still y1 gq
        have kw2 : IntKind.i64.wrap ((b : Int) + 1) = (b : Int) + 1 := by rw [wrap_i64_eq]; unfold wrap64; omega
        have k4 : (b : Int) + 1 < (b : Int) + 2 := by omega
        have k5 : (0 : Int) ≤ (b : Int) + 1 := by omega
        have k6 : ((b : Int) + 1).toNat = b + 1 := by omega
        have z1 : a ≤ uu := by omega
        have z2 : b ≤ vv := by omega
        clear hwq x1 y0
        cases hk : spreadP (x.take a) (y.take b) with
        | error c =>
          have E2 : Hid (productP x y = .error c) := by show _ = _; rw [E1.out, hk]; rfl
          rw [hk] at SP
          clear hk
          refine wp_region_held_drew (S := (fun w' => w'.cell? ⟨xb, xo + a, none⟩ = some (.int .i64 p) ∧ w'.cell? ⟨yb, yo + (b + 1), none⟩ = some (.int .i64 q))) (by kernel_rfl) (by go_keep) (fun hHeld => ?_)
          refine wpAnyH_take (i := 0) (v := ?_) rfl (by kernel_rfl) (by kernel_rfl) (by kernel_rfl) (fun _ _ _ h => h) (Or.inl ⟨by rfl, ?_⟩) (by assumption) ?_
          rotate_left 1
          · (intro w hSw; (try dsimp only at hSw); go_simp; (try with_reducible rfl))
          try simp only [Act.put]
          refine wpAnyH_take (i := 1) (v := ?_) rfl (by kernel_rfl) (by kernel_rfl) (by kernel_rfl) (fun _ _ _ h => h) (Or.inl ⟨by rfl, ?_⟩) (by assumption) ?_
          rotate_left 1
          · (intro w hSw; (try dsimp only at hSw); go_simp; (try with_reducible rfl))
          try simp only [Act.put]
          refine wpAnyH_take (i := 2) (v := ?_) rfl (by kernel_rfl) (by kernel_rfl) (by kernel_rfl) (fun _ _ _ h => h) (Or.inl ⟨by rfl, ?_⟩) (by assumption) ?_
          rotate_left 1
          · (intro w hSw; (try dsimp only at hSw); go_simp; (try with_reducible rfl))
          try simp only [Act.put]
          refine wpAnyH_take (i := 3) (v := ?_) rfl (by kernel_rfl) (by kernel_rfl) (by kernel_rfl) (fun _ _ _ h => h) (Or.inl ⟨by rfl, ?_⟩) (by assumption) ?_
          rotate_left 1
          · (intro w hSw; (try dsimp only at hSw); go_simp; (try with_reducible rfl))
          try simp only [Act.put]
          refine wpAnyH_take (i := 4) (v := ?_) rfl (by kernel_rfl) (by kernel_rfl) (by kernel_rfl) (fun _ _ _ h => h) (Or.inl ⟨by rfl, ?_⟩) (by assumption) ?_
          rotate_left 1
          · (intro w hSw; (try dsimp only at hSw); go_simp; (try with_reducible rfl))
          try simp only [Act.put]
          refine wpAnyH_take (i := 5) (v := ?_) rfl (by kernel_rfl) (by kernel_rfl) (by kernel_rfl) (fun _ _ _ h => h) (Or.inl ⟨by rfl, ?_⟩) (by assumption) ?_
          rotate_left 1
          · (intro w hSw; (try dsimp only at hSw); go_simp; (try with_reducible rfl))
          try simp only [Act.put]
          refine wpAnyH_take (i := 7) (v := ?_) rfl (by kernel_rfl) (by kernel_rfl) (by kernel_rfl) (fun _ _ _ h => h) (Or.inl ⟨by rfl, ?_⟩) (by assumption) ?_
          rotate_left 1
          · (intro w hSw; (try dsimp only at hSw); go_simp; (try with_reducible rfl))
          try simp only [Act.put]
          refine wpAnyH_take (i := 8) (v := ?_) rfl (by kernel_rfl) (by kernel_rfl) (by kernel_rfl) (fun _ _ _ h => h) (Or.inl ⟨by rfl, ?_⟩) (by assumption) ?_
          rotate_left 1
          · (intro w hSw; (try dsimp only at hSw); go_simp; (try with_reducible rfl))
          try simp only [Act.put]
          refine wpAnyH_take (i := 9) (v := ?_) rfl (by kernel_rfl) (by kernel_rfl) (by kernel_rfl) (fun _ _ _ h => h) (Or.inl ⟨by rfl, ?_⟩) (by assumption) ?_
          rotate_left 1
          · (intro w hSw; (try dsimp only at hSw); go_simp; (try with_reducible rfl))
          try simp only [Act.put]
          refine wpAnyH_take (i := 10) (v := ?_) rfl (by kernel_rfl) (by kernel_rfl) (by kernel_rfl) (fun _ _ _ h => h) (Or.inl ⟨by rfl, ?_⟩) (by assumption) ?_
          rotate_left 1
          · (intro w hSw; (try dsimp only at hSw); go_simp; (try with_reducible rfl))
          try simp only [Act.put]
          refine wpAnyH_take (i := 11) (v := ?_) rfl (by kernel_rfl) (by kernel_rfl) (by kernel_rfl) (fun _ _ _ h => h) (Or.inl ⟨by rfl, ?_⟩) (by assumption) ?_
          rotate_left 1
          · (intro w hSw; (try dsimp only at hSw); go_simp; (try with_reducible rfl))
          try simp only [Act.put]
          refine wpAnyH_take (i := 12) (v := ?_) rfl (by kernel_rfl) (by kernel_rfl) (by kernel_rfl) (fun _ _ _ h => h) (Or.inl ⟨by rfl, ?_⟩) (by assumption) ?_
          rotate_left 1
          · (intro w hSw; (try dsimp only at hSw); go_simp; (try with_reducible rfl))
          try simp only [Act.put]
          refine wpAnyH_take (i := 13) (v := ?_) rfl (by kernel_rfl) (by kernel_rfl) (by kernel_rfl) (fun _ _ _ h => h) (Or.inl ⟨by rfl, ?_⟩) (by assumption) ?_
          rotate_left 1
          · (intro w hSw; (try dsimp only at hSw); go_simp; (try with_reducible rfl))
          try simp only [Act.put]
          refine wpAnyH_take (i := 14) (v := ?_) rfl (by kernel_rfl) (by kernel_rfl) (by kernel_rfl) (fun _ _ _ h => h) (Or.inl ⟨by rfl, ?_⟩) (by assumption) ?_
          rotate_left 1
          · (intro w hSw; (try dsimp only at hSw); go_simp; (try with_reducible rfl))
          try simp only [Act.put]
          refine wpAnyH_take (i := 15) (v := ?_) rfl (by kernel_rfl) (by kernel_rfl) (by kernel_rfl) (fun _ _ _ h => h) (Or.inl ⟨by rfl, ?_⟩) (by assumption) ?_
          rotate_left 1
          · (intro w hSw; (try dsimp only at hSw); go_simp; (try with_reducible rfl))
          try simp only [Act.put]
          refine wpAnyH_ready (rs := [6, 16]) (by kernel_rfl) (by simp) ?_
          refine AllReadyH.cons rfl (fun K hK => ?_) ?_
          · skip
            go_simp
            refine (SP.out _ (by first | exact grown_drew gq | exact grown_trans (grown_drew gq) (grown_new _ _))).mono ?_
            rintro e wy ⟨hg, rfl⟩
            exact ⟨rfl, ended_err E2.out (grown_trans (by first | exact grown_drew gq | exact grown_trans (grown_drew gq) (grown_new _ _)) hg)⟩
          refine AllReadyH.cons rfl (fun K hK => ?_) ?_
          · skip
            go_simp
            refine hK.out _ _ (by first | assumption | go_keep) (fun hHeld => ?_)
            clear hK K
            try simp only [Act.put]
            refine wpAnyH_ready (rs := [6]) (by kernel_rfl) (by simp) ?_
            refine AllReadyH.cons rfl (fun K hK => ?_) ?_
            · skip
              go_simp
              refine (SP.out _ (by first | exact grown_drew gq | exact grown_trans (grown_drew gq) (grown_new _ _))).mono ?_
              rintro e wy ⟨hg, rfl⟩
              exact ⟨rfl, ended_err E2.out (grown_trans (by first | exact grown_drew gq | exact grown_trans (grown_drew gq) (grown_new _ _)) hg)⟩
            exact AllReadyH.nil
          exact AllReadyH.nil
        | ok zs =>
          have E2 : Hid (productP x y = .ok (zs ++ [p, q])) := by show _ = _; rw [E1.out, hk]; rfl
          have hzl : zs.length ≤ 6 := spreadP_len hk (by simp; omega) (by simp; omega)
          rw [hk] at SP
          clear hk
          refine wp_region_held_drew (S := (fun w' => w'.cell? ⟨xb, xo + a, none⟩ = some (.int .i64 p) ∧ w'.cell? ⟨yb, yo + (b + 1), none⟩ = some (.int .i64 q))) (by kernel_rfl) (by go_keep) (fun hHeld => ?_)
          refine wpAnyH_take (i := 0) (v := ?_) rfl (by kernel_rfl) (by kernel_rfl) (by kernel_rfl) (fun _ _ _ h => h) (Or.inl ⟨by rfl, ?_⟩) (by assumption) ?_
          rotate_left 1
          · (intro w hSw; (try dsimp only at hSw); go_simp; (try with_reducible rfl))
          try simp only [Act.put]
          refine wpAnyH_take (i := 1) (v := ?_) rfl (by kernel_rfl) (by kernel_rfl) (by kernel_rfl) (fun _ _ _ h => h) (Or.inl ⟨by rfl, ?_⟩) (by assumption) ?_
          rotate_left 1
          · (intro w hSw; (try dsimp only at hSw); go_simp; (try with_reducible rfl))
          try simp only [Act.put]
          refine wpAnyH_take (i := 2) (v := ?_) rfl (by kernel_rfl) (by kernel_rfl) (by kernel_rfl) (fun _ _ _ h => h) (Or.inl ⟨by rfl, ?_⟩) (by assumption) ?_
          rotate_left 1
          · (intro w hSw; (try dsimp only at hSw); go_simp; (try with_reducible rfl))
          try simp only [Act.put]
          refine wpAnyH_take (i := 3) (v := ?_) rfl (by kernel_rfl) (by kernel_rfl) (by kernel_rfl) (fun _ _ _ h => h) (Or.inl ⟨by rfl, ?_⟩) (by assumption) ?_
          rotate_left 1
          · (intro w hSw; (try dsimp only at hSw); go_simp; (try with_reducible rfl))
          try simp only [Act.put]
          refine wpAnyH_take (i := 4) (v := ?_) rfl (by kernel_rfl) (by kernel_rfl) (by kernel_rfl) (fun _ _ _ h => h) (Or.inl ⟨by rfl, ?_⟩) (by assumption) ?_
          rotate_left 1
          · (intro w hSw; (try dsimp only at hSw); go_simp; (try with_reducible rfl))
          try simp only [Act.put]
          refine wpAnyH_take (i := 5) (v := ?_) rfl (by kernel_rfl) (by kernel_rfl) (by kernel_rfl) (fun _ _ _ h => h) (Or.inl ⟨by rfl, ?_⟩) (by assumption) ?_
          rotate_left 1
          · (intro w hSw; (try dsimp only at hSw); go_simp; (try with_reducible rfl))
          try simp only [Act.put]
          refine wpAnyH_take (i := 7) (v := ?_) rfl (by kernel_rfl) (by kernel_rfl) (by kernel_rfl) (fun _ _ _ h => h) (Or.inl ⟨by rfl, ?_⟩) (by assumption) ?_
          rotate_left 1
          · (intro w hSw; (try dsimp only at hSw); go_simp; (try with_reducible rfl))
          try simp only [Act.put]
          refine wpAnyH_take (i := 8) (v := ?_) rfl (by kernel_rfl) (by kernel_rfl) (by kernel_rfl) (fun _ _ _ h => h) (Or.inl ⟨by rfl, ?_⟩) (by assumption) ?_
          rotate_left 1
          · (intro w hSw; (try dsimp only at hSw); go_simp; (try with_reducible rfl))
          try simp only [Act.put]
          refine wpAnyH_take (i := 9) (v := ?_) rfl (by kernel_rfl) (by kernel_rfl) (by kernel_rfl) (fun _ _ _ h => h) (Or.inl ⟨by rfl, ?_⟩) (by assumption) ?_
          rotate_left 1
          · (intro w hSw; (try dsimp only at hSw); go_simp; (try with_reducible rfl))
          try simp only [Act.put]
          refine wpAnyH_take (i := 10) (v := ?_) rfl (by kernel_rfl) (by kernel_rfl) (by kernel_rfl) (fun _ _ _ h => h) (Or.inl ⟨by rfl, ?_⟩) (by assumption) ?_
          rotate_left 1
          · (intro w hSw; (try dsimp only at hSw); go_simp; (try with_reducible rfl))
          try simp only [Act.put]
          refine wpAnyH_take (i := 11) (v := ?_) rfl (by kernel_rfl) (by kernel_rfl) (by kernel_rfl) (fun _ _ _ h => h) (Or.inl ⟨by rfl, ?_⟩) (by assumption) ?_
          rotate_left 1
          · (intro w hSw; (try dsimp only at hSw); go_simp; (try with_reducible rfl))
          try simp only [Act.put]
          refine wpAnyH_take (i := 12) (v := ?_) rfl (by kernel_rfl) (by kernel_rfl) (by kernel_rfl) (fun _ _ _ h => h) (Or.inl ⟨by rfl, ?_⟩) (by assumption) ?_
          rotate_left 1
          · (intro w hSw; (try dsimp only at hSw); go_simp; (try with_reducible rfl))
          try simp only [Act.put]
          refine wpAnyH_take (i := 13) (v := ?_) rfl (by kernel_rfl) (by kernel_rfl) (by kernel_rfl) (fun _ _ _ h => h) (Or.inl ⟨by rfl, ?_⟩) (by assumption) ?_
          rotate_left 1
          · (intro w hSw; (try dsimp only at hSw); go_simp; (try with_reducible rfl))
          try simp only [Act.put]
          refine wpAnyH_take (i := 14) (v := ?_) rfl (by kernel_rfl) (by kernel_rfl) (by kernel_rfl) (fun _ _ _ h => h) (Or.inl ⟨by rfl, ?_⟩) (by assumption) ?_
          rotate_left 1
          · (intro w hSw; (try dsimp only at hSw); go_simp; (try with_reducible rfl))
          try simp only [Act.put]
          refine wpAnyH_take (i := 15) (v := ?_) rfl (by kernel_rfl) (by kernel_rfl) (by kernel_rfl) (fun _ _ _ h => h) (Or.inl ⟨by rfl, ?_⟩) (by assumption) ?_
          rotate_left 1
          · (intro w hSw; (try dsimp only at hSw); go_simp; (try with_reducible rfl))
          try simp only [Act.put]
          refine wpAnyH_ready (rs := [6, 16]) (by kernel_rfl) (by simp) ?_
          refine AllReadyH.cons rfl (fun K hK => ?_) ?_
          · skip
            go_simp
            refine (SP.out _ (by first | exact grown_drew gq | exact grown_trans (grown_drew gq) (grown_new _ _))).mono ?_
            rintro e w2 ⟨hg2, v, rfl, ⟨sa, sn, sc⟩, rfl, ho⟩
            have gw := grown_trans (by first | exact grown_drew gq | exact grown_trans (grown_drew gq) (grown_new _ _)) hg2
            have xk := cell_still x0 gw
            have yk := cell_still y1 gw
            try dsimp only
            refine hK.out _ _ (by first | assumption | go_keep) (fun hHeld => ?_)
            clear hK K
            try simp only [Act.put]
            refine wpAnyH_ready (rs := [16]) (by kernel_rfl) (by simp) ?_
            refine AllReadyH.cons rfl (fun K hK => ?_) ?_
            · skip
              go_simp
              refine hK.out _ _ (by first | assumption | go_keep) (fun hHeld => ?_)
              clear hK K
              try simp only [Act.put]
              refine wpAnyH_ready (rs := [17]) (by kernel_rfl) (by simp) ?_
              refine AllReadyH.cons rfl (fun K hK => ?_) ?_
              · skip
                have OW2 := ho.base_le (show w.heap.size ≤ _ by have := (grown_drew gq).size; simp at this ⊢; omega)
                have hsn : sn = zs.length := by obtain ⟨a1, c4, e, -⟩ := ho.ints.sl; simp only [Sl.v, Value.slice.injEq] at e; exact e.2.1
                subst hsn
                refine step_append_lies (w2.alloc (.cells #[.int .i64 p, .int .i64 q] 3)) (by rfl) (.tmp 39) (.tmp 49) 29 (by rfl) w.heap.size 3 i0 (.int .i64 0) 1 8 Tryz.underlying29 hi hz0 hz1 hz2 (by rfl) (by decide) (.slice sa zs.length sc) zs.length (zs.map (Value.int .i64)) (by rfl) ((OW2.new (grown_new _ _)).1) ⟨w2.heap.size, 0, none⟩ 2 2 [.int .i64 p, .int .i64 q] (by rfl) (by rfl) ?_ (by simp [Value.oneCell']) (by decide) (by simp only [maxLen]; omega) (by omega) (by have := gw.size; simp; omega) _ rfl ?_
                · intro j u hu
                  rw [Addr.add_lit, Nat.zero_add]
                  match j, hu with
                  | 0, hu => rw [cell_of_row _ _ 0 _ _ (0, 0) (heap_alloc_new w2 _)]; exact hu
                  | 1, hu => rw [cell_of_row _ _ 1 _ _ (0, 0) (heap_alloc_new w2 _)]; exact hu
                  | j + 2, hu => simp at hu
                intro g gcap w4 hown hgrow _ _
                have gw4 : w.grownBy w4 none := grown_trans_row (grown_trans gw (grown_new _ _)) hgrow (fun r e => (OW2.lt r e).1)
                have xk4 := cell_still x0 gw4
                have yk4 := cell_still y1 gw4
                have OW4 : Owns w4 w.heap.size (.slice (some ⟨g, 0, none⟩) (zs.length + 2) gcap) (zs ++ [p, q]) := ⟨by rw [List.length_append, List.map_append]; exact hown, by rw [List.length_append]; simp only [List.length_cons, List.length_nil]; omega, fun z hz => by rcases List.mem_append.1 hz with h | h; exact ho.2.2 z h; simp at h; rcases h with rfl | rfl <;> assumption⟩
                refine hK.out _ _ (by first | assumption | go_keep) (fun hHeld => ?_)
                clear hK K
                try simp only [Act.put]
                refine wpAnyH_take (i := 18) (v := ?_) rfl (by kernel_rfl) (by kernel_rfl) (by kernel_rfl) (fun _ _ _ h => h) (Or.inl ⟨by rfl, ?_⟩) (by assumption) ?_
                rotate_left 1
                · (intro w hSw; (try dsimp only at hSw); go_simp; (try with_reducible rfl))
                try simp only [Act.put]
                refine wpAnyH_done (by kernel_rfl) ?_ _
                try go_simp
                go_wp2
                go_ret
                exact ended_ok E2.out gw4 ⟨⟨some ⟨g, 0, none⟩, zs.length + 2, gcap⟩, rfl, OW4.ints⟩
              exact AllReadyH.nil
            exact AllReadyH.nil
          refine AllReadyH.cons rfl (fun K hK => ?_) ?_
          · skip
            go_simp
            refine hK.out _ _ (by first | assumption | go_keep) (fun hHeld => ?_)
            clear hK K
            try simp only [Act.put]
            refine wpAnyH_ready (rs := [6]) (by kernel_rfl) (by simp) ?_
            refine AllReadyH.cons rfl (fun K hK => ?_) ?_
            · skip
              go_simp
              refine (SP.out _ (by first | exact grown_drew gq | exact grown_trans (grown_drew gq) (grown_new _ _))).mono ?_
              rintro e w2 ⟨hg2, v, rfl, ⟨sa, sn, sc⟩, rfl, ho⟩
              have gw := grown_trans (by first | exact grown_drew gq | exact grown_trans (grown_drew gq) (grown_new _ _)) hg2
              have xk := cell_still x0 gw
              have yk := cell_still y1 gw
              have hn0 := cell_still (cell_of_row _ _ 0 _ _ (0, 0) (heap_alloc_new wq.drew (.cells #[.int .i64 p, .int .i64 q] 3))) hg2
              have hn1 := cell_still (cell_of_row _ _ 1 _ _ (0, 0) (heap_alloc_new wq.drew (.cells #[.int .i64 p, .int .i64 q] 3))) hg2
              try dsimp only
              refine hK.out _ _ (by first | assumption | go_keep) (fun hHeld => ?_)
              clear hK K
              try simp only [Act.put]
              refine wpAnyH_ready (rs := [17]) (by kernel_rfl) (by simp) ?_
              refine AllReadyH.cons rfl (fun K hK => ?_) ?_
              · skip
                have OW2 := ho.base_le (show w.heap.size ≤ _ by have := (grown_drew gq).size; simp at this ⊢; omega)
                have hsn : sn = zs.length := by obtain ⟨a1, c4, e, -⟩ := ho.ints.sl; simp only [Sl.v, Value.slice.injEq] at e; exact e.2.1
                subst hsn
                refine step_append_lies w2 (by rfl) (.tmp 39) (.tmp 49) 29 (by rfl) w.heap.size 3 i0 (.int .i64 0) 1 8 Tryz.underlying29 hi hz0 hz1 hz2 (by rfl) (by decide) (.slice sa zs.length sc) zs.length (zs.map (Value.int .i64)) (by rfl) (OW2.1) ⟨wq.drew.heap.size, 0, none⟩ 2 2 [.int .i64 p, .int .i64 q] (by rfl) (by rfl) ?_ (by simp [Value.oneCell']) (by decide) (by simp only [maxLen]; omega) (by omega) (by have := gw.size; simp; omega) _ rfl ?_
                · intro j u hu
                  rw [Addr.add_lit, Nat.zero_add]
                  match j, hu with
                  | 0, hu => rw [hn0]; exact hu
                  | 1, hu => rw [hn1]; exact hu
                  | j + 2, hu => simp at hu
                intro g gcap w4 hown hgrow _ _
                have gw4 : w.grownBy w4 none := grown_trans_row gw hgrow (fun r e => (OW2.lt r e).1)
                have xk4 := cell_still x0 gw4
                have yk4 := cell_still y1 gw4
                have OW4 : Owns w4 w.heap.size (.slice (some ⟨g, 0, none⟩) (zs.length + 2) gcap) (zs ++ [p, q]) := ⟨by rw [List.length_append, List.map_append]; exact hown, by rw [List.length_append]; simp only [List.length_cons, List.length_nil]; omega, fun z hz => by rcases List.mem_append.1 hz with h | h; exact ho.2.2 z h; simp at h; rcases h with rfl | rfl <;> assumption⟩
                refine hK.out _ _ (by first | assumption | go_keep) (fun hHeld => ?_)
                clear hK K
                try simp only [Act.put]
                refine wpAnyH_take (i := 18) (v := ?_) rfl (by kernel_rfl) (by kernel_rfl) (by kernel_rfl) (fun _ _ _ h => h) (Or.inl ⟨by rfl, ?_⟩) (by assumption) ?_
                rotate_left 1
                · (intro w hSw; (try dsimp only at hSw); go_simp; (try with_reducible rfl))
                try simp only [Act.put]
                refine wpAnyH_done (by kernel_rfl) ?_ _
                try go_simp
                go_wp2
                go_ret
                exact ended_ok E2.out gw4 ⟨⟨some ⟨g, 0, none⟩, zs.length + 2, gcap⟩, rfl, OW4.ints⟩
              exact AllReadyH.nil
            exact AllReadyH.nil
          exact AllReadyH.nil
      · have brs : (r == s) = false := by simpa using hrs
        have E1 : Hid (productP x y = .error 4) := by show _ = _; rw [E0.out, brs]; rfl
        clear hrs
        refine wp_region_held_drew (S := (fun w' => w'.cell? ⟨xb, xo + (a + 1), none⟩ = some (.int .i64 r) ∧ w'.cell? ⟨yb, yo + b, none⟩ = some (.int .i64 s))) (by kernel_rfl) (by go_keep) (fun hHeld => ?_)
        refine wpAnyH_take (i := 0) (v := ?_) rfl (by kernel_rfl) (by kernel_rfl) (by kernel_rfl) (fun _ _ _ h => h) (Or.inl ⟨by rfl, ?_⟩) (by assumption) ?_
        rotate_left 1
        · (intro w hSw; (try dsimp only at hSw); go_simp; (try with_reducible rfl))
        try simp only [Act.put]
        refine wpAnyH_take (i := 1) (v := ?_) rfl (by kernel_rfl) (by kernel_rfl) (by kernel_rfl) (fun _ _ _ h => h) (Or.inl ⟨by rfl, ?_⟩) (by assumption) ?_
        rotate_left 1
        · (intro w hSw; (try dsimp only at hSw); go_simp; (try with_reducible rfl))
        try simp only [Act.put]
        refine wpAnyH_take (i := 2) (v := ?_) rfl (by kernel_rfl) (by kernel_rfl) (by kernel_rfl) (fun _ _ _ h => h) (Or.inl ⟨by rfl, ?_⟩) (by assumption) ?_
        rotate_left 1
        · (intro w hSw; (try dsimp only at hSw); go_simp; (try with_reducible rfl))
        try simp only [Act.put]
        refine wpAnyH_take (i := 3) (v := ?_) rfl (by kernel_rfl) (by kernel_rfl) (by kernel_rfl) (fun _ _ _ h => h) (Or.inl ⟨by rfl, ?_⟩) (by assumption) ?_
        rotate_left 1
        · (intro w hSw; (try dsimp only at hSw); go_simp; (try with_reducible rfl))
        try simp only [Act.put]
        refine wpAnyH_take (i := 4) (v := ?_) rfl (by kernel_rfl) (by kernel_rfl) (by kernel_rfl) (fun _ _ _ h => h) (Or.inl ⟨by rfl, ?_⟩) (by assumption) ?_
        rotate_left 1
        · (intro w hSw; (try dsimp only at hSw); go_simp; (try with_reducible rfl))
        try simp only [Act.put]
        refine wpAnyH_take (i := 5) (v := ?_) rfl (by kernel_rfl) (by kernel_rfl) (by kernel_rfl) (fun _ _ _ h => h) (Or.inl ⟨by rfl, ?_⟩) (by assumption) ?_
        rotate_left 1
        · (intro w hSw; (try dsimp only at hSw); go_simp; (try with_reducible rfl))
        try simp only [Act.put]
        refine wpAnyH_take (i := 6) (v := ?_) rfl (by kernel_rfl) (by kernel_rfl) (by kernel_rfl) (fun _ _ _ h => h) (Or.inl ⟨by rfl, ?_⟩) (by assumption) ?_
        rotate_left 1
        · (intro w hSw; (try dsimp only at hSw); go_simp; (try with_reducible rfl))
        try simp only [Act.put]
        refine wpAnyH_take (i := 7) (v := ?_) rfl (by kernel_rfl) (by kernel_rfl) (by kernel_rfl) (fun _ _ _ h => h) (Or.inl ⟨by rfl, ?_⟩) (by assumption) ?_
        rotate_left 1
        · (intro w hSw; (try dsimp only at hSw); go_simp; (try with_reducible rfl))
        try simp only [Act.put]
        refine wpAnyH_take (i := 8) (v := ?_) rfl (by kernel_rfl) (by kernel_rfl) (by kernel_rfl) (fun _ _ _ h => h) (Or.inl ⟨by rfl, ?_⟩) (by assumption) ?_
        rotate_left 1
        · (intro w hSw; (try dsimp only at hSw); go_simp; (try with_reducible rfl))
        try simp only [Act.put]
        refine wpAnyH_take (i := 9) (v := ?_) rfl (by kernel_rfl) (by kernel_rfl) (by kernel_rfl) (fun _ _ _ h => h) (Or.inl ⟨by rfl, ?_⟩) (by assumption) ?_
        rotate_left 1
        · (intro w hSw; (try dsimp only at hSw); go_simp; (try with_reducible rfl))
        try simp only [Act.put]
        refine wpAnyH_ready (rs := [10]) (by kernel_rfl) (by simp) ?_
        refine AllReadyH.cons rfl (fun K hK => ?_) AllReadyH.nil
        go_simp
        refine (must_no _).mono ?_
        rintro e wy ⟨rfl, rfl⟩; exact ⟨rfl, ended_err E1.out (grown_drew (grown_refl _))⟩
    · have b3 : decide ((2 : Int) ≤ (y.length : Int)) = false := by simp; omega
      have h2' : (2 : Int) ≤ (x.length : Int) := by omega
      have E1 : Hid (productP x y = .error 4) := by show _ = _; unfold productP; simp [mustP, h3]; rfl
      clear h2 h3
      go_enter Tryz.func123, Tryz.ntmps123
      go_wp2_with (first | (go_at_call 71; refine (must_no _).mono ?_; rintro e w' ⟨rfl, rfl⟩) | fail)
      exact ⟨rfl, ended_err E1.out (grown_refl _)⟩
  · have b2 : decide ((2 : Int) ≤ (x.length : Int)) = false := by simp; omega
    have E1 : Hid (productP x y = .error 4) := by show _ = _; unfold productP; simp [mustP, h2]; rfl
    clear h2
    go_enter Tryz.func123, Tryz.ntmps123
    go_wp2_with (first | (go_at_call 71; refine (must_no _).mono ?_; rintro e w' ⟨rfl, rfl⟩) | fail)
    exact ⟨rfl, ended_err E1.out (grown_refl _)⟩
end Go.Proofs.YteigfipgmghgmaaGreatDoor
