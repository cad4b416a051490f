/- Joined texts: IProd, IEq, IGemm, INorm. -/
import Derived.Test.YtdcbjikjeicgbaaGreatDoorPartJ
import Derived.BigQuiet
import Derived.Deep.RegionHeld3
import Derived.Deep.AppendLies
import Derived.Test.YtdcbjikjeicgbaaGreatDoorPartM
/- What infer makes of dims: products, by the walk. -/
namespace Go.Proofs.YtdcbjikjeicgbaaGreatDoor
open Go.RowKit

set_option maxRecDepth 100000 in
set_option maxHeartbeats 1000000 in
theorem turned_any (u : Sl) (x : List Int) (t : Int) (w : World) (hx : IsInts w u.v x) : Calls Tryz.prog 184 #[.slice u.a u.n u.c, .int .i64 t] w (Ended w (turnedP x t) DimsQ) := by
  obtain ⟨ux, uc, eu, c1, c2, c3⟩ := hx.sl
  obtain ⟨ua, un, uu⟩ := u
  simp only [Sl.v, Value.slice.injEq] at eu
  obtain ⟨rfl, rfl, rfl⟩ := eu
  have HX := hide hx
  have ON := hide (ison_any t w)
  simp only
  by_cases hl : x.length = 2
  · have b0 : ((x.length : Int) == 2) = true := by simp [hl]
    have E0 : Hid (turnedP x t = (isOnP t).bind (fun on => .ok (if on = true then [x.getD 1 0, x.getD 0 0] else x))) := by show _ = _; unfold turnedP; simp [mustP, hl]; rfl
    obtain ⟨b, off, rfl, hc⟩ := hx.get (k := 0) (by omega)
    have q0 := hc 0 (by omega)
    have q1 := hc 1 (by omega)
    rw [Nat.add_zero] at q0
    have w0 := hx.wf (x.getD 0 0) (by rw [List.getD, List.getElem?_eq_getElem (by omega)]; exact List.getElem_mem _)
    have w1 := hx.wf (x.getD 1 0) (by rw [List.getD, List.getElem?_eq_getElem (by omega)]; exact List.getElem_mem _)
    obtain ⟨p, hp⟩ : ∃ p, p = x.getD 0 0 := ⟨_, rfl⟩
    obtain ⟨q, hq⟩ : ∃ q, q = x.getD 1 0 := ⟨_, rfl⟩
    rw [← hp] at q0 w0 E0
    rw [← hq] at q1 w1 E0
    have l1 : (1 : Int) < (x.length : Int) := by omega
    have l0 : (0 : Int) < (x.length : Int) := by omega
    have m0 : 0 < x.length := by omega
    have m1 : 1 < x.length := by omega
    clear hp hq hc hl hx
    cases hk : isOnP t with
    | error c =>
      rw [hk] at ON
      have E : Hid (turnedP x t = .error c) := by show _ = _; rw [E0.out, hk]; rfl
      clear hk
      go_enter Tryz.func184, Tryz.ntmps184
      go_wp2_with (first | (go_at_call 45; refine (must_yes _).mono ?_; rintro e w' ⟨rfl, rfl⟩) | (go_at_call 177; refine ON.out.mono ?_; rintro e w' ⟨hg, rfl⟩) | fail)
      exact ⟨rfl, ended_err E.out hg⟩
    | ok on =>
      rw [hk] at ON
      cases on with
      | true =>
        have E : Hid (turnedP x t = .ok [q, p]) := by show _ = _; rw [E0.out, hk]; rfl
        clear hk
        go_enter Tryz.func184, Tryz.ntmps184
        go_wp2_with (first | (go_at_call 45; refine (must_yes _).mono ?_; rintro e w' ⟨rfl, rfl⟩) | (go_at_call 177; refine ON.out.mono ?_; rintro e w' ⟨-, v, rfl, rfl, rfl⟩) | fail)
        go_region_held3 (fun w' => w'.cell? ⟨b, off, none⟩ = some (.int .i64 p) ∧ w'.cell? ⟨b, off + 1, none⟩ = some (.int .i64 q)) (go_keep) (fail)
        go_wp2
        go_ret
        exact ended_ok E.out (grown_trans (grown_drew (grown_refl _)) (grown_new _ _)) ⟨⟨_, 2, 2⟩, rfl, ints_new _ [q, p] 3 (by simp) (fun y hy => by simp at hy; rcases hy with rfl | rfl <;> assumption)⟩
      | false =>
        have E : Hid (turnedP x t = .ok x) := by show _ = _; rw [E0.out, hk]; rfl
        clear hk
        go_enter Tryz.func184, Tryz.ntmps184
        go_wp2_with (first | (go_at_call 45; refine (must_yes _).mono ?_; rintro e w' ⟨rfl, rfl⟩) | (go_at_call 177; refine ON.out.mono ?_; rintro e w' ⟨-, v, rfl, rfl, rfl⟩) | fail)
        go_ret
        exact ended_ok E.out (grown_refl _) ⟨⟨_, _, _⟩, rfl, HX.out⟩
  · have b0 : ((x.length : Int) == 2) = false := by simpa using (fun h => hl (by omega) : ¬ (x.length : Int) = 2)
    have E : Hid (turnedP x t = .error 4) := by show _ = _; unfold turnedP; simp [mustP, hl]; rfl
    clear hl
    go_enter Tryz.func184, Tryz.ntmps184
    go_wp2_with (first | (go_at_call 45; refine (must_no _).mono ?_; rintro e w' ⟨rfl, rfl⟩) | fail)
    exact ⟨rfl, ended_err E.out (grown_refl _)⟩

theorem spreadP_len {a b zs : List Int} (h : spreadP a b = .ok zs) (ha : a.length ≤ 6) (hb : b.length ≤ 6) : zs.length ≤ 6 := by
  unfold spreadP at h
  split at h
  · rename_i h0
    cases h
    unfold bcR
    rw [if_pos h0, bcL_length]
    unfold rank
    omega
  · cases h

set_option maxRecDepth 100000 in
set_option maxHeartbeats 2000000 in
theorem product_any (u v : Sl) (x y : List Int) (w : World) (hx : IsInts w u.v x) (hy : IsInts w v.v y) (hlx : x.length ≤ 6) (hly : y.length ≤ 6) : Calls Tryz.prog 112 #[.slice u.a u.n u.c, .slice v.a v.n v.c] w (Ended w (productP x y) DimsQ) := by
  obtain ⟨ux, uc, eu, c1, c2, c3⟩ := hx.sl
  obtain ⟨ua, un, uu⟩ := u
  simp only [Sl.v, Value.slice.injEq] at eu
  obtain ⟨rfl, rfl, rfl⟩ := eu
  obtain ⟨vx, vc, ev, d1, d2, d3⟩ := hy.sl
  obtain ⟨va, vn, vv⟩ := v
  simp only [Sl.v, Value.slice.injEq] at ev
  obtain ⟨rfl, rfl, rfl⟩ := ev
  simp only
  obtain ⟨i0, hi, hz0, hz1, hz2⟩ := info_parts infoInt
  by_cases h2 : 2 ≤ x.length
  · by_cases h3 : 2 ≤ y.length
    · obtain ⟨a, ha⟩ : ∃ a, x.length = a + 2 := ⟨x.length - 2, by omega⟩
      obtain ⟨b, hb⟩ : ∃ b, y.length = b + 2 := ⟨y.length - 2, by omega⟩
      have E0 : Hid (productP x y = (mustP (x.getD (a + 1) 0 == y.getD b 0)).bind (fun _ => (spreadP (x.take a) (y.take b)).bind (fun s => .ok (s ++ [x.getD a 0, y.getD (b + 1) 0])))) := by
        show _ = _
        unfold productP
        rw [ha, hb]
        simp [mustP]
        rfl
      obtain ⟨xb, xo, rfl, hcx⟩ := hx.get (k := 0) (by omega)
      obtain ⟨yb, yo, rfl, hcy⟩ := hy.get (k := 0) (by omega)
      have x1 := hcx (a + 1) (by omega)
      have x0 := hcx a (by omega)
      have y0 := hcy b (by omega)
      have y1 := hcy (b + 1) (by omega)
      have wx0 := hx.wf (x.getD a 0) (by rw [List.getD, List.getElem?_eq_getElem (by omega)]; exact List.getElem_mem _)
      have wy1 := hy.wf (y.getD (b + 1) 0) (by rw [List.getD, List.getElem?_eq_getElem (by omega)]; exact List.getElem_mem _)
      have SP := hide (fun (wx : World) (hg : w.grownBy wx none) => spread_any ⟨some ⟨xb, xo, none⟩, a, uu⟩ ⟨some ⟨yb, yo, none⟩, b, vv⟩ (x.take a) (y.take b) wx ((hx.front (by show a ≤ x.length; omega)).more hg) ((hy.front (by show b ≤ y.length; omega)).more hg))
      simp only at SP
      obtain ⟨p, hp⟩ : ∃ p, p = x.getD a 0 := ⟨_, rfl⟩
      obtain ⟨q, hq⟩ : ∃ q, q = y.getD (b + 1) 0 := ⟨_, rfl⟩
      obtain ⟨r, hr⟩ : ∃ r, r = x.getD (a + 1) 0 := ⟨_, rfl⟩
      obtain ⟨s, hs⟩ : ∃ s, s = y.getD b 0 := ⟨_, rfl⟩
      rw [← hp] at x0 wx0 E0
      rw [← hq] at y1 wy1 E0
      rw [← hr] at x1 E0
      rw [← hs] at y0 E0
      rw [ha] at c1 ⊢
      rw [hb] at d1 ⊢
      have i7 : decide ((2 : Int) ≤ (b : Int) + 2) = true := by simp; omega
      have i8 : decide ((2 : Int) ≤ (a : Int) + 2) = true := by simp; omega
      have i9 : (a : Int) + 2 - 2 = (a : Int) := by omega
      have i10 : (b : Int) + 2 - 2 = (b : Int) := by omega
      have kw : IntKind.i64.wrap ((a : Int) + 1) = (a : Int) + 1 := by rw [wrap_i64_eq]; unfold wrap64; omega
      have ka : (a : Int) < (a : Int) + 2 := by omega
      have kb : (b : Int) < (b : Int) + 2 := by omega
      have k1 : (a : Int) + 1 < (a : Int) + 2 := by omega
      have k2 : (0 : Int) ≤ (a : Int) + 1 := by omega
      have k3 : ((a : Int) + 1).toNat = a + 1 := by omega
      have j1 : a + 1 < a + 2 := by omega
      have j2 : b < b + 2 := by omega
      have j3 : a < a + 2 := by omega
      have j4 : b + 1 < b + 2 := by omega
      clear hp hq hr hs hcx hcy hx hy ha hb h2 h3 c3 d3
      go_enter Tryz.func112, Tryz.ntmps112
      go_wp2_with (first | (go_at_call 45; refine (must_yes _).mono ?_; rintro e w' ⟨rfl, rfl⟩) | fail)
      by_cases hrs : r = s
      · have brs : (r == s) = true := by simp [hrs]
        have E1 : Hid (productP x y = (spreadP (x.take a) (y.take b)).bind (fun t => .ok (t ++ [p, q]))) := by show _ = _; rw [E0.out, brs]; rfl
        clear hrs
        go_quiet (first | (go_at_call 45; refine (must_yes _).mono ?_; rintro e w' ⟨rfl, rfl⟩; exact ⟨rfl, _, rfl⟩) | fail)
        go_wp2_with fail
        have gq : w.grownBy (w.drewN nq) none := ⟨rfl, rfl, rfl, Nat.le_refl _, fun k hk hn => rfl⟩
        obtain ⟨wq, hwq⟩ : ∃ wq, wq = w.drewN nq := ⟨_, rfl⟩
        rw [← hwq] at gq ⊢
        have x0' := cell_still x0 gq
        have y1' := cell_still y1 gq
        have kw2 : IntKind.i64.wrap ((b : Int) + 1) = (b : Int) + 1 := by rw [wrap_i64_eq]; unfold wrap64; omega
        have k4 : (b : Int) + 1 < (b : Int) + 2 := by omega
        have k5 : (0 : Int) ≤ (b : Int) + 1 := by omega
        have k6 : ((b : Int) + 1).toNat = b + 1 := by omega
        have z1 : a ≤ uu := by omega
        have z2 : b ≤ vv := by omega
        clear hwq x1 y0
        cases hk : spreadP (x.take a) (y.take b) with
        | error c =>
          have E2 : Hid (productP x y = .error c) := by show _ = _; rw [E1.out, hk]; rfl
          rw [hk] at SP
          clear hk
          refine wp_region_held_drew (S := (fun w' => w'.cell? ⟨xb, xo + a, none⟩ = some (.int .i64 p) ∧ w'.cell? ⟨yb, yo + (b + 1), none⟩ = some (.int .i64 q))) (by kernel_rfl) (by go_keep) (fun hHeld => ?_)
          refine wpAnyH_take (i := 0) (v := ?_) rfl (by kernel_rfl) (by kernel_rfl) (by kernel_rfl) (fun _ _ _ h => h) (Or.inl ⟨by rfl, ?_⟩) (by assumption) ?_
          rotate_left 1
          · (intro w hSw; (try dsimp only at hSw); go_simp; (try with_reducible rfl))
          try simp only [Act.put]
          refine wpAnyH_take (i := 1) (v := ?_) rfl (by kernel_rfl) (by kernel_rfl) (by kernel_rfl) (fun _ _ _ h => h) (Or.inl ⟨by rfl, ?_⟩) (by assumption) ?_
          rotate_left 1
          · (intro w hSw; (try dsimp only at hSw); go_simp; (try with_reducible rfl))
          try simp only [Act.put]
          refine wpAnyH_take (i := 2) (v := ?_) rfl (by kernel_rfl) (by kernel_rfl) (by kernel_rfl) (fun _ _ _ h => h) (Or.inl ⟨by rfl, ?_⟩) (by assumption) ?_
          rotate_left 1
          · (intro w hSw; (try dsimp only at hSw); go_simp; (try with_reducible rfl))
          try simp only [Act.put]
          refine wpAnyH_take (i := 3) (v := ?_) rfl (by kernel_rfl) (by kernel_rfl) (by kernel_rfl) (fun _ _ _ h => h) (Or.inl ⟨by rfl, ?_⟩) (by assumption) ?_
          rotate_left 1
          · (intro w hSw; (try dsimp only at hSw); go_simp; (try with_reducible rfl))
          try simp only [Act.put]
          refine wpAnyH_take (i := 4) (v := ?_) rfl (by kernel_rfl) (by kernel_rfl) (by kernel_rfl) (fun _ _ _ h => h) (Or.inl ⟨by rfl, ?_⟩) (by assumption) ?_
          rotate_left 1
          · (intro w hSw; (try dsimp only at hSw); go_simp; (try with_reducible rfl))
          try simp only [Act.put]
          refine wpAnyH_take (i := 5) (v := ?_) rfl (by kernel_rfl) (by kernel_rfl) (by kernel_rfl) (fun _ _ _ h => h) (Or.inl ⟨by rfl, ?_⟩) (by assumption) ?_
          rotate_left 1
          · (intro w hSw; (try dsimp only at hSw); go_simp; (try with_reducible rfl))
          try simp only [Act.put]
          refine wpAnyH_take (i := 7) (v := ?_) rfl (by kernel_rfl) (by kernel_rfl) (by kernel_rfl) (fun _ _ _ h => h) (Or.inl ⟨by rfl, ?_⟩) (by assumption) ?_
          rotate_left 1
          · (intro w hSw; (try dsimp only at hSw); go_simp; (try with_reducible rfl))
          try simp only [Act.put]
          refine wpAnyH_take (i := 8) (v := ?_) rfl (by kernel_rfl) (by kernel_rfl) (by kernel_rfl) (fun _ _ _ h => h) (Or.inl ⟨by rfl, ?_⟩) (by assumption) ?_
          rotate_left 1
          · (intro w hSw; (try dsimp only at hSw); go_simp; (try with_reducible rfl))
          try simp only [Act.put]
          refine wpAnyH_take (i := 9) (v := ?_) rfl (by kernel_rfl) (by kernel_rfl) (by kernel_rfl) (fun _ _ _ h => h) (Or.inl ⟨by rfl, ?_⟩) (by assumption) ?_
          rotate_left 1
          · (intro w hSw; (try dsimp only at hSw); go_simp; (try with_reducible rfl))
          try simp only [Act.put]
          refine wpAnyH_take (i := 10) (v := ?_) rfl (by kernel_rfl) (by kernel_rfl) (by kernel_rfl) (fun _ _ _ h => h) (Or.inl ⟨by rfl, ?_⟩) (by assumption) ?_
          rotate_left 1
          · (intro w hSw; (try dsimp only at hSw); go_simp; (try with_reducible rfl))
          try simp only [Act.put]
          refine wpAnyH_take (i := 11) (v := ?_) rfl (by kernel_rfl) (by kernel_rfl) (by kernel_rfl) (fun _ _ _ h => h) (Or.inl ⟨by rfl, ?_⟩) (by assumption) ?_
          rotate_left 1
          · (intro w hSw; (try dsimp only at hSw); go_simp; (try with_reducible rfl))
          try simp only [Act.put]
          refine wpAnyH_take (i := 12) (v := ?_) rfl (by kernel_rfl) (by kernel_rfl) (by kernel_rfl) (fun _ _ _ h => h) (Or.inl ⟨by rfl, ?_⟩) (by assumption) ?_
          rotate_left 1
          · (intro w hSw; (try dsimp only at hSw); go_simp; (try with_reducible rfl))
          try simp only [Act.put]
          refine wpAnyH_take (i := 13) (v := ?_) rfl (by kernel_rfl) (by kernel_rfl) (by kernel_rfl) (fun _ _ _ h => h) (Or.inl ⟨by rfl, ?_⟩) (by assumption) ?_
          rotate_left 1
          · (intro w hSw; (try dsimp only at hSw); go_simp; (try with_reducible rfl))
          try simp only [Act.put]
          refine wpAnyH_take (i := 14) (v := ?_) rfl (by kernel_rfl) (by kernel_rfl) (by kernel_rfl) (fun _ _ _ h => h) (Or.inl ⟨by rfl, ?_⟩) (by assumption) ?_
          rotate_left 1
          · (intro w hSw; (try dsimp only at hSw); go_simp; (try with_reducible rfl))
          try simp only [Act.put]
          refine wpAnyH_take (i := 15) (v := ?_) rfl (by kernel_rfl) (by kernel_rfl) (by kernel_rfl) (fun _ _ _ h => h) (Or.inl ⟨by rfl, ?_⟩) (by assumption) ?_
          rotate_left 1
          · (intro w hSw; (try dsimp only at hSw); go_simp; (try with_reducible rfl))
          try simp only [Act.put]
          refine wpAnyH_ready (rs := [6, 16]) (by kernel_rfl) (by simp) ?_
          refine AllReadyH.cons rfl (fun K hK => ?_) ?_
          · skip
            go_simp
            refine (SP.out _ (by first | exact grown_drew gq | exact grown_trans (grown_drew gq) (grown_new _ _))).mono ?_
            rintro e wy ⟨hg, rfl⟩
            exact ⟨rfl, ended_err E2.out (grown_trans (by first | exact grown_drew gq | exact grown_trans (grown_drew gq) (grown_new _ _)) hg)⟩
          refine AllReadyH.cons rfl (fun K hK => ?_) ?_
          · skip
            go_simp
            refine hK.out _ _ (by first | assumption | go_keep) (fun hHeld => ?_)
            clear hK K
            try simp only [Act.put]
            refine wpAnyH_ready (rs := [6]) (by kernel_rfl) (by simp) ?_
            refine AllReadyH.cons rfl (fun K hK => ?_) ?_
            · skip
              go_simp
              refine (SP.out _ (by first | exact grown_drew gq | exact grown_trans (grown_drew gq) (grown_new _ _))).mono ?_
              rintro e wy ⟨hg, rfl⟩
              exact ⟨rfl, ended_err E2.out (grown_trans (by first | exact grown_drew gq | exact grown_trans (grown_drew gq) (grown_new _ _)) hg)⟩
            exact AllReadyH.nil
          exact AllReadyH.nil
        | ok zs =>
          have E2 : Hid (productP x y = .ok (zs ++ [p, q])) := by show _ = _; rw [E1.out, hk]; rfl
          have hzl : zs.length ≤ 6 := spreadP_len hk (by simp; omega) (by simp; omega)
          rw [hk] at SP
          clear hk
          refine wp_region_held_drew (S := (fun w' => w'.cell? ⟨xb, xo + a, none⟩ = some (.int .i64 p) ∧ w'.cell? ⟨yb, yo + (b + 1), none⟩ = some (.int .i64 q))) (by kernel_rfl) (by go_keep) (fun hHeld => ?_)
          refine wpAnyH_take (i := 0) (v := ?_) rfl (by kernel_rfl) (by kernel_rfl) (by kernel_rfl) (fun _ _ _ h => h) (Or.inl ⟨by rfl, ?_⟩) (by assumption) ?_
          rotate_left 1
          · (intro w hSw; (try dsimp only at hSw); go_simp; (try with_reducible rfl))
          try simp only [Act.put]
          refine wpAnyH_take (i := 1) (v := ?_) rfl (by kernel_rfl) (by kernel_rfl) (by kernel_rfl) (fun _ _ _ h => h) (Or.inl ⟨by rfl, ?_⟩) (by assumption) ?_
          rotate_left 1
          · (intro w hSw; (try dsimp only at hSw); go_simp; (try with_reducible rfl))
          try simp only [Act.put]
          refine wpAnyH_take (i := 2) (v := ?_) rfl (by kernel_rfl) (by kernel_rfl) (by kernel_rfl) (fun _ _ _ h => h) (Or.inl ⟨by rfl, ?_⟩) (by assumption) ?_
          rotate_left 1
          · (intro w hSw; (try dsimp only at hSw); go_simp; (try with_reducible rfl))
          try simp only [Act.put]
          refine wpAnyH_take (i := 3) (v := ?_) rfl (by kernel_rfl) (by kernel_rfl) (by kernel_rfl) (fun _ _ _ h => h) (Or.inl ⟨by rfl, ?_⟩) (by assumption) ?_
          rotate_left 1
          · (intro w hSw; (try dsimp only at hSw); go_simp; (try with_reducible rfl))
          try simp only [Act.put]
          refine wpAnyH_take (i := 4) (v := ?_) rfl (by kernel_rfl) (by kernel_rfl) (by kernel_rfl) (fun _ _ _ h => h) (Or.inl ⟨by rfl, ?_⟩) (by assumption) ?_
          rotate_left 1
          · (intro w hSw; (try dsimp only at hSw); go_simp; (try with_reducible rfl))
          try simp only [Act.put]
          refine wpAnyH_take (i := 5) (v := ?_) rfl (by kernel_rfl) (by kernel_rfl) (by kernel_rfl) (fun _ _ _ h => h) (Or.inl ⟨by rfl, ?_⟩) (by assumption) ?_
          rotate_left 1
          · (intro w hSw; (try dsimp only at hSw); go_simp; (try with_reducible rfl))
          try simp only [Act.put]
          refine wpAnyH_take (i := 7) (v := ?_) rfl (by kernel_rfl) (by kernel_rfl) (by kernel_rfl) (fun _ _ _ h => h) (Or.inl ⟨by rfl, ?_⟩) (by assumption) ?_
          rotate_left 1
          · (intro w hSw; (try dsimp only at hSw); go_simp; (try with_reducible rfl))
          try simp only [Act.put]
          refine wpAnyH_take (i := 8) (v := ?_) rfl (by kernel_rfl) (by kernel_rfl) (by kernel_rfl) (fun _ _ _ h => h) (Or.inl ⟨by rfl, ?_⟩) (by assumption) ?_
          rotate_left 1
          · (intro w hSw; (try dsimp only at hSw); go_simp; (try with_reducible rfl))
          try simp only [Act.put]
          refine wpAnyH_take (i := 9) (v := ?_) rfl (by kernel_rfl) (by kernel_rfl) (by kernel_rfl) (fun _ _ _ h => h) (Or.inl ⟨by rfl, ?_⟩) (by assumption) ?_
          rotate_left 1
          · (intro w hSw; (try dsimp only at hSw); go_simp; (try with_reducible rfl))
          try simp only [Act.put]
          refine wpAnyH_take (i := 10) (v := ?_) rfl (by kernel_rfl) (by kernel_rfl) (by kernel_rfl) (fun _ _ _ h => h) (Or.inl ⟨by rfl, ?_⟩) (by assumption) ?_
          rotate_left 1
          · (intro w hSw; (try dsimp only at hSw); go_simp; (try with_reducible rfl))
          try simp only [Act.put]
          refine wpAnyH_take (i := 11) (v := ?_) rfl (by kernel_rfl) (by kernel_rfl) (by kernel_rfl) (fun _ _ _ h => h) (Or.inl ⟨by rfl, ?_⟩) (by assumption) ?_
          rotate_left 1
          · (intro w hSw; (try dsimp only at hSw); go_simp; (try with_reducible rfl))
          try simp only [Act.put]
          refine wpAnyH_take (i := 12) (v := ?_) rfl (by kernel_rfl) (by kernel_rfl) (by kernel_rfl) (fun _ _ _ h => h) (Or.inl ⟨by rfl, ?_⟩) (by assumption) ?_
          rotate_left 1
          · (intro w hSw; (try dsimp only at hSw); go_simp; (try with_reducible rfl))
          try simp only [Act.put]
          refine wpAnyH_take (i := 13) (v := ?_) rfl (by kernel_rfl) (by kernel_rfl) (by kernel_rfl) (fun _ _ _ h => h) (Or.inl ⟨by rfl, ?_⟩) (by assumption) ?_
          rotate_left 1
          · (intro w hSw; (try dsimp only at hSw); go_simp; (try with_reducible rfl))
          try simp only [Act.put]
          refine wpAnyH_take (i := 14) (v := ?_) rfl (by kernel_rfl) (by kernel_rfl) (by kernel_rfl) (fun _ _ _ h => h) (Or.inl ⟨by rfl, ?_⟩) (by assumption) ?_
          rotate_left 1
          · (intro w hSw; (try dsimp only at hSw); go_simp; (try with_reducible rfl))
          try simp only [Act.put]
          refine wpAnyH_take (i := 15) (v := ?_) rfl (by kernel_rfl) (by kernel_rfl) (by kernel_rfl) (fun _ _ _ h => h) (Or.inl ⟨by rfl, ?_⟩) (by assumption) ?_
          rotate_left 1
          · (intro w hSw; (try dsimp only at hSw); go_simp; (try with_reducible rfl))
          try simp only [Act.put]
          refine wpAnyH_ready (rs := [6, 16]) (by kernel_rfl) (by simp) ?_
          refine AllReadyH.cons rfl (fun K hK => ?_) ?_
          · skip
            go_simp
            refine (SP.out _ (by first | exact grown_drew gq | exact grown_trans (grown_drew gq) (grown_new _ _))).mono ?_
            rintro e w2 ⟨hg2, v, rfl, ⟨sa, sn, sc⟩, rfl, ho⟩
            have gw := grown_trans (by first | exact grown_drew gq | exact grown_trans (grown_drew gq) (grown_new _ _)) hg2
            have xk := cell_still x0 gw
            have yk := cell_still y1 gw
            try dsimp only
            refine hK.out _ _ (by first | assumption | go_keep) (fun hHeld => ?_)
            clear hK K
            try simp only [Act.put]
            refine wpAnyH_ready (rs := [16]) (by kernel_rfl) (by simp) ?_
            refine AllReadyH.cons rfl (fun K hK => ?_) ?_
            · skip
              go_simp
              refine hK.out _ _ (by first | assumption | go_keep) (fun hHeld => ?_)
              clear hK K
              try simp only [Act.put]
              refine wpAnyH_ready (rs := [17]) (by kernel_rfl) (by simp) ?_
              refine AllReadyH.cons rfl (fun K hK => ?_) ?_
              · skip
                have OW2 := ho.base_le (show w.heap.size ≤ _ by have := (grown_drew gq).size; simp at this ⊢; omega)
                have hsn : sn = zs.length := by obtain ⟨a1, c4, e, -⟩ := ho.ints.sl; simp only [Sl.v, Value.slice.injEq] at e; exact e.2.1
                subst hsn
                refine step_append_lies (w2.alloc (.cells #[.int .i64 p, .int .i64 q] 3)) (by rfl) (.tmp 39) (.tmp 49) 29 (by rfl) w.heap.size 3 i0 (.int .i64 0) 1 8 Tryz.underlying29 hi hz0 hz1 hz2 (by rfl) (by decide) (.slice sa zs.length sc) zs.length (zs.map (Value.int .i64)) (by rfl) ((OW2.new (grown_new _ _)).1) ⟨w2.heap.size, 0, none⟩ 2 2 [.int .i64 p, .int .i64 q] (by rfl) (by rfl) ?_ (by simp [Value.oneCell']) (by decide) (by simp only [maxLen]; omega) (by omega) (by have := gw.size; simp; omega) _ rfl ?_
                · intro j u hu
                  rw [Addr.add_lit, Nat.zero_add]
                  match j, hu with
                  | 0, hu => rw [cell_of_row _ _ 0 _ _ (0, 0) (heap_alloc_new w2 _)]; exact hu
                  | 1, hu => rw [cell_of_row _ _ 1 _ _ (0, 0) (heap_alloc_new w2 _)]; exact hu
                  | j + 2, hu => simp at hu
                intro g gcap w4 hown hgrow _ _
                have gw4 : w.grownBy w4 none := grown_trans_row (grown_trans gw (grown_new _ _)) hgrow (fun r e => (OW2.lt r e).1)
                have xk4 := cell_still x0 gw4
                have yk4 := cell_still y1 gw4
                have OW4 : Owns w4 w.heap.size (.slice (some ⟨g, 0, none⟩) (zs.length + 2) gcap) (zs ++ [p, q]) := ⟨by rw [List.length_append, List.map_append]; exact hown, by rw [List.length_append]; simp only [List.length_cons, List.length_nil]; omega, fun z hz => by rcases List.mem_append.1 hz with h | h; exact ho.2.2 z h; simp at h; rcases h with rfl | rfl <;> assumption⟩
                refine hK.out _ _ (by first | assumption | go_keep) (fun hHeld => ?_)
                clear hK K
                try simp only [Act.put]
                refine wpAnyH_take (i := 18) (v := ?_) rfl (by kernel_rfl) (by kernel_rfl) (by kernel_rfl) (fun _ _ _ h => h) (Or.inl ⟨by rfl, ?_⟩) (by assumption) ?_
                rotate_left 1
                · (intro w hSw; (try dsimp only at hSw); go_simp; (try with_reducible rfl))
                try simp only [Act.put]
                refine wpAnyH_done (by kernel_rfl) ?_ _
                try go_simp
                go_wp2
                go_ret
                exact ended_ok E2.out gw4 ⟨⟨some ⟨g, 0, none⟩, zs.length + 2, gcap⟩, rfl, OW4.ints⟩
              exact AllReadyH.nil
            exact AllReadyH.nil
          refine AllReadyH.cons rfl (fun K hK => ?_) ?_
          · skip
            go_simp
            refine hK.out _ _ (by first | assumption | go_keep) (fun hHeld => ?_)
            clear hK K
            try simp only [Act.put]
            refine wpAnyH_ready (rs := [6]) (by kernel_rfl) (by simp) ?_
            refine AllReadyH.cons rfl (fun K hK => ?_) ?_
            · skip
              go_simp
              refine (SP.out _ (by first | exact grown_drew gq | exact grown_trans (grown_drew gq) (grown_new _ _))).mono ?_
              rintro e w2 ⟨hg2, v, rfl, ⟨sa, sn, sc⟩, rfl, ho⟩
              have gw := grown_trans (by first | exact grown_drew gq | exact grown_trans (grown_drew gq) (grown_new _ _)) hg2
              have xk := cell_still x0 gw
              have yk := cell_still y1 gw
              have hn0 := cell_still (cell_of_row _ _ 0 _ _ (0, 0) (heap_alloc_new wq.drew (.cells #[.int .i64 p, .int .i64 q] 3))) hg2
              have hn1 := cell_still (cell_of_row _ _ 1 _ _ (0, 0) (heap_alloc_new wq.drew (.cells #[.int .i64 p, .int .i64 q] 3))) hg2
              try dsimp only
              refine hK.out _ _ (by first | assumption | go_keep) (fun hHeld => ?_)
              clear hK K
              try simp only [Act.put]
              refine wpAnyH_ready (rs := [17]) (by kernel_rfl) (by simp) ?_
              refine AllReadyH.cons rfl (fun K hK => ?_) ?_
              · skip
                have OW2 := ho.base_le (show w.heap.size ≤ _ by have := (grown_drew gq).size; simp at this ⊢; omega)
                have hsn : sn = zs.length := by obtain ⟨a1, c4, e, -⟩ := ho.ints.sl; simp only [Sl.v, Value.slice.injEq] at e; exact e.2.1
                subst hsn
                refine step_append_lies w2 (by rfl) (.tmp 39) (.tmp 49) 29 (by rfl) w.heap.size 3 i0 (.int .i64 0) 1 8 Tryz.underlying29 hi hz0 hz1 hz2 (by rfl) (by decide) (.slice sa zs.length sc) zs.length (zs.map (Value.int .i64)) (by rfl) (OW2.1) ⟨wq.drew.heap.size, 0, none⟩ 2 2 [.int .i64 p, .int .i64 q] (by rfl) (by rfl) ?_ (by simp [Value.oneCell']) (by decide) (by simp only [maxLen]; omega) (by omega) (by have := gw.size; simp; omega) _ rfl ?_
                · intro j u hu
                  rw [Addr.add_lit, Nat.zero_add]
                  match j, hu with
                  | 0, hu => rw [hn0]; exact hu
                  | 1, hu => rw [hn1]; exact hu
                  | j + 2, hu => simp at hu
                intro g gcap w4 hown hgrow _ _
                have gw4 : w.grownBy w4 none := grown_trans_row gw hgrow (fun r e => (OW2.lt r e).1)
                have xk4 := cell_still x0 gw4
                have yk4 := cell_still y1 gw4
                have OW4 : Owns w4 w.heap.size (.slice (some ⟨g, 0, none⟩) (zs.length + 2) gcap) (zs ++ [p, q]) := ⟨by rw [List.length_append, List.map_append]; exact hown, by rw [List.length_append]; simp only [List.length_cons, List.length_nil]; omega, fun z hz => by rcases List.mem_append.1 hz with h | h; exact ho.2.2 z h; simp at h; rcases h with rfl | rfl <;> assumption⟩
                refine hK.out _ _ (by first | assumption | go_keep) (fun hHeld => ?_)
                clear hK K
                try simp only [Act.put]
                refine wpAnyH_take (i := 18) (v := ?_) rfl (by kernel_rfl) (by kernel_rfl) (by kernel_rfl) (fun _ _ _ h => h) (Or.inl ⟨by rfl, ?_⟩) (by assumption) ?_
                rotate_left 1
                · (intro w hSw; (try dsimp only at hSw); go_simp; (try with_reducible rfl))
                try simp only [Act.put]
                refine wpAnyH_done (by kernel_rfl) ?_ _
                try go_simp
                go_wp2
                go_ret
                exact ended_ok E2.out gw4 ⟨⟨some ⟨g, 0, none⟩, zs.length + 2, gcap⟩, rfl, OW4.ints⟩
              exact AllReadyH.nil
            exact AllReadyH.nil
          exact AllReadyH.nil
      · have brs : (r == s) = false := by simpa using hrs
        have E1 : Hid (productP x y = .error 4) := by show _ = _; rw [E0.out, brs]; rfl
        clear hrs
        refine wp_region_held_drew (S := (fun w' => w'.cell? ⟨xb, xo + (a + 1), none⟩ = some (.int .i64 r) ∧ w'.cell? ⟨yb, yo + b, none⟩ = some (.int .i64 s))) (by kernel_rfl) (by go_keep) (fun hHeld => ?_)
        refine wpAnyH_take (i := 0) (v := ?_) rfl (by kernel_rfl) (by kernel_rfl) (by kernel_rfl) (fun _ _ _ h => h) (Or.inl ⟨by rfl, ?_⟩) (by assumption) ?_
        rotate_left 1
        · (intro w hSw; (try dsimp only at hSw); go_simp; (try with_reducible rfl))
        try simp only [Act.put]
        refine wpAnyH_take (i := 1) (v := ?_) rfl (by kernel_rfl) (by kernel_rfl) (by kernel_rfl) (fun _ _ _ h => h) (Or.inl ⟨by rfl, ?_⟩) (by assumption) ?_
        rotate_left 1
        · (intro w hSw; (try dsimp only at hSw); go_simp; (try with_reducible rfl))
        try simp only [Act.put]
        refine wpAnyH_take (i := 2) (v := ?_) rfl (by kernel_rfl) (by kernel_rfl) (by kernel_rfl) (fun _ _ _ h => h) (Or.inl ⟨by rfl, ?_⟩) (by assumption) ?_
        rotate_left 1
        · (intro w hSw; (try dsimp only at hSw); go_simp; (try with_reducible rfl))
        try simp only [Act.put]
        refine wpAnyH_take (i := 3) (v := ?_) rfl (by kernel_rfl) (by kernel_rfl) (by kernel_rfl) (fun _ _ _ h => h) (Or.inl ⟨by rfl, ?_⟩) (by assumption) ?_
        rotate_left 1
        · (intro w hSw; (try dsimp only at hSw); go_simp; (try with_reducible rfl))
        try simp only [Act.put]
        refine wpAnyH_take (i := 4) (v := ?_) rfl (by kernel_rfl) (by kernel_rfl) (by kernel_rfl) (fun _ _ _ h => h) (Or.inl ⟨by rfl, ?_⟩) (by assumption) ?_
        rotate_left 1
        · (intro w hSw; (try dsimp only at hSw); go_simp; (try with_reducible rfl))
        try simp only [Act.put]
        refine wpAnyH_take (i := 5) (v := ?_) rfl (by kernel_rfl) (by kernel_rfl) (by kernel_rfl) (fun _ _ _ h => h) (Or.inl ⟨by rfl, ?_⟩) (by assumption) ?_
        rotate_left 1
        · (intro w hSw; (try dsimp only at hSw); go_simp; (try with_reducible rfl))
        try simp only [Act.put]
        refine wpAnyH_take (i := 6) (v := ?_) rfl (by kernel_rfl) (by kernel_rfl) (by kernel_rfl) (fun _ _ _ h => h) (Or.inl ⟨by rfl, ?_⟩) (by assumption) ?_
        rotate_left 1
        · (intro w hSw; (try dsimp only at hSw); go_simp; (try with_reducible rfl))
        try simp only [Act.put]
        refine wpAnyH_take (i := 7) (v := ?_) rfl (by kernel_rfl) (by kernel_rfl) (by kernel_rfl) (fun _ _ _ h => h) (Or.inl ⟨by rfl, ?_⟩) (by assumption) ?_
        rotate_left 1
        · (intro w hSw; (try dsimp only at hSw); go_simp; (try with_reducible rfl))
        try simp only [Act.put]
        refine wpAnyH_take (i := 8) (v := ?_) rfl (by kernel_rfl) (by kernel_rfl) (by kernel_rfl) (fun _ _ _ h => h) (Or.inl ⟨by rfl, ?_⟩) (by assumption) ?_
        rotate_left 1
        · (intro w hSw; (try dsimp only at hSw); go_simp; (try with_reducible rfl))
        try simp only [Act.put]
        refine wpAnyH_take (i := 9) (v := ?_) rfl (by kernel_rfl) (by kernel_rfl) (by kernel_rfl) (fun _ _ _ h => h) (Or.inl ⟨by rfl, ?_⟩) (by assumption) ?_
        rotate_left 1
        · (intro w hSw; (try dsimp only at hSw); go_simp; (try with_reducible rfl))
        try simp only [Act.put]
        refine wpAnyH_ready (rs := [10]) (by kernel_rfl) (by simp) ?_
        refine AllReadyH.cons rfl (fun K hK => ?_) AllReadyH.nil
        go_simp
        refine (must_no _).mono ?_
        rintro e wy ⟨rfl, rfl⟩; exact ⟨rfl, ended_err E1.out (grown_drew (grown_refl _))⟩
    · have b3 : decide ((2 : Int) ≤ (y.length : Int)) = false := by simp; omega
      have h2' : (2 : Int) ≤ (x.length : Int) := by omega
      have E1 : Hid (productP x y = .error 4) := by show _ = _; unfold productP; simp [mustP, h3]; rfl
      clear h2 h3
      go_enter Tryz.func112, Tryz.ntmps112
      go_wp2_with (first | (go_at_call 45; refine (must_no _).mono ?_; rintro e w' ⟨rfl, rfl⟩) | fail)
      exact ⟨rfl, ended_err E1.out (grown_refl _)⟩
  · have b2 : decide ((2 : Int) ≤ (x.length : Int)) = false := by simp; omega
    have E1 : Hid (productP x y = .error 4) := by show _ = _; unfold productP; simp [mustP, h2]; rfl
    clear h2
    go_enter Tryz.func112, Tryz.ntmps112
    go_wp2_with (first | (go_at_call 45; refine (must_no _).mono ?_; rintro e w' ⟨rfl, rfl⟩) | fail)
    exact ⟨rfl, ended_err E1.out (grown_refl _)⟩
end Go.Proofs.YtdcbjikjeicgbaaGreatDoor

/- Are two lists alike: slices.Equal, by the walk. -/
namespace Go.Proofs.YtdcbjikjeicgbaaGreatDoor
open Go.RowKit

theorem list_ne {a b : List Int} {k : Nat} (_hk : k < a.length) (_hl : a.length = b.length) (h : a.getD k 0 ≠ b.getD k 0) : a ≠ b := by
  rintro rfl
  exact h rfl

theorem list_eq {a b : List Int} (hl : a.length = b.length) (h : ∀ t, t < a.length → a.getD t 0 = b.getD t 0) : a = b := by
  refine List.ext_getElem hl fun i h1 h2 => ?_
  have := h i h1
  simpa [List.getD, h1, h2] using this

set_option maxRecDepth 100000 in
set_option maxHeartbeats 1000000 in
theorem equal_any (u v : Sl) (a b : List Int) (w : World) (ha : IsInts w u.v a) (hb : IsInts w v.v b) : Calls Tryz.prog 79 #[.slice u.a u.n u.c, .slice v.a v.n v.c] w fun e w' => e = .returned (.bool (decide (a = b))) ∧ ∃ n, w' = w.drewN n := by
  obtain ⟨ux, uc, eu, c1, c2, c3⟩ := ha.sl
  obtain ⟨ua, un, uu⟩ := u
  simp only [Sl.v, Value.slice.injEq] at eu
  obtain ⟨rfl, rfl, rfl⟩ := eu
  obtain ⟨vx, vc, ev, d1, d2, d3⟩ := hb.sl
  obtain ⟨va, vn, vv⟩ := v
  simp only [Sl.v, Value.slice.injEq] at ev
  obtain ⟨rfl, rfl, rfl⟩ := ev
  simp only
  have HA := hide ha
  have HB := hide hb
  clear ha hb
  by_cases hl : a.length = b.length
  · have b0 : ((a.length : Int) != (b.length : Int)) = false := by simp [hl]
    have HL := hide hl
    clear hl
    go_enter Tryz.func79, Tryz.ntmps79
    go_wp2
    go_loopw [13] (fun i wr => ∃ k n : Nat, k ≤ a.length ∧ i = .int .i64 k ∧ (∀ t, t < k → a.getD t 0 = b.getD t 0) ∧ wr = w.drewN n) (fun i _ => a.length - (intOf i).toNat)
    case atStart => exact ⟨0, 0, Nat.zero_le _, rfl, fun t h => absurd h (by omega), rfl⟩
    case round =>
      obtain ⟨k, n, hk, rfl, hp, rfl⟩ := hrel
      have HP := hide hp
      clear hp
      by_cases hkl : k < a.length
      · have hkb : k < b.length := by have := HL.out; omega
        obtain ⟨ab, ao, rfl, hca⟩ := HA.out.get hkl
        obtain ⟨bb, bo, rfl, hcb⟩ := HB.out.get hkb
        have gq : w.grownBy (w.drewN n) none := ⟨rfl, rfl, rfl, Nat.le_refl _, fun k hk hn => rfl⟩
        have h1 := cell_still (hca k hkl) gq
        have h2 := cell_still (hcb k hkb) gq
        have i1 : (k : Int) < (a.length : Int) := by omega
        have i2 : (k : Int) < (b.length : Int) := by omega
        obtain ⟨p, hp⟩ : ∃ p, p = a.getD k 0 := ⟨_, rfl⟩
        obtain ⟨q, hq⟩ : ∃ q, q = b.getD k 0 := ⟨_, rfl⟩
        rw [← hp] at h1
        rw [← hq] at h2
        have HPP := hide hp
        have HQQ := hide hq
        obtain ⟨wq, hwq⟩ : ∃ wq, wq = w.drewN n := ⟨_, rfl⟩
        rw [← hwq] at h1 h2 ⊢
        have HW := hide hwq
        clear hp hq hca hcb gq hwq
        by_cases hd : p = q
        · have bd : (p != q) = false := by simp [hd]
          have HD := hide hd
          clear hd
          go_wp2_with fail
          go_quiet (fail)
          go_wp2_with fail
          go_roundw
          case rel =>
            refine ⟨k + 1, n + nq, by omega, by go_num, fun t ht => ?_, by rw [HW.out]; simp [World.drewN, Nat.add_assoc]⟩
            rcases lt_succ_cases ht with h | rfl
            · exact HP.out t h
            · rw [← HPP.out, ← HQQ.out]; exact HD.out
          case measure => simp [intOf]; omega
        · have bd : (p != q) = true := by simpa using hd
          have E : Hid (decide (a = b) = false) := by show _ = _; exact decide_eq_false (list_ne hkl HL.out (by rw [← HPP.out, ← HQQ.out]; exact hd))
          clear hd
          go_wp2_with fail
          go_quiet (fail)
          go_wp2
          go_ret
          exact ⟨by rw [E.out]; rfl, n + nq, by rw [HW.out]; simp [World.drewN, Nat.add_assoc]⟩
      · have E : Hid (decide (a = b) = true) := by show _ = _; exact decide_eq_true (list_eq HL.out (fun t ht => HP.out t (by omega)))
        go_wp2
        go_ret
        exact ⟨by rw [E.out]; rfl, n, rfl⟩
  · have b0 : ((a.length : Int) != (b.length : Int)) = true := by simpa using (fun h => hl (by omega) : ¬ (a.length : Int) = b.length)
    have E : Hid (decide (a = b) = false) := by show _ = _; exact decide_eq_false (fun h => hl (by rw [h]))
    clear hl
    go_enter Tryz.func79, Tryz.ntmps79
    go_wp2
    go_ret
    exact ⟨by rw [E.out]; rfl, 0, rfl⟩
end Go.Proofs.YtdcbjikjeicgbaaGreatDoor

/- Products with turning, and normalization, by the walk (mkIGemm.py). -/
namespace Go.Proofs.YtdcbjikjeicgbaaGreatDoor
open Go.RowKit

theorem turnedP_len {x r : List Int} {t : Int} (h : turnedP x t = .ok r) : r.length ≤ 6 := by
  unfold turnedP mustP at h
  by_cases hl : x.length = 2
  · rw [if_pos (by simpa using hl)] at h
    cases hk : isOnP t with
    | error c => rw [hk] at h; simp [bind, Except.bind] at h
    | ok on =>
      rw [hk] at h
      have e : (if on = true then [x.getD 1 0, x.getD 0 0] else x) = r := by simpa [bind, Except.bind, pure, Except.pure] using h
      rw [← e]
      split
      · simp
      · omega
  · rw [if_neg (by simpa using hl)] at h
    simp [bind, Except.bind] at h

set_option maxRecDepth 100000 in
set_option maxHeartbeats 8000000 in
theorem gemm_any (n : Nod) (A : At) (u : Sl) (p0 p1 : Val × List Int) (rest : List (Val × List Int)) (w : World) (hn : NodeOk w n A) (hv : ValsIn w u.v (p0 :: p1 :: rest)) (hr : rest.length ≤ 1) : Calls Tryz.prog 113 #[nval n, .slice u.a u.n u.c] w (Ended w (gemmP A p0.2 p1.2 (rest.head?.map (·.2))) DimsQ) := by
  obtain ⟨xa, xc, e1, q1, q2, q3⟩ := hv.vals.form
  rw [List.length_map] at e1 q1 q3
  obtain ⟨ua, un, uc⟩ := u
  simp only [Sl.v, Value.slice.injEq] at e1
  obtain ⟨rfl, rfl, rfl⟩ := e1
  have HV := hide hv
  obtain ⟨b, off, rfl⟩ := hv.vals.addr (k := 0) (by simp)
  obtain ⟨-, z0⟩ := hv.at 0 (by simp)
  obtain ⟨-, z1⟩ := hv.at 1 (by simp)
  rw [Nat.zero_mul, Nat.add_zero] at z0
  rw [Nat.one_mul] at z1
  simp only [List.getElem_cons_zero, List.getElem_cons_succ] at z0 z1
  have HX := hide (hv.dims p0 (by simp))
  have HY := hide (hv.dims p1 (by simp))
  obtain ⟨⟨pn0, pt0, d0⟩, x⟩ := p0
  obtain ⟨⟨pn1, pt1, d1⟩, y⟩ := p1
  simp only at z0 z1 HX HY ⊢
  obtain ⟨m, hm⟩ : ∃ m, m = (((⟨pn0, pt0, d0⟩, x) :: (⟨pn1, pt1, d1⟩, y) :: rest) : List (Val × List Int)).length := ⟨_, rfl⟩
  have HM : Hid (m = rest.length + 2) := by show _ = _; rw [hm]; simp
  have hm2 : 2 ≤ m := by have := HM.out; omega
  have hm0 : 0 < m := by omega
  have hm1 : 1 < m := by omega
  have hm1' : (1 : Int) < (m : Int) := by omega
  have hm0' : (0 : Int) < (m : Int) := by omega
  rw [← hm]
  rw [← hm] at q1 q3
  have Z0 := hide z0
  have Z1 := hide z1
  clear hv hm z0 z1
  have NK := hide hn
  obtain ⟨op, nam, ⟨ia, il, ic⟩, out, ⟨ao, al, cap⟩⟩ := n
  unfold nval
  simp only
  obtain ⟨w0, hw0⟩ : ∃ w0, w0 = w.alloc (.cells #[.string op, .string nam, .slice ia il ic, .string out, .slice ao al cap] 25) := ⟨_, rfl⟩
  have g0 : Hid (w.grownBy w0 none) := by show w.grownBy w0 none; rw [hw0]; exact grown_new _ _
  have hb0 := heap_alloc_new w (.cells #[.string op, .string nam, .slice ia il ic, .string out, .slice ao al cap] 25)
  rw [← hw0] at hb0
  have BX : Hid (∀ wx, w0.grownBy wx none → wx.heap[w.heap.size]? = some (.cells #[.string op, .string nam, .slice ia il ic, .string out, .slice ao al cap] 25 (0, 0))) := fun wx hg => box_kept hb0 hg
  clear hb0 hn
  have IA := hide (fun (wx : World) (hg : w0.grownBy wx none) => nint_any ⟨op, nam, ⟨ia, il, ic⟩, out, ⟨ao, al, cap⟩⟩ A ⟨#[116, 114, 97, 110, 115, 65]⟩ 0 wx (NK.out.more (grown_trans g0.out hg)))
  have IB := hide (fun (wx : World) (hg : w0.grownBy wx none) => nint_any ⟨op, nam, ⟨ia, il, ic⟩, out, ⟨ao, al, cap⟩⟩ A ⟨#[116, 114, 97, 110, 115, 66]⟩ 0 wx (NK.out.more (grown_trans g0.out hg)))
  unfold nval at IA IB
  simp only at IA IB
  obtain ⟨ta, hta⟩ : ∃ z, z = A.int ⟨#[116, 114, 97, 110, 115, 65]⟩ 0 := ⟨_, rfl⟩
  obtain ⟨tb, htb⟩ : ∃ z, z = A.int ⟨#[116, 114, 97, 110, 115, 66]⟩ 0 := ⟨_, rfl⟩
  rw [← hta] at IA
  rw [← htb] at IB
  have E : Hid (gemmP A x y (rest.head?.map (·.2)) = (turnedP x ta).bind (fun a => (turnedP y tb).bind (fun b => (productP a b).bind (fun dims => match rest.head?.map (·.2) with
    | none => .ok dims
    | some c => (spreadP dims c).bind (fun s => (mustP (decide (s = dims))).bind (fun _ => .ok dims)))))) := by show _ = _; rw [hta, htb]; unfold gemmP; cases rest.head?.map (·.2) <;> rfl
  have TA := hide (fun (wx : World) (hg : w0.grownBy wx none) => turned_any d0 x ta wx (HX.out.more (grown_trans g0.out hg)))
  have TB := hide (fun (wx : World) (hg : w0.grownBy wx none) => turned_any d1 y tb wx (HY.out.more (grown_trans g0.out hg)))
  have D0 : Hid (∀ wx, w0.grownBy wx none → wx.cell? ⟨b, off + 2, none⟩ = some (.slice d0.a d0.n d0.c)) := fun wx hg => cell_still Z0.out (grown_trans g0.out hg)
  have D1 : Hid (∀ wx, w0.grownBy wx none → wx.cell? ⟨b, off + 3 + 2, none⟩ = some (.slice d1.a d1.n d1.c)) := fun wx hg => cell_still Z1.out (grown_trans g0.out hg)
  have zk := D0.out w0 (grown_refl _)
  obtain ⟨n0, n1, n2, n3, n4⟩ := nod_cells (n := ⟨op, nam, ⟨ia, il, ic⟩, out, ⟨ao, al, cap⟩⟩) (BX.out w0 (grown_refl _))
  clear hta htb
  go_enter Tryz.func113, Tryz.ntmps113
  go_wp2_with fail
  rw [← hw0]
  clear hw0
  cases hk : turnedP x ta with
  | error c =>
    rw [hk] at TA
    have E0 : Hid (gemmP A x y (rest.head?.map (·.2)) = .error c) := by show _ = _; rw [E.out, hk]; rfl
    clear hk
    refine wp_region_held_drew (S := (fun w' => w'.cell? ⟨w.heap.size, 0, none⟩ = some (.string op) ∧ w'.cell? ⟨w.heap.size, 1, none⟩ = some (.string nam) ∧ w'.cell? ⟨w.heap.size, 2, none⟩ = some (.slice ia il ic) ∧ w'.cell? ⟨w.heap.size, 3, none⟩ = some (.string out) ∧ w'.cell? ⟨w.heap.size, 4, none⟩ = some (.slice ao al cap) ∧ w'.cell? ⟨b, off + 2, none⟩ = some (.slice d0.a d0.n d0.c))) (by kernel_rfl) (by go_keep) (fun hHeld => ?_)
    refine wpAnyH_take (i := 0) (v := ?_) rfl (by kernel_rfl) (by kernel_rfl) (by kernel_rfl) (fun _ _ _ h => h) (Or.inl ⟨by rfl, ?_⟩) (by assumption) ?_
    rotate_left 1
    · (intro w hSw; (try dsimp only at hSw); go_simp; (try with_reducible rfl))
    try simp only [Act.put]
    refine wpAnyH_take (i := 1) (v := ?_) rfl (by kernel_rfl) (by kernel_rfl) (by kernel_rfl) (fun _ _ _ h => h) (Or.inl ⟨by rfl, ?_⟩) (by assumption) ?_
    rotate_left 1
    · (intro w hSw; (try dsimp only at hSw); go_simp; (try with_reducible rfl))
    try simp only [Act.put]
    refine wpAnyH_take (i := 2) (v := ?_) rfl (by kernel_rfl) (by kernel_rfl) (by kernel_rfl) (fun _ _ _ h => h) (Or.inl ⟨by rfl, ?_⟩) (by assumption) ?_
    rotate_left 1
    · (intro w hSw; (try dsimp only at hSw); go_simp; (try with_reducible rfl))
    try simp only [Act.put]
    refine wpAnyH_take (i := 3) (v := ?_) rfl (by kernel_rfl) (by kernel_rfl) (by kernel_rfl) (fun _ _ _ h => h) (Or.inl ⟨by rfl, ?_⟩) (by assumption) ?_
    rotate_left 1
    · (intro w hSw; (try dsimp only at hSw); go_simp; (try with_reducible rfl))
    try simp only [Act.put]
    refine wpAnyH_take (i := 4) (v := ?_) rfl (by kernel_rfl) (by kernel_rfl) (by kernel_rfl) (fun _ _ _ h => h) (Or.inl ⟨by rfl, ?_⟩) (by assumption) ?_
    rotate_left 1
    · (intro w hSw; (try dsimp only at hSw); go_simp; (try with_reducible rfl))
    try simp only [Act.put]
    refine wpAnyH_ready (rs := [5]) (by kernel_rfl) (by simp) ?_
    refine AllReadyH.cons rfl (fun K hK => ?_) ?_
    · skip
      go_simp
      refine (IA.out _ (grown_drew (grown_refl _))).mono ?_
      rintro e v0 ⟨rfl, hgi0⟩
      have gi0 : w0.grownBy v0 none := grown_trans (grown_drew (grown_refl _)) hgi0
      obtain ⟨n0, n1, n2, n3, n4⟩ := nod_cells (n := ⟨op, nam, ⟨ia, il, ic⟩, out, ⟨ao, al, cap⟩⟩) (BX.out v0 (gi0))
      have zk := D0.out v0 gi0
      try dsimp only
      refine hK.out _ _ (by first | assumption | go_keep) (fun hHeld => ?_)
      clear hK K
      try simp only [Act.put]
      refine wpAnyH_ready (rs := [6]) (by kernel_rfl) (by simp) ?_
      refine AllReadyH.cons rfl (fun K hK => ?_) ?_
      · skip
        go_simp
        refine (TA.out _ gi0).mono ?_
        rintro e wy ⟨hg, rfl⟩
        exact ⟨rfl, ended_err E0.out (grown_trans (grown_trans g0.out gi0) hg)⟩
      exact AllReadyH.nil
    exact AllReadyH.nil
  | ok a =>
    rw [hk] at TA
    have AL := hide (turnedP_len hk)
    have EA : Hid (gemmP A x y (rest.head?.map (·.2)) = (turnedP y tb).bind (fun b => (productP a b).bind (fun dims => match rest.head?.map (·.2) with
      | none => .ok dims
      | some c => (spreadP dims c).bind (fun s => (mustP (decide (s = dims))).bind (fun _ => .ok dims))))) := by show _ = _; rw [E.out, hk]; rfl
    clear hk E
    refine wp_region_held_drew (S := (fun w' => w'.cell? ⟨w.heap.size, 0, none⟩ = some (.string op) ∧ w'.cell? ⟨w.heap.size, 1, none⟩ = some (.string nam) ∧ w'.cell? ⟨w.heap.size, 2, none⟩ = some (.slice ia il ic) ∧ w'.cell? ⟨w.heap.size, 3, none⟩ = some (.string out) ∧ w'.cell? ⟨w.heap.size, 4, none⟩ = some (.slice ao al cap) ∧ w'.cell? ⟨b, off + 2, none⟩ = some (.slice d0.a d0.n d0.c))) (by kernel_rfl) (by go_keep) (fun hHeld => ?_)
    refine wpAnyH_take (i := 0) (v := ?_) rfl (by kernel_rfl) (by kernel_rfl) (by kernel_rfl) (fun _ _ _ h => h) (Or.inl ⟨by rfl, ?_⟩) (by assumption) ?_
    rotate_left 1
    · (intro w hSw; (try dsimp only at hSw); go_simp; (try with_reducible rfl))
    try simp only [Act.put]
    refine wpAnyH_take (i := 1) (v := ?_) rfl (by kernel_rfl) (by kernel_rfl) (by kernel_rfl) (fun _ _ _ h => h) (Or.inl ⟨by rfl, ?_⟩) (by assumption) ?_
    rotate_left 1
    · (intro w hSw; (try dsimp only at hSw); go_simp; (try with_reducible rfl))
    try simp only [Act.put]
    refine wpAnyH_take (i := 2) (v := ?_) rfl (by kernel_rfl) (by kernel_rfl) (by kernel_rfl) (fun _ _ _ h => h) (Or.inl ⟨by rfl, ?_⟩) (by assumption) ?_
    rotate_left 1
    · (intro w hSw; (try dsimp only at hSw); go_simp; (try with_reducible rfl))
    try simp only [Act.put]
    refine wpAnyH_take (i := 3) (v := ?_) rfl (by kernel_rfl) (by kernel_rfl) (by kernel_rfl) (fun _ _ _ h => h) (Or.inl ⟨by rfl, ?_⟩) (by assumption) ?_
    rotate_left 1
    · (intro w hSw; (try dsimp only at hSw); go_simp; (try with_reducible rfl))
    try simp only [Act.put]
    refine wpAnyH_take (i := 4) (v := ?_) rfl (by kernel_rfl) (by kernel_rfl) (by kernel_rfl) (fun _ _ _ h => h) (Or.inl ⟨by rfl, ?_⟩) (by assumption) ?_
    rotate_left 1
    · (intro w hSw; (try dsimp only at hSw); go_simp; (try with_reducible rfl))
    try simp only [Act.put]
    refine wpAnyH_ready (rs := [5]) (by kernel_rfl) (by simp) ?_
    refine AllReadyH.cons rfl (fun K hK => ?_) ?_
    · skip
      go_simp
      refine (IA.out _ (grown_drew (grown_refl _))).mono ?_
      rintro e v0 ⟨rfl, hgi0⟩
      have gi0 : w0.grownBy v0 none := grown_trans (grown_drew (grown_refl _)) hgi0
      obtain ⟨n0, n1, n2, n3, n4⟩ := nod_cells (n := ⟨op, nam, ⟨ia, il, ic⟩, out, ⟨ao, al, cap⟩⟩) (BX.out v0 (gi0))
      have zk := D0.out v0 gi0
      try dsimp only
      refine hK.out _ _ (by first | assumption | go_keep) (fun hHeld => ?_)
      clear hK K
      try simp only [Act.put]
      refine wpAnyH_ready (rs := [6]) (by kernel_rfl) (by simp) ?_
      refine AllReadyH.cons rfl (fun K hK => ?_) ?_
      · skip
        go_simp
        refine (TA.out _ gi0).mono ?_
        rintro e t0 ⟨hgt0, v, rfl, ⟨s0a, s0n, s0c⟩, rfl, hs0⟩
        have gt0 : w0.grownBy t0 none := grown_trans gi0 hgt0
        obtain ⟨n0, n1, n2, n3, n4⟩ := nod_cells (n := ⟨op, nam, ⟨ia, il, ic⟩, out, ⟨ao, al, cap⟩⟩) (BX.out t0 (gt0))
        have zk := D0.out t0 gt0
        try dsimp only
        refine hK.out _ _ (by first | assumption | go_keep) (fun hHeld => ?_)
        clear hK K
        try simp only [Act.put]
        refine wpAnyH_take (i := 7) (v := ?_) rfl (by kernel_rfl) (by kernel_rfl) (by kernel_rfl) (fun _ _ _ h => h) (Or.inl ⟨by rfl, ?_⟩) (by assumption) ?_
        rotate_left 1
        · (intro w hSw; (try dsimp only at hSw); go_simp; (try with_reducible rfl))
        try simp only [Act.put]
        refine wpAnyH_done (by kernel_rfl) ?_ _
        try go_simp
        simp only [Sl.v]
        have zk := D1.out t0 gt0
        go_wp2_with fail
        cases hk1 : turnedP y tb with
        | error c =>
          rw [hk1] at TB
          have E1 : Hid (gemmP A x y (rest.head?.map (·.2)) = .error c) := by show _ = _; rw [EA.out, hk1]; rfl
          clear hk1
          refine wp_region_held_drew (S := (fun w' => w'.cell? ⟨w.heap.size, 0, none⟩ = some (.string op) ∧ w'.cell? ⟨w.heap.size, 1, none⟩ = some (.string nam) ∧ w'.cell? ⟨w.heap.size, 2, none⟩ = some (.slice ia il ic) ∧ w'.cell? ⟨w.heap.size, 3, none⟩ = some (.string out) ∧ w'.cell? ⟨w.heap.size, 4, none⟩ = some (.slice ao al cap) ∧ w'.cell? ⟨b, off + 3 + 2, none⟩ = some (.slice d1.a d1.n d1.c))) (by kernel_rfl) (by go_keep) (fun hHeld => ?_)
          refine wpAnyH_take (i := 0) (v := ?_) rfl (by kernel_rfl) (by kernel_rfl) (by kernel_rfl) (fun _ _ _ h => h) (Or.inl ⟨by rfl, ?_⟩) (by assumption) ?_
          rotate_left 1
          · (intro w hSw; (try dsimp only at hSw); go_simp; (try with_reducible rfl))
          try simp only [Act.put]
          refine wpAnyH_take (i := 1) (v := ?_) rfl (by kernel_rfl) (by kernel_rfl) (by kernel_rfl) (fun _ _ _ h => h) (Or.inl ⟨by rfl, ?_⟩) (by assumption) ?_
          rotate_left 1
          · (intro w hSw; (try dsimp only at hSw); go_simp; (try with_reducible rfl))
          try simp only [Act.put]
          refine wpAnyH_take (i := 2) (v := ?_) rfl (by kernel_rfl) (by kernel_rfl) (by kernel_rfl) (fun _ _ _ h => h) (Or.inl ⟨by rfl, ?_⟩) (by assumption) ?_
          rotate_left 1
          · (intro w hSw; (try dsimp only at hSw); go_simp; (try with_reducible rfl))
          try simp only [Act.put]
          refine wpAnyH_take (i := 3) (v := ?_) rfl (by kernel_rfl) (by kernel_rfl) (by kernel_rfl) (fun _ _ _ h => h) (Or.inl ⟨by rfl, ?_⟩) (by assumption) ?_
          rotate_left 1
          · (intro w hSw; (try dsimp only at hSw); go_simp; (try with_reducible rfl))
          try simp only [Act.put]
          refine wpAnyH_take (i := 4) (v := ?_) rfl (by kernel_rfl) (by kernel_rfl) (by kernel_rfl) (fun _ _ _ h => h) (Or.inl ⟨by rfl, ?_⟩) (by assumption) ?_
          rotate_left 1
          · (intro w hSw; (try dsimp only at hSw); go_simp; (try with_reducible rfl))
          try simp only [Act.put]
          refine wpAnyH_ready (rs := [5]) (by kernel_rfl) (by simp) ?_
          refine AllReadyH.cons rfl (fun K hK => ?_) ?_
          · skip
            go_simp
            refine (IB.out _ (grown_drew (gt0))).mono ?_
            rintro e v1 ⟨rfl, hgi1⟩
            have gi1 : w0.grownBy v1 none := grown_trans (grown_drew (gt0)) hgi1
            obtain ⟨n0, n1, n2, n3, n4⟩ := nod_cells (n := ⟨op, nam, ⟨ia, il, ic⟩, out, ⟨ao, al, cap⟩⟩) (BX.out v1 (gi1))
            have zk := D1.out v1 gi1
            try dsimp only
            refine hK.out _ _ (by first | assumption | go_keep) (fun hHeld => ?_)
            clear hK K
            try simp only [Act.put]
            refine wpAnyH_ready (rs := [6]) (by kernel_rfl) (by simp) ?_
            refine AllReadyH.cons rfl (fun K hK => ?_) ?_
            · skip
              go_simp
              refine (TB.out _ gi1).mono ?_
              rintro e wy ⟨hg, rfl⟩
              exact ⟨rfl, ended_err E1.out (grown_trans (grown_trans g0.out gi1) hg)⟩
            exact AllReadyH.nil
          exact AllReadyH.nil
        | ok b' =>
          rw [hk1] at TB
          have BL := hide (turnedP_len hk1)
          have EB : Hid (gemmP A x y (rest.head?.map (·.2)) = (productP a b').bind (fun dims => match rest.head?.map (·.2) with
            | none => .ok dims
            | some c => (spreadP dims c).bind (fun s => (mustP (decide (s = dims))).bind (fun _ => .ok dims)))) := by show _ = _; rw [EA.out, hk1]; rfl
          clear hk1
          refine wp_region_held_drew (S := (fun w' => w'.cell? ⟨w.heap.size, 0, none⟩ = some (.string op) ∧ w'.cell? ⟨w.heap.size, 1, none⟩ = some (.string nam) ∧ w'.cell? ⟨w.heap.size, 2, none⟩ = some (.slice ia il ic) ∧ w'.cell? ⟨w.heap.size, 3, none⟩ = some (.string out) ∧ w'.cell? ⟨w.heap.size, 4, none⟩ = some (.slice ao al cap) ∧ w'.cell? ⟨b, off + 3 + 2, none⟩ = some (.slice d1.a d1.n d1.c))) (by kernel_rfl) (by go_keep) (fun hHeld => ?_)
          refine wpAnyH_take (i := 0) (v := ?_) rfl (by kernel_rfl) (by kernel_rfl) (by kernel_rfl) (fun _ _ _ h => h) (Or.inl ⟨by rfl, ?_⟩) (by assumption) ?_
          rotate_left 1
          · (intro w hSw; (try dsimp only at hSw); go_simp; (try with_reducible rfl))
          try simp only [Act.put]
          refine wpAnyH_take (i := 1) (v := ?_) rfl (by kernel_rfl) (by kernel_rfl) (by kernel_rfl) (fun _ _ _ h => h) (Or.inl ⟨by rfl, ?_⟩) (by assumption) ?_
          rotate_left 1
          · (intro w hSw; (try dsimp only at hSw); go_simp; (try with_reducible rfl))
          try simp only [Act.put]
          refine wpAnyH_take (i := 2) (v := ?_) rfl (by kernel_rfl) (by kernel_rfl) (by kernel_rfl) (fun _ _ _ h => h) (Or.inl ⟨by rfl, ?_⟩) (by assumption) ?_
          rotate_left 1
          · (intro w hSw; (try dsimp only at hSw); go_simp; (try with_reducible rfl))
          try simp only [Act.put]
          refine wpAnyH_take (i := 3) (v := ?_) rfl (by kernel_rfl) (by kernel_rfl) (by kernel_rfl) (fun _ _ _ h => h) (Or.inl ⟨by rfl, ?_⟩) (by assumption) ?_
          rotate_left 1
          · (intro w hSw; (try dsimp only at hSw); go_simp; (try with_reducible rfl))
          try simp only [Act.put]
          refine wpAnyH_take (i := 4) (v := ?_) rfl (by kernel_rfl) (by kernel_rfl) (by kernel_rfl) (fun _ _ _ h => h) (Or.inl ⟨by rfl, ?_⟩) (by assumption) ?_
          rotate_left 1
          · (intro w hSw; (try dsimp only at hSw); go_simp; (try with_reducible rfl))
          try simp only [Act.put]
          refine wpAnyH_ready (rs := [5]) (by kernel_rfl) (by simp) ?_
          refine AllReadyH.cons rfl (fun K hK => ?_) ?_
          · skip
            go_simp
            refine (IB.out _ (grown_drew (gt0))).mono ?_
            rintro e v1 ⟨rfl, hgi1⟩
            have gi1 : w0.grownBy v1 none := grown_trans (grown_drew (gt0)) hgi1
            obtain ⟨n0, n1, n2, n3, n4⟩ := nod_cells (n := ⟨op, nam, ⟨ia, il, ic⟩, out, ⟨ao, al, cap⟩⟩) (BX.out v1 (gi1))
            have zk := D1.out v1 gi1
            try dsimp only
            refine hK.out _ _ (by first | assumption | go_keep) (fun hHeld => ?_)
            clear hK K
            try simp only [Act.put]
            refine wpAnyH_ready (rs := [6]) (by kernel_rfl) (by simp) ?_
            refine AllReadyH.cons rfl (fun K hK => ?_) ?_
            · skip
              go_simp
              refine (TB.out _ gi1).mono ?_
              rintro e t1 ⟨hgt1, v, rfl, ⟨s1a, s1n, s1c⟩, rfl, hs1⟩
              have gt1 : w0.grownBy t1 none := grown_trans gi1 hgt1
              obtain ⟨n0, n1, n2, n3, n4⟩ := nod_cells (n := ⟨op, nam, ⟨ia, il, ic⟩, out, ⟨ao, al, cap⟩⟩) (BX.out t1 (gt1))
              have zk := D1.out t1 gt1
              try dsimp only
              refine hK.out _ _ (by first | assumption | go_keep) (fun hHeld => ?_)
              clear hK K
              try simp only [Act.put]
              refine wpAnyH_take (i := 7) (v := ?_) rfl (by kernel_rfl) (by kernel_rfl) (by kernel_rfl) (fun _ _ _ h => h) (Or.inl ⟨by rfl, ?_⟩) (by assumption) ?_
              rotate_left 1
              · (intro w hSw; (try dsimp only at hSw); go_simp; (try with_reducible rfl))
              try simp only [Act.put]
              refine wpAnyH_done (by kernel_rfl) ?_ _
              try go_simp
              simp only [Sl.v]
              have g01 : t0.grownBy t1 none := grown_trans (grown_drew (grown_refl _)) (grown_trans hgi1 hgt1)
              have PR := hide (product_any ⟨s0a, s0n, s0c⟩ ⟨s1a, s1n, s1c⟩ a b' t1 (hs0.more g01) hs1 AL.out BL.out)
              simp only at PR
              have GT := hide (grown_trans g0.out gt1)
              clear zk n0 n1 n2 n3 n4 hHeld
              cases hk2 : productP a b' with
              | error c =>
                rw [hk2] at PR
                have E2 : Hid (gemmP A x y (rest.head?.map (·.2)) = .error c) := by show _ = _; rw [EB.out, hk2]; rfl
                clear hk2
                go_wp2_with (first | (go_at_call 112; refine PR.out.mono ?_; rintro e w' ⟨hg, rfl⟩) | fail)
                exact ⟨rfl, ended_err E2.out (grown_trans GT.out hg)⟩
              | ok dims =>
                rw [hk2] at PR
                have E2 : Hid (gemmP A x y (rest.head?.map (·.2)) = match rest.head?.map (·.2) with
                  | none => .ok dims
                  | some c => (spreadP dims c).bind (fun s => (mustP (decide (s = dims))).bind (fun _ => .ok dims))) := by show _ = _; rw [EB.out, hk2]; rfl
                clear hk2
                cases rest with
                | nil =>
                  have b3 : ((m : Int) == 3) = false := by have := HM.out; simp at this; rw [this]; decide
                  have E3 : Hid (gemmP A x y (([] : List (Val × List Int)).head?.map (·.2)) = .ok dims) := E2.out
                  go_wp2_with (first | (go_at_call 112; refine PR.out.mono ?_; rintro e w' ⟨hg, v, rfl, ⟨da, dn, dc⟩, rfl, hd⟩; simp only [Sl.v]) | fail)
                  go_ret
                  exact ended_ok E3.out (grown_trans GT.out hg) ⟨⟨da, dn, dc⟩, rfl, hd⟩
                | cons p2 r2 =>
                  have hm3 : m = 3 := by have := HM.out; simp at this hr; rw [this, hr]; rfl
                  have b3 : ((m : Int) == 3) = true := by rw [hm3]; decide
                  obtain ⟨-, z2⟩ := HV.out.at 2 (by simp)
                  simp only [List.getElem_cons_zero, List.getElem_cons_succ] at z2
                  have HZ := hide (HV.out.dims p2 (by simp))
                  obtain ⟨⟨pn2, pt2, d2⟩, z⟩ := p2
                  simp only at z2 HZ
                  have z2' : w.cell? ⟨b, off + 6 + 2, none⟩ = some (.slice d2.a d2.n d2.c) := z2
                  have E3 : Hid (gemmP A x y ((((⟨pn2, pt2, d2⟩, z) : Val × List Int) :: r2).head?.map (·.2)) = (spreadP dims z).bind (fun s => (mustP (decide (s = dims))).bind (fun _ => .ok dims))) := E2.out
                  have Z2 := hide z2'
                  have hi2 : (2 : Int) < (m : Int) := by rw [hm3]; decide
                  have hi3 : 2 < m := by omega
                  clear z2 z2' hm3
                  go_wp2_with (first | (go_at_call 112; refine PR.out.mono ?_; rintro e w5 ⟨hg5, v, rfl, ⟨da, dn, dc⟩, rfl, hd⟩; simp only [Sl.v]; have z5 := cell_still Z2.out (grown_trans GT.out hg5)) | fail)
                  have G5 := hide (grown_trans GT.out hg5)
                  have SP := hide (spread_any ⟨da, dn, dc⟩ d2 dims z w5 hd (HZ.out.more G5.out))
                  simp only at SP
                  have HD := hide hd
                  clear hg5 hd z5
                  cases hk3 : spreadP dims z with
                  | error c =>
                    rw [hk3] at SP
                    have E4 : Hid (gemmP A x y ((((⟨pn2, pt2, d2⟩, z) : Val × List Int) :: r2).head?.map (·.2)) = .error c) := by show _ = _; rw [E3.out, hk3]; rfl
                    clear hk3
                    refine SP.out.mono ?_
                    rintro e w' ⟨hg, rfl⟩
                    exact ⟨rfl, ended_err E4.out (grown_trans G5.out hg)⟩
                  | ok s =>
                    rw [hk3] at SP
                    have E4 : Hid (gemmP A x y ((((⟨pn2, pt2, d2⟩, z) : Val × List Int) :: r2).head?.map (·.2)) = (mustP (decide (s = dims))).bind (fun _ => .ok dims)) := by show _ = _; rw [E3.out, hk3]; rfl
                    clear hk3
                    refine SP.out.mono ?_
                    rintro e w6 ⟨hg6, v, rfl, ⟨ea, en, ec⟩, rfl, hown⟩
                    simp only [Sl.v]
                    have G6 := hide (grown_trans G5.out hg6)
                    have EQ := hide (equal_any ⟨ea, en, ec⟩ ⟨da, dn, dc⟩ s dims w6 hown.ints (HD.out.more hg6))
                    simp only at EQ
                    have HD6 := hide (HD.out.more hg6)
                    clear hg6 hown
                    cases hk4 : decide (s = dims) with
                    | true =>
                      rw [hk4] at EQ
                      have E5 : Hid (gemmP A x y ((((⟨pn2, pt2, d2⟩, z) : Val × List Int) :: r2).head?.map (·.2)) = .ok dims) := by show _ = _; rw [E4.out, hk4]; rfl
                      clear hk4
                      go_wp2_with (first | (go_at_call 79; refine EQ.out.mono ?_; rintro e w7 ⟨rfl, nn, rfl⟩) | (go_at_call 45; refine (must_yes _).mono ?_; rintro e w' ⟨rfl, rfl⟩) | fail)
                      go_ret
                      exact ended_ok E5.out (grown_drewQ G6.out _) ⟨⟨da, dn, dc⟩, rfl, HD6.out.more (grown_drewQ (grown_refl _) _)⟩
                    | false =>
                      rw [hk4] at EQ
                      have E5 : Hid (gemmP A x y ((((⟨pn2, pt2, d2⟩, z) : Val × List Int) :: r2).head?.map (·.2)) = .error 4) := by show _ = _; rw [E4.out, hk4]; rfl
                      clear hk4
                      go_wp2_with (first | (go_at_call 79; refine EQ.out.mono ?_; rintro e w7 ⟨rfl, nn, rfl⟩) | (go_at_call 45; refine (must_no _).mono ?_; rintro e w' ⟨rfl, rfl⟩) | fail)
                      exact ⟨rfl, ended_err E5.out (grown_drewQ G6.out _)⟩
            exact AllReadyH.nil
          exact AllReadyH.nil
      exact AllReadyH.nil
    exact AllReadyH.nil
end Go.Proofs.YtdcbjikjeicgbaaGreatDoor

/- Normalization, by the walk (mkINorm.py). -/
namespace Go.Proofs.YtdcbjikjeicgbaaGreatDoor
open Go.RowKit

set_option maxRecDepth 100000 in
set_option maxHeartbeats 4000000 in
theorem normalized_any (u : Sl) (p0 p1 : Val × List Int) (rest : List (Val × List Int)) (w : World) (hv : ValsIn w u.v (p0 :: p1 :: rest)) (hr : rest.length ≤ 1000000) : Calls Tryz.prog 116 #[.slice u.a u.n u.c] w (Ended w (normalizedP p0.2 ((p1 :: rest).map (·.2))) DimsQ) := by
  obtain ⟨xa, xc, e1, q1, q2, q3⟩ := hv.vals.form
  rw [List.length_map] at e1 q1 q3
  obtain ⟨ua, un, uc⟩ := u
  simp only [Sl.v, Value.slice.injEq] at e1
  obtain ⟨rfl, rfl, rfl⟩ := e1
  have HV := hide hv
  obtain ⟨b, off, rfl⟩ := hv.vals.addr (k := 0) (by simp)
  obtain ⟨-, z0⟩ := hv.at 0 (by simp)
  rw [Nat.zero_mul, Nat.add_zero] at z0
  simp only [List.getElem_cons_zero] at z0
  have HX := hide (hv.dims p0 (by simp))
  obtain ⟨⟨pn0, pt0, ⟨xa0, xn0, xc0⟩⟩, x⟩ := p0
  simp only at z0 HX ⊢
  obtain ⟨xx, xcc, ex, f1, f2, f3⟩ := HX.out.sl
  simp only [Sl.v, Value.slice.injEq] at ex
  obtain ⟨rfl, rfl, rfl⟩ := ex
  obtain ⟨rs, hrs⟩ : ∃ rs, rs = p1 :: rest := ⟨_, rfl⟩
  rw [← hrs] at HV q1 q3 ⊢
  have hrl : 1 ≤ rs.length := by rw [hrs]; simp
  have hrl2 : rs.length ≤ 1000001 := by rw [hrs]; simp; omega
  obtain ⟨m, hm⟩ : ∃ m, m = ((((⟨pn0, pt0, ⟨xa0, x.length, xc0⟩⟩, x) : Val × List Int) :: rs) : List (Val × List Int)).length := ⟨_, rfl⟩
  have hm1 : m = rs.length + 1 := by rw [hm]; simp
  rw [← hm] at q1 q3 ⊢
  have hm0 : 0 < m := by omega
  have hm0' : (0 : Int) < (m : Int) := by omega
  have hm2 : (1 : Int) ≤ (m : Int) := by omega
  have hm3 : 1 ≤ m := by omega
  have huc : ¬ uc = 1 := by omega
  have huc2 : 1 ≤ uc := by omega
  have hmr : m - 1 = rs.length := by omega
  have HM := hide hm1
  have Z0 := hide z0
  clear hv hm hm1 hrs z0
  by_cases h2 : 2 ≤ x.length
  · have E0 : Hid (normalizedP x (rs.map (·.2)) = (mustP ((rs.map (·.2)).all (fun y => y == (x.drop 1).take 1))).bind (fun _ => .ok x)) := by show _ = _; unfold normalizedP; simp [mustP, h2]; rfl
    have h2' : (2 : Int) ≤ (x.length : Int) := by omega
    have z0 := Z0.out
    go_enter Tryz.func116, Tryz.ntmps116
    go_wp2_with (first | (go_at_call 45; refine (must_yes _).mono ?_; rintro e w' ⟨rfl, rfl⟩) | fail)
    go_loopw [17] (fun i wr => ∃ k : Nat, k ≤ rs.length ∧ i = .int .i64 k ∧ (∀ j (hj : j < rs.length), j < k → rs[j].2 = (x.drop 1).take 1) ∧ w.grownBy wr none) (fun i _ => rs.length - (intOf i).toNat)
    case atStart => exact ⟨0, Nat.zero_le _, rfl, fun j hj h => absurd h (by omega), grown_refl _⟩
    case round =>
      obtain ⟨k, hk, rfl, hall, hg⟩ := hrel
      have HL := hide hall
      have HG := hide hg
      clear hall hg z0
      by_cases hkl : k < rs.length
      · obtain ⟨y0, y1, y2⟩ := (HV.out.more HG.out).vals.val (k + 1) (by rw [List.length_map]; simp; omega)
        have HY := hide (HV.out.dims (rs[k]) (List.mem_cons_of_mem _ (List.getElem_mem hkl)))
        simp only [List.map_cons, List.getElem_cons_succ, List.getElem_map] at y0 y1 y2
        have ea : off + (k + 1) * 3 = off + 3 + k * 3 := by omega
        rw [ea] at y0 y1 y2
        obtain ⟨p, hp⟩ : ∃ p, p = rs[k] := ⟨_, rfl⟩
        rw [← hp] at y0 y1 y2 HY
        have HP := hide hp
        obtain ⟨⟨vn, vt, ⟨da, dn, dc⟩⟩, y⟩ := p
        simp only at y0 y1 y2 HY
        clear ea hp
        obtain ⟨xb, xo, rfl, -⟩ := HX.out.get (k := 0) (by omega)
        have hxc : ¬ xc0 = 1 := by omega
        have hx1 : 1 ≤ x.length := by omega
        have hxc2 : 2 ≤ xc0 := by omega
        have hxc3 : (2 : Int) ≤ (xc0 : Int) := by omega
        have XT : Hid (IsInts w (.slice (some ⟨xb, xo + 1, none⟩) 1 (xc0 - 1)) ((x.drop 1).take 1)) := by
          have h := HX.out.back (k := 1) hx1
          simp only [if_neg hxc, Addr.add_lit] at h
          exact h.front (by simp; omega)
        obtain ⟨w1, hw1⟩ : ∃ w1, w1 = wr.alloc (.cells #[.string vn, .int .i64 vt, .slice da dn dc] 31) := ⟨_, rfl⟩
        have g1 : Hid (w.grownBy w1 none) := by show w.grownBy w1 none; rw [hw1]; exact grown_trans HG.out (grown_new _ _)
        have hb1 := heap_alloc_new wr (.cells #[.string vn, .int .i64 vt, .slice da dn dc] 31)
        rw [← hw1] at hb1
        have q1' : w1.cell? ⟨wr.heap.size, 2, none⟩ = some (.slice da dn dc) := (cell_of_row _ _ 2 _ _ (0, 0) hb1).trans rfl
        have EQ := hide (fun (wx : World) (hx : w1.grownBy wx none) => equal_any ⟨da, dn, dc⟩ ⟨some ⟨xb, xo + 1, none⟩, 1, xc0 - 1⟩ y ((x.drop 1).take 1) wx (HY.out.more (grown_trans g1.out hx)) (XT.out.more (grown_trans g1.out hx)))
        simp only at EQ
        clear hb1
        go_wp2_with fail
        rw [← hw1]
        clear hw1 y0 y1 y2
        cases hd : decide (y = (x.drop 1).take 1) with
        | true =>
          rw [hd] at EQ
          have HKT : Hid (∀ j (hj : j < rs.length), j < k + 1 → rs[j].2 = (x.drop 1).take 1) := fun j hj h => by
            rcases lt_succ_cases h with h | rfl
            · exact HL.out j hj h
            · rw [← HP.out]; simpa using hd
          clear hd
          refine wp_region_held_drew (S := (fun w' => w'.cell? ⟨wr.heap.size, 2, none⟩ = some (.slice da dn dc))) (by kernel_rfl) (by go_keep) (fun hHeld => ?_)
          refine wpAnyH_take (i := 0) (v := ?_) rfl (by kernel_rfl) (by kernel_rfl) (by kernel_rfl) (fun _ _ _ h => h) (Or.inl ⟨by rfl, ?_⟩) (by assumption) ?_
          rotate_left 1
          · (intro w hSw; (try dsimp only at hSw); go_simp; (try with_reducible rfl))
          try simp only [Act.put]
          refine wpAnyH_take (i := 1) (v := ?_) rfl (by kernel_rfl) (by kernel_rfl) (by kernel_rfl) (fun _ _ _ h => h) (Or.inl ⟨by rfl, ?_⟩) (by assumption) ?_
          rotate_left 1
          · (intro w hSw; (try dsimp only at hSw); go_simp; (try with_reducible rfl))
          try simp only [Act.put]
          refine wpAnyH_take (i := 2) (v := ?_) rfl (by kernel_rfl) (by kernel_rfl) (by kernel_rfl) (fun _ _ _ h => h) (Or.inl ⟨by rfl, ?_⟩) (by assumption) ?_
          rotate_left 1
          · (intro w hSw; (try dsimp only at hSw); go_simp; (try with_reducible rfl))
          try simp only [Act.put]
          refine wpAnyH_take (i := 3) (v := ?_) rfl (by kernel_rfl) (by kernel_rfl) (by kernel_rfl) (fun _ _ _ h => h) (Or.inl ⟨by rfl, ?_⟩) (by assumption) ?_
          rotate_left 1
          · (intro w hSw; (try dsimp only at hSw); go_simp; (try with_reducible rfl))
          try simp only [Act.put]
          refine wpAnyH_ready (rs := [4]) (by kernel_rfl) (by simp) ?_
          refine AllReadyH.cons rfl (fun K hK => ?_) ?_
          · skip
            go_simp
            refine (EQ.out _ (grown_drew (grown_refl _))).mono ?_
            rintro e wy ⟨rfl, nn, rfl⟩
            try dsimp only
            refine hK.out _ _ (by first | assumption | go_keep) (fun hHeld => ?_)
            clear hK K
            try simp only [Act.put]
            refine wpAnyH_ready (rs := [5]) (by kernel_rfl) (by simp) ?_
            refine AllReadyH.cons rfl (fun K hK => ?_) ?_
            · skip
              go_simp
              refine (must_yes _).mono ?_
              rintro e wy ⟨rfl, rfl⟩
              try dsimp only
              refine hK.out _ _ (by first | assumption | go_keep) (fun hHeld => ?_)
              clear hK K
              try simp only [Act.put]
              refine wpAnyH_done (by kernel_rfl) ?_ _
              try go_simp
              go_wp2_with fail
              go_roundw
              case rel => exact ⟨k + 1, by omega, by go_num, HKT.out, grown_drewQ g1.out _⟩
              case measure => simp [intOf]; omega
            exact AllReadyH.nil
          exact AllReadyH.nil
        | false =>
          rw [hd] at EQ
          have E3 : Hid (normalizedP x (rs.map (·.2)) = .error 4) := by
            show _ = _
            rw [E0.out, show (rs.map (·.2)).all (fun y => y == (x.drop 1).take 1) = false from ?_]
            · rfl
            · rw [List.all_eq_false]
              exact ⟨y, List.mem_map.2 ⟨rs[k], List.getElem_mem hkl, by rw [← HP.out]⟩, by simpa using hd⟩
          clear hd
          refine wp_region_held_drew (S := (fun w' => w'.cell? ⟨wr.heap.size, 2, none⟩ = some (.slice da dn dc))) (by kernel_rfl) (by go_keep) (fun hHeld => ?_)
          refine wpAnyH_take (i := 0) (v := ?_) rfl (by kernel_rfl) (by kernel_rfl) (by kernel_rfl) (fun _ _ _ h => h) (Or.inl ⟨by rfl, ?_⟩) (by assumption) ?_
          rotate_left 1
          · (intro w hSw; (try dsimp only at hSw); go_simp; (try with_reducible rfl))
          try simp only [Act.put]
          refine wpAnyH_take (i := 1) (v := ?_) rfl (by kernel_rfl) (by kernel_rfl) (by kernel_rfl) (fun _ _ _ h => h) (Or.inl ⟨by rfl, ?_⟩) (by assumption) ?_
          rotate_left 1
          · (intro w hSw; (try dsimp only at hSw); go_simp; (try with_reducible rfl))
          try simp only [Act.put]
          refine wpAnyH_take (i := 2) (v := ?_) rfl (by kernel_rfl) (by kernel_rfl) (by kernel_rfl) (fun _ _ _ h => h) (Or.inl ⟨by rfl, ?_⟩) (by assumption) ?_
          rotate_left 1
          · (intro w hSw; (try dsimp only at hSw); go_simp; (try with_reducible rfl))
          try simp only [Act.put]
          refine wpAnyH_take (i := 3) (v := ?_) rfl (by kernel_rfl) (by kernel_rfl) (by kernel_rfl) (fun _ _ _ h => h) (Or.inl ⟨by rfl, ?_⟩) (by assumption) ?_
          rotate_left 1
          · (intro w hSw; (try dsimp only at hSw); go_simp; (try with_reducible rfl))
          try simp only [Act.put]
          refine wpAnyH_ready (rs := [4]) (by kernel_rfl) (by simp) ?_
          refine AllReadyH.cons rfl (fun K hK => ?_) ?_
          · skip
            go_simp
            refine (EQ.out _ (grown_drew (grown_refl _))).mono ?_
            rintro e wy ⟨rfl, nn, rfl⟩
            try dsimp only
            refine hK.out _ _ (by first | assumption | go_keep) (fun hHeld => ?_)
            clear hK K
            try simp only [Act.put]
            refine wpAnyH_ready (rs := [5]) (by kernel_rfl) (by simp) ?_
            refine AllReadyH.cons rfl (fun K hK => ?_) ?_
            · skip
              go_simp
              refine (must_no _).mono ?_
              rintro e wy ⟨rfl, rfl⟩
              exact ⟨rfl, ended_err E3.out (grown_drewQ g1.out _)⟩
            exact AllReadyH.nil
          exact AllReadyH.nil
      · have E3 : Hid (normalizedP x (rs.map (·.2)) = .ok x) := by
          show _ = _
          rw [E0.out, show (rs.map (·.2)).all (fun y => y == (x.drop 1).take 1) = true from ?_]
          · rfl
          · rw [List.all_eq_true]
            intro y hy
            obtain ⟨q, hq, rfl⟩ := List.mem_map.1 hy
            obtain ⟨j, hj, rfl⟩ := List.mem_iff_getElem.1 hq
            simpa using HL.out j hj (by omega)
        go_wp2
        go_ret
        exact ended_ok E3.out HG.out ⟨⟨_, _, _⟩, rfl, HX.out.more HG.out⟩
  · have b2 : decide ((2 : Int) ≤ (x.length : Int)) = false := by simp; omega
    have E1 : Hid (normalizedP x (rs.map (·.2)) = .error 4) := by show _ = _; unfold normalizedP; simp [mustP, h2]; rfl
    have z0 := Z0.out
    clear h2
    go_enter Tryz.func116, Tryz.ntmps116
    go_wp2_with (first | (go_at_call 45; refine (must_no _).mono ?_; rintro e w' ⟨rfl, rfl⟩) | fail)
    exact ⟨rfl, ended_err E1.out (grown_refl _)⟩
end Go.Proofs.YtdcbjikjeicgbaaGreatDoor
