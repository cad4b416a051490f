/- Joined texts: IProd, IEq, IDmL. -/
import Derived.Test.YtaoplfpigjkgpaaGreatDoorPartAY
import Derived.BigQuiet
import Derived.Deep.RegionHeld3
import Derived.Deep.AppendLies
import Derived.Test.YtaoplfpigjkgpaaGreatDoorPartBC
namespace Go.Proofs.YtaoplfpigjkgpaaGreatDoor

open Go.RowKit

theorem spreadP_len {a b zs : List Int} (h : spreadP a b = .ok zs) (ha : a.length ≤ 6) (hb : b.length ≤ 6) : zs.length ≤ 6 := by
  unfold spreadP at h
  split at h
  · rename_i h0
    cases h
    unfold bcR
    rw [if_pos h0, bcL_length]
    unfold rank
    omega
  · cases h

set_option maxRecDepth 100000 in
set_option maxHeartbeats 2000000 in
theorem product_any (u v : Sl) (x y : List Int) (w : World) (hx : IsInts w u.v x) (hy : IsInts w v.v y) (hlx : x.length ≤ 6) (hly : y.length ≤ 6) : Calls Tryz.prog 127 #[.slice u.a u.n u.c, .slice v.a v.n v.c] w (Ended w (productP x y) DimsQ) := by
  obtain ⟨ux, uc, eu, c1, c2, c3⟩ := hx.sl
  obtain ⟨ua, un, uu⟩ := u
  simp only [Sl.v, Value.slice.injEq] at eu
  obtain ⟨rfl, rfl, rfl⟩ := eu
  obtain ⟨vx, vc, ev, d1, d2, d3⟩ := hy.sl
  obtain ⟨va, vn, vv⟩ := v
  simp only [Sl.v, Value.slice.injEq] at ev
  obtain ⟨rfl, rfl, rfl⟩ := ev
  simp only
  obtain ⟨i0, hi, hz0, hz1, hz2⟩ := info_parts infoInt
  by_cases h2 : 2 ≤ x.length
  · by_cases h3 : 2 ≤ y.length
    · obtain ⟨a, ha⟩ : ∃ a, x.length = a + 2 := ⟨x.length - 2, by omega⟩
      obtain ⟨b, hb⟩ : ∃ b, y.length = b + 2 := ⟨y.length - 2, by omega⟩
      have E0 : Hid (productP x y = (mustP (x.getD (a + 1) 0 == y.getD b 0)).bind (fun _ => (spreadP (x.take a) (y.take b)).bind (fun s => .ok (s ++ [x.getD a 0, y.getD (b + 1) 0])))) := by
        show _ = _
        unfold productP
        rw [ha, hb]
        simp [mustP]
        rfl
      obtain ⟨xb, xo, rfl, hcx⟩ := hx.get (k := 0) (by omega)
      obtain ⟨yb, yo, rfl, hcy⟩ := hy.get (k := 0) (by omega)
      have x1 := hcx (a + 1) (by omega)
      have x0 := hcx a (by omega)
      have y0 := hcy b (by omega)
      have y1 := hcy (b + 1) (by omega)
      have wx0 := hx.wf (x.getD a 0) (by rw [List.getD, List.getElem?_eq_getElem (by omega)]; exact List.getElem_mem _)
      have wy1 := hy.wf (y.getD (b + 1) 0) (by rw [List.getD, List.getElem?_eq_getElem (by omega)]; exact List.getElem_mem _)
      have SP := hide (fun (wx : World) (hg : w.grownBy wx none) => spread_any ⟨some ⟨xb, xo, none⟩, a, uu⟩ ⟨some ⟨yb, yo, none⟩, b, vv⟩ (x.take a) (y.take b) wx ((hx.front (by show a ≤ x.length; omega)).more hg) ((hy.front (by show b ≤ y.length; omega)).more hg))
      simp only at SP
      obtain ⟨p, hp⟩ : ∃ p, p = x.getD a 0 := ⟨_, rfl⟩
      obtain ⟨q, hq⟩ : ∃ q, q = y.getD (b + 1) 0 := ⟨_, rfl⟩
      obtain ⟨r, hr⟩ : ∃ r, r = x.getD (a + 1) 0 := ⟨_, rfl⟩
      obtain ⟨s, hs⟩ : ∃ s, s = y.getD b 0 := ⟨_, rfl⟩
      rw [← hp] at x0 wx0 E0
      rw [← hq] at y1 wy1 E0
      rw [← hr] at x1 E0
      rw [← hs] at y0 E0
      rw [ha] at c1 ⊢
      rw [hb] at d1 ⊢
      have i7 : decide ((2 : Int) ≤ (b : Int) + 2) = true := by simp; omega
      have i8 : decide ((2 : Int) ≤ (a : Int) + 2) = true := by simp; omega
      have i9 : (a : Int) + 2 - 2 = (a : Int) := by omega
      have i10 : (b : Int) + 2 - 2 = (b : Int) := by omega
      have kw : IntKind.i64.wrap ((a : Int) + 1) = (a : Int) + 1 := by rw [wrap_i64_eq]; unfold wrap64; omega
      have ka : (a : Int) < (a : Int) + 2 := by omega
      have kb : (b : Int) < (b : Int) + 2 := by omega
      have k1 : (a : Int) + 1 < (a : Int) + 2 := by omega
      have k2 : (0 : Int) ≤ (a : Int) + 1 := by omega
      have k3 : ((a : Int) + 1).toNat = a + 1 := by omega
      have j1 : a + 1 < a + 2 := by omega
      have j2 : b < b + 2 := by omega
      have j3 : a < a + 2 := by omega
      have j4 : b + 1 < b + 2 := by omega
      clear hp hq hr hs hcx hcy hx hy ha hb h2 h3 c3 d3
      go_enter Tryz.func127, Tryz.ntmps127
      go_wp2_with (first | (go_at_call 89; refine (must_yes _).mono ?_; rintro e w' ⟨rfl, rfl⟩) | fail)
      by_cases hrs : r = s
      · have brs : (r == s) = true := by simp [hrs]
        have E1 : Hid (productP x y = (spreadP (x.take a) (y.take b)).bind (fun t => .ok (t ++ [p, q]))) := by show _ = _; rw [E0.out, brs]; rfl
        clear hrs
        go_quiet (first | (go_at_call 89; refine (must_yes _).mono ?_; rintro e w' ⟨rfl, rfl⟩; exact ⟨rfl, _, rfl⟩) | fail)
        go_wp2_with fail
        have gq : w.grownBy (w.drewN nq) none := ⟨rfl, rfl, rfl, Nat.le_refl _, fun k hk hn => rfl⟩
        obtain ⟨wq, hwq⟩ : ∃ wq, wq = w.drewN nq := ⟨_, rfl⟩
        rw [← hwq] at gq ⊢
        have x0' := cell_still x0 gq
        have y1' := cell_still y1 gq
        have kw2 : IntKind.i64.wrap ((b : Int) + 1) = (b : Int) + 1 := by rw [wrap_i64_eq]; unfold wrap64; omega
        have k4 : (b : Int) + 1 < (b : Int) + 2 := by omega
        have k5 : (0 : Int) ≤ (b : Int) + 1 := by omega
        have k6 : ((b : Int) + 1).toNat = b + 1 := by omega
        have z1 : a ≤ uu := by omega
        have z2 : b ≤ vv := by omega
        clear hwq x1 y0
        cases hk : spreadP (x.take a) (y.take b) with
        | error c =>
          have E2 : Hid (productP x y = .error c) := by show _ = _; rw [E1.out, hk]; rfl
          rw [hk] at SP
          clear hk
          refine wp_region_held_drew (S := (fun w' => w'.cell? ⟨xb, xo + a, none⟩ = some (.int .i64 p) ∧ w'.cell? ⟨yb, yo + (b + 1), none⟩ = some (.int .i64 q))) (by kernel_rfl) (by go_keep) (fun hHeld => ?_)
          refine wpAnyH_take (i := 0) (v := ?_) rfl (by kernel_rfl) (by kernel_rfl) (by kernel_rfl) (fun _ _ _ h => h) (Or.inl ⟨by rfl, ?_⟩) (by assumption) ?_
          rotate_left 1
          · (intro w hSw; (try dsimp only at hSw); go_simp; (try with_reducible rfl))
          try simp only [Act.put]
          refine wpAnyH_take (i := 1) (v := ?_) rfl (by kernel_rfl) (by kernel_rfl) (by kernel_rfl) (fun _ _ _ h => h) (Or.inl ⟨by rfl, ?_⟩) (by assumption) ?_
          rotate_left 1
          · (intro w hSw; (try dsimp only at hSw); go_simp; (try with_reducible rfl))
          try simp only [Act.put]
          refine wpAnyH_take (i := 2) (v := ?_) rfl (by kernel_rfl) (by kernel_rfl) (by kernel_rfl) (fun _ _ _ h => h) (Or.inl ⟨by rfl, ?_⟩) (by assumption) ?_
          rotate_left 1
          · (intro w hSw; (try dsimp only at hSw); go_simp; (try with_reducible rfl))
          try simp only [Act.put]
          refine wpAnyH_take (i := 3) (v := ?_) rfl (by kernel_rfl) (by kernel_rfl) (by kernel_rfl) (fun _ _ _ h => h) (Or.inl ⟨by rfl, ?_⟩) (by assumption) ?_
          rotate_left 1
          · (intro w hSw; (try dsimp only at hSw); go_simp; (try with_reducible rfl))
          try simp only [Act.put]
          refine wpAnyH_take (i := 4) (v := ?_) rfl (by kernel_rfl) (by kernel_rfl) (by kernel_rfl) (fun _ _ _ h => h) (Or.inl ⟨by rfl, ?_⟩) (by assumption) ?_
          rotate_left 1
          · (intro w hSw; (try dsimp only at hSw); go_simp; (try with_reducible rfl))
          try simp only [Act.put]
          refine wpAnyH_take (i := 5) (v := ?_) rfl (by kernel_rfl) (by kernel_rfl) (by kernel_rfl) (fun _ _ _ h => h) (Or.inl ⟨by rfl, ?_⟩) (by assumption) ?_
          rotate_left 1
          · (intro w hSw; (try dsimp only at hSw); go_simp; (try with_reducible rfl))
          try simp only [Act.put]
          refine wpAnyH_take (i := 7) (v := ?_) rfl (by kernel_rfl) (by kernel_rfl) (by kernel_rfl) (fun _ _ _ h => h) (Or.inl ⟨by rfl, ?_⟩) (by assumption) ?_
          rotate_left 1
          · (intro w hSw; (try dsimp only at hSw); go_simp; (try with_reducible rfl))
          try simp only [Act.put]
          refine wpAnyH_take (i := 8) (v := ?_) rfl (by kernel_rfl) (by kernel_rfl) (by kernel_rfl) (fun _ _ _ h => h) (Or.inl ⟨by rfl, ?_⟩) (by assumption) ?_
          rotate_left 1
          · (intro w hSw; (try dsimp only at hSw); go_simp; (try with_reducible rfl))
          try simp only [Act.put]
          refine wpAnyH_take (i := 9) (v := ?_) rfl (by kernel_rfl) (by kernel_rfl) (by kernel_rfl) (fun _ _ _ h => h) (Or.inl ⟨by rfl, ?_⟩) (by assumption) ?_
          rotate_left 1
          · (intro w hSw; (try dsimp only at hSw); go_simp; (try with_reducible rfl))
          try simp only [Act.put]
          refine wpAnyH_take (i := 10) (v := ?_) rfl (by kernel_rfl) (by kernel_rfl) (by kernel_rfl) (fun _ _ _ h => h) (Or.inl ⟨by rfl, ?_⟩) (by assumption) ?_
          rotate_left 1
          · (intro w hSw; (try dsimp only at hSw); go_simp; (try with_reducible rfl))
          try simp only [Act.put]
          refine wpAnyH_take (i := 11) (v := ?_) rfl (by kernel_rfl) (by kernel_rfl) (by kernel_rfl) (fun _ _ _ h => h) (Or.inl ⟨by rfl, ?_⟩) (by assumption) ?_
          rotate_left 1
          · (intro w hSw; (try dsimp only at hSw); go_simp; (try with_reducible rfl))
          try simp only [Act.put]
          refine wpAnyH_take (i := 12) (v := ?_) rfl (by kernel_rfl) (by kernel_rfl) (by kernel_rfl) (fun _ _ _ h => h) (Or.inl ⟨by rfl, ?_⟩) (by assumption) ?_
          rotate_left 1
          · (intro w hSw; (try dsimp only at hSw); go_simp; (try with_reducible rfl))
          try simp only [Act.put]
          refine wpAnyH_take (i := 13) (v := ?_) rfl (by kernel_rfl) (by kernel_rfl) (by kernel_rfl) (fun _ _ _ h => h) (Or.inl ⟨by rfl, ?_⟩) (by assumption) ?_
          rotate_left 1
          · (intro w hSw; (try dsimp only at hSw); go_simp; (try with_reducible rfl))
          try simp only [Act.put]
          refine wpAnyH_take (i := 14) (v := ?_) rfl (by kernel_rfl) (by kernel_rfl) (by kernel_rfl) (fun _ _ _ h => h) (Or.inl ⟨by rfl, ?_⟩) (by assumption) ?_
          rotate_left 1
          · (intro w hSw; (try dsimp only at hSw); go_simp; (try with_reducible rfl))
          try simp only [Act.put]
          refine wpAnyH_take (i := 15) (v := ?_) rfl (by kernel_rfl) (by kernel_rfl) (by kernel_rfl) (fun _ _ _ h => h) (Or.inl ⟨by rfl, ?_⟩) (by assumption) ?_
          rotate_left 1
          · (intro w hSw; (try dsimp only at hSw); go_simp; (try with_reducible rfl))
          try simp only [Act.put]
          refine wpAnyH_ready (rs := [6, 16]) (by kernel_rfl) (by simp) ?_
          refine AllReadyH.cons rfl (fun K hK => ?_) ?_
          · skip
            go_simp
            refine (SP.out _ (by first | exact grown_drew gq | exact grown_trans (grown_drew gq) (grown_new _ _))).mono ?_
            rintro e wy ⟨hg, rfl⟩
            exact ⟨rfl, ended_err E2.out (grown_trans (by first | exact grown_drew gq | exact grown_trans (grown_drew gq) (grown_new _ _)) hg)⟩
          refine AllReadyH.cons rfl (fun K hK => ?_) ?_
          · skip
            go_simp
            refine hK.out _ _ (by first | assumption | go_keep) (fun hHeld => ?_)
            clear hK K
            try simp only [Act.put]
            refine wpAnyH_ready (rs := [6]) (by kernel_rfl) (by simp) ?_
            refine AllReadyH.cons rfl (fun K hK => ?_) ?_
            · skip
              go_simp
              refine (SP.out _ (by first | exact grown_drew gq | exact grown_trans (grown_drew gq) (grown_new _ _))).mono ?_
              rintro e wy ⟨hg, rfl⟩
              exact ⟨rfl, ended_err E2.out (grown_trans (by first | exact grown_drew gq | exact grown_trans (grown_drew gq) (grown_new _ _)) hg)⟩
            exact AllReadyH.nil
          exact AllReadyH.nil
        | ok zs =>
          have E2 : Hid (productP x y = .ok (zs ++ [p, q])) := by show _ = _; rw [E1.out, hk]; rfl
          have hzl : zs.length ≤ 6 := spreadP_len hk (by simp; omega) (by simp; omega)
          rw [hk] at SP
          clear hk
          refine wp_region_held_drew (S := (fun w' => w'.cell? ⟨xb, xo + a, none⟩ = some (.int .i64 p) ∧ w'.cell? ⟨yb, yo + (b + 1), none⟩ = some (.int .i64 q))) (by kernel_rfl) (by go_keep) (fun hHeld => ?_)
          refine wpAnyH_take (i := 0) (v := ?_) rfl (by kernel_rfl) (by kernel_rfl) (by kernel_rfl) (fun _ _ _ h => h) (Or.inl ⟨by rfl, ?_⟩) (by assumption) ?_
          rotate_left 1
          · (intro w hSw; (try dsimp only at hSw); go_simp; (try with_reducible rfl))
          try simp only [Act.put]
          refine wpAnyH_take (i := 1) (v := ?_) rfl (by kernel_rfl) (by kernel_rfl) (by kernel_rfl) (fun _ _ _ h => h) (Or.inl ⟨by rfl, ?_⟩) (by assumption) ?_
          rotate_left 1
          · (intro w hSw; (try dsimp only at hSw); go_simp; (try with_reducible rfl))
          try simp only [Act.put]
          refine wpAnyH_take (i := 2) (v := ?_) rfl (by kernel_rfl) (by kernel_rfl) (by kernel_rfl) (fun _ _ _ h => h) (Or.inl ⟨by rfl, ?_⟩) (by assumption) ?_
          rotate_left 1
          · (intro w hSw; (try dsimp only at hSw); go_simp; (try with_reducible rfl))
          try simp only [Act.put]
          refine wpAnyH_take (i := 3) (v := ?_) rfl (by kernel_rfl) (by kernel_rfl) (by kernel_rfl) (fun _ _ _ h => h) (Or.inl ⟨by rfl, ?_⟩) (by assumption) ?_
          rotate_left 1
          · (intro w hSw; (try dsimp only at hSw); go_simp; (try with_reducible rfl))
          try simp only [Act.put]
          refine wpAnyH_take (i := 4) (v := ?_) rfl (by kernel_rfl) (by kernel_rfl) (by kernel_rfl) (fun _ _ _ h => h) (Or.inl ⟨by rfl, ?_⟩) (by assumption) ?_
          rotate_left 1
          · (intro w hSw; (try dsimp only at hSw); go_simp; (try with_reducible rfl))
          try simp only [Act.put]
          refine wpAnyH_take (i := 5) (v := ?_) rfl (by kernel_rfl) (by kernel_rfl) (by kernel_rfl) (fun _ _ _ h => h) (Or.inl ⟨by rfl, ?_⟩) (by assumption) ?_
          rotate_left 1
          · (intro w hSw; (try dsimp only at hSw); go_simp; (try with_reducible rfl))
          try simp only [Act.put]
          refine wpAnyH_take (i := 7) (v := ?_) rfl (by kernel_rfl) (by kernel_rfl) (by kernel_rfl) (fun _ _ _ h => h) (Or.inl ⟨by rfl, ?_⟩) (by assumption) ?_
          rotate_left 1
          · (intro w hSw; (try dsimp only at hSw); go_simp; (try with_reducible rfl))
          try simp only [Act.put]
          refine wpAnyH_take (i := 8) (v := ?_) rfl (by kernel_rfl) (by kernel_rfl) (by kernel_rfl) (fun _ _ _ h => h) (Or.inl ⟨by rfl, ?_⟩) (by assumption) ?_
          rotate_left 1
          · (intro w hSw; (try dsimp only at hSw); go_simp; (try with_reducible rfl))
          try simp only [Act.put]
          refine wpAnyH_take (i := 9) (v := ?_) rfl (by kernel_rfl) (by kernel_rfl) (by kernel_rfl) (fun _ _ _ h => h) (Or.inl ⟨by rfl, ?_⟩) (by assumption) ?_
          rotate_left 1
          · (intro w hSw; (try dsimp only at hSw); go_simp; (try with_reducible rfl))
          try simp only [Act.put]
          refine wpAnyH_take (i := 10) (v := ?_) rfl (by kernel_rfl) (by kernel_rfl) (by kernel_rfl) (fun _ _ _ h => h) (Or.inl ⟨by rfl, ?_⟩) (by assumption) ?_
          rotate_left 1
          · (intro w hSw; (try dsimp only at hSw); go_simp; (try with_reducible rfl))
          try simp only [Act.put]
          refine wpAnyH_take (i := 11) (v := ?_) rfl (by kernel_rfl) (by kernel_rfl) (by kernel_rfl) (fun _ _ _ h => h) (Or.inl ⟨by rfl, ?_⟩) (by assumption) ?_
          rotate_left 1
          · (intro w hSw; (try dsimp only at hSw); go_simp; (try with_reducible rfl))
          try simp only [Act.put]
          refine wpAnyH_take (i := 12) (v := ?_) rfl (by kernel_rfl) (by kernel_rfl) (by kernel_rfl) (fun _ _ _ h => h) (Or.inl ⟨by rfl, ?_⟩) (by assumption) ?_
          rotate_left 1
          · (intro w hSw; (try dsimp only at hSw); go_simp; (try with_reducible rfl))
          try simp only [Act.put]
          refine wpAnyH_take (i := 13) (v := ?_) rfl (by kernel_rfl) (by kernel_rfl) (by kernel_rfl) (fun _ _ _ h => h) (Or.inl ⟨by rfl, ?_⟩) (by assumption) ?_
          rotate_left 1
          · (intro w hSw; (try dsimp only at hSw); go_simp; (try with_reducible rfl))
          try simp only [Act.put]
          refine wpAnyH_take (i := 14) (v := ?_) rfl (by kernel_rfl) (by kernel_rfl) (by kernel_rfl) (fun _ _ _ h => h) (Or.inl ⟨by rfl, ?_⟩) (by assumption) ?_
          rotate_left 1
          · (intro w hSw; (try dsimp only at hSw); go_simp; (try with_reducible rfl))
          try simp only [Act.put]
          refine wpAnyH_take (i := 15) (v := ?_) rfl (by kernel_rfl) (by kernel_rfl) (by kernel_rfl) (fun _ _ _ h => h) (Or.inl ⟨by rfl, ?_⟩) (by assumption) ?_
          rotate_left 1
          · (intro w hSw; (try dsimp only at hSw); go_simp; (try with_reducible rfl))
          try simp only [Act.put]
          refine wpAnyH_ready (rs := [6, 16]) (by kernel_rfl) (by simp) ?_
          refine AllReadyH.cons rfl (fun K hK => ?_) ?_
          · skip
            go_simp
            refine (SP.out _ (by first | exact grown_drew gq | exact grown_trans (grown_drew gq) (grown_new _ _))).mono ?_
            rintro e w2 ⟨hg2, v, rfl, ⟨sa, sn, sc⟩, rfl, ho⟩
            have gw := grown_trans (by first | exact grown_drew gq | exact grown_trans (grown_drew gq) (grown_new _ _)) hg2
            have xk := cell_still x0 gw
            have yk := cell_still y1 gw
            try dsimp only
            refine hK.out _ _ (by first | assumption | go_keep) (fun hHeld => ?_)
            clear hK K
            try simp only [Act.put]
            refine wpAnyH_ready (rs := [16]) (by kernel_rfl) (by simp) ?_
            refine AllReadyH.cons rfl (fun K hK => ?_) ?_
            · skip
              go_simp
              refine hK.out _ _ (by first | assumption | go_keep) (fun hHeld => ?_)
              clear hK K
              try simp only [Act.put]
              refine wpAnyH_ready (rs := [17]) (by kernel_rfl) (by simp) ?_
              refine AllReadyH.cons rfl (fun K hK => ?_) ?_
              · skip
                have OW2 := ho.base_le (show w.heap.size ≤ _ by have := (grown_drew gq).size; simp at this ⊢; omega)
                have hsn : sn = zs.length := by obtain ⟨a1, c4, e, -⟩ := ho.ints.sl; simp only [Sl.v, Value.slice.injEq] at e; exact e.2.1
                subst hsn
                refine step_append_lies (w2.alloc (.cells #[.int .i64 p, .int .i64 q] 3)) (by rfl) (.tmp 39) (.tmp 49) 29 (by rfl) w.heap.size 3 i0 (.int .i64 0) 1 8 Tryz.underlying29 hi hz0 hz1 hz2 (by rfl) (by decide) (.slice sa zs.length sc) zs.length (zs.map (Value.int .i64)) (by rfl) ((OW2.new (grown_new _ _)).1) ⟨w2.heap.size, 0, none⟩ 2 2 [.int .i64 p, .int .i64 q] (by rfl) (by rfl) ?_ (by simp [Value.oneCell']) (by decide) (by simp only [maxLen]; omega) (by omega) (by have := gw.size; simp; omega) _ rfl ?_
                · intro j u hu
                  rw [Addr.add_lit, Nat.zero_add]
                  match j, hu with
                  | 0, hu => rw [cell_of_row _ _ 0 _ _ (0, 0) (heap_alloc_new w2 _)]; exact hu
                  | 1, hu => rw [cell_of_row _ _ 1 _ _ (0, 0) (heap_alloc_new w2 _)]; exact hu
                  | j + 2, hu => simp at hu
                intro g gcap w4 hown hgrow _ _
                have gw4 : w.grownBy w4 none := grown_trans_row (grown_trans gw (grown_new _ _)) hgrow (fun r e => (OW2.lt r e).1)
                have xk4 := cell_still x0 gw4
                have yk4 := cell_still y1 gw4
                have OW4 : Owns w4 w.heap.size (.slice (some ⟨g, 0, none⟩) (zs.length + 2) gcap) (zs ++ [p, q]) := ⟨by rw [List.length_append, List.map_append]; exact hown, by rw [List.length_append]; simp only [List.length_cons, List.length_nil]; omega, fun z hz => by rcases List.mem_append.1 hz with h | h; exact ho.2.2 z h; simp at h; rcases h with rfl | rfl <;> assumption⟩
                refine hK.out _ _ (by first | assumption | go_keep) (fun hHeld => ?_)
                clear hK K
                try simp only [Act.put]
                refine wpAnyH_take (i := 18) (v := ?_) rfl (by kernel_rfl) (by kernel_rfl) (by kernel_rfl) (fun _ _ _ h => h) (Or.inl ⟨by rfl, ?_⟩) (by assumption) ?_
                rotate_left 1
                · (intro w hSw; (try dsimp only at hSw); go_simp; (try with_reducible rfl))
                try simp only [Act.put]
                refine wpAnyH_done (by kernel_rfl) ?_ _
                try go_simp
                go_wp2
                go_ret
                exact ended_ok E2.out gw4 ⟨⟨some ⟨g, 0, none⟩, zs.length + 2, gcap⟩, rfl, OW4.ints⟩
              exact AllReadyH.nil
            exact AllReadyH.nil
          refine AllReadyH.cons rfl (fun K hK => ?_) ?_
          · skip
            go_simp
            refine hK.out _ _ (by first | assumption | go_keep) (fun hHeld => ?_)
            clear hK K
            try simp only [Act.put]
            refine wpAnyH_ready (rs := [6]) (by kernel_rfl) (by simp) ?_
            refine AllReadyH.cons rfl (fun K hK => ?_) ?_
            · skip
              go_simp
              refine (SP.out _ (by first | exact grown_drew gq | exact grown_trans (grown_drew gq) (grown_new _ _))).mono ?_
              rintro e w2 ⟨hg2, v, rfl, ⟨sa, sn, sc⟩, rfl, ho⟩
              have gw := grown_trans (by first | exact grown_drew gq | exact grown_trans (grown_drew gq) (grown_new _ _)) hg2
              have xk := cell_still x0 gw
              have yk := cell_still y1 gw
              have hn0 := cell_still (cell_of_row _ _ 0 _ _ (0, 0) (heap_alloc_new wq.drew (.cells #[.int .i64 p, .int .i64 q] 3))) hg2
              have hn1 := cell_still (cell_of_row _ _ 1 _ _ (0, 0) (heap_alloc_new wq.drew (.cells #[.int .i64 p, .int .i64 q] 3))) hg2
              try dsimp only
              refine hK.out _ _ (by first | assumption | go_keep) (fun hHeld => ?_)
              clear hK K
              try simp only [Act.put]
              refine wpAnyH_ready (rs := [17]) (by kernel_rfl) (by simp) ?_
              refine AllReadyH.cons rfl (fun K hK => ?_) ?_
              · skip
                have OW2 := ho.base_le (show w.heap.size ≤ _ by have := (grown_drew gq).size; simp at this ⊢; omega)
                have hsn : sn = zs.length := by obtain ⟨a1, c4, e, -⟩ := ho.ints.sl; simp only [Sl.v, Value.slice.injEq] at e; exact e.2.1
                subst hsn
                refine step_append_lies w2 (by rfl) (.tmp 39) (.tmp 49) 29 (by rfl) w.heap.size 3 i0 (.int .i64 0) 1 8 Tryz.underlying29 hi hz0 hz1 hz2 (by rfl) (by decide) (.slice sa zs.length sc) zs.length (zs.map (Value.int .i64)) (by rfl) (OW2.1) ⟨wq.drew.heap.size, 0, none⟩ 2 2 [.int .i64 p, .int .i64 q] (by rfl) (by rfl) ?_ (by simp [Value.oneCell']) (by decide) (by simp only [maxLen]; omega) (by omega) (by have := gw.size; simp; omega) _ rfl ?_
                · intro j u hu
                  rw [Addr.add_lit, Nat.zero_add]
                  match j, hu with
                  | 0, hu => rw [hn0]; exact hu
                  | 1, hu => rw [hn1]; exact hu
                  | j + 2, hu => simp at hu
                intro g gcap w4 hown hgrow _ _
                have gw4 : w.grownBy w4 none := grown_trans_row gw hgrow (fun r e => (OW2.lt r e).1)
                have xk4 := cell_still x0 gw4
                have yk4 := cell_still y1 gw4
                have OW4 : Owns w4 w.heap.size (.slice (some ⟨g, 0, none⟩) (zs.length + 2) gcap) (zs ++ [p, q]) := ⟨by rw [List.length_append, List.map_append]; exact hown, by rw [List.length_append]; simp only [List.length_cons, List.length_nil]; omega, fun z hz => by rcases List.mem_append.1 hz with h | h; exact ho.2.2 z h; simp at h; rcases h with rfl | rfl <;> assumption⟩
                refine hK.out _ _ (by first | assumption | go_keep) (fun hHeld => ?_)
                clear hK K
                try simp only [Act.put]
                refine wpAnyH_take (i := 18) (v := ?_) rfl (by kernel_rfl) (by kernel_rfl) (by kernel_rfl) (fun _ _ _ h => h) (Or.inl ⟨by rfl, ?_⟩) (by assumption) ?_
                rotate_left 1
                · (intro w hSw; (try dsimp only at hSw); go_simp; (try with_reducible rfl))
                try simp only [Act.put]
                refine wpAnyH_done (by kernel_rfl) ?_ _
                try go_simp
                go_wp2
                go_ret
                exact ended_ok E2.out gw4 ⟨⟨some ⟨g, 0, none⟩, zs.length + 2, gcap⟩, rfl, OW4.ints⟩
              exact AllReadyH.nil
            exact AllReadyH.nil
          exact AllReadyH.nil
      · have brs : (r == s) = false := by simpa using hrs
        have E1 : Hid (productP x y = .error 4) := by show _ = _; rw [E0.out, brs]; rfl
        clear hrs
        refine wp_region_held_drew (S := (fun w' => w'.cell? ⟨xb, xo + (a + 1), none⟩ = some (.int .i64 r) ∧ w'.cell? ⟨yb, yo + b, none⟩ = some (.int .i64 s))) (by kernel_rfl) (by go_keep) (fun hHeld => ?_)
        refine wpAnyH_take (i := 0) (v := ?_) rfl (by kernel_rfl) (by kernel_rfl) (by kernel_rfl) (fun _ _ _ h => h) (Or.inl ⟨by rfl, ?_⟩) (by assumption) ?_
        rotate_left 1
        · (intro w hSw; (try dsimp only at hSw); go_simp; (try with_reducible rfl))
        try simp only [Act.put]
        refine wpAnyH_take (i := 1) (v := ?_) rfl (by kernel_rfl) (by kernel_rfl) (by kernel_rfl) (fun _ _ _ h => h) (Or.inl ⟨by rfl, ?_⟩) (by assumption) ?_
        rotate_left 1
        · (intro w hSw; (try dsimp only at hSw); go_simp; (try with_reducible rfl))
        try simp only [Act.put]
        refine wpAnyH_take (i := 2) (v := ?_) rfl (by kernel_rfl) (by kernel_rfl) (by kernel_rfl) (fun _ _ _ h => h) (Or.inl ⟨by rfl, ?_⟩) (by assumption) ?_
        rotate_left 1
        · (intro w hSw; (try dsimp only at hSw); go_simp; (try with_reducible rfl))
        try simp only [Act.put]
        refine wpAnyH_take (i := 3) (v := ?_) rfl (by kernel_rfl) (by kernel_rfl) (by kernel_rfl) (fun _ _ _ h => h) (Or.inl ⟨by rfl, ?_⟩) (by assumption) ?_
        rotate_left 1
        · (intro w hSw; (try dsimp only at hSw); go_simp; (try with_reducible rfl))
        try simp only [Act.put]
        refine wpAnyH_take (i := 4) (v := ?_) rfl (by kernel_rfl) (by kernel_rfl) (by kernel_rfl) (fun _ _ _ h => h) (Or.inl ⟨by rfl, ?_⟩) (by assumption) ?_
        rotate_left 1
        · (intro w hSw; (try dsimp only at hSw); go_simp; (try with_reducible rfl))
        try simp only [Act.put]
        refine wpAnyH_take (i := 5) (v := ?_) rfl (by kernel_rfl) (by kernel_rfl) (by kernel_rfl) (fun _ _ _ h => h) (Or.inl ⟨by rfl, ?_⟩) (by assumption) ?_
        rotate_left 1
        · (intro w hSw; (try dsimp only at hSw); go_simp; (try with_reducible rfl))
        try simp only [Act.put]
        refine wpAnyH_take (i := 6) (v := ?_) rfl (by kernel_rfl) (by kernel_rfl) (by kernel_rfl) (fun _ _ _ h => h) (Or.inl ⟨by rfl, ?_⟩) (by assumption) ?_
        rotate_left 1
        · (intro w hSw; (try dsimp only at hSw); go_simp; (try with_reducible rfl))
        try simp only [Act.put]
        refine wpAnyH_take (i := 7) (v := ?_) rfl (by kernel_rfl) (by kernel_rfl) (by kernel_rfl) (fun _ _ _ h => h) (Or.inl ⟨by rfl, ?_⟩) (by assumption) ?_
        rotate_left 1
        · (intro w hSw; (try dsimp only at hSw); go_simp; (try with_reducible rfl))
        try simp only [Act.put]
        refine wpAnyH_take (i := 8) (v := ?_) rfl (by kernel_rfl) (by kernel_rfl) (by kernel_rfl) (fun _ _ _ h => h) (Or.inl ⟨by rfl, ?_⟩) (by assumption) ?_
        rotate_left 1
        · (intro w hSw; (try dsimp only at hSw); go_simp; (try with_reducible rfl))
        try simp only [Act.put]
        refine wpAnyH_take (i := 9) (v := ?_) rfl (by kernel_rfl) (by kernel_rfl) (by kernel_rfl) (fun _ _ _ h => h) (Or.inl ⟨by rfl, ?_⟩) (by assumption) ?_
        rotate_left 1
        · (intro w hSw; (try dsimp only at hSw); go_simp; (try with_reducible rfl))
        try simp only [Act.put]
        refine wpAnyH_ready (rs := [10]) (by kernel_rfl) (by simp) ?_
        refine AllReadyH.cons rfl (fun K hK => ?_) AllReadyH.nil
        go_simp
        refine (must_no _).mono ?_
        rintro e wy ⟨rfl, rfl⟩; exact ⟨rfl, ended_err E1.out (grown_drew (grown_refl _))⟩
    · have b3 : decide ((2 : Int) ≤ (y.length : Int)) = false := by simp; omega
      have h2' : (2 : Int) ≤ (x.length : Int) := by omega
      have E1 : Hid (productP x y = .error 4) := by show _ = _; unfold productP; simp [mustP, h3]; rfl
      clear h2 h3
      go_enter Tryz.func127, Tryz.ntmps127
      go_wp2_with (first | (go_at_call 89; refine (must_no _).mono ?_; rintro e w' ⟨rfl, rfl⟩) | fail)
      exact ⟨rfl, ended_err E1.out (grown_refl _)⟩
  · have b2 : decide ((2 : Int) ≤ (x.length : Int)) = false := by simp; omega
    have E1 : Hid (productP x y = .error 4) := by show _ = _; unfold productP; simp [mustP, h2]; rfl
    clear h2
    go_enter Tryz.func127, Tryz.ntmps127
    go_wp2_with (first | (go_at_call 89; refine (must_no _).mono ?_; rintro e w' ⟨rfl, rfl⟩) | fail)
    exact ⟨rfl, ended_err E1.out (grown_refl _)⟩

end Go.Proofs.YtaoplfpigjkgpaaGreatDoor

namespace Go.Proofs.YtaoplfpigjkgpaaGreatDoor

open Go.RowKit

theorem list_ne {a b : List Int} {k : Nat} (_hk : k < a.length) (_hl : a.length = b.length) (h : a.getD k 0 ≠ b.getD k 0) : a ≠ b := by
  rintro rfl
  exact h rfl

theorem list_eq {a b : List Int} (hl : a.length = b.length) (h : ∀ t, t < a.length → a.getD t 0 = b.getD t 0) : a = b := by
  refine List.ext_getElem hl fun i h1 h2 => ?_
  have := h i h1
  simpa [List.getD, h1, h2] using this

set_option maxRecDepth 100000 in
set_option maxHeartbeats 1000000 in
theorem equal_any (u v : Sl) (a b : List Int) (w : World) (ha : IsInts w u.v a) (hb : IsInts w v.v b) : Calls Tryz.prog 46 #[.slice u.a u.n u.c, .slice v.a v.n v.c] w fun e w' => e = .returned (.bool (decide (a = b))) ∧ ∃ n, w' = w.drewN n := by
  obtain ⟨ux, uc, eu, c1, c2, c3⟩ := ha.sl
  obtain ⟨ua, un, uu⟩ := u
  simp only [Sl.v, Value.slice.injEq] at eu
  obtain ⟨rfl, rfl, rfl⟩ := eu
  obtain ⟨vx, vc, ev, d1, d2, d3⟩ := hb.sl
  obtain ⟨va, vn, vv⟩ := v
  simp only [Sl.v, Value.slice.injEq] at ev
  obtain ⟨rfl, rfl, rfl⟩ := ev
  simp only
  have HA := hide ha
  have HB := hide hb
  clear ha hb
  by_cases hl : a.length = b.length
  · have b0 : ((a.length : Int) != (b.length : Int)) = false := by simp [hl]
    have HL := hide hl
    clear hl
    go_enter Tryz.func46, Tryz.ntmps46
    go_wp2
    go_loopw [13] (fun i wr => ∃ k n : Nat, k ≤ a.length ∧ i = .int .i64 k ∧ (∀ t, t < k → a.getD t 0 = b.getD t 0) ∧ wr = w.drewN n) (fun i _ => a.length - (intOf i).toNat)
    case atStart => exact ⟨0, 0, Nat.zero_le _, rfl, fun t h => absurd h (by omega), rfl⟩
    case round =>
      obtain ⟨k, n, hk, rfl, hp, rfl⟩ := hrel
      have HP := hide hp
      clear hp
      by_cases hkl : k < a.length
      · have hkb : k < b.length := by have := HL.out; omega
        obtain ⟨ab, ao, rfl, hca⟩ := HA.out.get hkl
        obtain ⟨bb, bo, rfl, hcb⟩ := HB.out.get hkb
        have gq : w.grownBy (w.drewN n) none := ⟨rfl, rfl, rfl, Nat.le_refl _, fun k hk hn => rfl⟩
        have h1 := cell_still (hca k hkl) gq
        have h2 := cell_still (hcb k hkb) gq
        have i1 : (k : Int) < (a.length : Int) := by omega
        have i2 : (k : Int) < (b.length : Int) := by omega
        obtain ⟨p, hp⟩ : ∃ p, p = a.getD k 0 := ⟨_, rfl⟩
        obtain ⟨q, hq⟩ : ∃ q, q = b.getD k 0 := ⟨_, rfl⟩
        rw [← hp] at h1
        rw [← hq] at h2
        have HPP := hide hp
        have HQQ := hide hq
        obtain ⟨wq, hwq⟩ : ∃ wq, wq = w.drewN n := ⟨_, rfl⟩
        rw [← hwq] at h1 h2 ⊢
        have HW := hide hwq
        clear hp hq hca hcb gq hwq
        by_cases hd : p = q
        · have bd : (p != q) = false := by simp [hd]
          have HD := hide hd
          clear hd
          go_wp2_with fail
          go_quiet (fail)
          go_wp2_with fail
          go_roundw
          case rel =>
            refine ⟨k + 1, n + nq, by omega, by go_num, fun t ht => ?_, by rw [HW.out]; simp [World.drewN, Nat.add_assoc]⟩
            rcases lt_succ_cases ht with h | rfl
            · exact HP.out t h
            · rw [← HPP.out, ← HQQ.out]; exact HD.out
          case measure => simp [intOf]; omega
        · have bd : (p != q) = true := by simpa using hd
          have E : Hid (decide (a = b) = false) := by show _ = _; exact decide_eq_false (list_ne hkl HL.out (by rw [← HPP.out, ← HQQ.out]; exact hd))
          clear hd
          go_wp2_with fail
          go_quiet (fail)
          go_wp2
          go_ret
          exact ⟨by rw [E.out]; rfl, n + nq, by rw [HW.out]; simp [World.drewN, Nat.add_assoc]⟩
      · have E : Hid (decide (a = b) = true) := by show _ = _; exact decide_eq_true (list_eq HL.out (fun t ht => HP.out t (by omega)))
        go_wp2
        go_ret
        exact ⟨by rw [E.out]; rfl, n, rfl⟩
  · have b0 : ((a.length : Int) != (b.length : Int)) = true := by simpa using (fun h => hl (by omega) : ¬ (a.length : Int) = b.length)
    have E : Hid (decide (a = b) = false) := by show _ = _; exact decide_eq_false (fun h => hl (by rw [h]))
    clear hl
    go_enter Tryz.func46, Tryz.ntmps46
    go_wp2
    go_ret
    exact ⟨by rw [E.out]; rfl, 0, rfl⟩

end Go.Proofs.YtaoplfpigjkgpaaGreatDoor

namespace Go.Proofs.YtaoplfpigjkgpaaGreatDoor

open Go.RowKit

set_option maxRecDepth 100000 in
set_option maxHeartbeats 40000000 in
theorem dims_product (n : Nod) (A : At) (u : Sl) (v0 v1 : Val) (x y : List Int) (w : World) (hop : n.op ∈ ([⟨#[77, 97, 116, 77, 117, 108]⟩] : List ByteArray)) (hn : NodeOk w n A) (hv : ValsIn w u.v [(v0, x), (v1, y)]) (hf : Fine x) (hfy : Fine y) : Calls Tryz.prog 93 #[nval n, .slice u.a u.n u.c] w (Ended w (productP x y) DimsQ) := by
  obtain ⟨xa, xc, e1, q1, q2, q3⟩ := hv.vals.form
  simp only [List.map_cons, List.map_nil, List.length_cons, List.length_nil, Nat.zero_add, Nat.reduceAdd] at e1 q1 q3
  obtain ⟨ua, un, uc⟩ := u
  simp only [Sl.v, Value.slice.injEq] at e1
  obtain ⟨rfl, rfl, rfl⟩ := e1
  obtain ⟨b, off, rfl⟩ := hv.vals.addr (k := 0) (by simp)
  obtain ⟨-, z0⟩ := hv.at 0 (by simp)
  rw [Nat.zero_mul, Nat.add_zero] at z0
  simp only [List.getElem_cons_zero] at z0
  have HX := hide (hv.dims (v0, x) (by simp))
  obtain ⟨-, z1⟩ := hv.at 1 (by simp)
  rw [Nat.one_mul] at z1
  simp only [List.getElem_cons_zero, List.getElem_cons_succ] at z1
  have HY := hide (hv.dims (v1, y) (by simp))
  obtain ⟨vn1, vt1, ⟨d1a, d1n, d1c⟩⟩ := v1
  simp only at z1 HY
  have Z1 := hide z1
  clear z1
  obtain ⟨vn0, vt0, ⟨d0a, d0n, d0c⟩⟩ := v0
  simp only at z0 HX
  have Z0 := hide z0
  clear hv z0
  have NK := hide hn
  obtain ⟨op, nam, ⟨ia, il, ic⟩, out, ⟨ao, al, cap⟩⟩ := n
  unfold nval
  simp only
  obtain ⟨w0, hw0⟩ : ∃ w0, w0 = w.alloc (.cells #[.string op, .string nam, .slice ia il ic, .string out, .slice ao al cap] 25) := ⟨_, rfl⟩
  have g0 : Hid (w.grownBy w0 none) := by show w.grownBy w0 none; rw [hw0]; exact grown_new _ _
  have hb0 := heap_alloc_new w (.cells #[.string op, .string nam, .slice ia il ic, .string out, .slice ao al cap] 25)
  rw [← hw0] at hb0
  have BX : Hid (∀ wx, w0.grownBy wx none → wx.heap[w.heap.size]? = some (.cells #[.string op, .string nam, .slice ia il ic, .string out, .slice ao al cap] 25 (0, 0))) := fun wx hg => box_kept hb0 hg
  clear hb0 hn
  simp only at hop
  have z0 : (w.alloc (.cells #[.string op, .string nam, .slice ia il ic, .string out, .slice ao al cap] 25)).cell? ⟨b, off + 2, none⟩ = some (.slice d0a d0n d0c) := cell_still Z0.out (grown_new _ _)
  have z1 : (w.alloc (.cells #[.string op, .string nam, .slice ia il ic, .string out, .slice ao al cap] 25)).cell? ⟨b, off + 3 + 2, none⟩ = some (.slice d1a d1n d1c) := cell_still Z1.out (grown_new _ _)
  have C := hide (product_any ⟨d0a, d0n, d0c⟩ ⟨d1a, d1n, d1c⟩ x y w0 (HX.out.more g0.out) (HY.out.more g0.out) hf.few hfy.few)
  simp only at C
  simp only [List.mem_cons, List.not_mem_nil, or_false] at hop
  subst hop
  all_goals
    go_enter Tryz.func93, Tryz.ntmps93
    go_wp2_with fail
    rw [← hw0]
    clear hw0
    cases hk : productP x y with
    | error c =>
      rw [hk] at C
      have HK := hide hk
      clear hk
      refine C.out.mono ?_
      rintro e w' ⟨hg, rfl⟩
      exact ⟨rfl, ended_err (by first | exact HK.out | rfl) (grown_trans g0.out hg)⟩
    | ok zs =>
      rw [hk] at C
      have HK := hide hk
      clear hk
      refine C.out.mono ?_
      rintro e w' ⟨hg, v, rfl, ⟨s1, s2, s3⟩, rfl, hs⟩
      simp only [Sl.v]
      go_wp2
      go_ret
      exact ended_ok (by first | exact HK.out | rfl) (grown_trans g0.out hg) ⟨⟨s1, s2, s3⟩, rfl, hs⟩

end Go.Proofs.YtaoplfpigjkgpaaGreatDoor
