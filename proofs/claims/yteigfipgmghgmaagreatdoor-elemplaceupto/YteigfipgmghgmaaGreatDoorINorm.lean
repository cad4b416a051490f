/- Normalization, by the walk (mkINorm.py). -/
import Derived.Test.YteigfipgmghgmaaGreatDoorIGemm
namespace Go.Proofs.YteigfipgmghgmaaGreatDoor
open Go.RowKit

set_option maxRecDepth 100000 in
set_option maxHeartbeats 4000000 in
theorem normalized_any (u : Sl) (p0 p1 : Val × List Int) (rest : List (Val × List Int)) (w : World) (hv : ValsIn w u.v (p0 :: p1 :: rest)) (hr : rest.length ≤ 1000000) : Calls Tryz.prog 127 #[.slice u.a u.n u.c] w (Ended w (normalizedP p0.2 ((p1 :: rest).map (·.2))) DimsQ) := by
  obtain ⟨xa, xc, e1, q1, q2, q3⟩ := hv.vals.form
  rw [List.length_map] at e1 q1 q3
  obtain ⟨ua, un, uc⟩ := u
  simp only [Sl.v, Value.slice.injEq] at e1
  obtain ⟨rfl, rfl, rfl⟩ := e1
  have HV := hide hv
  obtain ⟨b, off, rfl⟩ := hv.vals.addr (k := 0) (by simp)
  obtain ⟨-, z0⟩ := hv.at 0 (by simp)
  rw [Nat.zero_mul, Nat.add_zero] at z0
  simp only [List.getElem_cons_zero] at z0
  have HX := hide (hv.dims p0 (by simp))
  obtain ⟨⟨pn0, pt0, ⟨xa0, xn0, xc0⟩⟩, x⟩ := p0
  simp only at z0 HX ⊢
  obtain ⟨xx, xcc, ex, f1, f2, f3⟩ := HX.out.sl
  simp only [Sl.v, Value.slice.injEq] at ex
  obtain ⟨rfl, rfl, rfl⟩ := ex
  obtain ⟨rs, hrs⟩ : ∃ rs, rs = p1 :: rest := ⟨_, rfl⟩
  rw [← hrs] at HV q1 q3 ⊢
  have hrl : 1 ≤ rs.length := by rw [hrs]; simp
  have hrl2 : rs.length ≤ 1000001 := by rw [hrs]; simp; omega
  obtain ⟨m, hm⟩ : ∃ m, m = ((((⟨pn0, pt0, ⟨xa0, x.length, xc0⟩⟩, x) : Val × List Int) :: rs) : List (Val × List Int)).length := ⟨_, rfl⟩
  have hm1 : m = rs.length + 1 := by rw [hm]; simp
  rw [← hm] at q1 q3 ⊢
  have hm0 : 0 < m := by omega
  have hm0' : (0 : Int) < (m : Int) := by omega
  have hm2 : (1 : Int) ≤ (m : Int) := by omega
  have hm3 : 1 ≤ m := by omega
  have huc : ¬ uc = 1 := by omega
  have huc2 : 1 ≤ uc := by omega
  have hmr : m - 1 = rs.length := by omega
  have HM := hide hm1
  have Z0 := hide z0
  clear hv hm hm1 hrs z0
  by_cases h2 : 2 ≤ x.length
  · have E0 : Hid (normalizedP x (rs.map (·.2)) = (mustP ((rs.map (·.2)).all (fun y => y == (x.drop 1).take 1))).bind (fun _ => .ok x)) := by show _ = _; unfold normalizedP; simp [mustP, h2]; rfl
    have h2' : (2 : Int) ≤ (x.length : Int) := by omega
    have z0 := Z0.out
    go_enter Tryz.func127, Tryz.ntmps127
    go_wp2_with (first | (go_at_call 71; refine (must_yes _).mono ?_; rintro e w' ⟨rfl, rfl⟩) | fail)
    go_loopw [17] (fun i wr => ∃ k : Nat, k ≤ rs.length ∧ i = .int .i64 k ∧ (∀ j (hj : j < rs.length), j < k → rs[j].2 = (x.drop 1).take 1) ∧ w.grownBy wr none) (fun i _ => rs.length - (intOf i).toNat)
    case atStart => exact ⟨0, Nat.zero_le _, rfl, fun j hj h => absurd h (by omega), grown_refl _⟩
    case round =>
      obtain ⟨k, hk, rfl, hall, hg⟩ := hrel
      have HL := hide hall
      have HG := hide hg
      clear hall hg z0
      by_cases hkl : k < rs.length
      · obtain ⟨y0, y1, y2⟩ := (HV.out.more HG.out).vals.val (k + 1) (by rw [List.length_map]; simp; omega)
        have HY := hide (HV.out.dims (rs[k]) (List.mem_cons_of_mem _ (List.getElem_mem hkl)))
        simp only [List.map_cons, List.getElem_cons_succ, List.getElem_map] at y0 y1 y2
        have ea : off + (k + 1) * 3 = off + 3 + k * 3 := by omega
        rw [ea] at y0 y1 y2
        obtain ⟨p, hp⟩ : ∃ p, p = rs[k] := ⟨_, rfl⟩
        rw [← hp] at y0 y1 y2 HY
        have HP := hide hp
        obtain ⟨⟨vn, vt, ⟨da, dn, dc⟩⟩, y⟩ := p
        simp only at y0 y1 y2 HY
        clear ea hp
        obtain ⟨xb, xo, rfl, -⟩ := HX.out.get (k := 0) (by omega)
        have hxc : ¬ xc0 = 1 := by omega
        have hx1 : 1 ≤ x.length := by omega
        have hxc2 : 2 ≤ xc0 := by omega
        have hxc3 : (2 : Int) ≤ (xc0 : Int) := by omega
        have XT : Hid (IsInts w (.slice (some ⟨xb, xo + 1, none⟩) 1 (xc0 - 1)) ((x.drop 1).take 1)) := by
          have h := HX.out.back (k := 1) hx1
          simp only [if_neg hxc, Addr.add_lit] at h
          exact h.front (by simp; omega)
        obtain ⟨w1, hw1⟩ : ∃ w1, w1 = wr.alloc (.cells #[.string vn, .int .i64 vt, .slice da dn dc] 53) := ⟨_, rfl⟩
        have g1 : Hid (w.grownBy w1 none) := by show w.grownBy w1 none; rw [hw1]; exact grown_trans HG.out (grown_new _ _)
        have hb1 := heap_alloc_new wr (.cells #[.string vn, .int .i64 vt, .slice da dn dc] 53)
        rw [← hw1] at hb1
        have q1' : w1.cell? ⟨wr.heap.size, 2, none⟩ = some (.slice da dn dc) := (cell_of_row _ _ 2 _ _ (0, 0) hb1).trans rfl
        have EQ := hide (fun (wx : World) (hx : w1.grownBy wx none) => equal_any ⟨da, dn, dc⟩ ⟨some ⟨xb, xo + 1, none⟩, 1, xc0 - 1⟩ y ((x.drop 1).take 1) wx (HY.out.more (grown_trans g1.out hx)) (XT.out.more (grown_trans g1.out hx)))
        simp only at EQ
        clear hb1
        go_wp2_with fail
        rw [← hw1]
        clear hw1 y0 y1 y2
        cases hd : decide (y = (x.drop 1).take 1) with
        | true =>
          rw [hd] at EQ
          have HKT : Hid (∀ j (hj : j < rs.length), j < k + 1 → rs[j].2 = (x.drop 1).take 1) := fun j hj h => by
            rcases lt_succ_cases h with h | rfl
            · exact HL.out j hj h
            · rw [← HP.out]; simpa using hd
          clear hd
          refine wp_region_held_drew (S := (fun w' => w'.cell? ⟨wr.heap.size, 2, none⟩ = some (.slice da dn dc))) (by kernel_rfl) (by go_keep) (fun hHeld => ?_)
          refine wpAnyH_take (i := 0) (v := ?_) rfl (by kernel_rfl) (by kernel_rfl) (by kernel_rfl) (fun _ _ _ h => h) (Or.inl ⟨by rfl, ?_⟩) (by assumption) ?_
          rotate_left 1
          · (intro w hSw; (try dsimp only at hSw); go_simp; (try with_reducible rfl))
          try simp only [Act.put]
          refine wpAnyH_take (i := 1) (v := ?_) rfl (by kernel_rfl) (by kernel_rfl) (by kernel_rfl) (fun _ _ _ h => h) (Or.inl ⟨by rfl, ?_⟩) (by assumption) ?_
          rotate_left 1
          · (intro w hSw; (try dsimp only at hSw); go_simp; (try with_reducible rfl))
          try simp only [Act.put]
          refine wpAnyH_take (i := 2) (v := ?_) rfl (by kernel_rfl) (by kernel_rfl) (by kernel_rfl) (fun _ _ _ h => h) (Or.inl ⟨by rfl, ?_⟩) (by assumption) ?_
          rotate_left 1
          · (intro w hSw; (try dsimp only at hSw); go_simp; (try with_reducible rfl))
          try simp only [Act.put]
          refine wpAnyH_take (i := 3) (v := ?_) rfl (by kernel_rfl) (by kernel_rfl) (by kernel_rfl) (fun _ _ _ h => h) (Or.inl ⟨by rfl, ?_⟩) (by assumption) ?_
          rotate_left 1
          · (intro w hSw; (try dsimp only at hSw); go_simp; (try with_reducible rfl))
          try simp only [Act.put]
          refine wpAnyH_ready (rs := [4]) (by kernel_rfl) (by simp) ?_
          refine AllReadyH.cons rfl (fun K hK => ?_) ?_
          · skip
            go_simp
            refine (EQ.out _ (grown_drew (grown_refl _))).mono ?_
            rintro e wy ⟨rfl, nn, rfl⟩
            try dsimp only
            refine hK.out _ _ (by first | assumption | go_keep) (fun hHeld => ?_)
            clear hK K
            try simp only [Act.put]
            refine wpAnyH_ready (rs := [5]) (by kernel_rfl) (by simp) ?_
            refine AllReadyH.cons rfl (fun K hK => ?_) ?_
            · skip
              go_simp
              refine (must_yes _).mono ?_
              rintro e wy ⟨rfl, rfl⟩
              try dsimp only
              refine hK.out _ _ (by first | assumption | go_keep) (fun hHeld => ?_)
              clear hK K
              try simp only [Act.put]
              refine wpAnyH_done (by kernel_rfl) ?_ _
              try go_simp
              go_wp2_with fail
              go_roundw
              case rel => exact ⟨k + 1, by omega, by go_num, HKT.out, grown_drewQ g1.out _⟩
              case measure => simp [intOf]; omega
            exact AllReadyH.nil
          exact AllReadyH.nil
        | false =>
          rw [hd] at EQ
          have E3 : Hid (normalizedP x (rs.map (·.2)) = .error 4) := by
            show _ = _
            rw [E0.out, show (rs.map (·.2)).all (fun y => y == (x.drop 1).take 1) = false from ?_]
            · rfl
            · rw [List.all_eq_false]
              exact ⟨y, List.mem_map.2 ⟨rs[k], List.getElem_mem hkl, by rw [← HP.out]⟩, by simpa using hd⟩
          clear hd
          refine wp_region_held_drew (S := (fun w' => w'.cell? ⟨wr.heap.size, 2, none⟩ = some (.slice da dn dc))) (by kernel_rfl) (by go_keep) (fun hHeld => ?_)
          refine wpAnyH_take (i := 0) (v := ?_) rfl (by kernel_rfl) (by kernel_rfl) (by kernel_rfl) (fun _ _ _ h => h) (Or.inl ⟨by rfl, ?_⟩) (by assumption) ?_
          rotate_left 1
          · (intro w hSw; (try dsimp only at hSw); go_simp; (try with_reducible rfl))
          try simp only [Act.put]
          refine wpAnyH_take (i := 1) (v := ?_) rfl (by kernel_rfl) (by kernel_rfl) (by kernel_rfl) (fun _ _ _ h => h) (Or.inl ⟨by rfl, ?_⟩) (by assumption) ?_
          rotate_left 1
          · (intro w hSw; (try dsimp only at hSw); go_simp; (try with_reducible rfl))
          try simp only [Act.put]
          refine wpAnyH_take (i := 2) (v := ?_) rfl (by kernel_rfl) (by kernel_rfl) (by kernel_rfl) (fun _ _ _ h => h) (Or.inl ⟨by rfl, ?_⟩) (by assumption) ?_
          rotate_left 1
          · (intro w hSw; (try dsimp only at hSw); go_simp; (try with_reducible rfl))
          try simp only [Act.put]
          refine wpAnyH_take (i := 3) (v := ?_) rfl (by kernel_rfl) (by kernel_rfl) (by kernel_rfl) (fun _ _ _ h => h) (Or.inl ⟨by rfl, ?_⟩) (by assumption) ?_
          rotate_left 1
          · (intro w hSw; (try dsimp only at hSw); go_simp; (try with_reducible rfl))
          try simp only [Act.put]
          refine wpAnyH_ready (rs := [4]) (by kernel_rfl) (by simp) ?_
          refine AllReadyH.cons rfl (fun K hK => ?_) ?_
          · skip
            go_simp
            refine (EQ.out _ (grown_drew (grown_refl _))).mono ?_
            rintro e wy ⟨rfl, nn, rfl⟩
            try dsimp only
            refine hK.out _ _ (by first | assumption | go_keep) (fun hHeld => ?_)
            clear hK K
            try simp only [Act.put]
            refine wpAnyH_ready (rs := [5]) (by kernel_rfl) (by simp) ?_
            refine AllReadyH.cons rfl (fun K hK => ?_) ?_
            · skip
              go_simp
              refine (must_no _).mono ?_
              rintro e wy ⟨rfl, rfl⟩
              exact ⟨rfl, ended_err E3.out (grown_drewQ g1.out _)⟩
            exact AllReadyH.nil
          exact AllReadyH.nil
      · have E3 : Hid (normalizedP x (rs.map (·.2)) = .ok x) := by
          show _ = _
          rw [E0.out, show (rs.map (·.2)).all (fun y => y == (x.drop 1).take 1) = true from ?_]
          · rfl
          · rw [List.all_eq_true]
            intro y hy
            obtain ⟨q, hq, rfl⟩ := List.mem_map.1 hy
            obtain ⟨j, hj, rfl⟩ := List.mem_iff_getElem.1 hq
            simpa using HL.out j hj (by omega)
        go_wp2
        go_ret
        exact ended_ok E3.out HG.out ⟨⟨_, _, _⟩, rfl, HX.out.more HG.out⟩
  · have b2 : decide ((2 : Int) ≤ (x.length : Int)) = false := by simp; omega
    have E1 : Hid (normalizedP x (rs.map (·.2)) = .error 4) := by show _ = _; unfold normalizedP; simp [mustP, h2]; rfl
    have z0 := Z0.out
    clear h2
    go_enter Tryz.func127, Tryz.ntmps127
    go_wp2_with (first | (go_at_call 71; refine (must_no _).mono ?_; rintro e w' ⟨rfl, rfl⟩) | fail)
    exact ⟨rfl, ended_err E1.out (grown_refl _)⟩
end Go.Proofs.YteigfipgmghgmaaGreatDoor
