/- Products with turning, and normalization, by the walk (mkIGemm.py). -/
import Derived.Test.YteigfipgmghgmaaGreatDoorIProd
import Derived.Test.YteigfipgmghgmaaGreatDoorIEq
import Derived.Test.YteigfipgmghgmaaGreatDoorITy
namespace Go.Proofs.YteigfipgmghgmaaGreatDoor
open Go.RowKit

theorem turnedP_len {x r : List Int} {t : Int} (h : turnedP x t = .ok r) : r.length ≤ 6 := by
  unfold turnedP mustP at h
  by_cases hl : x.length = 2
  · rw [if_pos (by simpa using hl)] at h
    cases hk : isOnP t with
    | error c => rw [hk] at h; simp [bind, Except.bind] at h
    | ok on =>
      rw [hk] at h
      have e : (if on = true then [x.getD 1 0, x.getD 0 0] else x) = r := by simpa [bind, Except.bind, pure, Except.pure] using h
      rw [← e]
      split
      · simp
      · omega
  · rw [if_neg (by simpa using hl)] at h
    simp [bind, Except.bind] at h

set_option maxRecDepth 100000 in
set_option maxHeartbeats 8000000 in
theorem gemm_any (n : Nod) (A : At) (u : Sl) (p0 p1 : Val × List Int) (rest : List (Val × List Int)) (w : World) (hn : NodeOk w n A) (hv : ValsIn w u.v (p0 :: p1 :: rest)) (hr : rest.length ≤ 1) : Calls Tryz.prog 124 #[nval n, .slice u.a u.n u.c] w (Ended w (gemmP A p0.2 p1.2 (rest.head?.map (·.2))) DimsQ) := by
  obtain ⟨xa, xc, e1, q1, q2, q3⟩ := hv.vals.form
  rw [List.length_map] at e1 q1 q3
  obtain ⟨ua, un, uc⟩ := u
  simp only [Sl.v, Value.slice.injEq] at e1
  obtain ⟨rfl, rfl, rfl⟩ := e1
  have HV := hide hv
  obtain ⟨b, off, rfl⟩ := hv.vals.addr (k := 0) (by simp)
  obtain ⟨-, z0⟩ := hv.at 0 (by simp)
  obtain ⟨-, z1⟩ := hv.at 1 (by simp)
  rw [Nat.zero_mul, Nat.add_zero] at z0
  rw [Nat.one_mul] at z1
  simp only [List.getElem_cons_zero, List.getElem_cons_succ] at z0 z1
  have HX := hide (hv.dims p0 (by simp))
  have HY := hide (hv.dims p1 (by simp))
  obtain ⟨⟨pn0, pt0, d0⟩, x⟩ := p0
  obtain ⟨⟨pn1, pt1, d1⟩, y⟩ := p1
  simp only at z0 z1 HX HY ⊢
  obtain ⟨m, hm⟩ : ∃ m, m = (((⟨pn0, pt0, d0⟩, x) :: (⟨pn1, pt1, d1⟩, y) :: rest) : List (Val × List Int)).length := ⟨_, rfl⟩
  have HM : Hid (m = rest.length + 2) := by show _ = _; rw [hm]; simp
  have hm2 : 2 ≤ m := by have := HM.out; omega
  have hm0 : 0 < m := by omega
  have hm1 : 1 < m := by omega
  have hm1' : (1 : Int) < (m : Int) := by omega
  have hm0' : (0 : Int) < (m : Int) := by omega
  rw [← hm]
  rw [← hm] at q1 q3
  have Z0 := hide z0
  have Z1 := hide z1
  clear hv hm z0 z1
  have NK := hide hn
  obtain ⟨op, nam, ⟨ia, il, ic⟩, out, ⟨ao, al, cap⟩⟩ := n
  unfold nval
  simp only
  obtain ⟨w0, hw0⟩ : ∃ w0, w0 = w.alloc (.cells #[.string op, .string nam, .slice ia il ic, .string out, .slice ao al cap] 25) := ⟨_, rfl⟩
  have g0 : Hid (w.grownBy w0 none) := by show w.grownBy w0 none; rw [hw0]; exact grown_new _ _
  have hb0 := heap_alloc_new w (.cells #[.string op, .string nam, .slice ia il ic, .string out, .slice ao al cap] 25)
  rw [← hw0] at hb0
  have BX : Hid (∀ wx, w0.grownBy wx none → wx.heap[w.heap.size]? = some (.cells #[.string op, .string nam, .slice ia il ic, .string out, .slice ao al cap] 25 (0, 0))) := fun wx hg => box_kept hb0 hg
  clear hb0 hn
  have IA := hide (fun (wx : World) (hg : w0.grownBy wx none) => nint_any ⟨op, nam, ⟨ia, il, ic⟩, out, ⟨ao, al, cap⟩⟩ A ⟨#[116, 114, 97, 110, 115, 65]⟩ 0 wx (NK.out.more (grown_trans g0.out hg)))
  have IB := hide (fun (wx : World) (hg : w0.grownBy wx none) => nint_any ⟨op, nam, ⟨ia, il, ic⟩, out, ⟨ao, al, cap⟩⟩ A ⟨#[116, 114, 97, 110, 115, 66]⟩ 0 wx (NK.out.more (grown_trans g0.out hg)))
  unfold nval at IA IB
  simp only at IA IB
  obtain ⟨ta, hta⟩ : ∃ z, z = A.int ⟨#[116, 114, 97, 110, 115, 65]⟩ 0 := ⟨_, rfl⟩
  obtain ⟨tb, htb⟩ : ∃ z, z = A.int ⟨#[116, 114, 97, 110, 115, 66]⟩ 0 := ⟨_, rfl⟩
  rw [← hta] at IA
  rw [← htb] at IB
  have E : Hid (gemmP A x y (rest.head?.map (·.2)) = (turnedP x ta).bind (fun a => (turnedP y tb).bind (fun b => (productP a b).bind (fun dims => match rest.head?.map (·.2) with
    | none => .ok dims
    | some c => (spreadP dims c).bind (fun s => (mustP (decide (s = dims))).bind (fun _ => .ok dims)))))) := by show _ = _; rw [hta, htb]; unfold gemmP; cases rest.head?.map (·.2) <;> rfl
  have TA := hide (fun (wx : World) (hg : w0.grownBy wx none) => turned_any d0 x ta wx (HX.out.more (grown_trans g0.out hg)))
  have TB := hide (fun (wx : World) (hg : w0.grownBy wx none) => turned_any d1 y tb wx (HY.out.more (grown_trans g0.out hg)))
  have D0 : Hid (∀ wx, w0.grownBy wx none → wx.cell? ⟨b, off + 2, none⟩ = some (.slice d0.a d0.n d0.c)) := fun wx hg => cell_still Z0.out (grown_trans g0.out hg)
  have D1 : Hid (∀ wx, w0.grownBy wx none → wx.cell? ⟨b, off + 3 + 2, none⟩ = some (.slice d1.a d1.n d1.c)) := fun wx hg => cell_still Z1.out (grown_trans g0.out hg)
  have zk := D0.out w0 (grown_refl _)
  obtain ⟨n0, n1, n2, n3, n4⟩ := nod_cells (n := ⟨op, nam, ⟨ia, il, ic⟩, out, ⟨ao, al, cap⟩⟩) (BX.out w0 (grown_refl _))
  clear hta htb
  go_enter Tryz.func124, Tryz.ntmps124
  go_wp2_with fail
  rw [← hw0]
  clear hw0
  cases hk : turnedP x ta with
  | error c =>
    rw [hk] at TA
    have E0 : Hid (gemmP A x y (rest.head?.map (·.2)) = .error c) := by show _ = _; rw [E.out, hk]; rfl
    clear hk
    refine wp_region_held_drew (S := (fun w' => w'.cell? ⟨w.heap.size, 0, none⟩ = some (.string op) ∧ w'.cell? ⟨w.heap.size, 1, none⟩ = some (.string nam) ∧ w'.cell? ⟨w.heap.size, 2, none⟩ = some (.slice ia il ic) ∧ w'.cell? ⟨w.heap.size, 3, none⟩ = some (.string out) ∧ w'.cell? ⟨w.heap.size, 4, none⟩ = some (.slice ao al cap) ∧ w'.cell? ⟨b, off + 2, none⟩ = some (.slice d0.a d0.n d0.c))) (by kernel_rfl) (by go_keep) (fun hHeld => ?_)
    refine wpAnyH_take (i := 0) (v := ?_) rfl (by kernel_rfl) (by kernel_rfl) (by kernel_rfl) (fun _ _ _ h => h) (Or.inl ⟨by rfl, ?_⟩) (by assumption) ?_
    rotate_left 1
    · (intro w hSw; (try dsimp only at hSw); go_simp; (try with_reducible rfl))
    try simp only [Act.put]
    refine wpAnyH_take (i := 1) (v := ?_) rfl (by kernel_rfl) (by kernel_rfl) (by kernel_rfl) (fun _ _ _ h => h) (Or.inl ⟨by rfl, ?_⟩) (by assumption) ?_
    rotate_left 1
    · (intro w hSw; (try dsimp only at hSw); go_simp; (try with_reducible rfl))
    try simp only [Act.put]
    refine wpAnyH_take (i := 2) (v := ?_) rfl (by kernel_rfl) (by kernel_rfl) (by kernel_rfl) (fun _ _ _ h => h) (Or.inl ⟨by rfl, ?_⟩) (by assumption) ?_
    rotate_left 1
    · (intro w hSw; (try dsimp only at hSw); go_simp; (try with_reducible rfl))
    try simp only [Act.put]
    refine wpAnyH_take (i := 3) (v := ?_) rfl (by kernel_rfl) (by kernel_rfl) (by kernel_rfl) (fun _ _ _ h => h) (Or.inl ⟨by rfl, ?_⟩) (by assumption) ?_
    rotate_left 1
    · (intro w hSw; (try dsimp only at hSw); go_simp; (try with_reducible rfl))
    try simp only [Act.put]
    refine wpAnyH_take (i := 4) (v := ?_) rfl (by kernel_rfl) (by kernel_rfl) (by kernel_rfl) (fun _ _ _ h => h) (Or.inl ⟨by rfl, ?_⟩) (by assumption) ?_
    rotate_left 1
    · (intro w hSw; (try dsimp only at hSw); go_simp; (try with_reducible rfl))
    try simp only [Act.put]
    refine wpAnyH_ready (rs := [5]) (by kernel_rfl) (by simp) ?_
    refine AllReadyH.cons rfl (fun K hK => ?_) ?_
    · skip
      go_simp
      refine (IA.out _ (grown_drew (grown_refl _))).mono ?_
      rintro e v0 ⟨rfl, hgi0⟩
      have gi0 : w0.grownBy v0 none := grown_trans (grown_drew (grown_refl _)) hgi0
      obtain ⟨n0, n1, n2, n3, n4⟩ := nod_cells (n := ⟨op, nam, ⟨ia, il, ic⟩, out, ⟨ao, al, cap⟩⟩) (BX.out v0 (gi0))
      have zk := D0.out v0 gi0
      try dsimp only
      refine hK.out _ _ (by first | assumption | go_keep) (fun hHeld => ?_)
      clear hK K
      try simp only [Act.put]
      refine wpAnyH_ready (rs := [6]) (by kernel_rfl) (by simp) ?_
      refine AllReadyH.cons rfl (fun K hK => ?_) ?_
      · skip
        go_simp
        refine (TA.out _ gi0).mono ?_
        rintro e wy ⟨hg, rfl⟩
        exact ⟨rfl, ended_err E0.out (grown_trans (grown_trans g0.out gi0) hg)⟩
      exact AllReadyH.nil
    exact AllReadyH.nil
  | ok a =>
    rw [hk] at TA
    have AL := hide (turnedP_len hk)
    have EA : Hid (gemmP A x y (rest.head?.map (·.2)) = (turnedP y tb).bind (fun b => (productP a b).bind (fun dims => match rest.head?.map (·.2) with
      | none => .ok dims
      | some c => (spreadP dims c).bind (fun s => (mustP (decide (s = dims))).bind (fun _ => .ok dims))))) := by show _ = _; rw [E.out, hk]; rfl
    clear hk E
    refine wp_region_held_drew (S := (fun w' => w'.cell? ⟨w.heap.size, 0, none⟩ = some (.string op) ∧ w'.cell? ⟨w.heap.size, 1, none⟩ = some (.string nam) ∧ w'.cell? ⟨w.heap.size, 2, none⟩ = some (.slice ia il ic) ∧ w'.cell? ⟨w.heap.size, 3, none⟩ = some (.string out) ∧ w'.cell? ⟨w.heap.size, 4, none⟩ = some (.slice ao al cap) ∧ w'.cell? ⟨b, off + 2, none⟩ = some (.slice d0.a d0.n d0.c))) (by kernel_rfl) (by go_keep) (fun hHeld => ?_)
    refine wpAnyH_take (i := 0) (v := ?_) rfl (by kernel_rfl) (by kernel_rfl) (by kernel_rfl) (fun _ _ _ h => h) (Or.inl ⟨by rfl, ?_⟩) (by assumption) ?_
    rotate_left 1
    · (intro w hSw; (try dsimp only at hSw); go_simp; (try with_reducible rfl))
    try simp only [Act.put]
    refine wpAnyH_take (i := 1) (v := ?_) rfl (by kernel_rfl) (by kernel_rfl) (by kernel_rfl) (fun _ _ _ h => h) (Or.inl ⟨by rfl, ?_⟩) (by assumption) ?_
    rotate_left 1
    · (intro w hSw; (try dsimp only at hSw); go_simp; (try with_reducible rfl))
    try simp only [Act.put]
    refine wpAnyH_take (i := 2) (v := ?_) rfl (by kernel_rfl) (by kernel_rfl) (by kernel_rfl) (fun _ _ _ h => h) (Or.inl ⟨by rfl, ?_⟩) (by assumption) ?_
    rotate_left 1
    · (intro w hSw; (try dsimp only at hSw); go_simp; (try with_reducible rfl))
    try simp only [Act.put]
    refine wpAnyH_take (i := 3) (v := ?_) rfl (by kernel_rfl) (by kernel_rfl) (by kernel_rfl) (fun _ _ _ h => h) (Or.inl ⟨by rfl, ?_⟩) (by assumption) ?_
    rotate_left 1
    · (intro w hSw; (try dsimp only at hSw); go_simp; (try with_reducible rfl))
    try simp only [Act.put]
    refine wpAnyH_take (i := 4) (v := ?_) rfl (by kernel_rfl) (by kernel_rfl) (by kernel_rfl) (fun _ _ _ h => h) (Or.inl ⟨by rfl, ?_⟩) (by assumption) ?_
    rotate_left 1
    · (intro w hSw; (try dsimp only at hSw); go_simp; (try with_reducible rfl))
    try simp only [Act.put]
    refine wpAnyH_ready (rs := [5]) (by kernel_rfl) (by simp) ?_
    refine AllReadyH.cons rfl (fun K hK => ?_) ?_
    · skip
      go_simp
      refine (IA.out _ (grown_drew (grown_refl _))).mono ?_
      rintro e v0 ⟨rfl, hgi0⟩
      have gi0 : w0.grownBy v0 none := grown_trans (grown_drew (grown_refl _)) hgi0
      obtain ⟨n0, n1, n2, n3, n4⟩ := nod_cells (n := ⟨op, nam, ⟨ia, il, ic⟩, out, ⟨ao, al, cap⟩⟩) (BX.out v0 (gi0))
      have zk := D0.out v0 gi0
      try dsimp only
      refine hK.out _ _ (by first | assumption | go_keep) (fun hHeld => ?_)
      clear hK K
      try simp only [Act.put]
      refine wpAnyH_ready (rs := [6]) (by kernel_rfl) (by simp) ?_
      refine AllReadyH.cons rfl (fun K hK => ?_) ?_
      · skip
        go_simp
        refine (TA.out _ gi0).mono ?_
        rintro e t0 ⟨hgt0, v, rfl, ⟨s0a, s0n, s0c⟩, rfl, hs0⟩
        have gt0 : w0.grownBy t0 none := grown_trans gi0 hgt0
        obtain ⟨n0, n1, n2, n3, n4⟩ := nod_cells (n := ⟨op, nam, ⟨ia, il, ic⟩, out, ⟨ao, al, cap⟩⟩) (BX.out t0 (gt0))
        have zk := D0.out t0 gt0
        try dsimp only
        refine hK.out _ _ (by first | assumption | go_keep) (fun hHeld => ?_)
        clear hK K
        try simp only [Act.put]
        refine wpAnyH_take (i := 7) (v := ?_) rfl (by kernel_rfl) (by kernel_rfl) (by kernel_rfl) (fun _ _ _ h => h) (Or.inl ⟨by rfl, ?_⟩) (by assumption) ?_
        rotate_left 1
        · (intro w hSw; (try dsimp only at hSw); go_simp; (try with_reducible rfl))
        try simp only [Act.put]
        refine wpAnyH_done (by kernel_rfl) ?_ _
        try go_simp
        simp only [Sl.v]
        have zk := D1.out t0 gt0
        go_wp2_with fail
        cases hk1 : turnedP y tb with
        | error c =>
          rw [hk1] at TB
          have E1 : Hid (gemmP A x y (rest.head?.map (·.2)) = .error c) := by show _ = _; rw [EA.out, hk1]; rfl
          clear hk1
          refine wp_region_held_drew (S := (fun w' => w'.cell? ⟨w.heap.size, 0, none⟩ = some (.string op) ∧ w'.cell? ⟨w.heap.size, 1, none⟩ = some (.string nam) ∧ w'.cell? ⟨w.heap.size, 2, none⟩ = some (.slice ia il ic) ∧ w'.cell? ⟨w.heap.size, 3, none⟩ = some (.string out) ∧ w'.cell? ⟨w.heap.size, 4, none⟩ = some (.slice ao al cap) ∧ w'.cell? ⟨b, off + 3 + 2, none⟩ = some (.slice d1.a d1.n d1.c))) (by kernel_rfl) (by go_keep) (fun hHeld => ?_)
          refine wpAnyH_take (i := 0) (v := ?_) rfl (by kernel_rfl) (by kernel_rfl) (by kernel_rfl) (fun _ _ _ h => h) (Or.inl ⟨by rfl, ?_⟩) (by assumption) ?_
          rotate_left 1
          · (intro w hSw; (try dsimp only at hSw); go_simp; (try with_reducible rfl))
          try simp only [Act.put]
          refine wpAnyH_take (i := 1) (v := ?_) rfl (by kernel_rfl) (by kernel_rfl) (by kernel_rfl) (fun _ _ _ h => h) (Or.inl ⟨by rfl, ?_⟩) (by assumption) ?_
          rotate_left 1
          · (intro w hSw; (try dsimp only at hSw); go_simp; (try with_reducible rfl))
          try simp only [Act.put]
          refine wpAnyH_take (i := 2) (v := ?_) rfl (by kernel_rfl) (by kernel_rfl) (by kernel_rfl) (fun _ _ _ h => h) (Or.inl ⟨by rfl, ?_⟩) (by assumption) ?_
          rotate_left 1
          · (intro w hSw; (try dsimp only at hSw); go_simp; (try with_reducible rfl))
          try simp only [Act.put]
          refine wpAnyH_take (i := 3) (v := ?_) rfl (by kernel_rfl) (by kernel_rfl) (by kernel_rfl) (fun _ _ _ h => h) (Or.inl ⟨by rfl, ?_⟩) (by assumption) ?_
          rotate_left 1
          · (intro w hSw; (try dsimp only at hSw); go_simp; (try with_reducible rfl))
          try simp only [Act.put]
          refine wpAnyH_take (i := 4) (v := ?_) rfl (by kernel_rfl) (by kernel_rfl) (by kernel_rfl) (fun _ _ _ h => h) (Or.inl ⟨by rfl, ?_⟩) (by assumption) ?_
          rotate_left 1
          · (intro w hSw; (try dsimp only at hSw); go_simp; (try with_reducible rfl))
          try simp only [Act.put]
          refine wpAnyH_ready (rs := [5]) (by kernel_rfl) (by simp) ?_
          refine AllReadyH.cons rfl (fun K hK => ?_) ?_
          · skip
            go_simp
            refine (IB.out _ (grown_drew (gt0))).mono ?_
            rintro e v1 ⟨rfl, hgi1⟩
            have gi1 : w0.grownBy v1 none := grown_trans (grown_drew (gt0)) hgi1
            obtain ⟨n0, n1, n2, n3, n4⟩ := nod_cells (n := ⟨op, nam, ⟨ia, il, ic⟩, out, ⟨ao, al, cap⟩⟩) (BX.out v1 (gi1))
            have zk := D1.out v1 gi1
            try dsimp only
            refine hK.out _ _ (by first | assumption | go_keep) (fun hHeld => ?_)
            clear hK K
            try simp only [Act.put]
            refine wpAnyH_ready (rs := [6]) (by kernel_rfl) (by simp) ?_
            refine AllReadyH.cons rfl (fun K hK => ?_) ?_
            · skip
              go_simp
              refine (TB.out _ gi1).mono ?_
              rintro e wy ⟨hg, rfl⟩
              exact ⟨rfl, ended_err E1.out (grown_trans (grown_trans g0.out gi1) hg)⟩
            exact AllReadyH.nil
          exact AllReadyH.nil
        | ok b' =>
          rw [hk1] at TB
          have BL := hide (turnedP_len hk1)
          have EB : Hid (gemmP A x y (rest.head?.map (·.2)) = (productP a b').bind (fun dims => match rest.head?.map (·.2) with
            | none => .ok dims
            | some c => (spreadP dims c).bind (fun s => (mustP (decide (s = dims))).bind (fun _ => .ok dims)))) := by show _ = _; rw [EA.out, hk1]; rfl
          clear hk1
          refine wp_region_held_drew (S := (fun w' => w'.cell? ⟨w.heap.size, 0, none⟩ = some (.string op) ∧ w'.cell? ⟨w.heap.size, 1, none⟩ = some (.string nam) ∧ w'.cell? ⟨w.heap.size, 2, none⟩ = some (.slice ia il ic) ∧ w'.cell? ⟨w.heap.size, 3, none⟩ = some (.string out) ∧ w'.cell? ⟨w.heap.size, 4, none⟩ = some (.slice ao al cap) ∧ w'.cell? ⟨b, off + 3 + 2, none⟩ = some (.slice d1.a d1.n d1.c))) (by kernel_rfl) (by go_keep) (fun hHeld => ?_)
          refine wpAnyH_take (i := 0) (v := ?_) rfl (by kernel_rfl) (by kernel_rfl) (by kernel_rfl) (fun _ _ _ h => h) (Or.inl ⟨by rfl, ?_⟩) (by assumption) ?_
          rotate_left 1
          · (intro w hSw; (try dsimp only at hSw); go_simp; (try with_reducible rfl))
          try simp only [Act.put]
          refine wpAnyH_take (i := 1) (v := ?_) rfl (by kernel_rfl) (by kernel_rfl) (by kernel_rfl) (fun _ _ _ h => h) (Or.inl ⟨by rfl, ?_⟩) (by assumption) ?_
          rotate_left 1
          · (intro w hSw; (try dsimp only at hSw); go_simp; (try with_reducible rfl))
          try simp only [Act.put]
          refine wpAnyH_take (i := 2) (v := ?_) rfl (by kernel_rfl) (by kernel_rfl) (by kernel_rfl) (fun _ _ _ h => h) (Or.inl ⟨by rfl, ?_⟩) (by assumption) ?_
          rotate_left 1
          · (intro w hSw; (try dsimp only at hSw); go_simp; (try with_reducible rfl))
          try simp only [Act.put]
          refine wpAnyH_take (i := 3) (v := ?_) rfl (by kernel_rfl) (by kernel_rfl) (by kernel_rfl) (fun _ _ _ h => h) (Or.inl ⟨by rfl, ?_⟩) (by assumption) ?_
          rotate_left 1
          · (intro w hSw; (try dsimp only at hSw); go_simp; (try with_reducible rfl))
          try simp only [Act.put]
          refine wpAnyH_take (i := 4) (v := ?_) rfl (by kernel_rfl) (by kernel_rfl) (by kernel_rfl) (fun _ _ _ h => h) (Or.inl ⟨by rfl, ?_⟩) (by assumption) ?_
          rotate_left 1
          · (intro w hSw; (try dsimp only at hSw); go_simp; (try with_reducible rfl))
          try simp only [Act.put]
          refine wpAnyH_ready (rs := [5]) (by kernel_rfl) (by simp) ?_
          refine AllReadyH.cons rfl (fun K hK => ?_) ?_
          · skip
            go_simp
            refine (IB.out _ (grown_drew (gt0))).mono ?_
            rintro e v1 ⟨rfl, hgi1⟩
            have gi1 : w0.grownBy v1 none := grown_trans (grown_drew (gt0)) hgi1
            obtain ⟨n0, n1, n2, n3, n4⟩ := nod_cells (n := ⟨op, nam, ⟨ia, il, ic⟩, out, ⟨ao, al, cap⟩⟩) (BX.out v1 (gi1))
            have zk := D1.out v1 gi1
            try dsimp only
            refine hK.out _ _ (by first | assumption | go_keep) (fun hHeld => ?_)
            clear hK K
            try simp only [Act.put]
            refine wpAnyH_ready (rs := [6]) (by kernel_rfl) (by simp) ?_
            refine AllReadyH.cons rfl (fun K hK => ?_) ?_
            · skip
              go_simp
              refine (TB.out _ gi1).mono ?_
              rintro e t1 ⟨hgt1, v, rfl, ⟨s1a, s1n, s1c⟩, rfl, hs1⟩
              have gt1 : w0.grownBy t1 none := grown_trans gi1 hgt1
              obtain ⟨n0, n1, n2, n3, n4⟩ := nod_cells (n := ⟨op, nam, ⟨ia, il, ic⟩, out, ⟨ao, al, cap⟩⟩) (BX.out t1 (gt1))
              have zk := D1.out t1 gt1
              try dsimp only
              refine hK.out _ _ (by first | assumption | go_keep) (fun hHeld => ?_)
              clear hK K
              try simp only [Act.put]
              refine wpAnyH_take (i := 7) (v := ?_) rfl (by kernel_rfl) (by kernel_rfl) (by kernel_rfl) (fun _ _ _ h => h) (Or.inl ⟨by rfl, ?_⟩) (by assumption) ?_
              rotate_left 1
              · (intro w hSw; (try dsimp only at hSw); go_simp; (try with_reducible rfl))
              try simp only [Act.put]
              refine wpAnyH_done (by kernel_rfl) ?_ _
              try go_simp
              simp only [Sl.v]
              have g01 : t0.grownBy t1 none := grown_trans (grown_drew (grown_refl _)) (grown_trans hgi1 hgt1)
              have PR := hide (product_any ⟨s0a, s0n, s0c⟩ ⟨s1a, s1n, s1c⟩ a b' t1 (hs0.more g01) hs1 AL.out BL.out)
              simp only at PR
              have GT := hide (grown_trans g0.out gt1)
              clear zk n0 n1 n2 n3 n4 hHeld
              cases hk2 : productP a b' with
              | error c =>
                rw [hk2] at PR
                have E2 : Hid (gemmP A x y (rest.head?.map (·.2)) = .error c) := by show _ = _; rw [EB.out, hk2]; rfl
                clear hk2
                go_wp2_with (first | (go_at_call 123; refine PR.out.mono ?_; rintro e w' ⟨hg, rfl⟩) | fail)
                exact ⟨rfl, ended_err E2.out (grown_trans GT.out hg)⟩
              | ok dims =>
                rw [hk2] at PR
                have E2 : Hid (gemmP A x y (rest.head?.map (·.2)) = match rest.head?.map (·.2) with
                  | none => .ok dims
                  | some c => (spreadP dims c).bind (fun s => (mustP (decide (s = dims))).bind (fun _ => .ok dims))) := by show _ = _; rw [EB.out, hk2]; rfl
                clear hk2
                cases rest with
                | nil =>
                  have b3 : ((m : Int) == 3) = false := by have := HM.out; simp at this; rw [this]; decide
                  have E3 : Hid (gemmP A x y (([] : List (Val × List Int)).head?.map (·.2)) = .ok dims) := E2.out
                  go_wp2_with (first | (go_at_call 123; refine PR.out.mono ?_; rintro e w' ⟨hg, v, rfl, ⟨da, dn, dc⟩, rfl, hd⟩; simp only [Sl.v]) | fail)
                  go_ret
                  exact ended_ok E3.out (grown_trans GT.out hg) ⟨⟨da, dn, dc⟩, rfl, hd⟩
                | cons p2 r2 =>
                  have hm3 : m = 3 := by have := HM.out; simp at this hr; rw [this, hr]; rfl
                  have b3 : ((m : Int) == 3) = true := by rw [hm3]; decide
                  obtain ⟨-, z2⟩ := HV.out.at 2 (by simp)
                  simp only [List.getElem_cons_zero, List.getElem_cons_succ] at z2
                  have HZ := hide (HV.out.dims p2 (by simp))
                  obtain ⟨⟨pn2, pt2, d2⟩, z⟩ := p2
                  simp only at z2 HZ
                  have z2' : w.cell? ⟨b, off + 6 + 2, none⟩ = some (.slice d2.a d2.n d2.c) := z2
                  have E3 : Hid (gemmP A x y ((((⟨pn2, pt2, d2⟩, z) : Val × List Int) :: r2).head?.map (·.2)) = (spreadP dims z).bind (fun s => (mustP (decide (s = dims))).bind (fun _ => .ok dims))) := E2.out
                  have Z2 := hide z2'
                  have hi2 : (2 : Int) < (m : Int) := by rw [hm3]; decide
                  have hi3 : 2 < m := by omega
                  clear z2 z2' hm3
                  go_wp2_with (first | (go_at_call 123; refine PR.out.mono ?_; rintro e w5 ⟨hg5, v, rfl, ⟨da, dn, dc⟩, rfl, hd⟩; simp only [Sl.v]; have z5 := cell_still Z2.out (grown_trans GT.out hg5)) | fail)
                  have G5 := hide (grown_trans GT.out hg5)
                  have SP := hide (spread_any ⟨da, dn, dc⟩ d2 dims z w5 hd (HZ.out.more G5.out))
                  simp only at SP
                  have HD := hide hd
                  clear hg5 hd z5
                  cases hk3 : spreadP dims z with
                  | error c =>
                    rw [hk3] at SP
                    have E4 : Hid (gemmP A x y ((((⟨pn2, pt2, d2⟩, z) : Val × List Int) :: r2).head?.map (·.2)) = .error c) := by show _ = _; rw [E3.out, hk3]; rfl
                    clear hk3
                    refine SP.out.mono ?_
                    rintro e w' ⟨hg, rfl⟩
                    exact ⟨rfl, ended_err E4.out (grown_trans G5.out hg)⟩
                  | ok s =>
                    rw [hk3] at SP
                    have E4 : Hid (gemmP A x y ((((⟨pn2, pt2, d2⟩, z) : Val × List Int) :: r2).head?.map (·.2)) = (mustP (decide (s = dims))).bind (fun _ => .ok dims)) := by show _ = _; rw [E3.out, hk3]; rfl
                    clear hk3
                    refine SP.out.mono ?_
                    rintro e w6 ⟨hg6, v, rfl, ⟨ea, en, ec⟩, rfl, hown⟩
                    simp only [Sl.v]
                    have G6 := hide (grown_trans G5.out hg6)
                    have EQ := hide (equal_any ⟨ea, en, ec⟩ ⟨da, dn, dc⟩ s dims w6 hown.ints (HD.out.more hg6))
                    simp only at EQ
                    have HD6 := hide (HD.out.more hg6)
                    clear hg6 hown
                    cases hk4 : decide (s = dims) with
                    | true =>
                      rw [hk4] at EQ
                      have E5 : Hid (gemmP A x y ((((⟨pn2, pt2, d2⟩, z) : Val × List Int) :: r2).head?.map (·.2)) = .ok dims) := by show _ = _; rw [E4.out, hk4]; rfl
                      clear hk4
                      go_wp2_with (first | (go_at_call 41; refine EQ.out.mono ?_; rintro e w7 ⟨rfl, nn, rfl⟩) | (go_at_call 71; refine (must_yes _).mono ?_; rintro e w' ⟨rfl, rfl⟩) | fail)
                      go_ret
                      exact ended_ok E5.out (grown_drewQ G6.out _) ⟨⟨da, dn, dc⟩, rfl, HD6.out.more (grown_drewQ (grown_refl _) _)⟩
                    | false =>
                      rw [hk4] at EQ
                      have E5 : Hid (gemmP A x y ((((⟨pn2, pt2, d2⟩, z) : Val × List Int) :: r2).head?.map (·.2)) = .error 4) := by show _ = _; rw [E4.out, hk4]; rfl
                      clear hk4
                      go_wp2_with (first | (go_at_call 41; refine EQ.out.mono ?_; rintro e w7 ⟨rfl, nn, rfl⟩) | (go_at_call 71; refine (must_no _).mono ?_; rintro e w' ⟨rfl, rfl⟩) | fail)
                      exact ⟨rfl, ended_err E5.out (grown_drewQ G6.out _)⟩
            exact AllReadyH.nil
          exact AllReadyH.nil
      exact AllReadyH.nil
    exact AllReadyH.nil
end Go.Proofs.YteigfipgmghgmaaGreatDoor
