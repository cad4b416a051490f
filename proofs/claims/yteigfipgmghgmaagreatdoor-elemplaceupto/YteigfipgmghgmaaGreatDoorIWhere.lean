/- Where: its type and its dims (mkIWhere.py). -/
import Derived.Test.YteigfipgmghgmaaGreatDoorITy2
import Derived.Test.YteigfipgmghgmaaGreatDoorIDim5
namespace Go.Proofs.YteigfipgmghgmaaGreatDoor
open Go.RowKit

/-- The values behind the first one, as Go cuts them. -/
theorem ValsIn.tail {w : World} {b off n c : Nat} {p : Val × List Int} {l : List (Val × List Int)} (h : ValsIn w (.slice (some ⟨b, off, none⟩) n c) (p :: l)) : ValsIn w (.slice (some ⟨b, off + 3, none⟩) l.length (c - 1)) l := by
  refine ⟨?_, fun q hq => h.dims q (List.mem_cons_of_mem _ hq)⟩
  obtain ⟨ao, cap, e, h1, h2, h3, h4, h5⟩ := h.vals
  cases e
  simp only [List.map_cons, List.length_cons] at h1 h3 h5
  refine ⟨_, c - 1, by rw [List.length_map], by omega, by omega, by omega, (fun h => by cases h), fun hp => ⟨b, off + 3, rfl, fun k hk j hj => ?_⟩⟩
  obtain ⟨b', off', e', hc⟩ := h5 (by omega)
  cases e'
  have := hc (k + 1) (by omega) j hj
  simp only [List.getElem_cons_succ] at this
  rw [show off + 3 + k * 3 + j = off + (k + 1) * 3 + j by omega]
  exact this

set_option maxRecDepth 100000 in
set_option maxHeartbeats 2000000 in
theorem type_Where (n : Nod) (A : At) (u : Sl) (p0 p1 p2 : Val × List Int) (w : World) (hop : n.op = ⟨#[87, 104, 101, 114, 101]⟩) (hn : NodeOk w n A) (hv : ValsIn w u.v [p0, p1, p2]) : Calls Tryz.prog 74 #[nval n, .slice u.a u.n u.c] w (Ended w ((mustP (p0.1.ty == 9)).bind (fun _ => sameP (tysOf [p1, p2]))) fun t v _ => v = .int .i64 t) := by
  obtain ⟨xa, xc, e1, q1, q2, q3⟩ := hv.vals.form
  simp only [List.map_cons, List.map_nil, List.length_cons, List.length_nil, Nat.zero_add, Nat.reduceAdd] at e1 q1 q3
  obtain ⟨ua, un, uc⟩ := u
  simp only [Sl.v, Value.slice.injEq] at e1
  obtain ⟨rfl, rfl, rfl⟩ := e1
  obtain ⟨b, off, rfl⟩ := hv.vals.addr (k := 0) (by simp)
  obtain ⟨z1, -⟩ := hv.at 0 (by simp)
  rw [Nat.zero_mul, Nat.add_zero] at z1
  simp only [List.getElem_cons_zero] at z1
  have HT := hide hv.tail
  simp only [List.length_cons, List.length_nil, Nat.zero_add, Nat.reduceAdd] at HT
  have Z1 := hide z1
  have huc : ¬ uc = 1 := by omega
  have huc2 : 1 ≤ uc := by omega
  obtain ⟨T, hT⟩ : ∃ T, T = p0.1.ty := ⟨_, rfl⟩
  rw [← hT] at Z1 ⊢
  clear hv z1 hT
  have NK := hide hn
  obtain ⟨op, nam, ⟨ia, il, ic⟩, out, ⟨ao, al, cap⟩⟩ := n
  unfold nval
  simp only
  obtain ⟨w0, hw0⟩ : ∃ w0, w0 = w.alloc (.cells #[.string op, .string nam, .slice ia il ic, .string out, .slice ao al cap] 25) := ⟨_, rfl⟩
  have g0 : Hid (w.grownBy w0 none) := by show w.grownBy w0 none; rw [hw0]; exact grown_new _ _
  have hb0 := heap_alloc_new w (.cells #[.string op, .string nam, .slice ia il ic, .string out, .slice ao al cap] 25)
  rw [← hw0] at hb0
  have BX : Hid (∀ wx, w0.grownBy wx none → wx.heap[w.heap.size]? = some (.cells #[.string op, .string nam, .slice ia il ic, .string out, .slice ao al cap] 25 (0, 0))) := fun wx hg => box_kept hb0 hg
  clear hb0 hn
  simp only at hop
  subst hop
  have z2 : (w.alloc (.cells #[.string ⟨#[87, 104, 101, 114, 101]⟩, .string nam, .slice ia il ic, .string out, .slice ao al cap] 25)).cell? ⟨b, off + 1, none⟩ = some (.int .i64 T) := cell_still Z1.out (grown_new _ _)
  have SM := hide (sametype_any ⟨some ⟨b, off + 3, none⟩, 2, uc - 1⟩ [p1, p2] w0 (HT.out.more g0.out) (by simp) (by simp))
  simp only at SM
  cases h1 : (T == 9) with
  | false =>
    go_enter Tryz.func74, Tryz.ntmps74
    go_wp2_with (first | (go_at_call 71; refine (must_no _).mono ?_; rintro e w' ⟨rfl, rfl⟩) | fail)
    exact ⟨rfl, ended_err (by rfl) (by rw [← hw0]; exact g0.out)⟩
  | true =>
    go_enter Tryz.func74, Tryz.ntmps74
    go_wp2_with (first | (go_at_call 71; refine (must_yes _).mono ?_; rintro e w' ⟨rfl, rfl⟩) | fail)
    rw [← hw0]
    clear hw0
    cases hk : sameP ([p1, p2].map (·.1.ty)) with
    | error c =>
      rw [hk] at SM
      have HK : Hid (sameP (tysOf [p1, p2]) = .error c) := hk
      clear hk
      refine SM.out.mono ?_
      rintro e w' ⟨hg, rfl⟩
      exact ⟨rfl, ended_err HK.out (grown_trans g0.out hg)⟩
    | ok t =>
      rw [hk] at SM
      have HK : Hid (sameP (tysOf [p1, p2]) = .ok t) := hk
      clear hk
      refine SM.out.mono ?_
      rintro e w' ⟨hg, v, rfl, rfl⟩
      go_wp2
      go_ret
      exact ended_ok HK.out (grown_trans g0.out hg) rfl

set_option maxRecDepth 100000 in
set_option maxHeartbeats 4000000 in
theorem dims_Where (n : Nod) (A : At) (u : Sl) (v0 v1 v2 : Val) (x y z : List Int) (w : World) (hop : n.op = ⟨#[87, 104, 101, 114, 101]⟩) (hn : NodeOk w n A) (hv : ValsIn w u.v [(v0, x), (v1, y), (v2, z)]) : Calls Tryz.prog 75 #[nval n, .slice u.a u.n u.c] w (Ended w ((spreadP x y).bind (fun l => spreadP l z)) DimsQ) := by
  obtain ⟨xa, xc, e1, q1, q2, q3⟩ := hv.vals.form
  simp only [List.map_cons, List.map_nil, List.length_cons, List.length_nil, Nat.zero_add, Nat.reduceAdd] at e1 q1 q3
  obtain ⟨ua, un, uc⟩ := u
  simp only [Sl.v, Value.slice.injEq] at e1
  obtain ⟨rfl, rfl, rfl⟩ := e1
  obtain ⟨b, off, rfl⟩ := hv.vals.addr (k := 0) (by simp)
  obtain ⟨-, z0⟩ := hv.at 0 (by simp)
  obtain ⟨-, z1⟩ := hv.at 1 (by simp)
  obtain ⟨-, z2⟩ := hv.at 2 (by simp)
  rw [Nat.zero_mul, Nat.add_zero] at z0
  simp only [List.getElem_cons_zero, List.getElem_cons_succ, Nat.one_mul, Nat.reduceMul] at z0 z1 z2
  have HX := hide (hv.dims (v0, x) (by simp))
  have HY := hide (hv.dims (v1, y) (by simp))
  have HZ := hide (hv.dims (v2, z) (by simp))
  obtain ⟨vn0, vt0, ⟨d0a, d0n, d0c⟩⟩ := v0
  obtain ⟨vn1, vt1, d1⟩ := v1
  obtain ⟨vn2, vt2, d2⟩ := v2
  simp only at z0 z1 z2 HX HY HZ
  have Z0 := hide z0
  have Z1 := hide z1
  have Z2 := hide z2
  clear hv z0 z1 z2
  have NK := hide hn
  obtain ⟨op, nam, ⟨ia, il, ic⟩, out, ⟨ao, al, cap⟩⟩ := n
  unfold nval
  simp only
  obtain ⟨w0, hw0⟩ : ∃ w0, w0 = w.alloc (.cells #[.string op, .string nam, .slice ia il ic, .string out, .slice ao al cap] 25) := ⟨_, rfl⟩
  have g0 : Hid (w.grownBy w0 none) := by show w.grownBy w0 none; rw [hw0]; exact grown_new _ _
  have hb0 := heap_alloc_new w (.cells #[.string op, .string nam, .slice ia il ic, .string out, .slice ao al cap] 25)
  rw [← hw0] at hb0
  have BX : Hid (∀ wx, w0.grownBy wx none → wx.heap[w.heap.size]? = some (.cells #[.string op, .string nam, .slice ia il ic, .string out, .slice ao al cap] 25 (0, 0))) := fun wx hg => box_kept hb0 hg
  clear hb0 hn
  simp only at hop
  subst hop
  have z0 : (w.alloc (.cells #[.string ⟨#[87, 104, 101, 114, 101]⟩, .string nam, .slice ia il ic, .string out, .slice ao al cap] 25)).cell? ⟨b, off + 2, none⟩ = some (.slice d0a d0n d0c) := cell_still Z0.out (grown_new _ _)
  have S1 := hide (fun (wx : World) (hg : w0.grownBy wx none) => spread_any ⟨d0a, d0n, d0c⟩ d1 x y wx (HX.out.more (grown_trans g0.out hg)) (HY.out.more (grown_trans g0.out hg)))
  simp only at S1
  have i1 : (1 : Int) < 3 := by decide
  have i2 : (2 : Int) < 3 := by decide
  go_enter Tryz.func75, Tryz.ntmps75
  go_wp2_with fail
  rw [← hw0]
  clear hw0 z0
  have k1 := cell_still Z1.out g0.out
  have k2 := cell_still Z2.out g0.out
  cases hk1 : spreadP x y with
  | error c =>
    rw [hk1] at S1
    have E1 : Hid ((spreadP x y).bind (fun l => spreadP l z) = .error c) := by show _ = _; rw [hk1]; rfl
    refine wp_region_held_drew (S := (fun w' => w'.cell? ⟨b, off + 3 + 2, none⟩ = some (.slice d1.a d1.n d1.c) ∧ w'.cell? ⟨b, off + 6 + 2, none⟩ = some (.slice d2.a d2.n d2.c))) (by kernel_rfl) (by go_keep) (fun hHeld => ?_)
    refine wpAnyH_take (i := 0) (v := ?_) rfl (by kernel_rfl) (by kernel_rfl) (by kernel_rfl) (fun _ _ _ h => h) (Or.inl ⟨by rfl, ?_⟩) (by assumption) ?_
    rotate_left 1
    · (intro w hSw; (try dsimp only at hSw); go_simp; (try with_reducible rfl))
    try simp only [Act.put]
    refine wpAnyH_take (i := 1) (v := ?_) rfl (by kernel_rfl) (by kernel_rfl) (by kernel_rfl) (fun _ _ _ h => h) (Or.inl ⟨by rfl, ?_⟩) (by assumption) ?_
    rotate_left 1
    · (intro w hSw; (try dsimp only at hSw); go_simp; (try with_reducible rfl))
    try simp only [Act.put]
    refine wpAnyH_take (i := 2) (v := ?_) rfl (by kernel_rfl) (by kernel_rfl) (by kernel_rfl) (fun _ _ _ h => h) (Or.inl ⟨by rfl, ?_⟩) (by assumption) ?_
    rotate_left 1
    · (intro w hSw; (try dsimp only at hSw); go_simp; (try with_reducible rfl))
    try simp only [Act.put]
    refine wpAnyH_take (i := 3) (v := ?_) rfl (by kernel_rfl) (by kernel_rfl) (by kernel_rfl) (fun _ _ _ h => h) (Or.inl ⟨by rfl, ?_⟩) (by assumption) ?_
    rotate_left 1
    · (intro w hSw; (try dsimp only at hSw); go_simp; (try with_reducible rfl))
    try simp only [Act.put]
    refine wpAnyH_take (i := 4) (v := ?_) rfl (by kernel_rfl) (by kernel_rfl) (by kernel_rfl) (fun _ _ _ h => h) (Or.inl ⟨by rfl, ?_⟩) (by assumption) ?_
    rotate_left 1
    · (intro w hSw; (try dsimp only at hSw); go_simp; (try with_reducible rfl))
    try simp only [Act.put]
    refine wpAnyH_take (i := 6) (v := ?_) rfl (by kernel_rfl) (by kernel_rfl) (by kernel_rfl) (fun _ _ _ h => h) (Or.inl ⟨by rfl, ?_⟩) (by assumption) ?_
    rotate_left 1
    · (intro w hSw; (try dsimp only at hSw); go_simp; (try with_reducible rfl))
    try simp only [Act.put]
    refine wpAnyH_take (i := 7) (v := ?_) rfl (by kernel_rfl) (by kernel_rfl) (by kernel_rfl) (fun _ _ _ h => h) (Or.inl ⟨by rfl, ?_⟩) (by assumption) ?_
    rotate_left 1
    · (intro w hSw; (try dsimp only at hSw); go_simp; (try with_reducible rfl))
    try simp only [Act.put]
    refine wpAnyH_take (i := 8) (v := ?_) rfl (by kernel_rfl) (by kernel_rfl) (by kernel_rfl) (fun _ _ _ h => h) (Or.inl ⟨by rfl, ?_⟩) (by assumption) ?_
    rotate_left 1
    · (intro w hSw; (try dsimp only at hSw); go_simp; (try with_reducible rfl))
    try simp only [Act.put]
    refine wpAnyH_take (i := 9) (v := ?_) rfl (by kernel_rfl) (by kernel_rfl) (by kernel_rfl) (fun _ _ _ h => h) (Or.inl ⟨by rfl, ?_⟩) (by assumption) ?_
    rotate_left 1
    · (intro w hSw; (try dsimp only at hSw); go_simp; (try with_reducible rfl))
    try simp only [Act.put]
    refine wpAnyH_ready (rs := [5]) (by kernel_rfl) (by simp) ?_
    refine AllReadyH.cons rfl (fun K hK => ?_) ?_
    · skip
      go_simp
      refine (S1.out _ (grown_drew (grown_refl _))).mono ?_
      rintro e wy ⟨hg, rfl⟩
      exact ⟨rfl, ended_err E1.out (grown_trans (grown_drew g0.out) hg)⟩
    exact AllReadyH.nil
  | ok l =>
    rw [hk1] at S1
    cases hk2 : spreadP l z with
    | error c =>
      have E2 : Hid ((spreadP x y).bind (fun l => spreadP l z) = .error c) := by show _ = _; rw [hk1]; exact hk2
      refine wp_region_held_drew (S := (fun w' => w'.cell? ⟨b, off + 3 + 2, none⟩ = some (.slice d1.a d1.n d1.c) ∧ w'.cell? ⟨b, off + 6 + 2, none⟩ = some (.slice d2.a d2.n d2.c))) (by kernel_rfl) (by go_keep) (fun hHeld => ?_)
      refine wpAnyH_take (i := 0) (v := ?_) rfl (by kernel_rfl) (by kernel_rfl) (by kernel_rfl) (fun _ _ _ h => h) (Or.inl ⟨by rfl, ?_⟩) (by assumption) ?_
      rotate_left 1
      · (intro w hSw; (try dsimp only at hSw); go_simp; (try with_reducible rfl))
      try simp only [Act.put]
      refine wpAnyH_take (i := 1) (v := ?_) rfl (by kernel_rfl) (by kernel_rfl) (by kernel_rfl) (fun _ _ _ h => h) (Or.inl ⟨by rfl, ?_⟩) (by assumption) ?_
      rotate_left 1
      · (intro w hSw; (try dsimp only at hSw); go_simp; (try with_reducible rfl))
      try simp only [Act.put]
      refine wpAnyH_take (i := 2) (v := ?_) rfl (by kernel_rfl) (by kernel_rfl) (by kernel_rfl) (fun _ _ _ h => h) (Or.inl ⟨by rfl, ?_⟩) (by assumption) ?_
      rotate_left 1
      · (intro w hSw; (try dsimp only at hSw); go_simp; (try with_reducible rfl))
      try simp only [Act.put]
      refine wpAnyH_take (i := 3) (v := ?_) rfl (by kernel_rfl) (by kernel_rfl) (by kernel_rfl) (fun _ _ _ h => h) (Or.inl ⟨by rfl, ?_⟩) (by assumption) ?_
      rotate_left 1
      · (intro w hSw; (try dsimp only at hSw); go_simp; (try with_reducible rfl))
      try simp only [Act.put]
      refine wpAnyH_take (i := 4) (v := ?_) rfl (by kernel_rfl) (by kernel_rfl) (by kernel_rfl) (fun _ _ _ h => h) (Or.inl ⟨by rfl, ?_⟩) (by assumption) ?_
      rotate_left 1
      · (intro w hSw; (try dsimp only at hSw); go_simp; (try with_reducible rfl))
      try simp only [Act.put]
      refine wpAnyH_take (i := 6) (v := ?_) rfl (by kernel_rfl) (by kernel_rfl) (by kernel_rfl) (fun _ _ _ h => h) (Or.inl ⟨by rfl, ?_⟩) (by assumption) ?_
      rotate_left 1
      · (intro w hSw; (try dsimp only at hSw); go_simp; (try with_reducible rfl))
      try simp only [Act.put]
      refine wpAnyH_take (i := 7) (v := ?_) rfl (by kernel_rfl) (by kernel_rfl) (by kernel_rfl) (fun _ _ _ h => h) (Or.inl ⟨by rfl, ?_⟩) (by assumption) ?_
      rotate_left 1
      · (intro w hSw; (try dsimp only at hSw); go_simp; (try with_reducible rfl))
      try simp only [Act.put]
      refine wpAnyH_take (i := 8) (v := ?_) rfl (by kernel_rfl) (by kernel_rfl) (by kernel_rfl) (fun _ _ _ h => h) (Or.inl ⟨by rfl, ?_⟩) (by assumption) ?_
      rotate_left 1
      · (intro w hSw; (try dsimp only at hSw); go_simp; (try with_reducible rfl))
      try simp only [Act.put]
      refine wpAnyH_take (i := 9) (v := ?_) rfl (by kernel_rfl) (by kernel_rfl) (by kernel_rfl) (fun _ _ _ h => h) (Or.inl ⟨by rfl, ?_⟩) (by assumption) ?_
      rotate_left 1
      · (intro w hSw; (try dsimp only at hSw); go_simp; (try with_reducible rfl))
      try simp only [Act.put]
      refine wpAnyH_ready (rs := [5]) (by kernel_rfl) (by simp) ?_
      refine AllReadyH.cons rfl (fun K hK => ?_) ?_
      · skip
        go_simp
        refine (S1.out _ (grown_drew (grown_refl _))).mono ?_
        rintro e w1 ⟨hg1, v, rfl, ⟨s1, s2, s3⟩, rfl, hs⟩
        have g1 : w.grownBy w1 none := grown_trans (grown_drew g0.out) hg1
        have k1 := cell_still Z1.out g1
        have k2 := cell_still Z2.out g1
        have C2 := spread_any ⟨s1, s2, s3⟩ d2 l z w1 hs.ints (HZ.out.more g1)
        rw [hk2] at C2
        try dsimp only
        refine hK.out _ _ (by first | assumption | go_keep) (fun hHeld => ?_)
        clear hK K
        try simp only [Act.put]
        refine wpAnyH_ready (rs := [10]) (by kernel_rfl) (by simp) ?_
        refine AllReadyH.cons rfl (fun K hK => ?_) ?_
        · skip
          go_simp
          refine C2.mono ?_
          rintro e wy ⟨hg, rfl⟩
          exact ⟨rfl, ended_err (by first | exact E2.out | exact hk2) (grown_trans g1 hg)⟩
        exact AllReadyH.nil
      exact AllReadyH.nil
    | ok zs =>
      have E2 : Hid ((spreadP x y).bind (fun l => spreadP l z) = .ok zs) := by show _ = _; rw [hk1]; exact hk2
      refine wp_region_held_drew (S := (fun w' => w'.cell? ⟨b, off + 3 + 2, none⟩ = some (.slice d1.a d1.n d1.c) ∧ w'.cell? ⟨b, off + 6 + 2, none⟩ = some (.slice d2.a d2.n d2.c))) (by kernel_rfl) (by go_keep) (fun hHeld => ?_)
      refine wpAnyH_take (i := 0) (v := ?_) rfl (by kernel_rfl) (by kernel_rfl) (by kernel_rfl) (fun _ _ _ h => h) (Or.inl ⟨by rfl, ?_⟩) (by assumption) ?_
      rotate_left 1
      · (intro w hSw; (try dsimp only at hSw); go_simp; (try with_reducible rfl))
      try simp only [Act.put]
      refine wpAnyH_take (i := 1) (v := ?_) rfl (by kernel_rfl) (by kernel_rfl) (by kernel_rfl) (fun _ _ _ h => h) (Or.inl ⟨by rfl, ?_⟩) (by assumption) ?_
      rotate_left 1
      · (intro w hSw; (try dsimp only at hSw); go_simp; (try with_reducible rfl))
      try simp only [Act.put]
      refine wpAnyH_take (i := 2) (v := ?_) rfl (by kernel_rfl) (by kernel_rfl) (by kernel_rfl) (fun _ _ _ h => h) (Or.inl ⟨by rfl, ?_⟩) (by assumption) ?_
      rotate_left 1
      · (intro w hSw; (try dsimp only at hSw); go_simp; (try with_reducible rfl))
      try simp only [Act.put]
      refine wpAnyH_take (i := 3) (v := ?_) rfl (by kernel_rfl) (by kernel_rfl) (by kernel_rfl) (fun _ _ _ h => h) (Or.inl ⟨by rfl, ?_⟩) (by assumption) ?_
      rotate_left 1
      · (intro w hSw; (try dsimp only at hSw); go_simp; (try with_reducible rfl))
      try simp only [Act.put]
      refine wpAnyH_take (i := 4) (v := ?_) rfl (by kernel_rfl) (by kernel_rfl) (by kernel_rfl) (fun _ _ _ h => h) (Or.inl ⟨by rfl, ?_⟩) (by assumption) ?_
      rotate_left 1
      · (intro w hSw; (try dsimp only at hSw); go_simp; (try with_reducible rfl))
      try simp only [Act.put]
      refine wpAnyH_take (i := 6) (v := ?_) rfl (by kernel_rfl) (by kernel_rfl) (by kernel_rfl) (fun _ _ _ h => h) (Or.inl ⟨by rfl, ?_⟩) (by assumption) ?_
      rotate_left 1
      · (intro w hSw; (try dsimp only at hSw); go_simp; (try with_reducible rfl))
      try simp only [Act.put]
      refine wpAnyH_take (i := 7) (v := ?_) rfl (by kernel_rfl) (by kernel_rfl) (by kernel_rfl) (fun _ _ _ h => h) (Or.inl ⟨by rfl, ?_⟩) (by assumption) ?_
      rotate_left 1
      · (intro w hSw; (try dsimp only at hSw); go_simp; (try with_reducible rfl))
      try simp only [Act.put]
      refine wpAnyH_take (i := 8) (v := ?_) rfl (by kernel_rfl) (by kernel_rfl) (by kernel_rfl) (fun _ _ _ h => h) (Or.inl ⟨by rfl, ?_⟩) (by assumption) ?_
      rotate_left 1
      · (intro w hSw; (try dsimp only at hSw); go_simp; (try with_reducible rfl))
      try simp only [Act.put]
      refine wpAnyH_take (i := 9) (v := ?_) rfl (by kernel_rfl) (by kernel_rfl) (by kernel_rfl) (fun _ _ _ h => h) (Or.inl ⟨by rfl, ?_⟩) (by assumption) ?_
      rotate_left 1
      · (intro w hSw; (try dsimp only at hSw); go_simp; (try with_reducible rfl))
      try simp only [Act.put]
      refine wpAnyH_ready (rs := [5]) (by kernel_rfl) (by simp) ?_
      refine AllReadyH.cons rfl (fun K hK => ?_) ?_
      · skip
        go_simp
        refine (S1.out _ (grown_drew (grown_refl _))).mono ?_
        rintro e w1 ⟨hg1, v, rfl, ⟨s1, s2, s3⟩, rfl, hs⟩
        have g1 : w.grownBy w1 none := grown_trans (grown_drew g0.out) hg1
        have k1 := cell_still Z1.out g1
        have k2 := cell_still Z2.out g1
        have C2 := spread_any ⟨s1, s2, s3⟩ d2 l z w1 hs.ints (HZ.out.more g1)
        rw [hk2] at C2
        try dsimp only
        refine hK.out _ _ (by first | assumption | go_keep) (fun hHeld => ?_)
        clear hK K
        try simp only [Act.put]
        refine wpAnyH_ready (rs := [10]) (by kernel_rfl) (by simp) ?_
        refine AllReadyH.cons rfl (fun K hK => ?_) ?_
        · skip
          go_simp
          refine C2.mono ?_
          rintro e w2 ⟨hg2, v, rfl, ⟨r1, r2, r3⟩, rfl, hr⟩
          have g2 : w.grownBy w2 none := grown_trans g1 hg2
          have k1 := cell_still Z1.out g2
          have k2 := cell_still Z2.out g2
          try dsimp only
          refine hK.out _ _ (by first | assumption | go_keep) (fun hHeld => ?_)
          clear hK K
          try simp only [Act.put]
          refine wpAnyH_take (i := 11) (v := ?_) rfl (by kernel_rfl) (by kernel_rfl) (by kernel_rfl) (fun _ _ _ h => h) (Or.inl ⟨by rfl, ?_⟩) (by assumption) ?_
          rotate_left 1
          · (intro w hSw; (try dsimp only at hSw); go_simp; (try with_reducible rfl))
          try simp only [Act.put]
          refine wpAnyH_done (by kernel_rfl) ?_ _
          try go_simp
          simp only [Sl.v]
          go_wp2
          go_ret
          exact ended_ok (by first | exact E2.out | exact hk2) g2 ⟨⟨r1, r2, r3⟩, rfl, hr.ints⟩
        exact AllReadyH.nil
      exact AllReadyH.nil
end Go.Proofs.YteigfipgmghgmaaGreatDoor
