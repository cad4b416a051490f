/- Joined texts: RdArg3. -/
import Derived.Test.YtahmmilhmoogbaaGreatDoorPartBG
import Derived.Deep.RegionHeld3
namespace Go.Proofs.YtahmmilhmoogbaaGreatDoor

open Go.RowKit

set_option maxRecDepth 100000 in
set_option maxHeartbeats 2000000 in
theorem arg1_any (g : Int → Int → Int) (b : Nat) (u : Sl) (xs : List Int) (w : World) (hx : IsInts w u.v xs) (h0 : 0 < xs.length) (hl : xs.length ≤ 65536) (hb : OneB g w b) : Calls Tryz.prog 44 #[.slice u.a u.n u.c, .pointer (some ⟨b, 0, none⟩)] w fun e w' => e = .returned (.int .i64 (argL g xs)) ∧ w.grownBy w' none := by
  obtain ⟨ua, un, uc⟩ := u
  obtain ⟨_, _, eu, d1, d2, d3⟩ := hx.sl
  simp only [Sl.v, Value.slice.injEq] at eu
  obtain ⟨rfl, rfl, rfl⟩ := eu
  obtain ⟨xb, xo, rfl, hc⟩ := hx.get h0
  have q0 := hc 0 h0
  rw [Nat.add_zero] at q0
  obtain ⟨C, hC⟩ : ∃ C, uc = 1 + C := ⟨uc - 1, by omega⟩
  obtain ⟨m, hm⟩ : ∃ m, xs.length = 1 + m := ⟨xs.length - 1, by omega⟩
  subst hC
  simp only [Sl.v] at hx
  rw [hm] at hx h0 d1 ⊢
  have hmC : m ≤ C := by omega
  have i1 : (0 : Int) < 1 + (m : Int) := by omega
  have HX := hide hx
  have H2 := hide hb
  obtain ⟨z, hz⟩ : ∃ z, z = xs.getD 0 0 := ⟨_, rfl⟩
  rw [← hz] at q0
  have HZ := hide hz
  have HM := hide hm
  clear hx hb hc hz hm
  rcases Nat.eq_zero_or_pos C with hC0 | hC0
  · subst hC0
    obtain rfl : m = 0 := by omega
    have ED : xs.tail = [] := by rw [← List.drop_one]; exact List.drop_of_length_le (by rw [HM.out]; omega)
    have TG : Hid (∀ v, w.grownBy v none → v.heap[w.heap.size]? = some (.cells #[.int .i64 0] 2 (0, 0)) → Calls Tryz.prog 45 #[.agg #[.int .i64 0, .int .i64 z], .slice (some ⟨xb, xo, none⟩) 0 0, .func (.func 46) #[] #[.pointer (some ⟨w.heap.size, 0, none⟩), .pointer (some ⟨b, 0, none⟩)]] v fun e w' => e = .returned (.agg #[.int .i64 (xs.tail.foldl (argS g) (0, 0, z)).2.1, .int .i64 (xs.tail.foldl (argS g) (0, 0, z)).2.2]) ∧ v.grownBy w' (some w.heap.size)) := fun v hv hp => togb_any g w.heap.size b z ⟨some ⟨xb, xo, none⟩, 0, 0⟩ xs.tail w v hv (Nat.le_refl _) hp (by rw [ED]; exact ⟨some ⟨xb, xo, none⟩, 0, rfl, Nat.le_refl _, Nat.zero_le _, by simp, fun h => by (first | exact ⟨rfl, rfl⟩ | cases h), fun h => by simp at h, fun z hz => by simp at hz⟩) (by rw [ED]; exact Nat.zero_le _) H2.out
    clear ED
    have hmf : ∀ (fn : Fn) (first cap : Array Value) (w : World), (Instr.makeFunc fn first cap).run Tryz.prog w = .ok (.func fn first cap) w := fun _ _ _ _ => rfl
    obtain ⟨⟨s0, s1, s2⟩, hs⟩ : ∃ s, s = xs.tail.foldl (argS g) (0, 0, z) := ⟨_, rfl⟩
    rw [← hs] at TG
    simp only at TG
    have HS := hide hs
    clear hs
    go_enter Tryz.func44, Tryz.ntmps44
    go_upto_region 2 with fail
    refine wp_region_held_drew (S := fun w' => w.grownBy w' none) (by kernel_rfl) (grown_drew (grown_new _ _)) (fun hHeld => ?_)
    refine wpAnyH_take (i := 0) (v := ?_) rfl (by kernel_rfl) (by kernel_rfl) (by kernel_rfl) (fun _ _ _ h => h) (Or.inl ⟨by kernel_rfl, ?_⟩) (by assumption) ?_
    rotate_left 1
    · (intro wS hSw; go_simp; (try with_reducible rfl))
    try simp only [Act.put]
    refine wpAnyH_take (i := 1) (v := ?_) rfl (by kernel_rfl) (by kernel_rfl) (by kernel_rfl) (fun _ _ _ h => h) (Or.inl ⟨by kernel_rfl, ?_⟩) (by assumption) ?_
    rotate_left 1
    · (intro wS hSw; go_simp; (try with_reducible rfl))
    try simp only [Act.put]
    refine wpAnyH_take (i := 2) (v := ?_) rfl (by kernel_rfl) (by kernel_rfl) (by kernel_rfl) (fun _ _ _ h => h) (Or.inl ⟨by kernel_rfl, ?_⟩) (by assumption) ?_
    rotate_left 1
    · (intro wS hSw; have c0 := cell_still q0 hSw; go_simp; (try with_reducible rfl))
    try simp only [Act.put]
    refine wpAnyH_take (i := 3) (v := ?_) rfl (by kernel_rfl) (by kernel_rfl) (by kernel_rfl) (fun _ _ _ h => h) (Or.inl ⟨by kernel_rfl, ?_⟩) (by assumption) ?_
    rotate_left 1
    · (intro wS hSw; go_simp; (try with_reducible rfl))
    try simp only [Act.put]
    refine wpAnyH_take (i := 4) (v := ?_) rfl (by kernel_rfl) (by kernel_rfl) (by kernel_rfl) (fun _ _ _ h => h) (Or.inl ⟨by kernel_rfl, ?_⟩) (by assumption) ?_
    rotate_left 1
    · (intro wS hSw; go_simp; (try with_reducible rfl))
    try simp only [Act.put]
    refine wpAnyH_take (i := 5) (v := .slice (some ⟨xb, xo, none⟩) 0 0) rfl (by kernel_rfl) (by kernel_rfl) (by kernel_rfl) (fun _ _ _ h => h) (Or.inl ⟨by kernel_rfl, ?_⟩) (by assumption) ?_
    · (intro wS hSw; go_simp; (try simp only []))
    try simp only [Act.put]
    refine wpAnyH_take (i := 6) (v := ?_) rfl (by kernel_rfl) (by kernel_rfl) (by kernel_rfl) (fun _ _ _ h => h) (Or.inl ⟨by kernel_rfl, ?_⟩) (by assumption) ?_
    rotate_left 1
    · (intro wS hSw; go_simp; (try with_reducible rfl))
    try simp only [Act.put]
    have g : w.grownBy (w.alloc (.cells #[.int .i64 0] 2)).drew none := grown_drew (grown_new _ _)
    have hp : (w.alloc (.cells #[.int .i64 0] 2)).drew.heap[w.heap.size]? = some (.cells #[.int .i64 0] 2 (0, 0)) := heap_alloc_new w (.cells #[.int .i64 0] 2)
    generalize hv : (w.alloc (.cells #[.int .i64 0] 2)).drew = v at g hp hHeld ⊢
    clear hv hHeld
    refine wpAnyH_ready (rs := [7, 8]) (by kernel_rfl) (by simp) ?_
    refine AllReadyH.cons rfl (fun K hK => ?_) ?_
    · go_simp
      refine (TG.out v g hp).mono ?_
      rintro e u ⟨rfl, hgu⟩
      have gu := grown_drop g hgu (Nat.le_refl _)
      refine hK.out _ _ gu (fun hHeld => ?_)
      clear hK K
      try simp only [Act.put]
      refine wpAnyH_ready (rs := [8]) (by kernel_rfl) (by simp) ?_
      refine AllReadyH.cons rfl (fun K hK => ?_) AllReadyH.nil
      go_simp
      have hq := heap_alloc_new u (.cells #[.int .i64 0, .int .i64 0] 82)
      have gs := grown_new u (.cells #[.int .i64 0, .int .i64 0] 82)
      have hb5 := gu.size
      have gu2 := grown_trans gu gs
      refine hK.out _ _ gu2 (fun hHeld => ?_)
      clear hK K
      try simp only [Act.put]
      generalize hvn : u.alloc (.cells #[.int .i64 0, .int .i64 0] 82) = y at hq gs gu2 hHeld ⊢
      clear hvn gs
      replace gu := gu2
      clear gu2
      generalize u.heap.size = b5 at hq hb5 ⊢
      obtain ⟨q0, q1, q2, q3⟩ := two_cells hq
      obtain ⟨st, sg⟩ := store2t (.int .i64 s1) (.int .i64 s2) hq
      refine wpAnyH_ready (rs := [9]) (by kernel_rfl) (by simp) ?_
      refine AllReadyH.cons rfl (fun K hK => ?_) AllReadyH.nil
      go_simp
      have gz := grown_drop gu sg hb5
      refine hK.out _ _ gz (fun hHeld => ?_)
      clear hK K
      try simp only [Act.put]
      refine wpAnyH_done (by kernel_rfl) ?_ _
      obtain ⟨m0, m1, -, -⟩ := two_cells st
      clear q0 q1 q2 q3
      go_simp
      go_wp2
      go_ret
      exact ⟨by unfold argL; rw [← HZ.out, ← HS.out]; rfl, gz⟩
    refine AllReadyH.cons rfl (fun K hK => ?_) AllReadyH.nil
    go_simp
    have hq := heap_alloc_new v (.cells #[.int .i64 0, .int .i64 0] 82)
    have gs := grown_new v (.cells #[.int .i64 0, .int .i64 0] 82)
    have hb5 := g.size
    have hpl : w.heap.size < v.heap.size := (Array.getElem?_eq_some_iff.1 hp).1
    replace hp := box_kept hp gs
    have g2 := grown_trans g gs
    refine hK.out _ _ g2 (fun hHeld => ?_)
    clear hK K
    try simp only [Act.put]
    generalize hvn : v.alloc (.cells #[.int .i64 0, .int .i64 0] 82) = y at hq gs g2 hp hHeld ⊢
    clear hvn gs g
    have g := g2
    clear g2
    generalize v.heap.size = b5 at hq hb5 hpl ⊢
    refine wpAnyH_ready (rs := [7]) (by kernel_rfl) (by simp) ?_
    refine AllReadyH.cons rfl (fun K hK => ?_) AllReadyH.nil
    go_simp
    refine (TG.out y g hp).mono ?_
    rintro e u ⟨rfl, hgu⟩
    have gu := grown_drop g hgu (Nat.le_refl _)
    refine hK.out _ _ gu (fun hHeld => ?_)
    clear hK K
    try simp only [Act.put]
    replace hq := (hgu.block b5 (Array.getElem?_eq_some_iff.1 hq).1 (by simp only [ne_eq, Option.some.injEq]; omega)).trans hq
    obtain ⟨q0, q1, q2, q3⟩ := two_cells hq
    obtain ⟨st, sg⟩ := store2t (.int .i64 s1) (.int .i64 s2) hq
    refine wpAnyH_ready (rs := [9]) (by kernel_rfl) (by simp) ?_
    refine AllReadyH.cons rfl (fun K hK => ?_) AllReadyH.nil
    go_simp
    have gz := grown_drop gu sg hb5
    refine hK.out _ _ gz (fun hHeld => ?_)
    clear hK K
    try simp only [Act.put]
    refine wpAnyH_done (by kernel_rfl) ?_ _
    obtain ⟨m0, m1, -, -⟩ := two_cells st
    clear q0 q1 q2 q3
    go_simp
    go_wp2
    go_ret
    exact ⟨by unfold argL; rw [← HZ.out, ← HS.out]; rfl, gz⟩
  · have cx0 : ¬ C = 0 := by omega
    have cx2 : (m : Int) ≤ (C : Int) := by omega
    have cx3 : ¬ (1 + (m : Int) < 1) := by omega
    have e := ints_partR HX.out 1 m C (by rw [HM.out]; exact Nat.le_refl _) (Nat.le_refl _) hmC
    rw [List.take_of_length_le (by rw [List.length_drop, HM.out]; omega), List.drop_one] at e
    have lt : xs.tail.length ≤ 65536 := by rw [List.length_tail]; omega
    have TG : Hid (∀ v, w.grownBy v none → v.heap[w.heap.size]? = some (.cells #[.int .i64 0] 2 (0, 0)) → Calls Tryz.prog 45 #[.agg #[.int .i64 0, .int .i64 z], .slice (some ⟨xb, xo + 1, none⟩) m C, .func (.func 46) #[] #[.pointer (some ⟨w.heap.size, 0, none⟩), .pointer (some ⟨b, 0, none⟩)]] v fun e w' => e = .returned (.agg #[.int .i64 (xs.tail.foldl (argS g) (0, 0, z)).2.1, .int .i64 (xs.tail.foldl (argS g) (0, 0, z)).2.2]) ∧ v.grownBy w' (some w.heap.size)) := fun v hv hp => togb_any g w.heap.size b z ⟨some ⟨xb, xo + 1, none⟩, m, C⟩ xs.tail w v hv (Nat.le_refl _) hp e lt H2.out
    clear e lt
    have hmf : ∀ (fn : Fn) (first cap : Array Value) (w : World), (Instr.makeFunc fn first cap).run Tryz.prog w = .ok (.func fn first cap) w := fun _ _ _ _ => rfl
    obtain ⟨⟨s0, s1, s2⟩, hs⟩ : ∃ s, s = xs.tail.foldl (argS g) (0, 0, z) := ⟨_, rfl⟩
    rw [← hs] at TG
    simp only at TG
    have HS := hide hs
    clear hs
    go_enter Tryz.func44, Tryz.ntmps44
    go_upto_region 2 with fail
    refine wp_region_held_drew (S := fun w' => w.grownBy w' none) (by kernel_rfl) (grown_drew (grown_new _ _)) (fun hHeld => ?_)
    refine wpAnyH_take (i := 0) (v := ?_) rfl (by kernel_rfl) (by kernel_rfl) (by kernel_rfl) (fun _ _ _ h => h) (Or.inl ⟨by kernel_rfl, ?_⟩) (by assumption) ?_
    rotate_left 1
    · (intro wS hSw; go_simp; (try with_reducible rfl))
    try simp only [Act.put]
    refine wpAnyH_take (i := 1) (v := ?_) rfl (by kernel_rfl) (by kernel_rfl) (by kernel_rfl) (fun _ _ _ h => h) (Or.inl ⟨by kernel_rfl, ?_⟩) (by assumption) ?_
    rotate_left 1
    · (intro wS hSw; go_simp; (try with_reducible rfl))
    try simp only [Act.put]
    refine wpAnyH_take (i := 2) (v := ?_) rfl (by kernel_rfl) (by kernel_rfl) (by kernel_rfl) (fun _ _ _ h => h) (Or.inl ⟨by kernel_rfl, ?_⟩) (by assumption) ?_
    rotate_left 1
    · (intro wS hSw; have c0 := cell_still q0 hSw; go_simp; (try with_reducible rfl))
    try simp only [Act.put]
    refine wpAnyH_take (i := 3) (v := ?_) rfl (by kernel_rfl) (by kernel_rfl) (by kernel_rfl) (fun _ _ _ h => h) (Or.inl ⟨by kernel_rfl, ?_⟩) (by assumption) ?_
    rotate_left 1
    · (intro wS hSw; go_simp; (try with_reducible rfl))
    try simp only [Act.put]
    refine wpAnyH_take (i := 4) (v := ?_) rfl (by kernel_rfl) (by kernel_rfl) (by kernel_rfl) (fun _ _ _ h => h) (Or.inl ⟨by kernel_rfl, ?_⟩) (by assumption) ?_
    rotate_left 1
    · (intro wS hSw; go_simp; (try with_reducible rfl))
    try simp only [Act.put]
    refine wpAnyH_take (i := 5) (v := .slice (some ⟨xb, xo + 1, none⟩) m C) rfl (by kernel_rfl) (by kernel_rfl) (by kernel_rfl) (fun _ _ _ h => h) (Or.inl ⟨by kernel_rfl, ?_⟩) (by assumption) ?_
    · (intro wS hSw; go_simp; (try simp only []))
    try simp only [Act.put]
    refine wpAnyH_take (i := 6) (v := ?_) rfl (by kernel_rfl) (by kernel_rfl) (by kernel_rfl) (fun _ _ _ h => h) (Or.inl ⟨by kernel_rfl, ?_⟩) (by assumption) ?_
    rotate_left 1
    · (intro wS hSw; go_simp; (try with_reducible rfl))
    try simp only [Act.put]
    have g : w.grownBy (w.alloc (.cells #[.int .i64 0] 2)).drew none := grown_drew (grown_new _ _)
    have hp : (w.alloc (.cells #[.int .i64 0] 2)).drew.heap[w.heap.size]? = some (.cells #[.int .i64 0] 2 (0, 0)) := heap_alloc_new w (.cells #[.int .i64 0] 2)
    generalize hv : (w.alloc (.cells #[.int .i64 0] 2)).drew = v at g hp hHeld ⊢
    clear hv hHeld
    refine wpAnyH_ready (rs := [7, 8]) (by kernel_rfl) (by simp) ?_
    refine AllReadyH.cons rfl (fun K hK => ?_) ?_
    · go_simp
      refine (TG.out v g hp).mono ?_
      rintro e u ⟨rfl, hgu⟩
      have gu := grown_drop g hgu (Nat.le_refl _)
      refine hK.out _ _ gu (fun hHeld => ?_)
      clear hK K
      try simp only [Act.put]
      refine wpAnyH_ready (rs := [8]) (by kernel_rfl) (by simp) ?_
      refine AllReadyH.cons rfl (fun K hK => ?_) AllReadyH.nil
      go_simp
      have hq := heap_alloc_new u (.cells #[.int .i64 0, .int .i64 0] 82)
      have gs := grown_new u (.cells #[.int .i64 0, .int .i64 0] 82)
      have hb5 := gu.size
      have gu2 := grown_trans gu gs
      refine hK.out _ _ gu2 (fun hHeld => ?_)
      clear hK K
      try simp only [Act.put]
      generalize hvn : u.alloc (.cells #[.int .i64 0, .int .i64 0] 82) = y at hq gs gu2 hHeld ⊢
      clear hvn gs
      replace gu := gu2
      clear gu2
      generalize u.heap.size = b5 at hq hb5 ⊢
      obtain ⟨q0, q1, q2, q3⟩ := two_cells hq
      obtain ⟨st, sg⟩ := store2t (.int .i64 s1) (.int .i64 s2) hq
      refine wpAnyH_ready (rs := [9]) (by kernel_rfl) (by simp) ?_
      refine AllReadyH.cons rfl (fun K hK => ?_) AllReadyH.nil
      go_simp
      have gz := grown_drop gu sg hb5
      refine hK.out _ _ gz (fun hHeld => ?_)
      clear hK K
      try simp only [Act.put]
      refine wpAnyH_done (by kernel_rfl) ?_ _
      obtain ⟨m0, m1, -, -⟩ := two_cells st
      clear q0 q1 q2 q3
      go_simp
      go_wp2
      go_ret
      exact ⟨by unfold argL; rw [← HZ.out, ← HS.out]; rfl, gz⟩
    refine AllReadyH.cons rfl (fun K hK => ?_) AllReadyH.nil
    go_simp
    have hq := heap_alloc_new v (.cells #[.int .i64 0, .int .i64 0] 82)
    have gs := grown_new v (.cells #[.int .i64 0, .int .i64 0] 82)
    have hb5 := g.size
    have hpl : w.heap.size < v.heap.size := (Array.getElem?_eq_some_iff.1 hp).1
    replace hp := box_kept hp gs
    have g2 := grown_trans g gs
    refine hK.out _ _ g2 (fun hHeld => ?_)
    clear hK K
    try simp only [Act.put]
    generalize hvn : v.alloc (.cells #[.int .i64 0, .int .i64 0] 82) = y at hq gs g2 hp hHeld ⊢
    clear hvn gs g
    have g := g2
    clear g2
    generalize v.heap.size = b5 at hq hb5 hpl ⊢
    refine wpAnyH_ready (rs := [7]) (by kernel_rfl) (by simp) ?_
    refine AllReadyH.cons rfl (fun K hK => ?_) AllReadyH.nil
    go_simp
    refine (TG.out y g hp).mono ?_
    rintro e u ⟨rfl, hgu⟩
    have gu := grown_drop g hgu (Nat.le_refl _)
    refine hK.out _ _ gu (fun hHeld => ?_)
    clear hK K
    try simp only [Act.put]
    replace hq := (hgu.block b5 (Array.getElem?_eq_some_iff.1 hq).1 (by simp only [ne_eq, Option.some.injEq]; omega)).trans hq
    obtain ⟨q0, q1, q2, q3⟩ := two_cells hq
    obtain ⟨st, sg⟩ := store2t (.int .i64 s1) (.int .i64 s2) hq
    refine wpAnyH_ready (rs := [9]) (by kernel_rfl) (by simp) ?_
    refine AllReadyH.cons rfl (fun K hK => ?_) AllReadyH.nil
    go_simp
    have gz := grown_drop gu sg hb5
    refine hK.out _ _ gz (fun hHeld => ?_)
    clear hK K
    try simp only [Act.put]
    refine wpAnyH_done (by kernel_rfl) ?_ _
    obtain ⟨m0, m1, -, -⟩ := two_cells st
    clear q0 q1 q2 q3
    go_simp
    go_wp2
    go_ret
    exact ⟨by unfold argL; rw [← HZ.out, ← HS.out]; rfl, gz⟩

end Go.Proofs.YtahmmilhmoogbaaGreatDoor
