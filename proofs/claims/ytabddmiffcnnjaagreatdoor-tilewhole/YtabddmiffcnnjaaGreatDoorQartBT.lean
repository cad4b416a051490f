/- Joined texts: TEach. -/
import Derived.Test.YtabddmiffcnnjaaGreatDoorQartBS
import Derived.Test.YtabddmiffcnnjaaGreatDoorQartBF
namespace Go.Proofs.YtabddmiffcnnjaaGreatDoor

open Go.RowKit

theorem infoTenT : (Tryz.prog.info? 38).map (fun i => (i.zero, i.size, i.bytes)) = some (some (.agg #[.int .i64 0, .slice none 0 0, .slice none 0 0]), 3, 56) := by kernel_rfl

theorem tcell_oneT (x : Ten) : ∀ u ∈ tcells x, u.oneCell' = true := by
  intro u hu
  simp only [tcells, List.mem_cons, List.not_mem_nil, or_false] at hu
  rcases hu with rfl | rfl | rfl <;> rfl

theorem own_apartT {w : World} {base te sz n t B : Nat} {v : Value} {cs : List Value} {cur : Array Value} {m : Nat × Nat} (h : w.ownsRow base te sz v n cs) (hb : w.heap[B]? = some (.cells cur t m)) (ht : te ≠ t) : some B ≠ v.ownBlock := by
  intro e
  rcases h.2 with ⟨rfl, _⟩ | ⟨g, cap, c2, rfl, _, hg, _⟩
  · cases e
  · simp only [Value.ownBlock, Option.some.injEq] at e
    subst e
    rw [hb] at hg
    simp only [Option.some.injEq, Obj.cells.injEq] at hg
    exact ht hg.2.1.symm

def One1 (w : World) (q : Ten × Tq) : Prop := ∃ (ty z : Int) (b c : Nat), q = (⟨ty, ⟨some ⟨b, 0, none⟩, 1, 1⟩, ⟨some ⟨c, 0, none⟩, 1, 1⟩⟩, ([1], [z])) ∧ w.heap[b]? = some (.cells #[.int .i64 1] 3 (0, 0)) ∧ w.heap[c]? = some (.cells #[.int .i64 z] 2 (0, 0))

theorem One1.past {w w' : World} {q : Ten × Tq} {row : Option Nat} (h : One1 w q) (hg : w.grownBy w' row) (hr : ∀ b cur t, w.heap[b]? = some (.cells cur t (0, 0)) → 38 ≠ t → some b ≠ row) : One1 w' q := by
  obtain ⟨ty, z, b, c, e, hb, hc⟩ := h
  exact ⟨ty, z, b, c, e, (hg.block b (Array.getElem?_eq_some_iff.1 hb).1 (hr _ _ _ hb (by decide))).trans hb, (hg.block c (Array.getElem?_eq_some_iff.1 hc).1 (hr _ _ _ hc (by decide))).trans hc⟩

theorem One1.more {w w' : World} {q : Ten × Tq} (h : One1 w q) (hg : w.grownBy w' none) : One1 w' q := h.past hg (fun _ _ _ _ _ e => by cases e)

def cutQ (lo : Int) (p : Ten × Tq) : Int × Tq := (p.1.ty, ([1], [p.2.2.getD lo.toNat 0]))

set_option maxRecDepth 100000 in
set_option maxHeartbeats 6400000 in
theorem each_0 (u dv : Sl) (ps : List (Ten × Tq)) (w : World) (hv : TensIn w u.v ps) (hl : ps.length ≤ 1000) (hp : ∀ p ∈ ps, ∃ x0 x1, p.2 = ([2], [x0, x1])) (hdv : IsInts w dv.v [2]) :
    Calls Tryz.prog 14 #[.slice u.a u.n u.c, .slice dv.a dv.n dv.c, .int .i64 0, .int .i64 1] w fun e w' => w.grownBy w' none ∧ ∃ (qs : List (Ten × Tq)) (va : Option Addr) (vc : Nat), e = .returned (.slice va ps.length vc) ∧ OwnsL 38 3 tcells w' w.heap.size (.slice va ps.length vc) (qs.map (·.1)) ∧ (∀ q ∈ qs, One1 w' q) ∧ qs.map (fun q => (q.1.ty, q.2)) = ps.map (cutQ 0) := by
  obtain ⟨i0, hi, hz0, hz1, hz2⟩ := info_parts infoTenT
  obtain ⟨xa, xc, e1, p1, p2, p3⟩ := hv.vals.form
  rw [List.length_map] at e1 p1 p3
  obtain ⟨ua, un, uc⟩ := u
  obtain ⟨va0, vn0, vc0⟩ := dv
  simp only [Sl.v, Value.slice.injEq] at e1
  obtain ⟨rfl, rfl, rfl⟩ := e1
  have CC : Hid (∀ (k : Nat) (hk : k < ps.length) (wx : World), w.grownBy wx none → Calls Tryz.prog 20 #[.agg #[.int .i64 ps[k].1.ty, .slice ps[k].1.dv.a ps[k].1.dv.n ps[k].1.dv.c, .slice ps[k].1.tv.a ps[k].1.tv.n ps[k].1.tv.c], .slice va0 vn0 vc0, .int .i64 0, .int .i64 1] wx fun e w' => ∃ b : Nat, e = .returned (.slice (some ⟨b, 0, none⟩) 1 1) ∧ w'.heap[b]? = some (.cells #[.int .i64 (ps[k].2.2.getD (0 : Int).toNat 0)] 2 (0, 0)) ∧ wx.grownBy w' none) := fun k hk wx hx => by
    obtain ⟨x0, x1, e⟩ := hp _ (List.getElem_mem hk)
    obtain ⟨h1, h2⟩ := (hv.more hx).has _ (List.getElem_mem hk)
    rw [e] at h1 h2 ⊢
    exact cut_one _ _ _ ⟨va0, vn0, vc0⟩ x0 x1 0 _ wx (by simp) h1 h2 (hdv.more hx)
  obtain ⟨N, hN⟩ : ∃ N, ps.length = N := ⟨_, rfl⟩
  rw [hN] at p1 p3 hl hv ⊢
  have HN := hide hN
  have HV := hide hv
  clear hN hv hp hdv
  go_enter Tryz.func14, Tryz.ntmps14
  go_wp2_with fail
  go_loopw [9, 14] (fun l i wr => w.grownBy wr none ∧ ∃ (k : Nat) (qs : List (Ten × Tq)) (va : Option Addr) (vc : Nat), k ≤ N ∧ i = .int .i64 k ∧ l = .slice va k vc ∧ qs.length = k ∧ OwnsL 38 3 tcells wr w.heap.size (.slice va k vc) (qs.map (·.1)) ∧ (∀ q ∈ qs, One1 wr q) ∧ qs.map (fun q => (q.1.ty, q.2)) = (ps.take k).map (cutQ (0 : Int))) (fun _ i _ => N - (intOf i).toNat)
  case atStart => exact ⟨grown_refl _, 0, [], none, 0, by omega, rfl, rfl, rfl, OwnsL.nil .., by simp, by simp⟩
  case round =>
    obtain ⟨hg, k, qs, va, vc, hk, rfl, rfl, hql, hown, hone, hqs⟩ := hrel
    have HG := hide hg
    have HO := hide hown
    have HQS := hide hqs
    have HQ1 := hide hone
    have HQL := hide hql
    clear hg hown hqs hone hql
    by_cases hlt : k < N
    · have hkp : k < ps.length := by rw [HN.out]; exact hlt
      obtain ⟨ub, uo, rfl⟩ := HV.out.vals.addr (k := k) (by rw [List.length_map]; exact hkp)
      obtain ⟨A, hA⟩ : ∃ A, A = ps[k] := ⟨_, rfl⟩
      have HA := hide hA
      have CA := hide (CC.out k hkp)
      rw [← hA] at CA
      obtain ⟨q0, q1, q2⟩ := (HV.out.more HG.out).at k hkp
      rw [← hA] at q0 q1 q2
      clear hA
      obtain ⟨w4, hw4⟩ : ∃ w4, w4 = wr.alloc (.cells #[.int .i64 A.1.ty, .slice A.1.dv.a A.1.dv.n A.1.dv.c, .slice A.1.tv.a A.1.tv.n A.1.tv.c] 38) := ⟨_, rfl⟩
      have hb4 := heap_alloc_new wr (.cells #[.int .i64 A.1.ty, .slice A.1.dv.a A.1.dv.n A.1.dv.c, .slice A.1.tv.a A.1.tv.n A.1.tv.c] 38)
      have g4 : wr.grownBy w4 none := by rw [hw4]; exact grown_new _ _
      rw [← hw4] at hb4
      have HB4 := hide hb4
      have G4 := hide g4
      clear hb4 g4
      go_wp2_with fail
      clear q0 q1 q2
      rw [← hw4]
      clear hw4
      refine wp_region_held_drew (S := fun w' => w'.heap[wr.heap.size]? = some (.cells #[.int .i64 A.1.ty, .slice A.1.dv.a A.1.dv.n A.1.dv.c, .slice A.1.tv.a A.1.tv.n A.1.tv.c] 38 (0, 0))) (by kernel_rfl) (box_kept HB4.out (grown_drew (grown_refl _))) (fun hHeld => ?_)
      refine wpAnyH_take (i := 0) (v := ?_) rfl (by kernel_rfl) (by kernel_rfl) (by kernel_rfl) (fun _ _ _ h => h) (Or.inl ⟨by kernel_rfl, ?_⟩) (by assumption) ?_
      rotate_left 1
      · (intro wS hSw; go_simp; (try with_reducible rfl))
      try simp only [Act.put]
      refine wpAnyH_take (i := 1) (v := ?_) rfl (by kernel_rfl) (by kernel_rfl) (by kernel_rfl) (fun _ _ _ h => h) (Or.inl ⟨by kernel_rfl, ?_⟩) (by assumption) ?_
      rotate_left 1
      · (intro wS hSw; go_simp; (try with_reducible rfl))
      try simp only [Act.put]
      refine wpAnyH_take (i := 2) (v := ?_) rfl (by kernel_rfl) (by kernel_rfl) (by kernel_rfl) (fun _ _ _ h => h) (Or.inl ⟨by kernel_rfl, ?_⟩) (by assumption) ?_
      rotate_left 1
      · (intro wS hSw; have c0 := (ten_cells hSw).1; go_simp; (try with_reducible rfl))
      try simp only [Act.put]
      refine wpAnyH_take (i := 3) (v := ?_) rfl (by kernel_rfl) (by kernel_rfl) (by kernel_rfl) (fun _ _ _ h => h) (Or.inl ⟨by kernel_rfl, ?_⟩) (by assumption) ?_
      rotate_left 1
      · (intro wS hSw; go_simp; (try with_reducible rfl))
      try simp only [Act.put]
      refine wpAnyH_take (i := 4) (v := ?_) rfl (by kernel_rfl) (by kernel_rfl) (by kernel_rfl) (fun _ _ _ h => h) (Or.inl ⟨by kernel_rfl, ?_⟩) (by assumption) ?_
      rotate_left 1
      · (intro wS hSw; go_simp; (try with_reducible rfl))
      try simp only [Act.put]
      refine wpAnyH_take (i := 5) (v := .int .i64 1) rfl (by kernel_rfl) (by kernel_rfl) (by kernel_rfl) (fun _ _ _ h => h) (Or.inl ⟨by kernel_rfl, ?_⟩) (by assumption) ?_
      · (intro wS hSw; go_simp; (try simp only [show IntKind.wrap .i64 1 = 1 from rfl]))
      try simp only [Act.put]
      refine wpAnyH_take (i := 7) (v := ?_) rfl (by kernel_rfl) (by kernel_rfl) (by kernel_rfl) (fun _ _ _ h => h) (Or.inl ⟨by kernel_rfl, ?_⟩) (by assumption) ?_
      rotate_left 1
      · (intro wS hSw; have c0 := (ten_cells hSw).1; have c1 := (ten_cells hSw).2.1; have c2 := (ten_cells hSw).2.2; go_simp; (try with_reducible rfl))
      try simp only [Act.put]
      refine wpAnyH_take (i := 8) (v := ?_) rfl (by kernel_rfl) (by kernel_rfl) (by kernel_rfl) (fun _ _ _ h => h) (Or.inl ⟨by kernel_rfl, ?_⟩) (by assumption) ?_
      rotate_left 1
      · (intro wS hSw; go_simp; (try with_reducible rfl))
      try simp only [Act.put]
      refine wpAnyH_take (i := 9) (v := ?_) rfl (by kernel_rfl) (by kernel_rfl) (by kernel_rfl) (fun _ _ _ h => h) (Or.inl ⟨by kernel_rfl, ?_⟩) (by assumption) ?_
      rotate_left 1
      · (intro wS hSw; go_simp; (try with_reducible rfl))
      try simp only [Act.put]
      refine wpAnyH_take (i := 10) (v := ?_) rfl (by kernel_rfl) (by kernel_rfl) (by kernel_rfl) (fun _ _ _ h => h) (Or.inl ⟨by kernel_rfl, ?_⟩) (by assumption) ?_
      rotate_left 1
      · (intro wS hSw; go_simp; (try with_reducible rfl))
      try simp only [Act.put]
      refine wpAnyH_ready (rs := [6, 11]) (by kernel_rfl) (by simp) ?_
      refine AllReadyH.cons rfl (fun K hK => ?_) (AllReadyH.cons rfl (fun K hK => ?_) AllReadyH.nil)
      · have GO0 : w4.grownBy w4.drew none := grown_drew (grown_refl _)
        go_simp
        obtain ⟨w5, hw5⟩ : ∃ v, v = (w4.alloc (.cells #[.int .i64 1] 3)).drew := ⟨_, rfl⟩
        have hi5 : w5.heap[w4.heap.size]? = some (.cells #[.int .i64 1] 3 (0, 0)) := by rw [hw5]; exact heap_alloc_new w4 _
        have g45 : w4.grownBy w5 none := by rw [hw5]; exact grown_drew (grown_new _ _)
        have g5 : w4.grownBy w5 none := g45
        rw [← hw5]
        clear hw5
        refine hK.out _ _ (box_kept HB4.out g5) (fun hHeld => ?_)
        clear hK K
        try simp only [Act.put]
        refine wpAnyH_ready (rs := [11]) (by kernel_rfl) (by simp) ?_
        refine AllReadyH.cons rfl (fun K hK => ?_) AllReadyH.nil
        go_simp
        refine (CA.out w5 (grown_trans HG.out (grown_trans G4.out g5))).mono ?_
        rintro e w6 ⟨c, rfl, hc6, g56⟩
        have g6 : w4.grownBy w6 none := grown_trans g5 g56
        refine hK.out _ _ (box_kept HB4.out g6) (fun hHeld => ?_)
        clear hK K
        try simp only [Act.put]
        have hi6 := box_kept hi5 g56
        refine wpAnyH_take (i := 12) (v := ?_) rfl (by kernel_rfl) (by kernel_rfl) (by kernel_rfl) (fun _ _ _ h => h) (Or.inl ⟨by kernel_rfl, ?_⟩) (by assumption) ?_
        rotate_left 1
        · (intro wS hSw; go_simp; (try with_reducible rfl))
        try simp only [Act.put]
        refine wpAnyH_ready (rs := [13]) (by kernel_rfl) (by simp) ?_
        refine AllReadyH.cons rfl (fun K hK => ?_) AllReadyH.nil
        go_simp
        obtain ⟨w7, hw7⟩ : ∃ w7, w7 = w6.alloc (.cells #[.int .i64 A.1.ty, .slice (some ⟨w4.heap.size, 0, none⟩) 1 1, .slice (some ⟨c, 0, none⟩) 1 1] 38) := ⟨_, rfl⟩
        have hb7 := heap_alloc_new w6 (.cells #[.int .i64 A.1.ty, .slice (some ⟨w4.heap.size, 0, none⟩) 1 1, .slice (some ⟨c, 0, none⟩) 1 1] 38)
        have g67 : w6.grownBy w7 none := by rw [hw7]; exact grown_new _ _
        have hs7 : w7.heap.size = w6.heap.size + 1 := by rw [hw7]; simp
        rw [← hw7] at hb7 ⊢
        clear hw7
        have g7 := grown_trans g6 g67
        have gr7 := grown_trans G4.out g7
        refine hK.out _ _ (box_kept HB4.out g7) (fun hHeld => ?_)
        clear hK K
        try simp only [Act.put]
        have hO7 : w7.ownsRow w.heap.size 38 3 (.slice va k vc) k ((qs.map (·.1)).flatMap tcells) := owns_row_atE (HO.out.more gr7) (by rw [List.length_map]; exact HQL.out)
        have hsz : w.heap.size ≤ w7.heap.size := Nat.le_trans HG.out.size gr7.size
        refine wpAnyH_ready (rs := [14]) (by kernel_rfl) (by simp) ?_
        refine AllReadyH.cons rfl (fun K hK => ?_) AllReadyH.nil
        refine step_append_lies _ (by rfl) (.tmp 18) (.tmp 31) 39 (by rfl) w.heap.size 38 i0 (.agg #[.int .i64 0, .slice none 0 0, .slice none 0 0]) 3 56 Tryz.underlying39 hi hz0 hz1 hz2 (by rfl) (by decide) (.slice va k vc) k ((qs.map (·.1)).flatMap tcells) (by rfl) hO7 ⟨w6.heap.size, 0, none⟩ 1 1 (tcells ⟨A.1.ty, ⟨some ⟨w4.heap.size, 0, none⟩, 1, 1⟩, ⟨some ⟨c, 0, none⟩, 1, 1⟩⟩) (by rfl) (by rfl) (by exact World.news_of_block hb7) (tcell_oneT _) (by omega) (by simp only [maxLen]; omega) (by omega) hsz (w7.heap.size) rfl ?_
        intro gg cap w8 hown8 hgrow hat hlt8
        have hnb : some wr.heap.size ≠ (Value.slice va k vc).ownBlock := fun e => by have := (World.ownsRow.lt HO.out _ e.symm).2; omega
        have hB8 := (hgrow.block wr.heap.size (Array.getElem?_eq_some_iff.1 (box_kept HB4.out g7)).1 hnb).trans (box_kept HB4.out g7)
        refine hK.out _ _ hB8 (fun hHeld => ?_)
        clear hK K
        try simp only [Act.put]
        refine wpAnyH_take (i := 15) (v := ?_) rfl (by kernel_rfl) (by kernel_rfl) (by kernel_rfl) (fun _ _ _ h => h) (Or.inl ⟨by kernel_rfl, ?_⟩) (by assumption) ?_
        rotate_left 1
        · (intro wS hSw; go_simp; (try with_reducible rfl))
        try simp only [Act.put]
        refine wpAnyH_done (by kernel_rfl) ?_ _
        have GF := hide (grown_trans_row (grown_trans HG.out gr7) hgrow (fun r e => (World.ownsRow.lt HO.out r e).1))
        have OF : Hid (OwnsL 38 3 tcells w8 w.heap.size (.slice (some ⟨gg, 0, none⟩) (k + 1) cap) ((qs ++ [((⟨A.1.ty, ⟨some ⟨w4.heap.size, 0, none⟩, 1, 1⟩, ⟨some ⟨c, 0, none⟩, 1, 1⟩⟩ : Ten), (([1], [A.2.2.getD (0 : Int).toNat 0]) : Tq))]).map (·.1))) := by
          show OwnsL _ _ _ _ _ _ _
          rw [List.map_append]
          exact owns_at_rowE (by rw [List.length_map]; exact HQL.out) hown8
        have ONF : Hid (∀ q ∈ qs ++ [((⟨A.1.ty, ⟨some ⟨w4.heap.size, 0, none⟩, 1, 1⟩, ⟨some ⟨c, 0, none⟩, 1, 1⟩⟩ : Ten), (([1], [A.2.2.getD (0 : Int).toNat 0]) : Tq))], One1 w8 q) := by
          intro q hq
          have h7 : One1 w7 q := by
            rcases List.mem_append.1 hq with h | h
            · exact (HQ1.out q h).more gr7
            · rw [List.mem_singleton] at h
              exact ⟨_, _, _, _, h, box_kept hi6 g67, box_kept hc6 g67⟩
          exact h7.past hgrow (fun b cur t hb ht => own_apartT hO7 hb ht)
        have MF : Hid ((qs ++ [((⟨A.1.ty, ⟨some ⟨w4.heap.size, 0, none⟩, 1, 1⟩, ⟨some ⟨c, 0, none⟩, 1, 1⟩⟩ : Ten), (([1], [A.2.2.getD (0 : Int).toNat 0]) : Tq))]).map (fun q => (q.1.ty, q.2)) = (ps.take (k + 1)).map (cutQ (0 : Int))) := by
          show _ = _
          rw [List.map_append, HQS.out, List.take_succ_eq_append_getElem hkp, List.map_append, ← HA.out]
          rfl
        generalize qs ++ [((⟨A.1.ty, ⟨some ⟨w4.heap.size, 0, none⟩, 1, 1⟩, ⟨some ⟨c, 0, none⟩, 1, 1⟩⟩ : Ten), (([1], [A.2.2.getD (0 : Int).toNat 0]) : Tq))] = qn at OF ONF MF
        have LN : Hid (qn.length = k + 1) := by
          have h := congrArg List.length MF.out
          simp only [List.length_map, List.length_take] at h
          show qn.length = k + 1
          omega
        clear hHeld hB8 hnb hat hgrow hown8 hO7 gr7 g7 g67 hb7 hs7
        go_simp
        go_wp2_with fail
        go_roundw
        case rel => exact ⟨GF.out, k + 1, qn, some ⟨gg, 0, none⟩, cap, by omega, by go_num, rfl, LN.out, OF.out, ONF.out, MF.out⟩
        case measure => simp [intOf]; omega
      · have GO0 : w4.grownBy w4.drew none := grown_drew (grown_refl _)
        go_simp
        refine (CA.out w4.drew (grown_trans HG.out (grown_trans G4.out GO0))).mono ?_
        rintro e w5 ⟨c, rfl, hc5, g45⟩
        have g5 : w4.grownBy w5 none := grown_trans GO0 g45
        refine hK.out _ _ (box_kept HB4.out g5) (fun hHeld => ?_)
        clear hK K
        try simp only [Act.put]
        refine wpAnyH_ready (rs := [6]) (by kernel_rfl) (by simp) ?_
        refine AllReadyH.cons rfl (fun K hK => ?_) AllReadyH.nil
        go_simp
        obtain ⟨w6, hw6⟩ : ∃ v, v = w5.alloc (.cells #[.int .i64 1] 3) := ⟨_, rfl⟩
        have hi6 : w6.heap[w5.heap.size]? = some (.cells #[.int .i64 1] 3 (0, 0)) := by rw [hw6]; exact heap_alloc_new w5 _
        have g56 : w5.grownBy w6 none := by rw [hw6]; exact grown_new _ _
        have g6 : w4.grownBy w6 none := grown_trans g5 g56
        rw [← hw6]
        clear hw6
        refine hK.out _ _ (box_kept HB4.out g6) (fun hHeld => ?_)
        clear hK K
        try simp only [Act.put]
        have hc6 := box_kept hc5 g56
        refine wpAnyH_take (i := 12) (v := ?_) rfl (by kernel_rfl) (by kernel_rfl) (by kernel_rfl) (fun _ _ _ h => h) (Or.inl ⟨by kernel_rfl, ?_⟩) (by assumption) ?_
        rotate_left 1
        · (intro wS hSw; go_simp; (try with_reducible rfl))
        try simp only [Act.put]
        refine wpAnyH_ready (rs := [13]) (by kernel_rfl) (by simp) ?_
        refine AllReadyH.cons rfl (fun K hK => ?_) AllReadyH.nil
        go_simp
        obtain ⟨w7, hw7⟩ : ∃ w7, w7 = w6.alloc (.cells #[.int .i64 A.1.ty, .slice (some ⟨w5.heap.size, 0, none⟩) 1 1, .slice (some ⟨c, 0, none⟩) 1 1] 38) := ⟨_, rfl⟩
        have hb7 := heap_alloc_new w6 (.cells #[.int .i64 A.1.ty, .slice (some ⟨w5.heap.size, 0, none⟩) 1 1, .slice (some ⟨c, 0, none⟩) 1 1] 38)
        have g67 : w6.grownBy w7 none := by rw [hw7]; exact grown_new _ _
        have hs7 : w7.heap.size = w6.heap.size + 1 := by rw [hw7]; simp
        rw [← hw7] at hb7 ⊢
        clear hw7
        have g7 := grown_trans g6 g67
        have gr7 := grown_trans G4.out g7
        refine hK.out _ _ (box_kept HB4.out g7) (fun hHeld => ?_)
        clear hK K
        try simp only [Act.put]
        have hO7 : w7.ownsRow w.heap.size 38 3 (.slice va k vc) k ((qs.map (·.1)).flatMap tcells) := owns_row_atE (HO.out.more gr7) (by rw [List.length_map]; exact HQL.out)
        have hsz : w.heap.size ≤ w7.heap.size := Nat.le_trans HG.out.size gr7.size
        refine wpAnyH_ready (rs := [14]) (by kernel_rfl) (by simp) ?_
        refine AllReadyH.cons rfl (fun K hK => ?_) AllReadyH.nil
        refine step_append_lies _ (by rfl) (.tmp 18) (.tmp 31) 39 (by rfl) w.heap.size 38 i0 (.agg #[.int .i64 0, .slice none 0 0, .slice none 0 0]) 3 56 Tryz.underlying39 hi hz0 hz1 hz2 (by rfl) (by decide) (.slice va k vc) k ((qs.map (·.1)).flatMap tcells) (by rfl) hO7 ⟨w6.heap.size, 0, none⟩ 1 1 (tcells ⟨A.1.ty, ⟨some ⟨w5.heap.size, 0, none⟩, 1, 1⟩, ⟨some ⟨c, 0, none⟩, 1, 1⟩⟩) (by rfl) (by rfl) (by exact World.news_of_block hb7) (tcell_oneT _) (by omega) (by simp only [maxLen]; omega) (by omega) hsz (w7.heap.size) rfl ?_
        intro gg cap w8 hown8 hgrow hat hlt8
        have hnb : some wr.heap.size ≠ (Value.slice va k vc).ownBlock := fun e => by have := (World.ownsRow.lt HO.out _ e.symm).2; omega
        have hB8 := (hgrow.block wr.heap.size (Array.getElem?_eq_some_iff.1 (box_kept HB4.out g7)).1 hnb).trans (box_kept HB4.out g7)
        refine hK.out _ _ hB8 (fun hHeld => ?_)
        clear hK K
        try simp only [Act.put]
        refine wpAnyH_take (i := 15) (v := ?_) rfl (by kernel_rfl) (by kernel_rfl) (by kernel_rfl) (fun _ _ _ h => h) (Or.inl ⟨by kernel_rfl, ?_⟩) (by assumption) ?_
        rotate_left 1
        · (intro wS hSw; go_simp; (try with_reducible rfl))
        try simp only [Act.put]
        refine wpAnyH_done (by kernel_rfl) ?_ _
        have GF := hide (grown_trans_row (grown_trans HG.out gr7) hgrow (fun r e => (World.ownsRow.lt HO.out r e).1))
        have OF : Hid (OwnsL 38 3 tcells w8 w.heap.size (.slice (some ⟨gg, 0, none⟩) (k + 1) cap) ((qs ++ [((⟨A.1.ty, ⟨some ⟨w5.heap.size, 0, none⟩, 1, 1⟩, ⟨some ⟨c, 0, none⟩, 1, 1⟩⟩ : Ten), (([1], [A.2.2.getD (0 : Int).toNat 0]) : Tq))]).map (·.1))) := by
          show OwnsL _ _ _ _ _ _ _
          rw [List.map_append]
          exact owns_at_rowE (by rw [List.length_map]; exact HQL.out) hown8
        have ONF : Hid (∀ q ∈ qs ++ [((⟨A.1.ty, ⟨some ⟨w5.heap.size, 0, none⟩, 1, 1⟩, ⟨some ⟨c, 0, none⟩, 1, 1⟩⟩ : Ten), (([1], [A.2.2.getD (0 : Int).toNat 0]) : Tq))], One1 w8 q) := by
          intro q hq
          have h7 : One1 w7 q := by
            rcases List.mem_append.1 hq with h | h
            · exact (HQ1.out q h).more gr7
            · rw [List.mem_singleton] at h
              exact ⟨_, _, _, _, h, box_kept hi6 g67, box_kept hc6 g67⟩
          exact h7.past hgrow (fun b cur t hb ht => own_apartT hO7 hb ht)
        have MF : Hid ((qs ++ [((⟨A.1.ty, ⟨some ⟨w5.heap.size, 0, none⟩, 1, 1⟩, ⟨some ⟨c, 0, none⟩, 1, 1⟩⟩ : Ten), (([1], [A.2.2.getD (0 : Int).toNat 0]) : Tq))]).map (fun q => (q.1.ty, q.2)) = (ps.take (k + 1)).map (cutQ (0 : Int))) := by
          show _ = _
          rw [List.map_append, HQS.out, List.take_succ_eq_append_getElem hkp, List.map_append, ← HA.out]
          rfl
        generalize qs ++ [((⟨A.1.ty, ⟨some ⟨w5.heap.size, 0, none⟩, 1, 1⟩, ⟨some ⟨c, 0, none⟩, 1, 1⟩⟩ : Ten), (([1], [A.2.2.getD (0 : Int).toNat 0]) : Tq))] = qn at OF ONF MF
        have LN : Hid (qn.length = k + 1) := by
          have h := congrArg List.length MF.out
          simp only [List.length_map, List.length_take] at h
          show qn.length = k + 1
          omega
        clear hHeld hB8 hnb hat hgrow hown8 hO7 gr7 g7 g67 hb7 hs7
        go_simp
        go_wp2_with fail
        go_roundw
        case rel => exact ⟨GF.out, k + 1, qn, some ⟨gg, 0, none⟩, cap, by omega, by go_num, rfl, LN.out, OF.out, ONF.out, MF.out⟩
        case measure => simp [intOf]; omega
    · obtain rfl : k = N := by omega
      have FN := hide HQS.out
      rw [← HN.out, List.take_of_length_le (Nat.le_refl _)] at FN
      go_wp2_with fail
      go_ret
      exact ⟨HG.out, qs, va, vc, rfl, HO.out, HQ1.out, FN.out⟩

set_option maxRecDepth 100000 in
set_option maxHeartbeats 6400000 in
theorem each_1 (u dv : Sl) (ps : List (Ten × Tq)) (w : World) (hv : TensIn w u.v ps) (hl : ps.length ≤ 1000) (hp : ∀ p ∈ ps, ∃ x0 x1, p.2 = ([2], [x0, x1])) (hdv : IsInts w dv.v [2]) :
    Calls Tryz.prog 14 #[.slice u.a u.n u.c, .slice dv.a dv.n dv.c, .int .i64 1, .int .i64 2] w fun e w' => w.grownBy w' none ∧ ∃ (qs : List (Ten × Tq)) (va : Option Addr) (vc : Nat), e = .returned (.slice va ps.length vc) ∧ OwnsL 38 3 tcells w' w.heap.size (.slice va ps.length vc) (qs.map (·.1)) ∧ (∀ q ∈ qs, One1 w' q) ∧ qs.map (fun q => (q.1.ty, q.2)) = ps.map (cutQ 1) := by
  obtain ⟨i0, hi, hz0, hz1, hz2⟩ := info_parts infoTenT
  obtain ⟨xa, xc, e1, p1, p2, p3⟩ := hv.vals.form
  rw [List.length_map] at e1 p1 p3
  obtain ⟨ua, un, uc⟩ := u
  obtain ⟨va0, vn0, vc0⟩ := dv
  simp only [Sl.v, Value.slice.injEq] at e1
  obtain ⟨rfl, rfl, rfl⟩ := e1
  have CC : Hid (∀ (k : Nat) (hk : k < ps.length) (wx : World), w.grownBy wx none → Calls Tryz.prog 20 #[.agg #[.int .i64 ps[k].1.ty, .slice ps[k].1.dv.a ps[k].1.dv.n ps[k].1.dv.c, .slice ps[k].1.tv.a ps[k].1.tv.n ps[k].1.tv.c], .slice va0 vn0 vc0, .int .i64 1, .int .i64 2] wx fun e w' => ∃ b : Nat, e = .returned (.slice (some ⟨b, 0, none⟩) 1 1) ∧ w'.heap[b]? = some (.cells #[.int .i64 (ps[k].2.2.getD (1 : Int).toNat 0)] 2 (0, 0)) ∧ wx.grownBy w' none) := fun k hk wx hx => by
    obtain ⟨x0, x1, e⟩ := hp _ (List.getElem_mem hk)
    obtain ⟨h1, h2⟩ := (hv.more hx).has _ (List.getElem_mem hk)
    rw [e] at h1 h2 ⊢
    exact cut_one _ _ _ ⟨va0, vn0, vc0⟩ x0 x1 1 _ wx (by simp) h1 h2 (hdv.more hx)
  obtain ⟨N, hN⟩ : ∃ N, ps.length = N := ⟨_, rfl⟩
  rw [hN] at p1 p3 hl hv ⊢
  have HN := hide hN
  have HV := hide hv
  clear hN hv hp hdv
  go_enter Tryz.func14, Tryz.ntmps14
  go_wp2_with fail
  go_loopw [9, 14] (fun l i wr => w.grownBy wr none ∧ ∃ (k : Nat) (qs : List (Ten × Tq)) (va : Option Addr) (vc : Nat), k ≤ N ∧ i = .int .i64 k ∧ l = .slice va k vc ∧ qs.length = k ∧ OwnsL 38 3 tcells wr w.heap.size (.slice va k vc) (qs.map (·.1)) ∧ (∀ q ∈ qs, One1 wr q) ∧ qs.map (fun q => (q.1.ty, q.2)) = (ps.take k).map (cutQ (1 : Int))) (fun _ i _ => N - (intOf i).toNat)
  case atStart => exact ⟨grown_refl _, 0, [], none, 0, by omega, rfl, rfl, rfl, OwnsL.nil .., by simp, by simp⟩
  case round =>
    obtain ⟨hg, k, qs, va, vc, hk, rfl, rfl, hql, hown, hone, hqs⟩ := hrel
    have HG := hide hg
    have HO := hide hown
    have HQS := hide hqs
    have HQ1 := hide hone
    have HQL := hide hql
    clear hg hown hqs hone hql
    by_cases hlt : k < N
    · have hkp : k < ps.length := by rw [HN.out]; exact hlt
      obtain ⟨ub, uo, rfl⟩ := HV.out.vals.addr (k := k) (by rw [List.length_map]; exact hkp)
      obtain ⟨A, hA⟩ : ∃ A, A = ps[k] := ⟨_, rfl⟩
      have HA := hide hA
      have CA := hide (CC.out k hkp)
      rw [← hA] at CA
      obtain ⟨q0, q1, q2⟩ := (HV.out.more HG.out).at k hkp
      rw [← hA] at q0 q1 q2
      clear hA
      obtain ⟨w4, hw4⟩ : ∃ w4, w4 = wr.alloc (.cells #[.int .i64 A.1.ty, .slice A.1.dv.a A.1.dv.n A.1.dv.c, .slice A.1.tv.a A.1.tv.n A.1.tv.c] 38) := ⟨_, rfl⟩
      have hb4 := heap_alloc_new wr (.cells #[.int .i64 A.1.ty, .slice A.1.dv.a A.1.dv.n A.1.dv.c, .slice A.1.tv.a A.1.tv.n A.1.tv.c] 38)
      have g4 : wr.grownBy w4 none := by rw [hw4]; exact grown_new _ _
      rw [← hw4] at hb4
      have HB4 := hide hb4
      have G4 := hide g4
      clear hb4 g4
      go_wp2_with fail
      clear q0 q1 q2
      rw [← hw4]
      clear hw4
      refine wp_region_held_drew (S := fun w' => w'.heap[wr.heap.size]? = some (.cells #[.int .i64 A.1.ty, .slice A.1.dv.a A.1.dv.n A.1.dv.c, .slice A.1.tv.a A.1.tv.n A.1.tv.c] 38 (0, 0))) (by kernel_rfl) (box_kept HB4.out (grown_drew (grown_refl _))) (fun hHeld => ?_)
      refine wpAnyH_take (i := 0) (v := ?_) rfl (by kernel_rfl) (by kernel_rfl) (by kernel_rfl) (fun _ _ _ h => h) (Or.inl ⟨by kernel_rfl, ?_⟩) (by assumption) ?_
      rotate_left 1
      · (intro wS hSw; go_simp; (try with_reducible rfl))
      try simp only [Act.put]
      refine wpAnyH_take (i := 1) (v := ?_) rfl (by kernel_rfl) (by kernel_rfl) (by kernel_rfl) (fun _ _ _ h => h) (Or.inl ⟨by kernel_rfl, ?_⟩) (by assumption) ?_
      rotate_left 1
      · (intro wS hSw; go_simp; (try with_reducible rfl))
      try simp only [Act.put]
      refine wpAnyH_take (i := 2) (v := ?_) rfl (by kernel_rfl) (by kernel_rfl) (by kernel_rfl) (fun _ _ _ h => h) (Or.inl ⟨by kernel_rfl, ?_⟩) (by assumption) ?_
      rotate_left 1
      · (intro wS hSw; have c0 := (ten_cells hSw).1; go_simp; (try with_reducible rfl))
      try simp only [Act.put]
      refine wpAnyH_take (i := 3) (v := ?_) rfl (by kernel_rfl) (by kernel_rfl) (by kernel_rfl) (fun _ _ _ h => h) (Or.inl ⟨by kernel_rfl, ?_⟩) (by assumption) ?_
      rotate_left 1
      · (intro wS hSw; go_simp; (try with_reducible rfl))
      try simp only [Act.put]
      refine wpAnyH_take (i := 4) (v := ?_) rfl (by kernel_rfl) (by kernel_rfl) (by kernel_rfl) (fun _ _ _ h => h) (Or.inl ⟨by kernel_rfl, ?_⟩) (by assumption) ?_
      rotate_left 1
      · (intro wS hSw; go_simp; (try with_reducible rfl))
      try simp only [Act.put]
      refine wpAnyH_take (i := 5) (v := .int .i64 1) rfl (by kernel_rfl) (by kernel_rfl) (by kernel_rfl) (fun _ _ _ h => h) (Or.inl ⟨by kernel_rfl, ?_⟩) (by assumption) ?_
      · (intro wS hSw; go_simp; (try simp only [show IntKind.wrap .i64 1 = 1 from rfl]))
      try simp only [Act.put]
      refine wpAnyH_take (i := 7) (v := ?_) rfl (by kernel_rfl) (by kernel_rfl) (by kernel_rfl) (fun _ _ _ h => h) (Or.inl ⟨by kernel_rfl, ?_⟩) (by assumption) ?_
      rotate_left 1
      · (intro wS hSw; have c0 := (ten_cells hSw).1; have c1 := (ten_cells hSw).2.1; have c2 := (ten_cells hSw).2.2; go_simp; (try with_reducible rfl))
      try simp only [Act.put]
      refine wpAnyH_take (i := 8) (v := ?_) rfl (by kernel_rfl) (by kernel_rfl) (by kernel_rfl) (fun _ _ _ h => h) (Or.inl ⟨by kernel_rfl, ?_⟩) (by assumption) ?_
      rotate_left 1
      · (intro wS hSw; go_simp; (try with_reducible rfl))
      try simp only [Act.put]
      refine wpAnyH_take (i := 9) (v := ?_) rfl (by kernel_rfl) (by kernel_rfl) (by kernel_rfl) (fun _ _ _ h => h) (Or.inl ⟨by kernel_rfl, ?_⟩) (by assumption) ?_
      rotate_left 1
      · (intro wS hSw; go_simp; (try with_reducible rfl))
      try simp only [Act.put]
      refine wpAnyH_take (i := 10) (v := ?_) rfl (by kernel_rfl) (by kernel_rfl) (by kernel_rfl) (fun _ _ _ h => h) (Or.inl ⟨by kernel_rfl, ?_⟩) (by assumption) ?_
      rotate_left 1
      · (intro wS hSw; go_simp; (try with_reducible rfl))
      try simp only [Act.put]
      refine wpAnyH_ready (rs := [6, 11]) (by kernel_rfl) (by simp) ?_
      refine AllReadyH.cons rfl (fun K hK => ?_) (AllReadyH.cons rfl (fun K hK => ?_) AllReadyH.nil)
      · have GO0 : w4.grownBy w4.drew none := grown_drew (grown_refl _)
        go_simp
        obtain ⟨w5, hw5⟩ : ∃ v, v = (w4.alloc (.cells #[.int .i64 1] 3)).drew := ⟨_, rfl⟩
        have hi5 : w5.heap[w4.heap.size]? = some (.cells #[.int .i64 1] 3 (0, 0)) := by rw [hw5]; exact heap_alloc_new w4 _
        have g45 : w4.grownBy w5 none := by rw [hw5]; exact grown_drew (grown_new _ _)
        have g5 : w4.grownBy w5 none := g45
        rw [← hw5]
        clear hw5
        refine hK.out _ _ (box_kept HB4.out g5) (fun hHeld => ?_)
        clear hK K
        try simp only [Act.put]
        refine wpAnyH_ready (rs := [11]) (by kernel_rfl) (by simp) ?_
        refine AllReadyH.cons rfl (fun K hK => ?_) AllReadyH.nil
        go_simp
        refine (CA.out w5 (grown_trans HG.out (grown_trans G4.out g5))).mono ?_
        rintro e w6 ⟨c, rfl, hc6, g56⟩
        have g6 : w4.grownBy w6 none := grown_trans g5 g56
        refine hK.out _ _ (box_kept HB4.out g6) (fun hHeld => ?_)
        clear hK K
        try simp only [Act.put]
        have hi6 := box_kept hi5 g56
        refine wpAnyH_take (i := 12) (v := ?_) rfl (by kernel_rfl) (by kernel_rfl) (by kernel_rfl) (fun _ _ _ h => h) (Or.inl ⟨by kernel_rfl, ?_⟩) (by assumption) ?_
        rotate_left 1
        · (intro wS hSw; go_simp; (try with_reducible rfl))
        try simp only [Act.put]
        refine wpAnyH_ready (rs := [13]) (by kernel_rfl) (by simp) ?_
        refine AllReadyH.cons rfl (fun K hK => ?_) AllReadyH.nil
        go_simp
        obtain ⟨w7, hw7⟩ : ∃ w7, w7 = w6.alloc (.cells #[.int .i64 A.1.ty, .slice (some ⟨w4.heap.size, 0, none⟩) 1 1, .slice (some ⟨c, 0, none⟩) 1 1] 38) := ⟨_, rfl⟩
        have hb7 := heap_alloc_new w6 (.cells #[.int .i64 A.1.ty, .slice (some ⟨w4.heap.size, 0, none⟩) 1 1, .slice (some ⟨c, 0, none⟩) 1 1] 38)
        have g67 : w6.grownBy w7 none := by rw [hw7]; exact grown_new _ _
        have hs7 : w7.heap.size = w6.heap.size + 1 := by rw [hw7]; simp
        rw [← hw7] at hb7 ⊢
        clear hw7
        have g7 := grown_trans g6 g67
        have gr7 := grown_trans G4.out g7
        refine hK.out _ _ (box_kept HB4.out g7) (fun hHeld => ?_)
        clear hK K
        try simp only [Act.put]
        have hO7 : w7.ownsRow w.heap.size 38 3 (.slice va k vc) k ((qs.map (·.1)).flatMap tcells) := owns_row_atE (HO.out.more gr7) (by rw [List.length_map]; exact HQL.out)
        have hsz : w.heap.size ≤ w7.heap.size := Nat.le_trans HG.out.size gr7.size
        refine wpAnyH_ready (rs := [14]) (by kernel_rfl) (by simp) ?_
        refine AllReadyH.cons rfl (fun K hK => ?_) AllReadyH.nil
        refine step_append_lies _ (by rfl) (.tmp 18) (.tmp 31) 39 (by rfl) w.heap.size 38 i0 (.agg #[.int .i64 0, .slice none 0 0, .slice none 0 0]) 3 56 Tryz.underlying39 hi hz0 hz1 hz2 (by rfl) (by decide) (.slice va k vc) k ((qs.map (·.1)).flatMap tcells) (by rfl) hO7 ⟨w6.heap.size, 0, none⟩ 1 1 (tcells ⟨A.1.ty, ⟨some ⟨w4.heap.size, 0, none⟩, 1, 1⟩, ⟨some ⟨c, 0, none⟩, 1, 1⟩⟩) (by rfl) (by rfl) (by exact World.news_of_block hb7) (tcell_oneT _) (by omega) (by simp only [maxLen]; omega) (by omega) hsz (w7.heap.size) rfl ?_
        intro gg cap w8 hown8 hgrow hat hlt8
        have hnb : some wr.heap.size ≠ (Value.slice va k vc).ownBlock := fun e => by have := (World.ownsRow.lt HO.out _ e.symm).2; omega
        have hB8 := (hgrow.block wr.heap.size (Array.getElem?_eq_some_iff.1 (box_kept HB4.out g7)).1 hnb).trans (box_kept HB4.out g7)
        refine hK.out _ _ hB8 (fun hHeld => ?_)
        clear hK K
        try simp only [Act.put]
        refine wpAnyH_take (i := 15) (v := ?_) rfl (by kernel_rfl) (by kernel_rfl) (by kernel_rfl) (fun _ _ _ h => h) (Or.inl ⟨by kernel_rfl, ?_⟩) (by assumption) ?_
        rotate_left 1
        · (intro wS hSw; go_simp; (try with_reducible rfl))
        try simp only [Act.put]
        refine wpAnyH_done (by kernel_rfl) ?_ _
        have GF := hide (grown_trans_row (grown_trans HG.out gr7) hgrow (fun r e => (World.ownsRow.lt HO.out r e).1))
        have OF : Hid (OwnsL 38 3 tcells w8 w.heap.size (.slice (some ⟨gg, 0, none⟩) (k + 1) cap) ((qs ++ [((⟨A.1.ty, ⟨some ⟨w4.heap.size, 0, none⟩, 1, 1⟩, ⟨some ⟨c, 0, none⟩, 1, 1⟩⟩ : Ten), (([1], [A.2.2.getD (1 : Int).toNat 0]) : Tq))]).map (·.1))) := by
          show OwnsL _ _ _ _ _ _ _
          rw [List.map_append]
          exact owns_at_rowE (by rw [List.length_map]; exact HQL.out) hown8
        have ONF : Hid (∀ q ∈ qs ++ [((⟨A.1.ty, ⟨some ⟨w4.heap.size, 0, none⟩, 1, 1⟩, ⟨some ⟨c, 0, none⟩, 1, 1⟩⟩ : Ten), (([1], [A.2.2.getD (1 : Int).toNat 0]) : Tq))], One1 w8 q) := by
          intro q hq
          have h7 : One1 w7 q := by
            rcases List.mem_append.1 hq with h | h
            · exact (HQ1.out q h).more gr7
            · rw [List.mem_singleton] at h
              exact ⟨_, _, _, _, h, box_kept hi6 g67, box_kept hc6 g67⟩
          exact h7.past hgrow (fun b cur t hb ht => own_apartT hO7 hb ht)
        have MF : Hid ((qs ++ [((⟨A.1.ty, ⟨some ⟨w4.heap.size, 0, none⟩, 1, 1⟩, ⟨some ⟨c, 0, none⟩, 1, 1⟩⟩ : Ten), (([1], [A.2.2.getD (1 : Int).toNat 0]) : Tq))]).map (fun q => (q.1.ty, q.2)) = (ps.take (k + 1)).map (cutQ (1 : Int))) := by
          show _ = _
          rw [List.map_append, HQS.out, List.take_succ_eq_append_getElem hkp, List.map_append, ← HA.out]
          rfl
        generalize qs ++ [((⟨A.1.ty, ⟨some ⟨w4.heap.size, 0, none⟩, 1, 1⟩, ⟨some ⟨c, 0, none⟩, 1, 1⟩⟩ : Ten), (([1], [A.2.2.getD (1 : Int).toNat 0]) : Tq))] = qn at OF ONF MF
        have LN : Hid (qn.length = k + 1) := by
          have h := congrArg List.length MF.out
          simp only [List.length_map, List.length_take] at h
          show qn.length = k + 1
          omega
        clear hHeld hB8 hnb hat hgrow hown8 hO7 gr7 g7 g67 hb7 hs7
        go_simp
        go_wp2_with fail
        go_roundw
        case rel => exact ⟨GF.out, k + 1, qn, some ⟨gg, 0, none⟩, cap, by omega, by go_num, rfl, LN.out, OF.out, ONF.out, MF.out⟩
        case measure => simp [intOf]; omega
      · have GO0 : w4.grownBy w4.drew none := grown_drew (grown_refl _)
        go_simp
        refine (CA.out w4.drew (grown_trans HG.out (grown_trans G4.out GO0))).mono ?_
        rintro e w5 ⟨c, rfl, hc5, g45⟩
        have g5 : w4.grownBy w5 none := grown_trans GO0 g45
        refine hK.out _ _ (box_kept HB4.out g5) (fun hHeld => ?_)
        clear hK K
        try simp only [Act.put]
        refine wpAnyH_ready (rs := [6]) (by kernel_rfl) (by simp) ?_
        refine AllReadyH.cons rfl (fun K hK => ?_) AllReadyH.nil
        go_simp
        obtain ⟨w6, hw6⟩ : ∃ v, v = w5.alloc (.cells #[.int .i64 1] 3) := ⟨_, rfl⟩
        have hi6 : w6.heap[w5.heap.size]? = some (.cells #[.int .i64 1] 3 (0, 0)) := by rw [hw6]; exact heap_alloc_new w5 _
        have g56 : w5.grownBy w6 none := by rw [hw6]; exact grown_new _ _
        have g6 : w4.grownBy w6 none := grown_trans g5 g56
        rw [← hw6]
        clear hw6
        refine hK.out _ _ (box_kept HB4.out g6) (fun hHeld => ?_)
        clear hK K
        try simp only [Act.put]
        have hc6 := box_kept hc5 g56
        refine wpAnyH_take (i := 12) (v := ?_) rfl (by kernel_rfl) (by kernel_rfl) (by kernel_rfl) (fun _ _ _ h => h) (Or.inl ⟨by kernel_rfl, ?_⟩) (by assumption) ?_
        rotate_left 1
        · (intro wS hSw; go_simp; (try with_reducible rfl))
        try simp only [Act.put]
        refine wpAnyH_ready (rs := [13]) (by kernel_rfl) (by simp) ?_
        refine AllReadyH.cons rfl (fun K hK => ?_) AllReadyH.nil
        go_simp
        obtain ⟨w7, hw7⟩ : ∃ w7, w7 = w6.alloc (.cells #[.int .i64 A.1.ty, .slice (some ⟨w5.heap.size, 0, none⟩) 1 1, .slice (some ⟨c, 0, none⟩) 1 1] 38) := ⟨_, rfl⟩
        have hb7 := heap_alloc_new w6 (.cells #[.int .i64 A.1.ty, .slice (some ⟨w5.heap.size, 0, none⟩) 1 1, .slice (some ⟨c, 0, none⟩) 1 1] 38)
        have g67 : w6.grownBy w7 none := by rw [hw7]; exact grown_new _ _
        have hs7 : w7.heap.size = w6.heap.size + 1 := by rw [hw7]; simp
        rw [← hw7] at hb7 ⊢
        clear hw7
        have g7 := grown_trans g6 g67
        have gr7 := grown_trans G4.out g7
        refine hK.out _ _ (box_kept HB4.out g7) (fun hHeld => ?_)
        clear hK K
        try simp only [Act.put]
        have hO7 : w7.ownsRow w.heap.size 38 3 (.slice va k vc) k ((qs.map (·.1)).flatMap tcells) := owns_row_atE (HO.out.more gr7) (by rw [List.length_map]; exact HQL.out)
        have hsz : w.heap.size ≤ w7.heap.size := Nat.le_trans HG.out.size gr7.size
        refine wpAnyH_ready (rs := [14]) (by kernel_rfl) (by simp) ?_
        refine AllReadyH.cons rfl (fun K hK => ?_) AllReadyH.nil
        refine step_append_lies _ (by rfl) (.tmp 18) (.tmp 31) 39 (by rfl) w.heap.size 38 i0 (.agg #[.int .i64 0, .slice none 0 0, .slice none 0 0]) 3 56 Tryz.underlying39 hi hz0 hz1 hz2 (by rfl) (by decide) (.slice va k vc) k ((qs.map (·.1)).flatMap tcells) (by rfl) hO7 ⟨w6.heap.size, 0, none⟩ 1 1 (tcells ⟨A.1.ty, ⟨some ⟨w5.heap.size, 0, none⟩, 1, 1⟩, ⟨some ⟨c, 0, none⟩, 1, 1⟩⟩) (by rfl) (by rfl) (by exact World.news_of_block hb7) (tcell_oneT _) (by omega) (by simp only [maxLen]; omega) (by omega) hsz (w7.heap.size) rfl ?_
        intro gg cap w8 hown8 hgrow hat hlt8
        have hnb : some wr.heap.size ≠ (Value.slice va k vc).ownBlock := fun e => by have := (World.ownsRow.lt HO.out _ e.symm).2; omega
        have hB8 := (hgrow.block wr.heap.size (Array.getElem?_eq_some_iff.1 (box_kept HB4.out g7)).1 hnb).trans (box_kept HB4.out g7)
        refine hK.out _ _ hB8 (fun hHeld => ?_)
        clear hK K
        try simp only [Act.put]
        refine wpAnyH_take (i := 15) (v := ?_) rfl (by kernel_rfl) (by kernel_rfl) (by kernel_rfl) (fun _ _ _ h => h) (Or.inl ⟨by kernel_rfl, ?_⟩) (by assumption) ?_
        rotate_left 1
        · (intro wS hSw; go_simp; (try with_reducible rfl))
        try simp only [Act.put]
        refine wpAnyH_done (by kernel_rfl) ?_ _
        have GF := hide (grown_trans_row (grown_trans HG.out gr7) hgrow (fun r e => (World.ownsRow.lt HO.out r e).1))
        have OF : Hid (OwnsL 38 3 tcells w8 w.heap.size (.slice (some ⟨gg, 0, none⟩) (k + 1) cap) ((qs ++ [((⟨A.1.ty, ⟨some ⟨w5.heap.size, 0, none⟩, 1, 1⟩, ⟨some ⟨c, 0, none⟩, 1, 1⟩⟩ : Ten), (([1], [A.2.2.getD (1 : Int).toNat 0]) : Tq))]).map (·.1))) := by
          show OwnsL _ _ _ _ _ _ _
          rw [List.map_append]
          exact owns_at_rowE (by rw [List.length_map]; exact HQL.out) hown8
        have ONF : Hid (∀ q ∈ qs ++ [((⟨A.1.ty, ⟨some ⟨w5.heap.size, 0, none⟩, 1, 1⟩, ⟨some ⟨c, 0, none⟩, 1, 1⟩⟩ : Ten), (([1], [A.2.2.getD (1 : Int).toNat 0]) : Tq))], One1 w8 q) := by
          intro q hq
          have h7 : One1 w7 q := by
            rcases List.mem_append.1 hq with h | h
            · exact (HQ1.out q h).more gr7
            · rw [List.mem_singleton] at h
              exact ⟨_, _, _, _, h, box_kept hi6 g67, box_kept hc6 g67⟩
          exact h7.past hgrow (fun b cur t hb ht => own_apartT hO7 hb ht)
        have MF : Hid ((qs ++ [((⟨A.1.ty, ⟨some ⟨w5.heap.size, 0, none⟩, 1, 1⟩, ⟨some ⟨c, 0, none⟩, 1, 1⟩⟩ : Ten), (([1], [A.2.2.getD (1 : Int).toNat 0]) : Tq))]).map (fun q => (q.1.ty, q.2)) = (ps.take (k + 1)).map (cutQ (1 : Int))) := by
          show _ = _
          rw [List.map_append, HQS.out, List.take_succ_eq_append_getElem hkp, List.map_append, ← HA.out]
          rfl
        generalize qs ++ [((⟨A.1.ty, ⟨some ⟨w5.heap.size, 0, none⟩, 1, 1⟩, ⟨some ⟨c, 0, none⟩, 1, 1⟩⟩ : Ten), (([1], [A.2.2.getD (1 : Int).toNat 0]) : Tq))] = qn at OF ONF MF
        have LN : Hid (qn.length = k + 1) := by
          have h := congrArg List.length MF.out
          simp only [List.length_map, List.length_take] at h
          show qn.length = k + 1
          omega
        clear hHeld hB8 hnb hat hgrow hown8 hO7 gr7 g7 g67 hb7 hs7
        go_simp
        go_wp2_with fail
        go_roundw
        case rel => exact ⟨GF.out, k + 1, qn, some ⟨gg, 0, none⟩, cap, by omega, by go_num, rfl, LN.out, OF.out, ONF.out, MF.out⟩
        case measure => simp [intOf]; omega
    · obtain rfl : k = N := by omega
      have FN := hide HQS.out
      rw [← HN.out, List.take_of_length_le (Nat.le_refl _)] at FN
      go_wp2_with fail
      go_ret
      exact ⟨HG.out, qs, va, vc, rfl, HO.out, HQ1.out, FN.out⟩

end Go.Proofs.YtabddmiffcnnjaaGreatDoor
