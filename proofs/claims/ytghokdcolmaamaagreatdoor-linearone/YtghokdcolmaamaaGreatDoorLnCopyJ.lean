/- A tensor of its own whose elements may be written anew, by the walk. -/
import Derived.Test.YtghokdcolmaamaaGreatDoorPartV
import Derived.Test.YtghokdcolmaamaaGreatDoorPartM
namespace Go.Proofs.YtghokdcolmaamaaGreatDoor
open Go.RowKit

theorem icell_flat (ts : List Int) : ts.flatMap icell = ts.map (Value.int .i64) := by
  induction ts with
  | nil => rfl
  | cons y ys ih => rw [List.flatMap_cons, List.map_cons, ih]; rfl

set_option maxRecDepth 100000 in
set_option maxHeartbeats 3200000 in
theorem copyten_own (ty : Int) (dv tv : Value) (ds ts : List Int) (w : World) (hd : IsInts w dv ds) (ht : IsInts w tv ts) :
    Calls Tryz.prog 10 #[.agg #[.int .i64 ty, dv, tv]] w fun e w' => ∃ d t : Sl, e = .returned (.agg #[.int .i64 ty, d.v, t.v]) ∧ IsInts w' d.v ds ∧ OwnsE w' w.heap.size t.v ts ∧ New w.heap.size w'.heap.size d.v ∧ New w.heap.size w'.heap.size t.v ∧ (∀ k, d.v.ownBlock = some k → t.v.ownBlock ≠ some k) ∧ w.grownBy w' none := by
  obtain ⟨i0, hi, hz0, hz1, hz2⟩ := info_parts infoI64
  have HD := hide hd
  have HT := hide ht
  obtain ⟨da, dc, rfl, -⟩ := hd
  obtain ⟨ta, tc, rfl, -⟩ := ht
  obtain ⟨w0, hw0⟩ : ∃ w0, w0 = (w.alloc (.cells #[.int .i64 ty, .slice da ds.length dc, .slice ta ts.length tc] 25)).alloc (.cells #[.int .i64 0, .slice none 0 0, .slice none 0 0] 25) := ⟨_, rfl⟩
  have g0 : w.grownBy w0 none := by rw [hw0]; exact grown_trans (grown_new _ _) (grown_new _ _)
  have hbx : w0.heap[w.heap.size]? = some (.cells #[.int .i64 ty, .slice da ds.length dc, .slice ta ts.length tc] 25 (0, 0)) ∧ w0.heap[w.heap.size + 1]? = some (.cells #[.int .i64 0, .slice none 0 0, .slice none 0 0] 25 (0, 0)) := by
    rw [hw0]
    refine ⟨box_kept (heap_alloc_new w _) (grown_new _ _), ?_⟩
    have := heap_alloc_new (w.alloc (.cells #[.int .i64 ty, .slice da ds.length dc, .slice ta ts.length tc] 25)) (.cells #[.int .i64 0, .slice none 0 0, .slice none 0 0] 25)
    simpa using this
  have hs0 : w0.heap.size = w.heap.size + 1 + 1 := by rw [hw0]; simp
  have BX := hide hbx
  have S0 := hide hs0
  obtain ⟨c0, c1, c2⟩ := ten_cells hbx.1
  clear hbx hs0
  go_enter Tryz.func10, Tryz.ntmps10
  go_wp2_with fail
  rw [← hw0]
  clear hw0
  go_cut [3] from 4 to 9 (fun p wx => ∃ (B : Nat) (d : Sl), p = .pointer (some ⟨B, 0, none⟩) ∧ wx.heap[B]? = some (.cells #[.int .i64 ty, .slice d.a d.n d.c, .slice none 0 0] 25 (0, 0)) ∧ IsInts wx d.v ds ∧ New w0.heap.size wx.heap.size d.v ∧ w0.heap.size ≤ B ∧ (∀ k, d.v.ownBlock = some k → k ≠ B) ∧ w0.grownBy wx none)
  case first =>
    have gd := grown_drew (grown_refl w0)
    have CI := hide (fun (wx : World) (hx : w0.grownBy wx none) => copyints_any _ ds wx (HD.out.more (grown_trans g0 hx)))
    have ga := grown_drew (grown_new w0 (.cells #[.int .i64 0, .slice none 0 0, .slice none 0 0] 25))
    have y1 : w.heap.size ≠ w0.heap.size := by have := S0.out; omega
    have y1' := y1.symm
    go_region_held3 (fun w' => w'.cell? ⟨w.heap.size, 0, none⟩ = some (.int .i64 ty) ∧ w'.cell? ⟨w.heap.size, 1, none⟩ = some (.slice da ds.length dc) ∧ w'.cell? ⟨w.heap.size, 2, none⟩ = some (.slice ta ts.length tc)) (go_keep) (first | (go_at_call 14; refine (CI.out _ (by first | exact gd | exact ga)).mono ?_; rintro e w3 ⟨u, rfl, hu, nu, hg3⟩; have g3 : w0.grownBy w3 none := (by first | exact grown_trans gd hg3 | exact grown_trans ga hg3); obtain ⟨c0, c1, c2⟩ := ten_cells (box_kept BX.out.1 g3); have y2 : w.heap.size ≠ w3.heap.size := (by have := g3.size; have := S0.out; omega); have y2' := y2.symm; try (have kz : w3.heap[w0.heap.size]? = some (.cells #[.int .i64 0, .slice none 0 0, .slice none 0 0] 25 (0, 0)) := box_kept (show ((w0.alloc (.cells #[.int .i64 0, .slice none 0 0, .slice none 0 0] 25)).drew).heap[w0.heap.size]? = _ from heap_alloc_new w0 _) hg3; obtain ⟨f0, f1, f2⟩ := ten_frozen kz; obtain ⟨k0, k1, k2⟩ := ten_cells kz)))
    all_goals (go_wp2_with fail; go_meet)
    · refine ⟨_, u, rfl, heap_alloc_new w3 _, hu.more (grown_new _ _), nu.mono (Nat.le_refl _) (by simp), g3.size, fun k hk => ?_, grown_trans g3 (grown_new _ _)⟩
      have := nu k hk
      omega
    · have nu' : New (w0.heap.size + 1) w3.heap.size u.v := by simpa using nu
      obtain ⟨hX, gX⟩ := store3t (.int .i64 ty) (.slice u.a u.n u.c) (.slice none 0 0) kz
      have gs := gX.size
      refine ⟨_, u, rfl, hX, hu.past nu' (Or.inl (by omega)) gX, nu'.mono (by omega) gs, Nat.le_refl _, fun k hk => ?_, grown_trans_row g3 gX (fun r e => by cases e; exact Nat.le_refl _)⟩
      have := nu' k hk
      omega
  case rest =>
    obtain ⟨B, d, rfl, hb, hu, nu, hB, hne, hg⟩ := hcut
    have HU := hide hu
    have HB := hide hb
    have NU := hide nu
    have NE := hide hne
    have gw := grown_trans g0 hg
    have BW := hide (And.intro (box_kept BX.out.1 hg) (box_kept BX.out.2 hg))
    clear c0 c1 c2 hu hb nu hne
    obtain ⟨c0, c1, c2⟩ := ten_cells BW.out.1
    obtain ⟨b0, b1, b2⟩ := ten_cells HB.out
    have HL := hide (isL_ints (HT.out.more gw))
    have hlt := HT.out.le
    have y1 : w.heap.size + 1 ≠ B := by have := S0.out; omega
    have y1' := y1.symm
    go_wp2_with (at_builtin; refine wpl_fresh rfl (.tmp 11) (.tmp 13) 23 2 1 8 (.int .i64 0) i0 icell rfl Tryz.underlying23 hi hz0 hz1 hz2 rfl (by decide) rfl _ ts rfl HL.out icell_len icell_one ?_; intro v' w1 hown hgrow; have HO := hide hown; obtain ⟨xa, xc, rfl⟩ := OwnsL.form hown; have HB1 := hide (box_kept HB.out hgrow); have BW1 := hide (box_kept BW.out.2 hgrow); clear c0 c1 c2 b0 b1 b2 hown; obtain ⟨b0, b1, b2⟩ := ten_cells HB1.out; obtain ⟨f0, f1, f2⟩ := ten_frozen HB1.out; obtain ⟨q0, q1, q2⟩ := ten_cells BW1.out; obtain ⟨p0, p1, p2⟩ := ten_frozen BW1.out)
    have h1 := heap_setCell_same w1 B 2 _ _ (.slice xa ts.length xc) HB1.out
    have gB : w1.grownBy (w1.setCell ⟨B, 2, none⟩ (.slice xa ts.length xc)) (some B) := ⟨rfl, rfl, rfl, by simp [World.setCell], fun k _ hk => Below.heap_setCell _ _ _ _ (fun e => hk (by rw [e]))⟩
    have h2 : (w1.setCell ⟨B, 2, none⟩ (.slice xa ts.length xc)).heap[w.heap.size + 1]? = some (.cells #[.int .i64 0, .slice none 0 0, .slice none 0 0] 25 (0, 0)) := (gB.block _ (Array.getElem?_eq_some_iff.1 BW1.out).1 (fun e => y1 (Option.some.inj e))).trans BW1.out
    obtain ⟨hX, gX⟩ := store3t (.int .i64 ty) (.slice d.a d.n d.c) (.slice xa ts.length xc) h2
    refine bodyPost_ret (ret_ten rfl _ _ (w.heap.size + 1) rfl hX) rfl ?_
    have n1 : New w0.heap.size w1.heap.size d.v := NU.out.mono (Nat.le_refl _) hgrow.size
    have n2 := owns_new HO.out
    have s0 := S0.out
    have s1 := hg.size
    have s2 := (Array.getElem?_eq_some_iff.1 HB.out).1
    have e1 : (w1.setCell ⟨B, 2, none⟩ (.slice xa ts.length xc)).heap.size = w1.heap.size := by simp [World.setCell]
    refine ⟨d, ⟨xa, ts.length, xc⟩, rfl, ?_, ?_, ?_, ?_, ?_, ?_⟩
    · have a1 := HU.out.more hgrow
      have a2 := a1.kept (w' := w1.setCell ⟨B, 2, none⟩ (.slice xa ts.length xc)) (fun b hb hv => gB.block b hb (fun e => NE.out b hv (Option.some.inj e)))
      exact a2.past (n1.mono (Nat.le_refl _) (Nat.le_of_eq e1.symm)) (Or.inl (by omega)) gX
    · have a1 : OwnsE w1 wc.heap.size (.slice xa ts.length xc) ts := ⟨by have h := HO.out; unfold OwnsL at h; rw [icell_flat] at h; exact h, hlt, HT.out.wf⟩
      have a2 := a1.more gB (row_lt' a1.1 s2)
      have a3 := a2.more gX (row_lt' a2.1 (by omega))
      exact ⟨ownsRow_base a3.1 (by omega), a3.2⟩
    · exact n1.mono (by omega) (by have := gX.size; omega)
    · exact n2.mono (by omega) (by have := gX.size; omega)
    · intro k hk e
      have h1 := (NU.out k hk).2
      have h2 := (World.ownsRow.lt HO.out k e).1
      omega
    · exact grown_trans_row (grown_trans_row (grown_trans gw hgrow) gB (fun r e => by cases e; omega)) gX (fun r e => by cases e; omega)
end Go.Proofs.YtghokdcolmaamaaGreatDoor
