/- A tensor of its own, by the walk. -/
import Derived.Test.YtcmilodegbhmfaaDoorNFresh
namespace Go.Proofs.YtcmilodegbhmfaaDoor
open Go.RowKit

theorem tenInfo : (Tryd.prog.info? 49).map (·.size) = some 3 := by kernel_rfl

theorem ret_ten {fn : Func} {p : Tmp} (h : fn.results = #[.cell p 49]) (tmps : Array Value) (w : World) (B : Nat) (hp : tmps.getD p undef = .pointer (some ⟨B, 0, none⟩)) {a0 a1 a2 : Value}
    (hb : w.heap[B]? = some (.cells #[a0, a1, a2] 49 (0, 0))) : (results fn tmps).run Tryd.prog w = .ok (.agg #[a0, a1, a2]) w :=
  results_cell_row h tmps w B 49 #[a0, a1, a2] (0, 0) _ hp hb Tryd.underlying49 rfl (by rw [tenInfo]; rfl)

/-- The three cells of a block, written anew. -/
theorem store3t {w3 : World} {B : Nat} {z0 z1 z2 : Value} {t : TypeId} (a b c : Value) (hb : w3.heap[B]? = some (.cells #[z0, z1, z2] t (0, 0))) :
    (((w3.setCell ⟨B, 0, none⟩ a).setCell ⟨B, 1, none⟩ b).setCell ⟨B, 2, none⟩ c).heap[B]? = some (.cells #[a, b, c] t (0, 0)) ∧ w3.grownBy (((w3.setCell ⟨B, 0, none⟩ a).setCell ⟨B, 1, none⟩ b).setCell ⟨B, 2, none⟩ c) (some B) := by
  have h1 := heap_setCell_same w3 B 0 _ _ a hb
  have h2 := heap_setCell_same _ B 1 _ _ b h1
  have h3 := heap_setCell_same _ B 2 _ _ c h2
  have g : ∀ (x : World) (j : Nat) (v : Value), x.grownBy (x.setCell ⟨B, j, none⟩ v) (some B) := fun x j v =>
    ⟨rfl, rfl, rfl, by simp [World.setCell], fun k _ hk => Below.heap_setCell _ _ _ _ (fun e => hk (by rw [e]))⟩
  exact ⟨by simpa using h3, grown_same (grown_same (g w3 0 a) (g _ 1 b)) (g _ 2 c)⟩

theorem ten_frozen {w : World} {B : Nat} {z0 z1 z2 : Value} {t : TypeId} (hb : w.heap[B]? = some (.cells #[z0, z1, z2] t (0, 0))) :
    w.frozen? ⟨B, 0, none⟩ = false ∧ w.frozen? ⟨B, 1, none⟩ = false ∧ w.frozen? ⟨B, 2, none⟩ = false :=
  ⟨frozen_of_row w B 0 _ _ hb, frozen_of_row w B 1 _ _ hb, frozen_of_row w B 2 _ _ hb⟩

set_option maxRecDepth 100000 in
set_option maxHeartbeats 3200000 in
theorem copyten_any (ty : Int) (dv tv : Value) (ds ts : List Int) (w : World) (hd : IsInts w dv ds) (ht : IsInts w tv ts) :
    Calls Tryd.prog 27 #[.agg #[.int .i64 ty, dv, tv]] w fun e w' => ∃ d t : Sl, e = .returned (.agg #[.int .i64 ty, d.v, t.v]) ∧ IsInts w' d.v ds ∧ IsInts w' t.v ts ∧ New w.heap.size w'.heap.size d.v ∧ New w.heap.size w'.heap.size t.v ∧ w.grownBy w' none := by
  obtain ⟨i0, hi, hz0, hz1, hz2⟩ := info_parts infoI64
  have HD := hide hd
  have HT := hide ht
  obtain ⟨da, dc, rfl, -⟩ := hd
  obtain ⟨ta, tc, rfl, -⟩ := ht
  obtain ⟨w0, hw0⟩ : ∃ w0, w0 = (w.alloc (.cells #[.int .i64 ty, .slice da ds.length dc, .slice ta ts.length tc] 49)).alloc (.cells #[.int .i64 0, .slice none 0 0, .slice none 0 0] 49) := ⟨_, rfl⟩
  have g0 : w.grownBy w0 none := by rw [hw0]; exact grown_trans (grown_new _ _) (grown_new _ _)
  have hbx : w0.heap[w.heap.size]? = some (.cells #[.int .i64 ty, .slice da ds.length dc, .slice ta ts.length tc] 49 (0, 0)) ∧ w0.heap[w.heap.size + 1]? = some (.cells #[.int .i64 0, .slice none 0 0, .slice none 0 0] 49 (0, 0)) := by
    rw [hw0]
    refine ⟨box_kept (heap_alloc_new w _) (grown_new _ _), ?_⟩
    have := heap_alloc_new (w.alloc (.cells #[.int .i64 ty, .slice da ds.length dc, .slice ta ts.length tc] 49)) (.cells #[.int .i64 0, .slice none 0 0, .slice none 0 0] 49)
    simpa using this
  have hs0 : w0.heap.size = w.heap.size + 1 + 1 := by rw [hw0]; simp
  have BX := hide hbx
  have S0 := hide hs0
  obtain ⟨c0, c1, c2⟩ := ten_cells hbx.1
  clear hbx hs0
  go_enter Tryd.func27, Tryd.ntmps27
  go_wp2_with fail
  rw [← hw0]
  clear hw0
  go_cut [3] from 4 to 9 (fun p wx => ∃ (B : Nat) (d : Sl), p = .pointer (some ⟨B, 0, none⟩) ∧ wx.heap[B]? = some (.cells #[.int .i64 ty, .slice d.a d.n d.c, .slice none 0 0] 49 (0, 0)) ∧ IsInts wx d.v ds ∧ New w0.heap.size wx.heap.size d.v ∧ w0.heap.size ≤ B ∧ (∀ k, d.v.ownBlock = some k → k ≠ B) ∧ w0.grownBy wx none)
  case first =>
    have gd := grown_drew (grown_refl w0)
    have CI := hide (fun (wx : World) (hx : w0.grownBy wx none) => copyints_any _ ds wx (HD.out.more (grown_trans g0 hx)))
    have ga := grown_drew (grown_new w0 (.cells #[.int .i64 0, .slice none 0 0, .slice none 0 0] 49))
    have y1 : w.heap.size ≠ w0.heap.size := by have := S0.out; omega
    have y1' := y1.symm
    go_region_held3 (fun w' => w'.cell? ⟨w.heap.size, 0, none⟩ = some (.int .i64 ty) ∧ w'.cell? ⟨w.heap.size, 1, none⟩ = some (.slice da ds.length dc) ∧ w'.cell? ⟨w.heap.size, 2, none⟩ = some (.slice ta ts.length tc)) (go_keep) (first | (go_at_call 45; refine (CI.out _ (by first | exact gd | exact ga)).mono ?_; rintro e w3 ⟨u, rfl, hu, nu, hg3⟩; have g3 : w0.grownBy w3 none := (by first | exact grown_trans gd hg3 | exact grown_trans ga hg3); obtain ⟨c0, c1, c2⟩ := ten_cells (box_kept BX.out.1 g3); have y2 : w.heap.size ≠ w3.heap.size := (by have := g3.size; have := S0.out; omega); have y2' := y2.symm; try (have kz : w3.heap[w0.heap.size]? = some (.cells #[.int .i64 0, .slice none 0 0, .slice none 0 0] 49 (0, 0)) := box_kept (show ((w0.alloc (.cells #[.int .i64 0, .slice none 0 0, .slice none 0 0] 49)).drew).heap[w0.heap.size]? = _ from heap_alloc_new w0 _) hg3; obtain ⟨f0, f1, f2⟩ := ten_frozen kz; obtain ⟨k0, k1, k2⟩ := ten_cells kz)))
    all_goals (go_wp2_with fail; go_meet)
    · refine ⟨_, u, rfl, heap_alloc_new w3 _, hu.more (grown_new _ _), nu.mono (Nat.le_refl _) (by simp), g3.size, fun k hk => ?_, grown_trans g3 (grown_new _ _)⟩
      have := nu k hk
      omega
    · have nu' : New (w0.heap.size + 1) w3.heap.size u.v := by simpa using nu
      obtain ⟨hX, gX⟩ := store3t (.int .i64 ty) (.slice u.a u.n u.c) (.slice none 0 0) kz
      have gs := gX.size
      refine ⟨_, u, rfl, hX, hu.past nu' (Or.inl (by omega)) gX, nu'.mono (by omega) gs, Nat.le_refl _, fun k hk => ?_, grown_trans_row g3 gX (fun r e => by cases e; exact Nat.le_refl _)⟩
      have := nu' k hk
      omega
  case rest =>
    obtain ⟨B, d, rfl, hb, hu, nu, hB, hne, hg⟩ := hcut
    have HU := hide hu
    have HB := hide hb
    have NU := hide nu
    have NE := hide hne
    have gw := grown_trans g0 hg
    have BW := hide (And.intro (box_kept BX.out.1 hg) (box_kept BX.out.2 hg))
    clear c0 c1 c2 hu hb nu hne
    obtain ⟨c0, c1, c2⟩ := ten_cells BW.out.1
    obtain ⟨b0, b1, b2⟩ := ten_cells HB.out
    have HL := hide (isL_ints (HT.out.more gw))
    have hlt := HT.out.le
    have y1 : w.heap.size + 1 ≠ B := by have := S0.out; omega
    have y1' := y1.symm
    go_wp2_with (at_builtin; refine wpl_fresh rfl (.tmp 11) (.tmp 13) 47 2 1 8 (.int .i64 0) i0 icell rfl Tryd.underlying47 hi hz0 hz1 hz2 rfl (by decide) rfl _ ts rfl HL.out icell_len icell_one ?_; intro v' w1 hown hgrow; have HO := hide hown; obtain ⟨xa, xc, rfl⟩ := OwnsL.form hown; have HB1 := hide (box_kept HB.out hgrow); have BW1 := hide (box_kept BW.out.2 hgrow); clear c0 c1 c2 b0 b1 b2 hown; obtain ⟨b0, b1, b2⟩ := ten_cells HB1.out; obtain ⟨f0, f1, f2⟩ := ten_frozen HB1.out; obtain ⟨q0, q1, q2⟩ := ten_cells BW1.out; obtain ⟨p0, p1, p2⟩ := ten_frozen BW1.out)
    have h1 := heap_setCell_same w1 B 2 _ _ (.slice xa ts.length xc) HB1.out
    have gB : w1.grownBy (w1.setCell ⟨B, 2, none⟩ (.slice xa ts.length xc)) (some B) := ⟨rfl, rfl, rfl, by simp [World.setCell], fun k _ hk => Below.heap_setCell _ _ _ _ (fun e => hk (by rw [e]))⟩
    have h2 : (w1.setCell ⟨B, 2, none⟩ (.slice xa ts.length xc)).heap[w.heap.size + 1]? = some (.cells #[.int .i64 0, .slice none 0 0, .slice none 0 0] 49 (0, 0)) := (gB.block _ (Array.getElem?_eq_some_iff.1 BW1.out).1 (fun e => y1 (Option.some.inj e))).trans BW1.out
    obtain ⟨hX, gX⟩ := store3t (.int .i64 ty) (.slice d.a d.n d.c) (.slice xa ts.length xc) h2
    refine bodyPost_ret (ret_ten rfl _ _ (w.heap.size + 1) rfl hX) rfl ?_
    have n1 : New w0.heap.size w1.heap.size d.v := NU.out.mono (Nat.le_refl _) hgrow.size
    have n2 := owns_new HO.out
    have s0 := S0.out
    have s1 := hg.size
    have s2 := (Array.getElem?_eq_some_iff.1 HB.out).1
    have e1 : (w1.setCell ⟨B, 2, none⟩ (.slice xa ts.length xc)).heap.size = w1.heap.size := by simp [World.setCell]
    refine ⟨d, ⟨xa, ts.length, xc⟩, rfl, ?_, ?_, ?_, ?_, ?_⟩
    · have a1 := HU.out.more hgrow
      have a2 := a1.kept (w' := w1.setCell ⟨B, 2, none⟩ (.slice xa ts.length xc)) (fun b hb hv => gB.block b hb (fun e => NE.out b hv (Option.some.inj e)))
      exact a2.past (n1.mono (Nat.le_refl _) (Nat.le_of_eq e1.symm)) (Or.inl (by omega)) gX
    · have a1 := ints_owns HO.out hlt HT.out.wf
      exact (a1.past n2 (Or.inl s2) gB).past n2 (Or.inl (by omega)) gX
    · exact n1.mono (by omega) (by have := gX.size; omega)
    · exact n2.mono (by omega) (by have := gX.size; omega)
    · exact grown_trans_row (grown_trans_row (grown_trans gw hgrow) gB (fun r e => by cases e; omega)) gX (fun r e => by cases e; omega)
end Go.Proofs.YtcmilodegbhmfaaDoor
