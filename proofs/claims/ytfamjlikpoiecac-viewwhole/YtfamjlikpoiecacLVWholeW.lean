/- ViewWhole, by the walk. -/
import Derived.Test.YtfamjlikpoiecacVIota
import Derived.Test.YtfamjlikpoiecacSSame
import Derived.Deep.RegionWith
namespace Go.Proofs.Ytfamjlikpoiecac
open Go.RowKit

theorem shaped_ok {off : Int} {ds ss l : List Int} {E off' : Int} {ds' ss' : List Int} (h : Reshaped off ds ss l E off' ds' ss') (hE : E = 0) : Fine l ∧ prod ds = prod l ∧ off' = off ∧ ds' = l ∧ ss' = strd l := by
  rcases h with ⟨_, h, _⟩ | ⟨_, h, h', _⟩ | ⟨_, _, _, h, _⟩ | ⟨_, _, _, _, h, _⟩ | ⟨_, h1, h2, _, _, h3, h4, h5⟩
  · rw [h] at hE; cases hE
  · exact absurd (h'.symm.trans hE) h
  · rw [h] at hE; cases hE
  · rw [h] at hE; cases hE
  · exact ⟨h1, h2, h3, h4, h5⟩

theorem same64 (u v : Value) (zs : List Int) (w : World) (hu : IsInts w u zs) (hv : IsInts w v zs) :
    Calls Try.prog 12 #[u, v] w fun e w' => e = .returned (.bool true) ∧ w.grownBy w' none := by
  have := samedata_any u v zs zs w hu hv
  simpa using this

set_option maxHeartbeats 6400000 in
theorem vwhole_walk (dv : Value) (ds : List Int) (ov : Value) (os : List Int) (w : World) (hd : IsInts w dv ds) (ho : IsInts w ov os) :
    Calls Try.prog 3 #[dv, ov] w fun e w' => e = .returned (.bool true) ∧ Below w.heap.size w w' := by
  have HD := hide hd
  have HO := hide ho
  have c1 := whole_any dv ds w hd
  clear hd ho
  by_cases hE : cntE ds = 0
  · have HF := hide (fine_of hE)
    rw [hE, show rowDs ds = ds by simp [rowDs, hE], show strdE ds = strd ds by simp [strdE, hE]] at c1
    have C1 := hide c1
    have hpp := HF.out.prod_pos
    have hpl := HF.out.le
    have NB : Hid (∀ wx, Calls Try.prog 11 #[.int .i64 (prod ds)] wx fun e w' => ∃ u, e = .returned u ∧ Owns64 w' wx.heap.size u (iota 0 (prod ds).toNat) ∧ wx.grownBy w' none) := fun wx => by
      have := numbers_any (prod ds).toNat (by omega) wx
      rw [show (((prod ds).toNat : Nat) : Int) = prod ds by omega] at this
      exact this
    have RW := hide (rd_whole HF.out)
    have HC : Hid (∀ wx, w.grownBy wx none → Calls Try.prog 9 #[dv] wx fun e w' => e = .returned (.tuple #[.int .i64 (prod ds), .int .i64 0]) ∧ wx = w') := fun wx hx => by
      have := refcount_any dv ds wx (HD.out.more hx)
      rw [HF.out.ok, HF.out.cnt] at this
      exact this
    obtain ⟨N, hN⟩ : ∃ N, N = (prod ds).toNat := ⟨_, rfl⟩
    obtain ⟨M, hM⟩ : ∃ M, M = prod ds := ⟨_, rfl⟩
    rw [← hN] at NB RW
    rw [← hM] at NB HC
    have HN := hide hN
    clear c1 hE hM hN hpp hpl
    go_enter Try.func3, Try.ntmps3
    go_wp2_with fail
    refine C1.out.mono ?_
    rintro e w1 ⟨v, rfl, own, hg1⟩
    have VW := hide own.view
    obtain ⟨d, s, rfl, od, oss, -, -, -⟩ := own
    obtain ⟨da, dc, rfl, -, -, -, -, -, -⟩ := od.ints
    obtain ⟨sa, sc, rfl, -, -, -, -, -, -⟩ := oss.ints
    obtain ⟨w2, hw2⟩ : ∃ w2, w2 = w1.alloc (.cells #[.int .i64 0, .slice da ds.length dc, .slice sa (strd ds).length sc] 24) := ⟨_, rfl⟩
    have hg2 : w1.grownBy w2 none := by rw [hw2]; exact grown_new _ _
    have g02 := grown_trans hg1 hg2
    have bV : Hid (∀ wx, w2.grownBy wx none → wx.heap[w1.heap.size]? = some (.cells #[.int .i64 0, .slice da ds.length dc, .slice sa (strd ds).length sc] 24 (0, 0))) := fun wx hx => box_kept (by rw [hw2]; exact heap_alloc_new w1 _) hx
    clear od oss
    go_wp2_with fail
    rw [← hw2]
    clear hw2
    refine (HC.out _ g02).mono ?_
    rintro e w' ⟨rfl, rfl⟩
    obtain ⟨k0, k1, k2, -, -, -⟩ := box_cells (bV.out w2 (grown_refl _))
    have gd := grown_drew (grown_refl w2)
    have RD : Hid (∀ wx u, w1.grownBy wx none → IsInts wx u (iota 0 N) → Calls Try.prog 10 #[.agg #[.int .i64 0, .slice da ds.length dc, .slice sa (strd ds).length sc], u] wx fun e w' => ∃ r, e = .returned (.tuple #[r, .int .i64 0]) ∧ Owns64 w' wx.heap.size r (iota 0 N) ∧ wx.grownBy w' none) := fun wx u hx hu => by
      have := read_any 0 ds (strd ds) (iota 0 N) _ u wx (VW.out.more hx) hu
      rw [RW.out.1, RW.out.2] at this
      exact this
    go_wp2
    go_region_with (first | (go_at_call 11; refine (NB.out _).mono ?_; rintro e w3 ⟨u, rfl, ou, hg3⟩; have g23 := grown_trans gd hg3; obtain ⟨k0, k1, k2, -, -, -⟩ := box_cells (bV.out w3 g23); obtain ⟨ua, uc, rfl, -, -, -, -, -, -⟩ := ou.ints) | (go_at_call 10; refine (RD.out _ _ (by exact grown_trans hg2 g23) (by exact ou.ints)).mono ?_; rintro e w4 ⟨l, rfl, ol, hg4⟩; have g24 := grown_trans g23 hg4; obtain ⟨k0, k1, k2, -, -, -⟩ := box_cells (bV.out w4 g24); obtain ⟨la, lc, rfl, -, -, -, -, -, -⟩ := ol.ints))
    all_goals
      have OL := hide ol.ints
      clear ol ou
      go_wp2_with fail
      refine (NB.out _).mono ?_
      rintro e w5 ⟨u2, rfl, ou2, hg5⟩
      go_wp2_with fail
      refine (same64 _ _ _ _ (OL.out.more hg5) ou2.ints).mono ?_
      rintro e w6 ⟨rfl, hg6⟩
      have g26 := grown_trans g24 (grown_trans hg5 hg6)
      have OL6 := hide (OL.out.more (grown_trans hg5 hg6))
      have RS := hide (reshape_any _ ov 0 ds (strd ds) os w6 (VW.out.more (grown_trans hg2 g26)) (HO.out.more (grown_trans g02 g26)))
      obtain ⟨k0, k1, k2, -, -, -⟩ := box_cells (bV.out w6 g26)
      clear ou2
      go_wp2_with fail
      refine RS.out.mono ?_
      rintro e w7 ⟨x, E, off', ds', ss', rfl, hr, ox, hg7⟩
      have g27 := grown_trans g26 hg7
      have VX := hide ox.view
      obtain ⟨d2, s2, rfl, od2, os2, -, -, -⟩ := ox
      obtain ⟨da2, dc2, rfl, -, -, -, -, -, -⟩ := od2.ints
      obtain ⟨sa2, sc2, rfl, -, -, -, -, -, -⟩ := os2.ints
      have OL7 := hide (OL6.out.more hg7)
      clear od2 os2
      by_cases hE7 : E = 0
      · obtain ⟨hFo, hpo, rfl, rfl, rfl⟩ := shaped_ok hr hE7
        subst hE7
        have RW2 := hide (rd_whole hFo)
        rw [← hpo, ← HN.out] at RW2
        obtain ⟨w8, hw8⟩ : ∃ w8, w8 = w7.alloc (.cells #[.int .i64 0, .slice da2 ds'.length dc2, .slice sa2 (strd ds').length sc2] 24) := ⟨_, rfl⟩
        have hg8 : w7.grownBy w8 none := by rw [hw8]; exact grown_new _ _
        have bX : Hid (∀ wx, w8.grownBy wx none → wx.heap[w7.heap.size]? = some (.cells #[.int .i64 0, .slice da2 ds'.length dc2, .slice sa2 (strd ds').length sc2] 24 (0, 0))) := fun wx hx => box_kept (by rw [hw8]; exact heap_alloc_new w7 _) hx
        have RD2 : Hid (∀ wx u, w7.grownBy wx none → IsInts wx u (iota 0 N) → Calls Try.prog 10 #[.agg #[.int .i64 0, .slice da2 ds'.length dc2, .slice sa2 (strd ds').length sc2], u] wx fun e w' => ∃ r, e = .returned (.tuple #[r, .int .i64 0]) ∧ Owns64 w' wx.heap.size r (iota 0 N) ∧ wx.grownBy w' none) := fun wx u hx hu => by
          have := read_any 0 ds' (strd ds') (iota 0 N) _ u wx (VX.out.more hx) hu
          rw [RW2.out.1, RW2.out.2] at this
          exact this
        clear hr hFo hpo
        go_wp2
        rw [← hw8]
        clear hw8
        obtain ⟨q0, q1, q2, -, -, -⟩ := box_cells (bX.out w8 (grown_refl _))
        have gd8 := grown_drew (grown_refl w8)
        go_region_with (first | (go_at_call 11; refine (NB.out _).mono ?_; rintro e w9 ⟨u3, rfl, ou3, hg9⟩; have g89 := grown_trans gd8 hg9; obtain ⟨q0, q1, q2, -, -, -⟩ := box_cells (bX.out w9 g89); obtain ⟨ua3, uc3, rfl, -, -, -, -, -, -⟩ := ou3.ints) | (go_at_call 10; refine (RD2.out _ _ (by exact grown_trans hg8 g89) (by exact ou3.ints)).mono ?_; rintro e w10 ⟨m, rfl, om, hg10⟩; have g8a := grown_trans g89 hg10; obtain ⟨ma, mc, rfl, -, -, -, -, -, -⟩ := om.ints))
        all_goals
          have OM := hide om.ints
          have g7a := grown_trans hg8 g8a
          clear om ou3
          go_wp2_with fail
          refine (same64 _ _ _ _ OM.out (OL7.out.more g7a)).mono ?_
          rintro e w11 ⟨rfl, hg11⟩
          go_wp2_with fail
          refine (vlive_any _).mono ?_
          rintro e w12 ⟨rfl, hg12⟩
          go_wp2
          go_ret
          exact ⟨rfl, grown_below (grown_trans g02 (grown_trans g27 (grown_trans g7a (grown_trans hg11 hg12))))⟩
      · have hE8 := beq_zero_false hE7
        clear hE7 hr
        go_wp2_with fail
        refine (vlive_any _).mono ?_
        rintro e w8 ⟨rfl, hg8⟩
        go_wp2
        go_ret
        exact ⟨rfl, grown_below (grown_trans g02 (grown_trans g27 (grown_trans (grown_new _ _) hg8)))⟩
  · have hE' := beq_zero_false hE
    obtain ⟨E, hEE⟩ : ∃ E, E = cntE ds := ⟨_, rfl⟩
    rw [← hEE] at hE' c1
    have C1 := hide c1
    clear c1 hE hEE
    go_enter Try.func3, Try.ntmps3
    go_wp2_with fail
    refine C1.out.mono ?_
    rintro e w1 ⟨v, rfl, own, hg1⟩
    obtain ⟨d, s, rfl, od, oss, -, -, -⟩ := own
    obtain ⟨da, dc, rfl, -, -, -, -, -, -⟩ := od.ints
    obtain ⟨sa, sc, rfl, -, -, -, -, -, -⟩ := oss.ints
    clear od oss
    go_wp2_with fail
    refine (vlive_any _).mono ?_
    rintro e w2 ⟨rfl, hg2⟩
    go_wp2
    go_ret
    exact ⟨rfl, grown_below (grown_trans hg1 (grown_trans (grown_new _ _) hg2))⟩
end Go.Proofs.Ytfamjlikpoiecac
