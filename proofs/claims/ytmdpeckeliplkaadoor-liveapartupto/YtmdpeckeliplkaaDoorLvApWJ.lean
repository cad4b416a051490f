/- LiveApart, by the walk. -/
import Derived.Test.YtmdpeckeliplkaaDoorPartU
import Derived.Test.YtmdpeckeliplkaaDoorLvWidJ
namespace Go.Proofs.YtmdpeckeliplkaaDoor
open Go.RowKit

/-- What Apart answers. -/
def apR (cs : List Nc) (vin vout : List (Val × List Int)) (its : List (Nam × List Int × List Int)) (a b : Int) : Bool × Int :=
  if (orderR cs vin vout its).2 ≠ 0 then (false, (orderR cs vin vout its).2) else if ¬ (0 ≤ a ∧ a < cs.length ∧ 0 ≤ b ∧ b < cs.length ∧ a ≠ b) then (false, 1) else (apartF (readG cs vin its) (outG cs vin vout its) (rowsG cs vin its) a.toNat b.toNat, 0)

theorem Aps.eq {cs : List Nc} {vin vout : List (Val × List Int)} {its : List (Nam × List Int × List Int)} {a b : Int} {w w' : World} {e : Ending} (h : Aps cs vin vout its a b w e w') : e = .returned (.tuple #[.bool (apR cs vin vout its a b).1, .int .i64 (apR cs vin vout its a b).2]) ∧ w.grownBy w' none := by
  refine ⟨?_, h.1⟩
  unfold apR
  rcases h.2 with ⟨h1, h2⟩ | ⟨h1, h2, h3⟩ | ⟨h1, h2, h3⟩
  · rw [if_pos h1]; exact h2
  · rw [if_neg (by simpa using h1), if_pos h2]; exact h3
  · rw [if_neg (by simpa using h1), if_neg (by simpa using h2)]; exact h3

set_option maxRecDepth 100000 in
set_option maxHeartbeats 6400000 in
theorem liveApart_walk (g : Gra) (cs : List Nc) (vin vout : List (Val × List Int)) (its : List (Nam × List Int × List Int)) (a b : Int) (w : World) (hl : Laid w) (hg : GraphOk w g cs vin vout its) :
    Calls Tryd.prog 4 #[gval g, .int .i64 a, .int .i64 b] w fun e w' => e = .returned (.bool true) ∧ Below w.heap.size w w' := by
  have SA := hide (fun (wx : World) (hx : w.grownBy wx none) => small19_any g cs vin vout its wx (hg.more hx))
  have AP := hide (fun (wx : World) (hx : w.grownBy wx none) => (apart_any g cs vin vout its a b wx (hl.more hx) (hg.more hx)).mono (fun _ _ h => h.eq))
  have DP := hide (fun (wx : World) (hx : w.grownBy wx none) => (dapart_any g cs vin vout its a b wx (hg.more hx)).mono (fun _ _ h => h.eq))
  have LV := hide (fun (wx : World) (hx : w.grownBy wx none) => alive_any wx (hl.more hx))
  have HG := hide hg
  have e3 : g.ov.n = vout.length := by obtain ⟨_, _, e, -⟩ := hg.base.outs.form; rw [List.length_map] at e; simp only [Sl.v, Value.slice.injEq] at e; exact e.2.1
  obtain ⟨f1, f2, f3, f4⟩ := hg.base.few
  obtain ⟨nam, ⟨na0, nn0, nc0⟩, ⟨ia, iN, ic⟩, ⟨oa, oN, oc⟩, ⟨ta, tN, tc⟩⟩ := g
  have e3 : oN = vout.length := e3
  subst e3
  clear hl hg
  unfold gval at SA AP DP ⊢
  simp only at SA AP DP ⊢
  obtain ⟨R, hR⟩ : ∃ R, R = apR cs vin vout its a b := ⟨_, rfl⟩
  rw [← hR] at AP DP
  clear hR
  obtain ⟨X, E⟩ := R
  simp only at AP DP
  obtain ⟨w0, hw0⟩ : ∃ w0, w0 = w.alloc (.cells #[.string nam, .slice na0 nn0 nc0, .slice ia iN ic, .slice oa vout.length oc, .slice ta tN tc] 26) := ⟨_, rfl⟩
  have g0 : w.grownBy w0 none := by rw [hw0]; exact grown_new _ _
  have b0 := heap_alloc_new w (.cells #[.string nam, .slice na0 nn0 nc0, .slice ia iN ic, .slice oa vout.length oc, .slice ta tN tc] 26)
  rw [← hw0] at b0
  have BX : Hid (∀ wx, w0.grownBy wx none → wx.heap[w.heap.size]? = some (.cells #[.string nam, .slice na0 nn0 nc0, .slice ia iN ic, .slice oa vout.length oc, .slice ta tN tc] 26 (0, 0))) := fun wx hx => box_kept b0 hx
  obtain ⟨r0, r1, r2, r3, r4⟩ := gra_cells (g := ⟨nam, ⟨na0, nn0, nc0⟩, ⟨ia, iN, ic⟩, ⟨oa, vout.length, oc⟩, ⟨ta, tN, tc⟩⟩) b0
  rw [hw0] at r0 r1 r2 r3 r4
  clear b0
  go_enter Tryd.func4, Tryd.ntmps4
  go_wp2_with fail
  rw [← hw0]
  clear hw0 r0 r1 r2 r3 r4
  refine (SA.out w0 g0).mono ?_
  rintro e w1 ⟨rfl, hg1⟩
  have g1 := grown_trans g0 hg1
  cases smallF cs vin vout its with
  | false =>
    go_wp2_with fail
    refine (LV.out w1 g1).mono ?_
    rintro e w2 ⟨rfl, hg2⟩
    go_wp2
    go_ret
    exact ⟨rfl, grown_below (grown_trans g1 hg2)⟩
  | true =>
    obtain ⟨r0, r1, r2, r3, r4⟩ := gra_cells (g := ⟨nam, ⟨na0, nn0, nc0⟩, ⟨ia, iN, ic⟩, ⟨oa, vout.length, oc⟩, ⟨ta, tN, tc⟩⟩) (BX.out w1 hg1)
    go_wp2_with fail
    clear r0 r1 r2 r3 r4
    refine (AP.out w1 g1).mono ?_
    rintro e w2 ⟨rfl, hg2⟩
    have g2 := grown_trans g1 hg2
    have g02 := grown_trans hg1 hg2
    obtain ⟨r0, r1, r2, r3, r4⟩ := gra_cells (g := ⟨nam, ⟨na0, nn0, nc0⟩, ⟨ia, iN, ic⟩, ⟨oa, vout.length, oc⟩, ⟨ta, tN, tc⟩⟩) (BX.out w2 g02)
    go_wp2_with fail
    clear r0 r1 r2 r3 r4
    refine (DP.out w2 g2).mono ?_
    rintro e w3 ⟨rfl, hg3⟩
    have G3 := hide (grown_trans g2 hg3)
    have G03 := hide (grown_trans g02 hg3)
    obtain ⟨r0, r1, r2, r3, r4⟩ := gra_cells (g := ⟨nam, ⟨na0, nn0, nc0⟩, ⟨ia, iN, ic⟩, ⟨oa, vout.length, oc⟩, ⟨ta, tN, tc⟩⟩) (BX.out w3 G03.out)
    go_wp2_with fail
    clear r0 r1 r2 r3 r4 g0 hg1 g1 hg2 g2 g02 hg3
    go_loopg [11] vout.length (fun gh i wr => ∃ t : Nat, gh = vout.length - t ∧ t ≤ vout.length ∧ i = .int .i64 t ∧ w3.grownBy wr none)
    case atStart => exact ⟨0, rfl, Nat.zero_le _, rfl, grown_refl _⟩
    case round =>
      obtain ⟨t, hgt, ht, rfl, hgr⟩ := hrel
      obtain ⟨r0, r1, r2, r3, r4⟩ := gra_cells (g := ⟨nam, ⟨na0, nn0, nc0⟩, ⟨ia, iN, ic⟩, ⟨oa, vout.length, oc⟩, ⟨ta, tN, tc⟩⟩) (BX.out wr (grown_trans G03.out hgr))
      by_cases hlt : t < vout.length
      · have HLv := HG.out.base.outs.more (grown_trans G3.out hgr)
        obtain ⟨b8, off8, hna⟩ := HLv.addr (k := t) (by rw [List.length_map]; exact hlt)
        have hna : oa = some ⟨b8, off8, none⟩ := hna
        subst hna
        obtain ⟨v0, v1, v2⟩ := HLv.val t (by rw [List.length_map]; exact hlt)
        have HD := hide (fun (wx : World) (hx : w3.grownBy wx none) => HG.out.more (grown_trans G3.out hx))
        have HDI : Hid (∀ wx, w3.grownBy wx none → IsInts wx ((vout.map (fun p : Val × List Int => p.1))[t]'(by rw [List.length_map]; exact hlt)).dv.v (vout[t]).2) := fun wx hx => by
          rw [List.getElem_map]
          exact (HD.out wx hx).base.dout _ (List.getElem_mem hlt)
        obtain ⟨ds, hds⟩ : ∃ ds, ds = (vout[t]).2 := ⟨_, rfl⟩
        obtain ⟨A, hA⟩ : ∃ A, A = (vout.map (fun p : Val × List Int => p.1))[t]'(by rw [List.length_map]; exact hlt) := ⟨_, rfl⟩
        rw [← hA] at v0 v1 v2 HDI
        rw [← hds] at HDI
        clear HLv hA hds HD
        obtain ⟨Y, aty, ⟨ada, adn, adc⟩⟩ := A
        simp only at v0 v1 v2 HDI
        have WL := hide (width_any Y aty ⟨ada, adn, adc⟩ ds wr (HDI.out wr hgr))
        have WD := hide (fun (wx : World) (hx : w3.grownBy wx none) => dwidth_any Y aty ⟨ada, adn, adc⟩ ds wx (HDI.out wx hx))
        simp only at WL WD
        obtain ⟨F, hF⟩ : ∃ F, F = widF aty ds := ⟨_, rfl⟩
        obtain ⟨Z, hZ⟩ : ∃ Z, Z = widE aty ds := ⟨_, rfl⟩
        rw [← hF, ← hZ] at WL WD
        clear hF hZ
        have hFF : (F != F) = false := by simp
        have hZZ : (Z != Z) = false := by simp
        go_wp2_with fail
        refine WL.out.mono ?_
        rintro e w4 ⟨rfl, hg4⟩
        have h4 := grown_trans hgr hg4
        clear r0 r1 r2 r3 r4
        obtain ⟨r0, r1, r2, r3, r4⟩ := gra_cells (g := ⟨nam, ⟨na0, nn0, nc0⟩, ⟨ia, iN, ic⟩, ⟨some ⟨b8, off8, none⟩, vout.length, oc⟩, ⟨ta, tN, tc⟩⟩) (BX.out w4 (grown_trans G03.out h4))
        have up : ∀ {ad : Addr} {v : Value}, wr.cell? ad = some v → w4.cell? ad = some v := fun {ad v} h2 => (World.cell?_of_block (hg4.block ad.block (World.block_lt_of_cell? wr _ h2) (by simp))).trans h2
        have u0 := up v0
        have u1 := up v1
        have u2 := up v2
        clear v0 v1 v2 up
        go_wp2_with fail
        refine (WD.out w4 h4).mono ?_
        rintro e w5 ⟨rfl, hg5⟩
        clear r0 r1 r2 r3 r4 u0 u1 u2
        go_wp2_with fail
        go_roundg (vout.length - (t + 1))
        case measure => omega
        case rel => exact ⟨t + 1, rfl, by omega, by go_num, grown_trans h4 hg5⟩
      · obtain rfl : t = vout.length := by omega
        have hEE : (E == E) = true := by simp
        cases X with
        | false =>
          go_wp2_with fail
          refine (LV.out wr (grown_trans G3.out hgr)).mono ?_
          rintro e w6 ⟨rfl, hg6⟩
          go_wp2
          go_ret
          exact ⟨rfl, grown_below (grown_trans (grown_trans G3.out hgr) hg6)⟩
        | true =>
          go_wp2_with fail
          refine (LV.out wr (grown_trans G3.out hgr)).mono ?_
          rintro e w6 ⟨rfl, hg6⟩
          go_wp2
          go_ret
          exact ⟨rfl, grown_below (grown_trans (grown_trans G3.out hgr) hg6)⟩
end Go.Proofs.YtmdpeckeliplkaaDoor
