/- LiveGoesOn, by the walk (mkLvOn.py). -/
import Derived.Test.YtmdpeckeliplkaaDoorLvLiveJ
namespace Go.Proofs.YtmdpeckeliplkaaDoor
open Go.RowKit

theorem three_cells {w : World} {B : Nat} {a0 a1 a2 a3 a4 a5 a6 a7 : Value} {t : TypeId} (hb : w.heap[B]? = some (.cells #[a0, a1, a2, a3, a4, a5, a6, a7] t (0, 0))) : w.cell? ⟨B, 0, none⟩ = some a0 ∧ w.cell? ⟨B, 1, none⟩ = some a1 ∧ w.cell? ⟨B, 2, none⟩ = some a2 ∧ w.cell? ⟨B, 3, none⟩ = some a3 ∧ w.cell? ⟨B, 4, none⟩ = some a4 ∧ w.cell? ⟨B, 5, none⟩ = some a5 ∧ w.cell? ⟨B, 6, none⟩ = some a6 ∧ w.cell? ⟨B, 7, none⟩ = some a7 :=
  ⟨(cell_of_row _ _ 0 _ _ (0, 0) hb).trans rfl, (cell_of_row _ _ 1 _ _ (0, 0) hb).trans rfl, (cell_of_row _ _ 2 _ _ (0, 0) hb).trans rfl, (cell_of_row _ _ 3 _ _ (0, 0) hb).trans rfl, (cell_of_row _ _ 4 _ _ (0, 0) hb).trans rfl, (cell_of_row _ _ 5 _ _ (0, 0) hb).trans rfl, (cell_of_row _ _ 6 _ _ (0, 0) hb).trans rfl, (cell_of_row _ _ 7 _ _ (0, 0) hb).trans rfl⟩

set_option maxRecDepth 100000 in
set_option maxHeartbeats 6400000 in
theorem liveGoesOn_walk (g : Gra) (cs : List Nc) (vin vout : List (Val × List Int)) (its : List (Nam × List Int × List Int)) (a b c : Int) (w : World) (hl : Laid w) (hg : GraphOk w g cs vin vout its) :
    Calls Tryd.prog 5 #[.agg #[.string g.name, .slice g.nv.a g.nv.n g.nv.c, .slice g.iv.a g.iv.n g.iv.c, .slice g.ov.a g.ov.n g.ov.c, .slice g.tv.a g.tv.n g.tv.c, .int .i64 a, .int .i64 b, .int .i64 c]] w fun e w' => e = .returned (.bool true) ∧ Below w.heap.size w w' := by
  have SA := hide (fun (wx : World) (hx : w.grownBy wx none) => small19_any g cs vin vout its wx (hg.more hx))
  have BA := hide (fun (wx : World) (hx : w.grownBy wx none) => before_any g cs vin vout its wx (hl.more hx) (hg.more hx))
  have LV := hide (fun (wx : World) (hx : w.grownBy wx none) => alive_any wx (hl.more hx))
  have HB := hide (fun (h : (orderR cs vin vout its).2 = 0) => read_behind hg h)
  obtain ⟨nam, ⟨na0, nn0, nc0⟩, ⟨ia, iN, ic⟩, ⟨oa, oN, oc⟩, ⟨ta, tN, tc⟩⟩ := g
  clear hl hg
  unfold gval at SA BA
  simp only at SA BA ⊢
  obtain ⟨wt, hwt⟩ : ∃ wt, wt = w.alloc (.cells #[.string nam, .slice na0 nn0 nc0, .slice ia iN ic, .slice oa oN oc, .slice ta tN tc, .int .i64 a, .int .i64 b, .int .i64 c] 45) := ⟨_, rfl⟩
  have gt : w.grownBy wt none := by rw [hwt]; exact grown_new _ _
  have bt := heap_alloc_new w (.cells #[.string nam, .slice na0 nn0 nc0, .slice ia iN ic, .slice oa oN oc, .slice ta tN tc, .int .i64 a, .int .i64 b, .int .i64 c] 45)
  rw [← hwt] at bt
  obtain ⟨t0, t1, t2, t3, t4, t5, t6, t7⟩ := three_cells bt
  clear bt
  go_enter Tryd.func5, Tryd.ntmps5
  go_wp2_with fail
  rw [← hwt]
  clear hwt
  have hnew : w.heap.size ≠ wt.heap.size := by have := World.block_lt_of_cell? wt _ t0; intro e; simp only at this; omega
  go_region_held3 (fun w' => w'.cell? ⟨w.heap.size, 0, none⟩ = some (.string nam) ∧ w'.cell? ⟨w.heap.size, 1, none⟩ = some (.slice na0 nn0 nc0) ∧ w'.cell? ⟨w.heap.size, 2, none⟩ = some (.slice ia iN ic) ∧ w'.cell? ⟨w.heap.size, 3, none⟩ = some (.slice oa oN oc) ∧ w'.cell? ⟨w.heap.size, 4, none⟩ = some (.slice ta tN tc) ∧ w'.cell? ⟨w.heap.size, 5, none⟩ = some (.int .i64 a) ∧ w'.cell? ⟨w.heap.size, 6, none⟩ = some (.int .i64 b) ∧ w'.cell? ⟨w.heap.size, 7, none⟩ = some (.int .i64 c)) (go_keep) (fail)
  clear t0 t1 t2 t3 t4 t5 t6 t7 hnew
  obtain ⟨w0, hw0⟩ : ∃ w0, w0 = (wt.alloc (.cells #[.string nam, .slice na0 nn0 nc0, .slice ia iN ic, .slice oa oN oc, .slice ta tN tc] 26)).drew := ⟨_, rfl⟩
  have gt0 : wt.grownBy w0 none := by rw [hw0]; exact grown_drew (grown_new _ _)
  have g0 := grown_trans gt gt0
  have b0 : w0.heap[wt.heap.size]? = some (.cells #[.string nam, .slice na0 nn0 nc0, .slice ia iN ic, .slice oa oN oc, .slice ta tN tc] 26 (0, 0)) := by rw [hw0]; exact heap_alloc_new wt _
  obtain ⟨T0, hT0⟩ : ∃ T0, T0 = wt.heap.size := ⟨_, rfl⟩
  rw [← hw0, ← hT0]
  rw [← hT0] at b0
  have BX : Hid (∀ wx, w0.grownBy wx none → wx.heap[T0]? = some (.cells #[.string nam, .slice na0 nn0 nc0, .slice ia iN ic, .slice oa oN oc, .slice ta tN tc] 26 (0, 0))) := fun wx hx => box_kept b0 hx
  obtain ⟨r0, r1, r2, r3, r4⟩ := gra_cells (g := ⟨nam, ⟨na0, nn0, nc0⟩, ⟨ia, iN, ic⟩, ⟨oa, oN, oc⟩, ⟨ta, tN, tc⟩⟩) b0
  clear hw0 hT0 gt gt0 b0
  go_wp2_with fail
  clear r0 r1 r2 r3 r4
  refine (SA.out w0 g0).mono ?_
  rintro e w1 ⟨rfl, hg1⟩
  have g1 := grown_trans g0 hg1
  cases smallF cs vin vout its with
  | false =>
    go_wp2_with fail
    refine (LV.out w1 g1).mono ?_
    rintro e w2 ⟨rfl, hg2⟩
    go_wp2
    go_ret
    exact ⟨rfl, grown_below (grown_trans g1 hg2)⟩
  | true =>
    obtain ⟨r0, r1, r2, r3, r4⟩ := gra_cells (g := ⟨nam, ⟨na0, nn0, nc0⟩, ⟨ia, iN, ic⟩, ⟨oa, oN, oc⟩, ⟨ta, tN, tc⟩⟩) (BX.out w1 hg1)
    go_wp2_with fail
    clear r0 r1 r2 r3 r4
    refine (BA.out w1 g1).mono ?_
    rintro e w2 ⟨hg2, ⟨hz, rfl⟩ | ⟨hz, Q, q, rfl, hrb⟩⟩
    · have g2 := grown_trans g1 hg2
      obtain ⟨OE, hOE⟩ : ∃ OE, OE = (orderR cs vin vout its).2 := ⟨_, rfl⟩
      rw [← hOE] at hz ⊢
      have hzb : (OE != 0) = true := by simpa using hz
      clear hOE hz
      go_wp2_with fail
      refine (LV.out w2 g2).mono ?_
      rintro e w4 ⟨rfl, hg4⟩
      go_wp2
      go_ret
      exact ⟨rfl, grown_below (grown_trans g2 hg4)⟩
    · have g2 := grown_trans g1 hg2
      obtain ⟨hbe, hn, -⟩ := HB.out hz
      have hne : ((cs.length : Int) != (cs.length : Int)) = false := by simp
      have HBE := hide hbe
      have HRB := hide hrb
      clear hz hbe hrb SA BA BX HB
      by_cases h1 : a < 0
      · go_wp2_with fail
        refine (LV.out w2 g2).mono ?_
        rintro e w4 ⟨rfl, hg4⟩
        go_wp2
        go_ret
        exact ⟨rfl, grown_below (grown_trans g2 hg4)⟩
      by_cases h2 : b < 0
      · go_wp2_with fail
        refine (LV.out w2 g2).mono ?_
        rintro e w4 ⟨rfl, hg4⟩
        go_wp2
        go_ret
        exact ⟨rfl, grown_below (grown_trans g2 hg4)⟩
      by_cases h3 : c < 0
      · go_wp2_with fail
        refine (LV.out w2 g2).mono ?_
        rintro e w4 ⟨rfl, hg4⟩
        go_wp2
        go_ret
        exact ⟨rfl, grown_below (grown_trans g2 hg4)⟩
      by_cases h4 : (cs.length : Int) ≤ a
      · go_wp2_with fail
        refine (LV.out w2 g2).mono ?_
        rintro e w4 ⟨rfl, hg4⟩
        go_wp2
        go_ret
        exact ⟨rfl, grown_below (grown_trans g2 hg4)⟩
      by_cases h5 : (cs.length : Int) ≤ b
      · go_wp2_with fail
        refine (LV.out w2 g2).mono ?_
        rintro e w4 ⟨rfl, hg4⟩
        go_wp2
        go_ret
        exact ⟨rfl, grown_below (grown_trans g2 hg4)⟩
      by_cases h6 : (cs.length : Int) ≤ c
      · go_wp2_with fail
        refine (LV.out w2 g2).mono ?_
        rintro e w4 ⟨rfl, hg4⟩
        go_wp2
        go_ret
        exact ⟨rfl, grown_below (grown_trans g2 hg4)⟩
      obtain ⟨m, rfl⟩ : ∃ m : Nat, a = (m : Int) := ⟨a.toNat, by omega⟩
      obtain ⟨k, rfl⟩ : ∃ k : Nat, b = (k : Int) := ⟨b.toNat, by omega⟩
      obtain ⟨j, rfl⟩ : ∃ j : Nat, c = (j : Int) := ⟨c.toNat, by omega⟩
      have hm : m < cs.length := by omega
      have hk : k < cs.length := by omega
      have hj : j < cs.length := by omega
      have HLT : Hid (((rowsG cs vin its).getD m []).getD k false = true → m < k) := fun h => rows_lt HBE.out hk _ m rfl hm h
      have HON : Hid (((rowsG cs vin its).getD m []).getD k false = true → ((rowsG cs vin its).getD k []).getD j false = true → ((rowsG cs vin its).getD m []).getD j false = true) := fun h1 h2 => rows_on HBE.out hk hj h2 _ m rfl hm h1
      have c1 := HRB.out.row m hm
      have c2 := HRB.out.row k hk
      have c3 := HRB.out.bit m hm k hk
      have c4 := HRB.out.bit k hk j hj
      have c5 := HRB.out.bit m hm j hj
      obtain ⟨x, hx⟩ : ∃ x, x = ((rowsG cs vin its).getD m []).getD k false := ⟨_, rfl⟩
      obtain ⟨y, hy⟩ : ∃ y, y = ((rowsG cs vin its).getD k []).getD j false := ⟨_, rfl⟩
      obtain ⟨z, hz⟩ : ∃ z, z = ((rowsG cs vin its).getD m []).getD j false := ⟨_, rfl⟩
      rw [← hx] at c3 HLT HON
      rw [← hy] at c4 HON
      rw [← hz] at c5 HON
      clear hx hy hz HRB HBE
      cases x with
      | false =>
        go_wp2_with fail
        refine (LV.out w2 g2).mono ?_
        rintro e w4 ⟨rfl, hg4⟩
        go_wp2
        go_ret
        exact ⟨rfl, grown_below (grown_trans g2 hg4)⟩
      | true =>
        have hlt := HLT.out rfl
        have hlt2 : (m : Int) < (k : Int) := by omega
        have hlt3 : decide ((m : Int) < (k : Int)) = true := decide_eq_true hlt2
        cases y with
        | false =>
          go_wp2_with fail
          refine (LV.out w2 g2).mono ?_
          rintro e w4 ⟨rfl, hg4⟩
          go_wp2
          go_ret
          exact ⟨rfl, grown_below (grown_trans g2 hg4)⟩
        | true =>
          obtain rfl : z = true := HON.out rfl rfl
          go_wp2_with fail
          refine (LV.out w2 g2).mono ?_
          rintro e w4 ⟨rfl, hg4⟩
          go_wp2
          go_ret
          exact ⟨rfl, grown_below (grown_trans g2 hg4)⟩
end Go.Proofs.YtmdpeckeliplkaaDoor
