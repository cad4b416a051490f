/- LiveBefore, by the walk. -/
import Derived.Test.YtmdpeckeliplkaaDoorLvLiveJ
namespace Go.Proofs.YtmdpeckeliplkaaDoor
open Go.RowKit

set_option maxRecDepth 100000 in
set_option maxHeartbeats 6400000 in
theorem liveBefore_walk (g : Gra) (cs : List Nc) (vin vout : List (Val × List Int)) (its : List (Nam × List Int × List Int)) (a b : Int) (w : World) (hl : Laid w) (hg : GraphOk w g cs vin vout its) :
    Calls Tryd.prog 6 #[gval g, .int .i64 a, .int .i64 b] w fun e w' => e = .returned (.bool true) ∧ Below w.heap.size w w' := by
  have SA := hide (fun (wx : World) (hx : w.grownBy wx none) => small19_any g cs vin vout its wx (hg.more hx))
  have AP := hide (fun (wx : World) (hx : w.grownBy wx none) => apart_any g cs vin vout its a b wx (hl.more hx) (hg.more hx))
  have BA := hide (fun (wx : World) (hx : w.grownBy wx none) => before_any g cs vin vout its wx (hl.more hx) (hg.more hx))
  have LV := hide (fun (wx : World) (hx : w.grownBy wx none) => alive_any wx (hl.more hx))
  have HB := hide (fun (h : (orderR cs vin vout its).2 = 0) => read_behind hg h)
  obtain ⟨nam, ⟨na0, nn0, nc0⟩, ⟨ia, iN, ic⟩, ⟨oa, oN, oc⟩, ⟨ta, tN, tc⟩⟩ := g
  clear hl hg
  unfold gval at SA AP BA ⊢
  simp only at SA AP BA ⊢
  obtain ⟨w0, hw0⟩ : ∃ w0, w0 = w.alloc (.cells #[.string nam, .slice na0 nn0 nc0, .slice ia iN ic, .slice oa oN oc, .slice ta tN tc] 26) := ⟨_, rfl⟩
  have g0 : w.grownBy w0 none := by rw [hw0]; exact grown_new _ _
  have b0 := heap_alloc_new w (.cells #[.string nam, .slice na0 nn0 nc0, .slice ia iN ic, .slice oa oN oc, .slice ta tN tc] 26)
  rw [← hw0] at b0
  have BX : Hid (∀ wx, w0.grownBy wx none → wx.heap[w.heap.size]? = some (.cells #[.string nam, .slice na0 nn0 nc0, .slice ia iN ic, .slice oa oN oc, .slice ta tN tc] 26 (0, 0))) := fun wx hx => box_kept b0 hx
  obtain ⟨r0, r1, r2, r3, r4⟩ := gra_cells (g := ⟨nam, ⟨na0, nn0, nc0⟩, ⟨ia, iN, ic⟩, ⟨oa, oN, oc⟩, ⟨ta, tN, tc⟩⟩) b0
  rw [hw0] at r0 r1 r2 r3 r4
  clear b0
  go_enter Tryd.func6, Tryd.ntmps6
  go_wp2_with fail
  rw [← hw0]
  clear hw0 r0 r1 r2 r3 r4
  refine (SA.out w0 g0).mono ?_
  rintro e w1 ⟨rfl, hg1⟩
  have g1 := grown_trans g0 hg1
  cases smallF cs vin vout its with
  | false =>
    go_wp2_with fail
    refine (LV.out w1 g1).mono ?_
    rintro e w2 ⟨rfl, hg2⟩
    go_wp2
    go_ret
    exact ⟨rfl, grown_below (grown_trans g1 hg2)⟩
  | true =>
    by_cases hab : b ≤ a
    · go_wp2_with fail
      refine (LV.out w1 g1).mono ?_
      rintro e w2 ⟨rfl, hg2⟩
      go_wp2
      go_ret
      exact ⟨rfl, grown_below (grown_trans g1 hg2)⟩
    · obtain ⟨r0, r1, r2, r3, r4⟩ := gra_cells (g := ⟨nam, ⟨na0, nn0, nc0⟩, ⟨ia, iN, ic⟩, ⟨oa, oN, oc⟩, ⟨ta, tN, tc⟩⟩) (BX.out w1 hg1)
      go_wp2_with fail
      clear r0 r1 r2 r3 r4
      refine (AP.out w1 g1).mono ?_
      rintro e w2 ⟨hg2, hcase⟩
      have HC := hide hcase
      clear hcase
      have g2 := grown_trans g1 hg2
      have g02 := grown_trans hg1 hg2
      obtain ⟨r0, r1, r2, r3, r4⟩ := gra_cells (g := ⟨nam, ⟨na0, nn0, nc0⟩, ⟨ia, iN, ic⟩, ⟨oa, oN, oc⟩, ⟨ta, tN, tc⟩⟩) (BX.out w2 g02)
      rcases HC.out with ⟨hz, rfl⟩ | ⟨hz, hno, rfl⟩ | ⟨hz, hyes, rfl⟩
      · have HZ := hide hz
        clear HC hz
        obtain ⟨OE, hOE⟩ : ∃ OE, OE = (orderR cs vin vout its).2 := ⟨_, rfl⟩
        rw [← hOE] at HZ ⊢
        have HOE := hide hOE
        clear hOE
        go_wp2_with fail
        clear r0 r1 r2 r3 r4
        refine (BA.out w2 g2).mono ?_
        rintro e w3 ⟨hg3, ⟨-, rfl⟩ | ⟨hz3, -⟩⟩
        · have hzb : (OE != 0) = true := by simpa using HZ.out
          rw [← HOE.out]
          go_wp2_with fail
          refine (LV.out w3 (grown_trans g2 hg3)).mono ?_
          rintro e w4 ⟨rfl, hg4⟩
          go_wp2
          go_ret
          exact ⟨rfl, grown_below (grown_trans (grown_trans g2 hg3) hg4)⟩
        · exact absurd (HOE.out.trans hz3) HZ.out
      · have HZ := hide hz
        clear HC hz hno
        go_wp2_with fail
        clear r0 r1 r2 r3 r4
        refine (BA.out w2 g2).mono ?_
        rintro e w3 ⟨hg3, ⟨hz3, -⟩ | ⟨-, Q, q, rfl, -⟩⟩
        · exact absurd HZ.out hz3
        · go_wp2_with fail
          refine (LV.out w3 (grown_trans g2 hg3)).mono ?_
          rintro e w4 ⟨rfl, hg4⟩
          go_wp2
          go_ret
          exact ⟨rfl, grown_below (grown_trans (grown_trans g2 hg3) hg4)⟩
      · have HZ := hide hz
        obtain ⟨hbe, hn, -⟩ := HB.out hz
        obtain ⟨a0, a1, b0, b1, -⟩ := hyes
        obtain ⟨m, rfl⟩ : ∃ m : Nat, a = (m : Int) := ⟨a.toNat, by omega⟩
        obtain ⟨k, rfl⟩ : ∃ k : Nat, b = (k : Int) := ⟨b.toNat, by omega⟩
        rw [Int.toNat_natCast, Int.toNat_natCast]
        have hm : m < cs.length := by omega
        have hk : k < cs.length := by omega
        have HAB := hide (apart_before (bs := outG cs vin vout its) hbe hk (show m < k by omega))
        have HAB : Hid (apartF (readG cs vin its) (outG cs vin vout its) (rowsG cs vin its) m k = true → ((rowsG cs vin its).getD m []).getD k false = true) := HAB.out
        obtain ⟨x, hx⟩ : ∃ x, x = apartF (readG cs vin its) (outG cs vin vout its) (rowsG cs vin its) m k := ⟨_, rfl⟩
        rw [← hx] at HAB ⊢
        clear hz hx hbe HC
        go_wp2_with fail
        clear r0 r1 r2 r3 r4
        refine (BA.out w2 g2).mono ?_
        rintro e w3 ⟨hg3, ⟨hz3, -⟩ | ⟨-, Q, q, rfl, hrb⟩⟩
        · exact absurd HZ.out hz3
        · have c1 := hrb.row m hm
          have c2 := hrb.bit m hm k hk
          obtain ⟨y, hy⟩ : ∃ y, y = ((rowsG cs vin its).getD m []).getD k false := ⟨_, rfl⟩
          rw [← hy] at HAB c2
          clear hrb hy
          have hne : ((cs.length : Int) != (cs.length : Int)) = false := by simp
          cases x with
          | false =>
            go_wp2_with fail
            refine (LV.out w3 (grown_trans g2 hg3)).mono ?_
            rintro e w4 ⟨rfl, hg4⟩
            go_wp2
            go_ret
            exact ⟨rfl, grown_below (grown_trans (grown_trans g2 hg3) hg4)⟩
          | true =>
            obtain rfl : y = true := HAB.out rfl
            go_wp2_with fail
            refine (LV.out w3 (grown_trans g2 hg3)).mono ?_
            rintro e w4 ⟨rfl, hg4⟩
            go_wp2
            go_ret
            exact ⟨rfl, grown_below (grown_trans (grown_trans g2 hg3) hg4)⟩
end Go.Proofs.YtmdpeckeliplkaaDoor
