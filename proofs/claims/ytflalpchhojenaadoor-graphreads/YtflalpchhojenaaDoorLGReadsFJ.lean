/- GraphReads of any size, by the walk (mkFull.py). -/
import Derived.Test.YtflalpchhojenaaDoorGFullRJ
import Derived.Test.YtflalpchhojenaaDoorGFullSJ
import Derived.Test.YtflalpchhojenaaDoorGFullHJ
import Derived.Test.YtflalpchhojenaaDoorPartE
namespace Go.Proofs.YtflalpchhojenaaDoor
open Go.RowKit

set_option maxRecDepth 100000 in
set_option maxHeartbeats 3200000 in
theorem graphReads_full (g : Gra) (cs : List Nc) (vin vout : List (Val × List Int)) (its : List (Nam × List Int × List Int)) (x : ByteArray) (w : World) (hl : Laid w) (hg : GraphIn0 w g cs vin vout its) :
    Calls Tryd.prog 4 #[gval g, .string x] w fun e w' => e = .returned (.bool true) ∧ Below w.heap.size w w' := by
  have HL := hide hl
  have HG := hide hg
  have CG := hide (fun (wx : World) (hx : w.grownBy wx none) => copygraph0_any g cs vin vout its wx (hg.more hx))
  have RG := hide (fun (wx : World) (hx : w.grownBy wx none) => greaders0_any g cs x wx (hg.more hx).nodes (fun c hc => ((hg.more hx).node c hc).ins))
  have SG := hide (fun (h : Gra) (cs' : List Nc) (vin' vout' : List (Val × List Int)) (its' : List (Nam × List Int × List Int)) (wx : World) (hx : w.grownBy wx none) => samegraph_eq0 h g cs cs' vin vout vin' vout' its its' wx (hg.more hx))
  clear hg hl
  obtain ⟨nam, ⟨na0, nn0, nc0⟩, ⟨ia, iN, ic⟩, ⟨oa, oN, oc⟩, ⟨ta, tN, tc⟩⟩ := g
  unfold gval at CG RG SG ⊢
  simp only at CG RG SG ⊢
  obtain ⟨w0, hw0⟩ : ∃ w0, w0 = w.alloc (.cells #[.string nam, .slice na0 nn0 nc0, .slice ia iN ic, .slice oa oN oc, .slice ta tN tc] 26) := ⟨_, rfl⟩
  have g0 : w.grownBy w0 none := by rw [hw0]; exact grown_new _ _
  have b0 := heap_alloc_new w (.cells #[.string nam, .slice na0 nn0 nc0, .slice ia iN ic, .slice oa oN oc, .slice ta tN tc] 26)
  rw [← hw0] at b0
  have BX : Hid (∀ wx, w0.grownBy wx none → wx.heap[w.heap.size]? = some (.cells #[.string nam, .slice na0 nn0 nc0, .slice ia iN ic, .slice oa oN oc, .slice ta tN tc] 26 (0, 0))) := fun wx hx => box_kept b0 hx
  clear b0
  obtain ⟨r0, r1, r2, r3, r4⟩ := gra_cells (g := ⟨nam, ⟨na0, nn0, nc0⟩, ⟨ia, iN, ic⟩, ⟨oa, oN, oc⟩, ⟨ta, tN, tc⟩⟩) (BX.out w0 (grown_refl _))
  rw [hw0] at r0 r1 r2 r3 r4
  go_enter Tryd.func4, Tryd.ntmps4
  go_wp2_with fail
  rw [← hw0]
  clear hw0 r0 r1 r2 r3 r4
  refine (CG.out w0 g0).mono ?_
  rintro e w1 ⟨h, ms, vi, vo, ts, i0, i1, o0, o1, n0, n1, t0, t1, rfl, hc⟩
  have HC := hide hc
  have hg1 := hc.grown
  have OKC := hide (hc.in0 (HG.out.more g0))
  have NMC := hide hc.name
  have SMC := hide hc.same
  clear hc
  obtain ⟨hnam, ⟨ha0, hn0, hc0⟩, ⟨hia, hiN, hic⟩, ⟨hoa, hoN, hoc⟩, ⟨hta, htN, htc⟩⟩ := h
  obtain ⟨W2, hW2⟩ : ∃ W2, W2 = w1.alloc (.cells #[.string hnam, .slice ha0 hn0 hc0, .slice hia hiN hic, .slice hoa hoN hoc, .slice hta htN htc] 26) := ⟨_, rfl⟩
  have gw2 : w1.grownBy W2 none := by rw [hW2]; exact grown_new _ _
  have b2 := heap_alloc_new w1 (.cells #[.string hnam, .slice ha0 hn0 hc0, .slice hia hiN hic, .slice hoa hoN hoc, .slice hta htN htc] 26)
  rw [← hW2] at b2
  have BH : Hid (∀ wx, W2.grownBy wx none → wx.heap[w1.heap.size]? = some (.cells #[.string hnam, .slice ha0 hn0 hc0, .slice hia hiN hic, .slice hoa hoN hoc, .slice hta htN htc] 26 (0, 0))) := fun wx hx => box_kept b2 hx
  clear b2
  have g2 : w0.grownBy W2 none := grown_trans hg1 gw2
  have RH := hide (readers0_any ⟨hnam, ⟨ha0, hn0, hc0⟩, ⟨hia, hiN, hic⟩, ⟨hoa, hoN, hoc⟩, ⟨hta, htN, htc⟩⟩ (ms.map toNc) x W2 (OKC.out.more gw2).nodes (fun c hc => ((OKC.out.more gw2).node c hc).ins))
  unfold gval at RH
  simp only at RH
  obtain ⟨r0, r1, r2, r3, r4⟩ := gra_cells (g := ⟨hnam, ⟨ha0, hn0, hc0⟩, ⟨hia, hiN, hic⟩, ⟨hoa, hoN, hoc⟩, ⟨hta, htN, htc⟩⟩) (BH.out W2 (grown_refl _))
  rw [hW2] at r0 r1 r2 r3 r4
  go_wp2_with fail
  rw [← hW2]
  clear hW2 r0 r1 r2 r3 r4
  refine RH.out.mono ?_
  rintro e w3 ⟨u, rfl, hu, hg3⟩
  have HU := hide hu.ints
  have g3 := grown_trans g2 hg3
  clear hu
  obtain ⟨r0, r1, r2, r3, r4⟩ := gra_cells (g := ⟨nam, ⟨na0, nn0, nc0⟩, ⟨ia, iN, ic⟩, ⟨oa, oN, oc⟩, ⟨ta, tN, tc⟩⟩) (BX.out w3 g3)
  go_wp2_with fail
  clear r0 r1 r2 r3 r4
  refine (RG.out w3 (grown_trans g0 g3)).mono ?_
  rintro e w4 ⟨v, rfl, hv, hg4⟩
  have HV := hide hv.ints
  have g4 := grown_trans g3 hg4
  clear hv
  have SI := hide (sameints_eq u.v v.v _ w4 (by rw [SMC.out.reads] at HU; exact HU.out.more hg4) HV.out)
  go_wp2_with fail
  refine SI.out.mono ?_
  rintro e w5 ⟨rfl, hg5⟩
  have g5 := grown_trans g4 hg5
  have g25 := grown_trans hg3 (grown_trans hg4 hg5)
  obtain ⟨r0, r1, r2, r3, r4⟩ := gra_cells (g := ⟨nam, ⟨na0, nn0, nc0⟩, ⟨ia, iN, ic⟩, ⟨oa, oN, oc⟩, ⟨ta, tN, tc⟩⟩) (BX.out w5 g5)
  obtain ⟨s0, s1, s2, s3, s4⟩ := gra_cells (g := ⟨hnam, ⟨ha0, hn0, hc0⟩, ⟨hia, hiN, hic⟩, ⟨hoa, hoN, hoc⟩, ⟨hta, htN, htc⟩⟩) (BH.out w5 g25)
  go_wp2_with fail
  clear r0 r1 r2 r3 r4 s0 s1 s2 s3 s4
  refine (SG.out ⟨hnam, ⟨ha0, hn0, hc0⟩, ⟨hia, hiN, hic⟩, ⟨hoa, hoN, hoc⟩, ⟨hta, htN, htc⟩⟩ _ _ _ _ w5 (grown_trans g0 g5) (OKC.out.more (grown_trans gw2 g25)) NMC.out SMC.out).mono ?_
  rintro e w6 ⟨rfl, hg6⟩
  have g6 := grown_trans g5 hg6
  go_wp2_with fail
  refine (glive_any w6 (HL.out.more (grown_trans g0 g6))).mono ?_
  rintro e w7 ⟨rfl, hg7⟩
  go_wp2
  go_ret
  exact ⟨rfl, grown_below (grown_trans (grown_trans g0 g6) hg7)⟩
end Go.Proofs.YtflalpchhojenaaDoor
