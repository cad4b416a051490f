/- GraphChecks, by the walk. -/
import Derived.Test.YtflalpchhojenaaDoorGDChkJ
import Derived.Test.YtflalpchhojenaaDoorGSameGJ
import Derived.Test.YtflalpchhojenaaDoorGCopyIJ
import Derived.Test.YtflalpchhojenaaDoorPartE
import Derived.Deep.RegionHeld3
namespace Go.Proofs.YtflalpchhojenaaDoor
open Go.RowKit

/-- How small ends. -/
def SmallP (e : Ending) : Prop := ∃ b : Bool, e = .returned (.bool b)

set_option maxRecDepth 100000 in
theorem small_any (g : Gra) (w : World) (h1 : g.nv.n ≤ 1048576) (h2 : g.iv.n ≤ 1048576) (h3 : g.ov.n ≤ 1048576) (h4 : g.tv.n ≤ 1048576) :
    Calls Tryd.prog 9 #[gval g] w fun e w' => SmallP e ∧ w.grownBy w' none := by
  obtain ⟨nam, ⟨na0, nn0, nc0⟩, ⟨ia, iN, ic⟩, ⟨oa, oN, oc⟩, ⟨ta, tN, tc⟩⟩ := g
  simp only at h1 h2 h3 h4
  unfold gval
  simp only
  have b0 := heap_alloc_new w (.cells #[.string nam, .slice na0 nn0 nc0, .slice ia iN ic, .slice oa oN oc, .slice ta tN tc] 26)
  obtain ⟨r0, r1, r2, r3, r4⟩ := gra_cells (g := ⟨nam, ⟨na0, nn0, nc0⟩, ⟨ia, iN, ic⟩, ⟨oa, oN, oc⟩, ⟨ta, tN, tc⟩⟩) b0
  clear b0
  by_cases h : (nn0 : Int) + (iN : Int) + (tN : Int) + (oN : Int) ≤ 120
  · go_enter Tryd.func9, Tryd.ntmps9
    go_wp2
    go_ret
    exact ⟨⟨_, rfl⟩, grown_new _ _⟩
  · go_enter Tryd.func9, Tryd.ntmps9
    go_wp2
    go_ret
    exact ⟨⟨_, rfl⟩, grown_new _ _⟩

set_option maxRecDepth 100000 in
set_option maxHeartbeats 6400000 in
theorem graphChecks_walk (g : Gra) (cs : List Nc) (vin vout : List (Val × List Int)) (its : List (Nam × List Int × List Int)) (w : World) (hl : Laid w) (hg : GraphOk w g cs vin vout its) :
    Calls Tryd.prog 3 #[gval g] w fun e w' => e = .returned (.bool true) ∧ Below w.heap.size w w' := by
  have HL := hide hl
  have HG := hide hg
  have LV := hide (fun (wx : World) (hx : w.grownBy wx none) => glive_any wx (hl.more hx))
  have CG := hide (fun (wx : World) (hx : w.grownBy wx none) => copygraph_any g cs vin vout its wx (hg.more hx).base)
  have DO := hide (fun (wx : World) (hx : w.grownBy wx none) => dorder_any g cs vin vout its wx (hg.more hx))
  have DC := hide (fun (wx : World) (hx : w.grownBy wx none) => dcheck_any g cs vin vout its wx (hg.more hx))
  have SG := hide (fun (h : Gra) (cs' : List Nc) (vin' vout' : List (Val × List Int)) (its' : List (Nam × List Int × List Int)) (wx : World) (hx : w.grownBy wx none) => samegraph_eq h g cs cs' vin vout vin' vout' its its' wx (hg.more hx).base)
  have OB0 := hide (orderR_iff (cs := cs) (vin := vin) (vout := vout) (its := its))
  have e1 : g.nv.n = cs.length := by obtain ⟨_, _, e, -⟩ := hg.base.nodes.form; rw [List.length_map] at e; simp only [Sl.v, Value.slice.injEq] at e; exact e.2.1
  have e2 : g.iv.n = vin.length := by obtain ⟨_, _, e, -⟩ := hg.base.ins.form; rw [List.length_map] at e; simp only [Sl.v, Value.slice.injEq] at e; exact e.2.1
  have e3 : g.ov.n = vout.length := by obtain ⟨_, _, e, -⟩ := hg.base.outs.form; rw [List.length_map] at e; simp only [Sl.v, Value.slice.injEq] at e; exact e.2.1
  have e4 : g.tv.n = its.length := by obtain ⟨_, _, e, -⟩ := hg.base.inits.form; rw [List.length_map] at e; simp only [Sl.v, Value.slice.injEq] at e; exact e.2.1
  obtain ⟨f1, f2, f3, f4⟩ := hg.base.few
  have SM := hide (fun (wx : World) => small_any g wx (by omega) (by omega) (by omega) (by omega))
  clear hg hl e1 e2 e3 e4
  obtain ⟨OR, hOR⟩ : ∃ OR, OR = orderR cs vin vout its := ⟨_, rfl⟩
  rw [← hOR] at DO DC
  have HOR := hide hOR
  clear hOR
  obtain ⟨OL, T⟩ := OR
  simp only at DO DC
  obtain ⟨nam, ⟨na0, nn0, nc0⟩, ⟨ia, iN, ic⟩, ⟨oa, oN, oc⟩, ⟨ta, tN, tc⟩⟩ := g
  unfold gval at CG DO DC SG SM ⊢
  simp only at CG DO DC SG SM ⊢
  obtain ⟨w0, hw0⟩ : ∃ w0, w0 = w.alloc (.cells #[.string nam, .slice na0 nn0 nc0, .slice ia iN ic, .slice oa oN oc, .slice ta tN tc] 26) := ⟨_, rfl⟩
  have g0 : w.grownBy w0 none := by rw [hw0]; exact grown_new _ _
  have b0 := heap_alloc_new w (.cells #[.string nam, .slice na0 nn0 nc0, .slice ia iN ic, .slice oa oN oc, .slice ta tN tc] 26)
  rw [← hw0] at b0
  have BXH : Hid (∀ wx, w0.grownBy wx none → wx.heap[w.heap.size]? = some (.cells #[.string nam, .slice na0 nn0 nc0, .slice ia iN ic, .slice oa oN oc, .slice ta tN tc] 26 (0, 0))) := fun wx hx => box_kept b0 hx
  have S0 : Hid (w.heap.size < w0.heap.size) := (Array.getElem?_eq_some_iff.1 b0).1
  clear b0
  obtain ⟨r0, r1, r2, r3, r4⟩ := gra_cells (g := ⟨nam, ⟨na0, nn0, nc0⟩, ⟨ia, iN, ic⟩, ⟨oa, oN, oc⟩, ⟨ta, tN, tc⟩⟩) (BXH.out w0 (grown_refl _))
  rw [hw0] at r0 r1 r2 r3 r4
  go_enter Tryd.func3, Tryd.ntmps3
  go_wp2_with fail
  rw [← hw0]
  clear hw0 r0 r1 r2 r3 r4
  refine (SM.out w0).mono ?_
  rintro e ws ⟨⟨sb, rfl⟩, hgs⟩
  cases sb with
  | false =>
    go_wp2_with fail
    refine (LV.out ws (grown_trans g0 hgs)).mono ?_
    rintro e wz ⟨rfl, hgz⟩
    go_wp2
    go_ret
    exact ⟨rfl, grown_below (grown_trans (grown_trans g0 hgs) hgz)⟩
  | true =>
    obtain ⟨r0, r1, r2, r3, r4⟩ := gra_cells (g := ⟨nam, ⟨na0, nn0, nc0⟩, ⟨ia, iN, ic⟩, ⟨oa, oN, oc⟩, ⟨ta, tN, tc⟩⟩) (BXH.out ws hgs)
    go_wp2_with fail
    clear r0 r1 r2 r3 r4
    refine (CG.out ws (grown_trans g0 hgs)).mono ?_
    rintro e w1 ⟨h, ms, vi, vo, ts, i0, i1, o0, o1, n0, n1, t0, t1, rfl, hc⟩
    have hg1 := grown_trans hgs hc.grown
    have OKC := hide (hc.ok (HG.out.more (grown_trans g0 hgs)))
    have NMC := hide hc.name
    have SMC := hide hc.same
    clear hc
    obtain ⟨hnam, ⟨ha0, hn0, hc0⟩, ⟨hia, hiN, hic⟩, ⟨hoa, hoN, hoc⟩, ⟨hta, htN, htc⟩⟩ := h
    obtain ⟨W2, hW2⟩ : ∃ W2, W2 = w1.alloc (.cells #[.string hnam, .slice ha0 hn0 hc0, .slice hia hiN hic, .slice hoa hoN hoc, .slice hta htN htc] 26) := ⟨_, rfl⟩
    have gw2 : w1.grownBy W2 none := by rw [hW2]; exact grown_new _ _
    have b2 := heap_alloc_new w1 (.cells #[.string hnam, .slice ha0 hn0 hc0, .slice hia hiN hic, .slice hoa hoN hoc, .slice hta htN htc] 26)
    rw [← hW2] at b2
    have BH : Hid (∀ wx, W2.grownBy wx none → wx.heap[w1.heap.size]? = some (.cells #[.string hnam, .slice ha0 hn0 hc0, .slice hia hiN hic, .slice hoa hoN hoc, .slice hta htN htc] 26 (0, 0))) := fun wx hx => box_kept b2 hx
    clear b2
    have g2 : w0.grownBy W2 none := grown_trans hg1 gw2
    have OH := hide (fun (wx : World) (hx : W2.grownBy wx none) => order_any ⟨hnam, ⟨ha0, hn0, hc0⟩, ⟨hia, hiN, hic⟩, ⟨hoa, hoN, hoc⟩, ⟨hta, htN, htc⟩⟩ (ms.map toNc) vi vo ts wx (HL.out.more (grown_trans (grown_trans g0 g2) hx)) (OKC.out.more (grown_trans gw2 hx)))
    have CH := hide (fun (wx : World) (hx : W2.grownBy wx none) => gcheck_any ⟨hnam, ⟨ha0, hn0, hc0⟩, ⟨hia, hiN, hic⟩, ⟨hoa, hoN, hoc⟩, ⟨hta, htN, htc⟩⟩ (ms.map toNc) vi vo ts wx (HL.out.more (grown_trans (grown_trans g0 g2) hx)) (OKC.out.more (grown_trans gw2 hx)))
    rw [SMC.out.order, ← HOR.out] at OH CH
    unfold gval at OH CH
    simp only at OH CH
    obtain ⟨r0, r1, r2, r3, r4⟩ := gra_cells (g := ⟨hnam, ⟨ha0, hn0, hc0⟩, ⟨hia, hiN, hic⟩, ⟨hoa, hoN, hoc⟩, ⟨hta, htN, htc⟩⟩) (BH.out W2 (grown_refl _))
    rw [hW2] at r0 r1 r2 r3 r4
    go_wp2_with fail
    rw [← hW2]
    clear hW2 r0 r1 r2 r3 r4
    refine (OH.out W2 (grown_refl _)).mono ?_
    rintro e w3 ⟨⟨pa, pn, pc⟩, rfl, ho3, hg3⟩
    obtain ⟨pa', pc', hpe⟩ := own_form ho3.1
    obtain ⟨rfl, rfl, rfl⟩ : pa = pa' ∧ pn = OL.length ∧ pc = pc' := by simpa [Sl.v] using hpe
    have HO3 := hide ho3
    unfold Sl.v at HO3 ⊢
    simp only at HO3 ⊢
    clear hpe ho3
    have g3 := grown_trans g2 hg3
    obtain ⟨r0, r1, r2, r3, r4⟩ := gra_cells (g := ⟨nam, ⟨na0, nn0, nc0⟩, ⟨ia, iN, ic⟩, ⟨oa, oN, oc⟩, ⟨ta, tN, tc⟩⟩) (BXH.out w3 g3)
    go_wp2_with fail
    clear r0 r1 r2 r3 r4
    refine (DO.out w3 (grown_trans g0 g3)).mono ?_
    rintro e w4 ⟨⟨qa, qn, qc⟩, rfl, ho4, hg4⟩
    obtain ⟨qa', qc', hqe⟩ := own_form ho4.1
    obtain ⟨rfl, rfl, rfl⟩ : qa = qa' ∧ qn = OL.length ∧ qc = qc' := by simpa [Sl.v] using hqe
    have HO4 := hide ho4
    unfold Sl.v at HO4 ⊢
    simp only at HO4 ⊢
    clear hqe ho4
    have g4 := grown_trans g3 hg4
    have g24 := grown_trans hg3 hg4
    obtain ⟨r0, r1, r2, r3, r4⟩ := gra_cells (g := ⟨nam, ⟨na0, nn0, nc0⟩, ⟨ia, iN, ic⟩, ⟨oa, oN, oc⟩, ⟨ta, tN, tc⟩⟩) (BXH.out w4 g4)
    obtain ⟨s0, s1, s2, s3, s4⟩ := gra_cells (g := ⟨hnam, ⟨ha0, hn0, hc0⟩, ⟨hia, hiN, hic⟩, ⟨hoa, hoN, hoc⟩, ⟨hta, htN, htc⟩⟩) (BH.out w4 g24)
    simp only at r0 r1 r2 r3 r4 s0 s1 s2 s3 s4
    have gd := grown_drew (grown_refl w4)
    have SI := hide (sameints_eq _ _ OL w4.drew ((HO3.out.new hg4).ints.more gd) (HO4.out.ints.more gd))
    have CX := hide (fun (wx : World) (hx : w4.grownBy wx none) => And.intro (gra_cells (g := ⟨nam, ⟨na0, nn0, nc0⟩, ⟨ia, iN, ic⟩, ⟨oa, oN, oc⟩, ⟨ta, tN, tc⟩⟩) (BXH.out wx (grown_trans g4 hx))) (gra_cells (g := ⟨hnam, ⟨ha0, hn0, hc0⟩, ⟨hia, hiN, hic⟩, ⟨hoa, hoN, hoc⟩, ⟨hta, htN, htc⟩⟩) (BH.out wx (grown_trans g24 hx))))
    go_wp2_with fail
    go_region_held3 (fun w' => w'.cell? ⟨w.heap.size, 0, none⟩ = some (.string nam) ∧ w'.cell? ⟨w.heap.size, 1, none⟩ = some (.slice na0 nn0 nc0) ∧ w'.cell? ⟨w.heap.size, 2, none⟩ = some (.slice ia iN ic) ∧ w'.cell? ⟨w.heap.size, 3, none⟩ = some (.slice oa oN oc) ∧ w'.cell? ⟨w.heap.size, 4, none⟩ = some (.slice ta tN tc) ∧ w'.cell? ⟨w1.heap.size, 0, none⟩ = some (.string hnam) ∧ w'.cell? ⟨w1.heap.size, 1, none⟩ = some (.slice ha0 hn0 hc0) ∧ w'.cell? ⟨w1.heap.size, 2, none⟩ = some (.slice hia hiN hic) ∧ w'.cell? ⟨w1.heap.size, 3, none⟩ = some (.slice hoa hoN hoc) ∧ w'.cell? ⟨w1.heap.size, 4, none⟩ = some (.slice hta htN htc)) (go_keep) (first | (go_at_call 14; refine SI.out.mono ?_; rintro e w5 ⟨rfl, hg5⟩; have g5 : w4.grownBy w5 none := grown_trans gd hg5; obtain ⟨⟨r0, r1, r2, r3, r4⟩, s0, s1, s2, s3, s4⟩ := CX.out w5 g5) | (go_at_call 15; refine (CH.out w5 (grown_trans g24 g5)).mono ?_; rintro e w6 ⟨rfl, hg6⟩; have g6 : w4.grownBy w6 none := grown_trans g5 hg6; obtain ⟨⟨r0, r1, r2, r3, r4⟩, s0, s1, s2, s3, s4⟩ := CX.out w6 g6) | (go_at_call 16; refine (DC.out w6 (grown_trans (grown_trans g0 g4) g6)).mono ?_; rintro e w7 ⟨rfl, hg7⟩; have g7 : w4.grownBy w7 none := grown_trans g6 hg7; obtain ⟨⟨r0, r1, r2, r3, r4⟩, s0, s1, s2, s3, s4⟩ := CX.out w7 g7) | fail)
    have hol := HO3.out.2.1
    have RW0 : Hid (w7.ownsRow W2.heap.size 3 1 (.slice pa OL.length pc) OL.length (OL.map (Value.int .i64))) := ((HO3.out.new hg4).new g7).1
    go_wp2_with fail
    clear r0 r1 r2 r3 r4 s0 s1 s2 s3 s4
    go_loopw [8] (fun i wr => ∃ (k : Nat) (zs : List Int), k ≤ OL.length ∧ i = .int .i64 k ∧ zs.length = OL.length ∧ wr.ownsRow W2.heap.size 3 1 (.slice pa OL.length pc) OL.length (zs.map (Value.int .i64)) ∧ w7.grownBy wr (Value.slice pa OL.length pc).ownBlock) (fun i _ => OL.length - (intOf i).toNat)
    case atStart => exact ⟨0, OL, Nat.zero_le _, rfl, rfl, RW0.out, ⟨rfl, rfl, rfl, Nat.le_refl _, fun _ _ _ => rfl⟩⟩
    case round =>
      obtain ⟨k, zs, hk, rfl, hzl, hrow, hgr⟩ := hrel
      have HR := hide hrow
      have HGR := hide hgr
      have HZL := hide hzl
      clear hrow hgr hzl
      by_cases hlt : k < OL.length
      · obtain ⟨B, cap, e, -⟩ := World.ownsRow.form HR.out (by omega)
        simp only [Value.slice.injEq] at e
        obtain ⟨rfl, -, rfl⟩ := e
        have fz := World.ownsRow.frozenAt HR.out k
        have cz : wr.cell? ⟨B, k, none⟩ = some (.int .i64 (zs.getD k 0)) := by
          rw [World.ownsRow.cellAt HR.out k (by omega), List.getElem?_map, List.getElem?_eq_getElem (by have := HZL.out; omega)]
          simp [List.getD, List.getElem?_eq_getElem (show k < zs.length by have := HZL.out; omega)]
        obtain ⟨s1, s2⟩ := World.ownsRow.stored HR.out k (.int .i64 (-1))
        rw [← List.map_set] at s1
        have ST := hide (And.intro s1 s2)
        clear s1 s2
        go_wp2_with fail
        go_roundw
        case rel => exact ⟨k + 1, zs.set k (-1), by omega, by go_num, by rw [List.length_set]; exact HZL.out, ST.out.1, grown_same HGR.out ST.out.2⟩
        case measure => simp [intOf]; omega
      · have hrl : ∀ b, (Value.slice pa OL.length pc).ownBlock = some b → W2.heap.size ≤ b ∧ b < w3.heap.size := fun b e => HO3.out.lt b e
        have gW : W2.grownBy wr none := grown_trans_row (grown_trans g24 g7) HGR.out (fun r e => (hrl r e).1)
        have HB2 : Hid (IsInts wr (.slice qa OL.length qc) OL) := (HO4.out.new g7).ints.kept fun b hb e => HGR.out.block b hb (fun e2 => by have := hrl b e2.symm; have := HO4.out.lt b e; omega)
        have gwr := grown_trans g2 gW
        obtain ⟨s0, s1, s2, s3, s4⟩ := gra_cells (g := ⟨hnam, ⟨ha0, hn0, hc0⟩, ⟨hia, hiN, hic⟩, ⟨hoa, hoN, hoc⟩, ⟨hta, htN, htc⟩⟩) (BH.out wr gW)
        clear hrl
        go_wp2_with fail
        clear s0 s1 s2 s3 s4
        refine (OH.out wr gW).mono ?_
        rintro e w8 ⟨⟨xa, xn, xc⟩, rfl, ho8, hg8⟩
        have HX := hide ho8.ints
        clear ho8
        have SI2 := hide (sameints_eq _ _ OL w8 HX.out (HB2.out.more hg8))
        go_wp2_with fail
        refine SI2.out.mono ?_
        rintro e w9 ⟨rfl, hg9⟩
        have gW9 := grown_trans gW (grown_trans hg8 hg9)
        have g9 := grown_trans g2 gW9
        obtain ⟨r0, r1, r2, r3, r4⟩ := gra_cells (g := ⟨nam, ⟨na0, nn0, nc0⟩, ⟨ia, iN, ic⟩, ⟨oa, oN, oc⟩, ⟨ta, tN, tc⟩⟩) (BXH.out w9 g9)
        obtain ⟨s0, s1, s2, s3, s4⟩ := gra_cells (g := ⟨hnam, ⟨ha0, hn0, hc0⟩, ⟨hia, hiN, hic⟩, ⟨hoa, hoN, hoc⟩, ⟨hta, htN, htc⟩⟩) (BH.out w9 gW9)
        go_wp2_with fail
        clear r0 r1 r2 r3 r4 s0 s1 s2 s3 s4
        refine (SG.out ⟨hnam, ⟨ha0, hn0, hc0⟩, ⟨hia, hiN, hic⟩, ⟨hoa, hoN, hoc⟩, ⟨hta, htN, htc⟩⟩ _ _ _ _ w9 (grown_trans g0 g9) (OKC.out.more (grown_trans gw2 gW9)).base NMC.out SMC.out).mono ?_
        rintro e wA ⟨rfl, hgA⟩
        go_wp2_with fail
        refine (LV.out wA (grown_trans (grown_trans g0 g9) hgA)).mono ?_
        rintro e wz ⟨rfl, hgz⟩
        go_wp2
        go_ret
        exact ⟨rfl, grown_below (grown_trans (grown_trans (grown_trans g0 g9) hgA) hgz)⟩
end Go.Proofs.YtflalpchhojenaaDoor
