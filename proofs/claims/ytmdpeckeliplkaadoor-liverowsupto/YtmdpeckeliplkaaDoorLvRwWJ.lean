/- LiveRows, by the walk. -/
import Derived.Test.YtmdpeckeliplkaaDoorPartT
import Derived.Test.YtmdpeckeliplkaaDoorPartP
import Derived.Test.YtmdpeckeliplkaaDoorPartQ
import Derived.Test.YtmdpeckeliplkaaDoorGCopyIJ
import Derived.BigQuiet
namespace Go.Proofs.YtmdpeckeliplkaaDoor
open Go.RowKit

/-- What a node makes and what it reads. -/
def kf (c : Nc) : ByteArray × List ByteArray := (c.n.out, c.ins)

theorem kf_outs {ns ms : List Nc} (h : ns.map kf = ms.map kf) : outsN ns = outsN ms := by
  have := congrArg (List.map (·.1)) h
  simpa [outsN, kf, List.map_map, Function.comp_def] using this

theorem needN_congr {ns ms : List Nc} (h : ns.map kf = ms.map kf) : ∀ k, needN ns k = needN ms k
  | 0 => by rw [needN, needN, key_len h]
  | k + 1 => by
    have e1 : outsN (ns.take k) = outsN (ms.take k) := kf_outs (by rw [List.map_take, List.map_take, h])
    have e2 : ((ns[k]?.map (·.ins)).getD [] : List ByteArray) = (ms[k]?.map (·.ins)).getD [] := by
      have := congrArg (fun l => (l[k]?.map (·.2)).getD []) h
      simpa [kf, List.getElem?_map, Option.map_map, Function.comp_def] using this
    rw [needN, needN, needN_congr h k, key_len h, e1, e2]

theorem inOrd_kf {cs ds : List Nc} (h : cs.map kf = ds.map kf) (L : List Int) : (inOrd cs L).map kf = (inOrd ds L).map kf := by
  have g : ∀ (xs : List Nc) (i : Nat), kf (xs.getD i noNc) = (xs.map kf).getD i (kf noNc) := fun xs i => by
    simp only [List.getD, List.getElem?_map]
    cases xs[i]? <;> rfl
  unfold inOrd
  rw [List.map_map, List.map_map]
  refine List.map_congr_left (fun z _ => ?_)
  show kf _ = kf _
  rw [g, g, h]

/-- A copy's rows. -/
theorem SameG.rows {cs : List Nc} {vin vout : List (Val × List Int)} {its : List (Nam × List Int × List Int)} {cs' : List Nc} {vin' vout' : List (Val × List Int)} {its' : List (Nam × List Int × List Int)} (h : SameG cs vin vout its cs' vin' vout' its') (hz : (orderR cs vin vout its).2 = 0) : rowsG cs' vin' its' = rowsG cs vin its := by
  have hl := key_len h.nodes
  have ho := h.order
  have e1 := (orderR_ok hz).1
  have e2 := (orderR_ok (cs := cs') (vin := vin') (vout := vout') (its := its') (by rw [ho]; exact hz)).1
  have e3 : lineF cs' vin' its' = lineF cs vin its := by rw [← e1, ← e2, ho]
  have hk : cs'.map kf = cs.map kf := map_key (k := nkey) (fun _ _ e => congrArg (fun t => (t.2.2.2.1, t.2.2.1)) e) h.nodes
  unfold rowsG
  rw [e3, hl, needN_congr (inOrd_kf hk _)]

set_option maxRecDepth 100000 in
set_option maxHeartbeats 12800000 in
theorem liveRows_walk (g : Gra) (cs : List Nc) (vin vout : List (Val × List Int)) (its : List (Nam × List Int × List Int)) (w : World) (hl : Laid w) (hg : GraphOk w g cs vin vout its) :
    Calls Tryd.prog 3 #[gval g] w fun e w' => e = .returned (.bool true) ∧ Below w.heap.size w w' := by
  have HL := hide hl
  have HG := hide hg
  have LV := hide (fun (wx : World) (hx : w.grownBy wx none) => alive_any wx (hl.more hx))
  have CG := hide (fun (wx : World) (hx : w.grownBy wx none) => copygraph_any g cs vin vout its wx (hg.more hx).base)
  have DB := hide (fun (wx : World) (hx : w.grownBy wx none) => dbefore_any g cs vin vout its wx (hg.more hx))
  have SG := hide (fun (h : Gra) (cs' : List Nc) (vin' vout' : List (Val × List Int)) (its' : List (Nam × List Int × List Int)) (wx : World) (hx : w.grownBy wx none) => samegraph_eq h g cs cs' vin vout vin' vout' its its' wx (hg.more hx).base)
  have SA := hide (fun (wx : World) (hx : w.grownBy wx none) => small19_any g cs vin vout its wx (hg.more hx))
  obtain ⟨f1, f2, f3, f4⟩ := hg.base.few
  clear hg hl
  obtain ⟨nam, ⟨na0, nn0, nc0⟩, ⟨ia, iN, ic⟩, ⟨oa, oN, oc⟩, ⟨ta, tN, tc⟩⟩ := g
  unfold gval at CG DB SG SA ⊢
  simp only at CG DB SG SA ⊢
  obtain ⟨w0, hw0⟩ : ∃ w0, w0 = w.alloc (.cells #[.string nam, .slice na0 nn0 nc0, .slice ia iN ic, .slice oa oN oc, .slice ta tN tc] 26) := ⟨_, rfl⟩
  have g0 : w.grownBy w0 none := by rw [hw0]; exact grown_new _ _
  have b0 := heap_alloc_new w (.cells #[.string nam, .slice na0 nn0 nc0, .slice ia iN ic, .slice oa oN oc, .slice ta tN tc] 26)
  rw [← hw0] at b0
  have BXH : Hid (∀ wx, w0.grownBy wx none → wx.heap[w.heap.size]? = some (.cells #[.string nam, .slice na0 nn0 nc0, .slice ia iN ic, .slice oa oN oc, .slice ta tN tc] 26 (0, 0))) := fun wx hx => box_kept b0 hx
  clear b0
  obtain ⟨r0, r1, r2, r3, r4⟩ := gra_cells (g := ⟨nam, ⟨na0, nn0, nc0⟩, ⟨ia, iN, ic⟩, ⟨oa, oN, oc⟩, ⟨ta, tN, tc⟩⟩) (BXH.out w0 (grown_refl _))
  rw [hw0] at r0 r1 r2 r3 r4
  go_enter Tryd.func3, Tryd.ntmps3
  go_wp2_with fail
  rw [← hw0]
  clear hw0 r0 r1 r2 r3 r4
  refine (SA.out w0 g0).mono ?_
  rintro e ws ⟨rfl, hgs⟩
  cases smallF cs vin vout its with
  | false =>
    go_wp2_with fail
    refine (LV.out ws (grown_trans g0 hgs)).mono ?_
    rintro e wz ⟨rfl, hgz⟩
    go_wp2
    go_ret
    exact ⟨rfl, grown_below (grown_trans (grown_trans g0 hgs) hgz)⟩
  | true =>
    obtain ⟨r0, r1, r2, r3, r4⟩ := gra_cells (g := ⟨nam, ⟨na0, nn0, nc0⟩, ⟨ia, iN, ic⟩, ⟨oa, oN, oc⟩, ⟨ta, tN, tc⟩⟩) (BXH.out ws hgs)
    go_wp2_with fail
    clear r0 r1 r2 r3 r4
    refine (CG.out ws (grown_trans g0 hgs)).mono ?_
    rintro e w1 ⟨h, ms, vi, vo, ts, i0, i1, o0, o1, n0, n1, t0, t1, rfl, hc⟩
    have hg1 := grown_trans hgs hc.grown
    have OKC := hide (hc.ok (HG.out.more (grown_trans g0 hgs)))
    have NMC := hide hc.name
    have SMC := hide hc.same
    clear hc
    obtain ⟨hnam, ⟨ha0, hn0, hc0⟩, ⟨hia, hiN, hic⟩, ⟨hoa, hoN, hoc⟩, ⟨hta, htN, htc⟩⟩ := h
    simp only at NMC ⊢
    obtain ⟨W2, hW2⟩ : ∃ W2, W2 = w1.alloc (.cells #[.string hnam, .slice ha0 hn0 hc0, .slice hia hiN hic, .slice hoa hoN hoc, .slice hta htN htc] 26) := ⟨_, rfl⟩
    have gw2 : w1.grownBy W2 none := by rw [hW2]; exact grown_new _ _
    have b2 := heap_alloc_new w1 (.cells #[.string hnam, .slice ha0 hn0 hc0, .slice hia hiN hic, .slice hoa hoN hoc, .slice hta htN htc] 26)
    rw [← hW2] at b2
    have BH : Hid (∀ wx, W2.grownBy wx none → wx.heap[w1.heap.size]? = some (.cells #[.string hnam, .slice ha0 hn0 hc0, .slice hia hiN hic, .slice hoa hoN hoc, .slice hta htN htc] 26 (0, 0))) := fun wx hx => box_kept b2 hx
    clear b2
    have g2 : w0.grownBy W2 none := grown_trans hg1 gw2
    have LB := hide (before_any ⟨hnam, ⟨ha0, hn0, hc0⟩, ⟨hia, hiN, hic⟩, ⟨hoa, hoN, hoc⟩, ⟨hta, htN, htc⟩⟩ (ms.map toNc) vi vo ts W2 (HL.out.more (grown_trans g0 g2)) (OKC.out.more gw2))
    have SGH := hide (fun (wx : World) (hx : W2.grownBy wx none) => SG.out ⟨hnam, ⟨ha0, hn0, hc0⟩, ⟨hia, hiN, hic⟩, ⟨hoa, hoN, hoc⟩, ⟨hta, htN, htc⟩⟩ (ms.map toNc) vi vo ts wx (grown_trans (grown_trans g0 g2) hx) (OKC.out.base.more (grown_trans gw2 hx)) NMC.out SMC.out)
    unfold gval at LB SGH
    simp only at LB SGH
    have HLEN : Hid ((ms.map toNc).length = cs.length) := key_len SMC.out.nodes
    obtain ⟨r0, r1, r2, r3, r4⟩ := gra_cells (g := ⟨hnam, ⟨ha0, hn0, hc0⟩, ⟨hia, hiN, hic⟩, ⟨hoa, hoN, hoc⟩, ⟨hta, htN, htc⟩⟩) (BH.out W2 (grown_refl _))
    rw [hW2] at r0 r1 r2 r3 r4
    go_wp2_with fail
    rw [← hW2]
    clear hW2 r0 r1 r2 r3 r4
    refine LB.out.mono ?_
    rintro e w3 ⟨hg3, hcase⟩
    rw [SMC.out.order, HLEN.out] at hcase
    have g3 := grown_trans g2 hg3
    obtain ⟨r0, r1, r2, r3, r4⟩ := gra_cells (g := ⟨nam, ⟨na0, nn0, nc0⟩, ⟨ia, iN, ic⟩, ⟨oa, oN, oc⟩, ⟨ta, tN, tc⟩⟩) (BXH.out w3 g3)
    rcases hcase with ⟨hz, rfl⟩ | ⟨hz, Q, q, rfl, hrb⟩
    · have HZ := hide hz
      clear hz LB
      obtain ⟨OE, hOE⟩ : ∃ OE, OE = (orderR cs vin vout its).2 := ⟨_, rfl⟩
      rw [← hOE] at HZ ⊢
      have HOE := hide hOE
      clear hOE
      go_wp2_with fail
      clear r0 r1 r2 r3 r4
      refine (DB.out w3 (grown_trans g0 g3)).mono ?_
      rintro e w4 ⟨hg4, ⟨-, rfl⟩ | ⟨hz4, -⟩⟩
      · rw [← HOE.out]
        have g4 := grown_trans g3 hg4
        have heq : (OE != OE) = false := by simp
        obtain ⟨r0, r1, r2, r3, r4⟩ := gra_cells (g := ⟨nam, ⟨na0, nn0, nc0⟩, ⟨ia, iN, ic⟩, ⟨oa, oN, oc⟩, ⟨ta, tN, tc⟩⟩) (BXH.out w4 g4)
        obtain ⟨s0, s1, s2, s3, s4⟩ := gra_cells (g := ⟨hnam, ⟨ha0, hn0, hc0⟩, ⟨hia, hiN, hic⟩, ⟨hoa, hoN, hoc⟩, ⟨hta, htN, htc⟩⟩) (BH.out w4 (grown_trans hg3 hg4))
        go_wp2_with fail
        clear r0 r1 r2 r3 r4 s0 s1 s2 s3 s4
        refine (SGH.out w4 (grown_trans hg3 hg4)).mono ?_
        rintro e w5 ⟨rfl, hg5⟩
        have g5 := grown_trans (grown_trans g0 g4) hg5
        go_wp2_with fail
        go_loopg [8] 1 (fun gh i wr => gh = 1 ∧ i = .int .i64 0 ∧ w.grownBy wr none)
        case atStart => exact ⟨rfl, rfl, g5⟩
        case round =>
          obtain ⟨hgh, rfl, hgr⟩ := hrel
          go_wp2_with fail
          refine (LV.out wr hgr).mono ?_
          rintro e w6 ⟨rfl, hg6⟩
          go_wp2
          go_ret
          exact ⟨rfl, grown_below (grown_trans hgr hg6)⟩
      · exact absurd (HOE.out.trans hz4) HZ.out
    · have HZ := hide hz
      rw [SMC.out.rows hz] at hrb
      have HRA := hide hrb
      clear hz LB hrb
      go_wp2_with fail
      clear r0 r1 r2 r3 r4
      refine (DB.out w3 (grown_trans g0 g3)).mono ?_
      rintro e w4 ⟨hg4, ⟨hz4, -⟩ | ⟨-, Q', q', rfl, hrb'⟩⟩
      · exact absurd HZ.out hz4
      · have HRB := hide hrb'
        clear hrb'
        have g4 := grown_trans g3 hg4
        have hne : ((cs.length : Int) != (cs.length : Int)) = false := by simp
        obtain ⟨r0, r1, r2, r3, r4⟩ := gra_cells (g := ⟨nam, ⟨na0, nn0, nc0⟩, ⟨ia, iN, ic⟩, ⟨oa, oN, oc⟩, ⟨ta, tN, tc⟩⟩) (BXH.out w4 g4)
        obtain ⟨s0, s1, s2, s3, s4⟩ := gra_cells (g := ⟨hnam, ⟨ha0, hn0, hc0⟩, ⟨hia, hiN, hic⟩, ⟨hoa, hoN, hoc⟩, ⟨hta, htN, htc⟩⟩) (BH.out w4 (grown_trans hg3 hg4))
        go_wp2_with fail
        clear r0 r1 r2 r3 r4 s0 s1 s2 s3 s4
        refine (SGH.out w4 (grown_trans hg3 hg4)).mono ?_
        rintro e w5 ⟨rfl, hg5⟩
        have G5 := hide (grown_trans (grown_trans g0 g4) hg5)
        have RA5 := hide (HRA.out.more (grown_trans hg4 hg5))
        have RB5 := hide (HRB.out.more hg5)
        obtain ⟨M, hM⟩ : ∃ M, M = rowsG cs vin its := ⟨_, rfl⟩
        rw [← hM] at RA5 RB5
        clear hM HRA HRB
        go_wp2_with fail
        go_loopg [8] cs.length (fun gh i wr => ∃ t : Nat, gh = cs.length - t ∧ t ≤ cs.length ∧ i = .int .i64 t ∧ w5.grownBy wr none)
        case atStart => exact ⟨0, rfl, Nat.zero_le _, rfl, grown_refl _⟩
        case round =>
          obtain ⟨t, hgt, ht, rfl, hgr⟩ := hrel
          by_cases hlt : t < cs.length
          · have ra := (RA5.out.more hgr).row t hlt
            have rb := (RB5.out.more hgr).row t hlt
            have t0 : (0 : Int) ≤ (t : Int) := Int.natCast_nonneg _
            have t1 : (t : Int) < (cs.length : Int) := by omega
            go_wp2_with fail
            go_quiet (fail)
            clear ra rb
            go_wp2_with fail
            obtain ⟨wq, hwq⟩ : ∃ wq, wq = wr.drewN nq := ⟨_, rfl⟩
            have hgq : w5.grownBy wq none := by rw [hwq]; exact grown_drewN hgr _
            rw [← hwq]
            clear hwq
            go_loopg [9] cs.length (fun gh2 i wr => ∃ u : Nat, gh2 = cs.length - u ∧ u ≤ cs.length ∧ i = .int .i64 u ∧ w5.grownBy wr none)
            case atStart => exact ⟨0, rfl, Nat.zero_le _, rfl, hgq⟩
            case round =>
              obtain ⟨u, hgu, hu, rfl, hgv⟩ := hrel
              have ra := (RA5.out.more hgv).row t hlt
              have rb := (RB5.out.more hgv).row t hlt
              by_cases hul : u < cs.length
              · have xa := (RA5.out.more hgv).bit t hlt u hul
                have xb := (RB5.out.more hgv).bit t hlt u hul
                have u0 : (0 : Int) ≤ (u : Int) := Int.natCast_nonneg _
                have u1 : (u : Int) < (cs.length : Int) := by omega
                obtain ⟨x, hx⟩ : ∃ x, x = (M.getD t []).getD u false := ⟨_, rfl⟩
                rw [← hx] at xa xb
                clear hx
                cases x with
                | false =>
                  go_wp2_with fail
                  go_quiet (fail)
                  go_wp2_with fail
                  go_roundg (cs.length - (u + 1))
                  case measure => omega
                  case rel => exact ⟨u + 1, rfl, by omega, by go_num, grown_drewN hgv _⟩
                | true =>
                  go_wp2_with fail
                  go_quiet (fail)
                  go_wp2_with fail
                  go_roundg (cs.length - (u + 1))
                  case measure => omega
                  case rel => exact ⟨u + 1, rfl, by omega, by go_num, grown_drewN hgv _⟩
              · obtain rfl : u = cs.length := by omega
                go_wp2_with fail
                go_roundg (cs.length - (t + 1))
                case measure => omega
                case rel => exact ⟨t + 1, rfl, by omega, by go_num, hgv⟩
          · obtain rfl : t = cs.length := by omega
            go_wp2_with fail
            refine (LV.out wr (grown_trans G5.out hgr)).mono ?_
            rintro e w6 ⟨rfl, hg6⟩
            go_wp2
            go_ret
            exact ⟨rfl, grown_below (grown_trans (grown_trans G5.out hgr) hg6)⟩
end Go.Proofs.YtmdpeckeliplkaaDoor
