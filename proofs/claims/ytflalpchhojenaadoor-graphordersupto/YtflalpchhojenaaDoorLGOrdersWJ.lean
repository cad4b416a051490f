/- GraphOrders, by the walk. -/
import Derived.Test.YtflalpchhojenaaDoorGAtJ
import Derived.BigQuiet
namespace Go.Proofs.YtflalpchhojenaaDoor
open Go.RowKit

theorem grown_drewN {a b : World} (h : a.grownBy b none) (n : Nat) : a.grownBy (b.drewN n) none := ⟨h.os, h.tape, h.output, h.size, h.block⟩

theorem nodup_le : ∀ {n : Nat} {L : List Int}, L.Nodup → (∀ z ∈ L, 0 ≤ z ∧ z < n) → L.length ≤ n
  | 0, [], _, _ => Nat.le_refl _
  | 0, x :: L, _, h => by have := h x (by simp); omega
  | n + 1, L, hd, h => by
    have ih := nodup_le (n := n) (L := L.erase (n : Int)) (hd.erase _) (fun z hz => by
      have h1 := (List.Nodup.mem_erase_iff hd).1 hz
      have h2 := h z h1.2
      have h3 := h1.1
      omega)
    rw [List.length_erase] at ih
    split at ih <;> omega

theorem full_of {n : Nat} {L : List Int} (hd : L.Nodup) (hr : ∀ z ∈ L, 0 ≤ z ∧ z < n) (hl : L.length = n) {k : Nat} (hk : k < n) : (k : Int) ∈ L := by
  refine Classical.byContradiction fun hn => ?_
  have := nodup_le (n := n) (L := (k : Int) :: L) (List.nodup_cons.2 ⟨hn, hd⟩) (fun z hz => by
    rcases List.mem_cons.1 hz with rfl | hz
    · omega
    · exact hr z hz)
  rw [List.length_cons] at this
  omega

set_option maxRecDepth 100000 in
set_option maxHeartbeats 6400000 in
theorem graphOrders_walk (g : Gra) (cs : List Nc) (vin vout : List (Val × List Int)) (its : List (Nam × List Int × List Int)) (w : World) (hl : Laid w) (hg : GraphOk w g cs vin vout its) :
    Calls Tryd.prog 5 #[gval g] w fun e w' => e = .returned (.bool true) ∧ Below w.heap.size w w' := by
  obtain ⟨i0, hi, hz0, hz1, hz2⟩ := info_parts infoInt
  have HL := hide hl
  have HG := hide hg
  have OA := hide (fun (wx : World) (hx : w.grownBy wx none) => order_any g cs vin vout its wx (hl.more hx) (hg.more hx))
  have CA := hide (fun (wx : World) (hx : w.grownBy wx none) => gcheck_any g cs vin vout its wx (hl.more hx) (hg.more hx))
  have HOK := hide (orderR_ok (cs := cs) (vin := vin) (vout := vout) (its := its))
  have HER := hide (orderR_err (cs := cs) (vin := vin) (vout := vout) (its := its))
  have e1 : g.nv.n = cs.length := by obtain ⟨_, _, e, -⟩ := hg.base.nodes.form; rw [List.length_map] at e; simp only [Sl.v, Value.slice.injEq] at e; exact e.2.1
  have f1 := hg.base.few.1
  clear hg hl
  obtain ⟨OR, hOR⟩ : ∃ OR, OR = orderR cs vin vout its := ⟨_, rfl⟩
  rw [← hOR] at OA CA HOK HER
  clear hOR
  obtain ⟨OL, OE⟩ := OR
  simp only at OA CA HOK HER
  obtain ⟨nam, ⟨na0, nn0, nc0⟩, ⟨ia, iN, ic⟩, ⟨oa, oN, oc⟩, ⟨ta, tN, tc⟩⟩ := g
  unfold gval at OA CA ⊢
  simp only at OA CA e1 ⊢
  subst e1
  obtain ⟨w0, hw0⟩ : ∃ w0, w0 = w.alloc (.cells #[.string nam, .slice na0 cs.length nc0, .slice ia iN ic, .slice oa oN oc, .slice ta tN tc] 26) := ⟨_, rfl⟩
  have g0 : w.grownBy w0 none := by rw [hw0]; exact grown_new _ _
  have b0 := heap_alloc_new w (.cells #[.string nam, .slice na0 cs.length nc0, .slice ia iN ic, .slice oa oN oc, .slice ta tN tc] 26)
  rw [← hw0] at b0
  have BX : Hid (∀ wx, w0.grownBy wx none → wx.heap[w.heap.size]? = some (.cells #[.string nam, .slice na0 cs.length nc0, .slice ia iN ic, .slice oa oN oc, .slice ta tN tc] 26 (0, 0))) := fun wx hx => box_kept b0 hx
  clear b0
  obtain ⟨r0, r1, r2, r3, r4⟩ := gra_cells (g := ⟨nam, ⟨na0, cs.length, nc0⟩, ⟨ia, iN, ic⟩, ⟨oa, oN, oc⟩, ⟨ta, tN, tc⟩⟩) (BX.out w0 (grown_refl _))
  rw [hw0] at r0 r1 r2 r3 r4
  go_enter Tryd.func5, Tryd.ntmps5
  go_wp2_with fail
  rw [← hw0]
  clear hw0 r0 r1 r2 r3 r4
  refine (OA.out w0 g0).mono ?_
  rintro e w1 ⟨⟨ua, un, uc⟩, rfl, ho1, hg1⟩
  obtain ⟨ua', uc', hu⟩ := own_form ho1.1
  obtain ⟨rfl, rfl, rfl⟩ : ua = ua' ∧ un = OL.length ∧ uc = uc' := by simpa [Sl.v] using hu
  have HO := hide ho1
  have g1 := grown_trans g0 hg1
  clear hu ho1
  unfold Sl.v at HO ⊢
  simp only at HO ⊢
  obtain ⟨r0, r1, r2, r3, r4⟩ := gra_cells (g := ⟨nam, ⟨na0, cs.length, nc0⟩, ⟨ia, iN, ic⟩, ⟨oa, oN, oc⟩, ⟨ta, tN, tc⟩⟩) (BX.out w1 hg1)
  by_cases hz : OE = 0
  · subst hz
    obtain ⟨hOL, hLn, hNO, hFO, hsm⟩ := HOK.out rfl
    have LAW := line_law (cs := cs) (vin := vin) (its := its) (fun c hc => (HG.out.is c hc).1) (fun c hc x hx => by
      unfold foundF at hFO
      simp only [Bool.and_eq_true, List.all_eq_true] at hFO
      have := hFO.2 c hc
      unfold allF at this
      rw [List.all_eq_true] at this
      exact this x hx)
    rw [← hOL] at LAW hLn
    obtain ⟨lw1, lw2, lw3⟩ := LAW
    have LW1 := hide lw1
    have LW2 := hide lw2
    have LW3 := hide lw3
    have HNO := hide hNO
    have HLn := hide hLn
    clear lw1 lw2 lw3 hNO hFO hOL
    rw [hLn] at HO ⊢
    clear hLn
    have hnn : ((cs.length : Int) != (cs.length : Int)) = false := by simp
    obtain ⟨M1, hM1⟩ : ∃ M, M = madeCells (Value.int .i64 0).cells (((cs.length : Nat) : Int).toNat * i0.size) := ⟨_, rfl⟩
    have E1 : Hid (M1.toList = List.replicate cs.length (.int .i64 0)) := by show _ = _; rw [hM1, hz1, Nat.mul_one, show (Value.int .i64 0).cells = #[Value.int .i64 0] from rfl, toList_madeCells_one]; simp
    have mk1 : ∀ W : World, (Instr.makeSlice 30 (.int .i64 (cs.length : Int)) (.int .i64 (cs.length : Int))).run Tryd.prog W = .ok (.slice (some ⟨W.heap.size, 0, none⟩) cs.length cs.length) (W.alloc (.cells M1 3)) := fun W => by
      have h := Go.run_make (P := Tryd.prog) W 30 3 i0 (.int .i64 0) Tryd.underlying30 hi hz0 .i64 .i64 (cs.length : Int) (cs.length : Int) (by omega) (by omega) (by rw [hz2]; omega) (by omega)
      rw [← hM1] at h
      simpa using h
    clear hM1
    obtain ⟨w2, hw2⟩ : ∃ w2, w2 = w1.alloc (.cells M1 3) := ⟨_, rfl⟩
    have g12 : w1.grownBy w2 none := by rw [hw2]; exact grown_new _ _
    have b2 := heap_alloc_new w1 (.cells M1 3)
    rw [← hw2] at b2
    have OW0 : Hid (OwnW w2 w1.heap.size w1.heap.size (atN OL cs.length 0)) := by
      show OwnW _ _ _ _
      unfold OwnW
      rw [atN_len]
      refine ⟨by simp [atN], Or.inr ⟨w1.heap.size, cs.length, M1, rfl, Nat.le_refl _, b2, Nat.le_refl _, by simp only [maxLen]; omega, ?_, ?_⟩⟩
      · rw [← Array.length_toList, E1.out, List.length_replicate, Nat.mul_one]
      · rw [E1.out, List.take_of_length_le (by simp)]
        simp [atN]
    have HO2 := hide (HO.out.new g12)
    have hAb : Hid (∀ k, (Value.slice ua cs.length uc).ownBlock = some k → k < w1.heap.size) := fun k e => (HO.out.lt k e).2
    go_wp2_with fail
    rw [← hw2]
    clear hw2 r0 r1 r2 r3 r4 b2 hnn mk1
    go_loopg [6] cs.length (fun gh i wr => ∃ k : Nat, gh = cs.length - k ∧ k ≤ cs.length ∧ i = .int .i64 k ∧ w2.grownBy wr (some w1.heap.size) ∧ OwnW wr w1.heap.size w1.heap.size (atN OL cs.length k))
    case atStart => exact ⟨0, rfl, Nat.zero_le _, rfl, World.grownBy.refl _ _, OW0.out⟩
    case round =>
      obtain ⟨k, hgk, hk, rfl, hgr, how⟩ := hrel
      have HW := hide how
      have HGR := hide hgr
      clear how hgr
      by_cases hlt : k < cs.length
      · have HI := (HO2.out.more HGR.out (some_or fun b e => by have := hAb.out b e; simp; omega)).ints
        obtain ⟨sb, so, rfl, d0⟩ := ints_addrG HI (k := k) (by rw [HLn.out]; exact hlt)
        have hrz := LW2.out (OL.getD k 0) (getD_mem_or _ _ (by rw [HLn.out]; exact hlt))
        obtain ⟨q, hq⟩ : ∃ q : Nat, OL.getD k 0 = (q : Int) := ⟨(OL.getD k 0).toNat, by omega⟩
        have hqn : q < cs.length := by omega
        have hnone : (atN OL cs.length k).getD q 0 = 0 := atN_none LW2.out (by rw [HLn.out]; exact hk) q hqn (fun h => by
          obtain ⟨p, hp, e⟩ := List.mem_take_iff_getElem.1 h
          have hpw := List.pairwise_iff_getElem.1 LW1.out p k (by omega) (by rw [HLn.out]; exact hlt) (by omega)
          apply hpw
          rw [e]
          rw [List.getD, List.getElem?_eq_getElem (by rw [HLn.out]; exact hlt)] at hq
          exact hq.symm)
        obtain ⟨c0, c1⟩ := HW.out.at (k := q) (by rw [atN_len]; exact hqn)
        have HS := hide (HW.out.set q ((k : Int) + 1))
        have HN : Hid (atN OL cs.length (k + 1) = (atN OL cs.length k).set q ((k : Int) + 1)) := by show _ = _; rw [atN, hq, Int.toNat_natCast]
        rw [hnone] at c0
        rw [hq] at d0
        clear HI hrz hq hnone
        have hq0 : ¬ ((q : Int) < 0) := by omega
        have hq1 : ¬ ((cs.length : Int) ≤ (q : Int)) := by omega
        go_wp2_with fail
        go_roundg (cs.length - (k + 1))
        case measure => omega
        case rel => exact ⟨k + 1, rfl, by omega, by go_num, grown_same HGR.out HS.out.2, by rw [HN.out]; exact HS.out.1⟩
      · obtain rfl : k = cs.length := by omega
        have q1 := hg1.size
        have q0 := g0.size
        have GS := hide (grown_trans_row (grown_trans g1 g12) HGR.out (fun b e => by injection e with e; omega))
        have GS0 := hide (grown_trans_row (grown_trans hg1 g12) HGR.out (fun b e => by injection e with e; omega))
        obtain ⟨wS, hwS⟩ : ∃ wS, wS = wr := ⟨_, rfl⟩
        rw [← hwS] at HW GS GS0 ⊢
        clear hwS HGR
        go_wp2_with fail
        go_loopg [7] cs.length (fun gh i wx => ∃ k : Nat, gh = cs.length - k ∧ k ≤ cs.length ∧ i = .int .i64 k ∧ wS.grownBy wx none)
        case atStart => exact ⟨0, rfl, Nat.zero_le _, rfl, grown_refl _⟩
        case round =>
          obtain ⟨k, hgk2, hk2, rfl, hgr2⟩ := hrel
          obtain ⟨r0, r1, r2, r3, r4⟩ := gra_cells (g := ⟨nam, ⟨na0, cs.length, nc0⟩, ⟨ia, iN, ic⟩, ⟨oa, oN, oc⟩, ⟨ta, tN, tc⟩⟩) (BX.out wr (grown_trans GS0.out hgr2))
          by_cases hlt2 : k < cs.length
          · obtain ⟨wT, hwT⟩ : ∃ wT, wT = wr := ⟨_, rfl⟩
            rw [← hwT] at hgr2 r0 r1 r2 r3 r4 ⊢
            clear hwT
            go_wp2_with fail
            clear r0 r1 r2 r3 r4
            go_loopg [8] cs.length (fun gh i wx => ∃ m : Nat, gh = cs.length - m ∧ m ≤ cs.length ∧ i = .int .i64 m ∧ wS.grownBy wx none)
            case atStart => exact ⟨0, rfl, Nat.zero_le _, rfl, hgr2⟩
            case round =>
              obtain ⟨m, hgk3, hk3, rfl, hgr3⟩ := hrel
              obtain ⟨r0, r1, r2, r3, r4⟩ := gra_cells (g := ⟨nam, ⟨na0, cs.length, nc0⟩, ⟨ia, iN, ic⟩, ⟨oa, oN, oc⟩, ⟨ta, tN, tc⟩⟩) (BX.out wr (grown_trans GS0.out hgr3))
              by_cases hlt3 : m < cs.length
              · obtain ⟨wU, hwU⟩ : ∃ wU, wU = wr := ⟨_, rfl⟩
                rw [← hwU] at hgr3 r0 r1 r2 r3 r4 ⊢
                clear hwU
                go_wp2_with fail
                clear r0 r1 r2 r3 r4
                obtain ⟨C, hC⟩ : ∃ C, C = cs[k] := ⟨_, rfl⟩
                have HC := hide hC
                have HNI := hide (HG.out.base.node cs[k] (List.getElem_mem hlt2)).ins
                rw [← hC] at HNI
                clear hC
                obtain ⟨⟨cop, cnam, ⟨ca, cN, cc⟩, cout, ⟨da, dN, dc⟩⟩, cins, cxs, ccs⟩ := C
                obtain ⟨xa, xc, e1, y1, y2, y3⟩ := HNI.out.form
                obtain ⟨rfl, rfl, rfl⟩ : ca = xa ∧ cN = cins.length ∧ cc = xc := by simpa [Sl.v] using e1
                simp only [Sl.v] at HNI
                clear e1
                go_loopg [9] cins.length (fun gh i wx => ∃ t : Nat, gh = cins.length - t ∧ t ≤ cins.length ∧ i = .int .i64 t ∧ wS.grownBy wx none)
                case atStart => exact ⟨0, rfl, Nat.zero_le _, rfl, hgr3⟩
                case round =>
                  obtain ⟨t, hgk4, hk4, rfl, hgr4⟩ := hrel
                  obtain ⟨r0, r1, r2, r3, r4⟩ := gra_cells (g := ⟨nam, ⟨na0, cs.length, nc0⟩, ⟨ia, iN, ic⟩, ⟨oa, oN, oc⟩, ⟨ta, tN, tc⟩⟩) (BX.out wr (grown_trans GS0.out hgr4))
                  have HND := HG.out.base.nodes.more (grown_trans GS.out hgr4)
                  simp only [Sl.v] at HND
                  obtain ⟨b9, off, rfl⟩ := HND.addr (by rw [List.length_map]; exact hlt2)
                  obtain ⟨-, -, a2, -, -⟩ := HND.nod k (by rw [List.length_map]; exact hlt2)
                  obtain ⟨-, -, -, a3, -⟩ := HND.nod m (by rw [List.length_map]; exact hlt3)
                  rw [List.getElem_map, ← HC.out] at a2
                  rw [List.getElem_map] at a3
                  simp only at a2
                  have HPO := hide (pos_out HNO.out hlt3)
                  obtain ⟨Y, hY⟩ : ∃ Y, Y = cs[m].n.out := ⟨_, rfl⟩
                  rw [← hY] at a3 HPO
                  clear HND hY
                  by_cases htl : t < cins.length
                  · have HVk := HNI.out.more (grown_trans GS.out hgr4)
                    obtain ⟨vb, vo, rfl⟩ := HVk.addr htl
                    have s0 := str_at HVk t htl
                    have HX : Hid (cins[t] ∈ cins) := List.getElem_mem htl
                    obtain ⟨X, hX⟩ : ∃ X, X = cins[t] := ⟨_, rfl⟩
                    rw [← hX] at s0 HX
                    clear HVk hX
                    have HWr : OwnW wr w1.heap.size w1.heap.size (atN OL cs.length cs.length) := World.ownsRow.kept HW.out hgr4 (Or.inr (by simp [Value.ownBlock]))
                    obtain ⟨c2, -⟩ := HWr.at (k := m) (by rw [atN_len]; exact hlt3)
                    obtain ⟨c3, -⟩ := HWr.at (k := k) (by rw [atN_len]; exact hlt2)
                    clear HWr
                    have HLT : Hid ((X.toList == Y.toList) = true → (atN OL cs.length cs.length).getD m 0 < (atN OL cs.length cs.length).getD k 0) := fun h => by
                      have e : X = Y := by
                        have h1 : X.toList = Y.toList := by simpa using h
                        rw [bytes_toList, bytes_toList] at h1
                        exact Go.WideShapes.bytes_inj h1
                      have hmem : (k : Int) ∈ OL := full_of LW1.out LW2.out HLn.out hlt2
                      obtain ⟨p, hp, ep⟩ := List.getElem_of_mem hmem
                      have hps : OL[p]? = some (k : Int) := by rw [List.getElem?_eq_getElem hp, ep]
                      have hkk := LW3.out p k m hlt2 hps hlt3 ⟨X, by rw [← HC.out]; exact HX.out, by rw [e]; exact HPO.out⟩
                      have := atN_lt LW2.out LW1.out hps hkk
                      rw [HLn.out] at this
                      exact this
                    obtain ⟨am, ham⟩ : ∃ x, x = (atN OL cs.length cs.length).getD m 0 := ⟨_, rfl⟩
                    obtain ⟨ak, hak⟩ : ∃ x, x = (atN OL cs.length cs.length).getD k 0 := ⟨_, rfl⟩
                    rw [← ham] at c2 HLT
                    rw [← hak] at c3 HLT
                    clear ham hak
                    cases hxy : X.toList == Y.toList with
                    | false =>
                      go_wp2_with fail
                      go_quiet (fail)
                      go_wp2_with fail
                      go_roundg (cins.length - (t + 1))
                      case measure => omega
                      case rel => exact ⟨t + 1, rfl, by omega, by go_num, grown_drewN hgr4 _⟩
                    | true =>
                      have hlt5 : am < ak := HLT.out hxy
                      have hlt6 : ¬ ak ≤ am := by omega
                      have hlt7 : decide (ak ≤ am) = false := decide_eq_false hlt6
                      go_wp2_with fail
                      go_quiet (fail)
                      go_wp2_with fail
                      go_roundg (cins.length - (t + 1))
                      case measure => omega
                      case rel => exact ⟨t + 1, rfl, by omega, by go_num, grown_drewN hgr4 _⟩
                  · obtain rfl : t = cins.length := by omega
                    go_wp2_with fail
                    go_roundg (cs.length - (m + 1))
                    case measure => omega
                    case rel => exact ⟨m + 1, rfl, by omega, by go_num, hgr4⟩
              · obtain rfl : m = cs.length := by omega
                go_wp2_with fail
                go_roundg (cs.length - (k + 1))
                case measure => omega
                case rel => exact ⟨k + 1, rfl, by omega, by go_num, hgr3⟩
          · obtain rfl : k = cs.length := by omega
            go_wp2_with fail
            clear r0 r1 r2 r3 r4
            refine (glive_any wr (HL.out.more (grown_trans GS.out hgr2))).mono ?_
            rintro e w9 ⟨rfl, hg9⟩
            go_wp2
            go_ret
            exact ⟨rfl, grown_below (grown_trans (grown_trans GS.out hgr2) hg9)⟩
  · have hzb : (OE != 0) = true := by simpa using hz
    obtain rfl : OL = [] := HER.out hz
    have hL0 : ([] : List Int).length = 0 := rfl
    rw [hL0]
    have heq : (OE == OE) = true := by simp
    go_wp2_with fail
    clear r0 r1 r2 r3 r4
    refine (CA.out w1 g1).mono ?_
    rintro e w2 ⟨rfl, hg2⟩
    have g2 := grown_trans g1 hg2
    go_wp2_with fail
    refine (glive_any w2 (HL.out.more g2)).mono ?_
    rintro e w3 ⟨rfl, hg3⟩
    go_wp2
    go_ret
    exact ⟨rfl, grown_below (grown_trans g2 hg3)⟩
end Go.Proofs.YtflalpchhojenaaDoor
