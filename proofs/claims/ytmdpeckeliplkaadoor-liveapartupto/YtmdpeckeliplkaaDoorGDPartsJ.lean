/- The document's look at each part of a graph, by the walk. -/
import Derived.Test.YtmdpeckeliplkaaDoorPartJ
import Derived.Test.YtmdpeckeliplkaaDoorPartH
import Derived.Test.YtmdpeckeliplkaaDoorSSameJ
namespace Go.Proofs.YtmdpeckeliplkaaDoor
open Go.RowKit

set_option maxRecDepth 100000 in
set_option maxHeartbeats 6400000 in
theorem dparts_any (g : Gra) (cs : List Nc) (vin vout : List (Val × List Int)) (its : List (Nam × List Int × List Int)) (w : World) (hg : GraphIn w g cs vin vout its) :
    Calls Tryd.prog 47 #[gval g] w fun e w' => e = .returned (.int .i64 (partsF cs vin its)) ∧ w.grownBy w' none := by
  have HG := hide hg
  obtain ⟨f1, f2, -, f4⟩ := hg.few
  obtain ⟨nam, ⟨na0, nn0, nc0⟩, ⟨ia, iN, ic⟩, ⟨oa, oN, oc⟩, ⟨ta, tN, tc⟩⟩ := g
  obtain ⟨xa, xc, e1, p1, p2, p3⟩ := hg.nodes.form
  rw [List.length_map] at e1 p1 p3
  obtain ⟨rfl, rfl, rfl⟩ : na0 = xa ∧ nn0 = cs.length ∧ nc0 = xc := by simpa [Sl.v] using e1
  obtain ⟨ya, yc, e2, p4, p5, p6⟩ := hg.ins.form
  rw [List.length_map] at e2 p4 p6
  obtain ⟨rfl, rfl, rfl⟩ : ia = ya ∧ iN = vin.length ∧ ic = yc := by simpa [Sl.v] using e2
  obtain ⟨qa, qc, e4, p10, p11, p12⟩ := hg.inits.form
  rw [List.length_map] at e4 p10 p12
  obtain ⟨rfl, rfl, rfl⟩ : ta = qa ∧ tN = its.length ∧ tc = qc := by simpa [Sl.v] using e4
  obtain ⟨T, hT⟩ : ∃ T, T = partsF cs vin its := ⟨_, rfl⟩
  have HT : Hid (T = firstE ((vin.map valE).drop 0 ++ (its.map namE ++ cs.map nodE))) := hT
  rw [← hT]
  clear hg e1 e2 e4 hT
  unfold gval
  simp only
  obtain ⟨w0, hw0⟩ : ∃ w0, w0 = w.alloc (.cells #[.string nam, .slice na0 cs.length nc0, .slice ia vin.length ic, .slice oa oN oc, .slice ta its.length tc] 26) := ⟨_, rfl⟩
  have g0 : w.grownBy w0 none := by rw [hw0]; exact grown_new _ _
  have b0 := heap_alloc_new w (.cells #[.string nam, .slice na0 cs.length nc0, .slice ia vin.length ic, .slice oa oN oc, .slice ta its.length tc] 26)
  rw [← hw0] at b0
  have BX : Hid (∀ wx, w0.grownBy wx none → wx.heap[w.heap.size]? = some (.cells #[.string nam, .slice na0 cs.length nc0, .slice ia vin.length ic, .slice oa oN oc, .slice ta its.length tc] 26 (0, 0))) := fun wx hx => box_kept b0 hx
  clear b0
  go_enter Tryd.func47, Tryd.ntmps47
  go_wp2_with fail
  rw [← hw0]
  clear hw0
  go_loopw [3] (fun i wr => w0.grownBy wr none ∧ ∃ k : Nat, k ≤ vin.length ∧ i = .int .i64 k ∧ T = firstE ((vin.map valE).drop k ++ (its.map namE ++ cs.map nodE))) (fun i _ => vin.length - (intOf i).toNat)
  case atStart => exact ⟨grown_refl _, 0, Nat.zero_le _, rfl, HT.out⟩
  case round =>
    obtain ⟨hgr, k, hk, rfl, htk⟩ := hrel
    have HTK := hide htk
    clear htk
    obtain ⟨r0, r1, r2, r3, r4⟩ := gra_cells (g := ⟨nam, ⟨na0, cs.length, nc0⟩, ⟨ia, vin.length, ic⟩, ⟨oa, oN, oc⟩, ⟨ta, its.length, tc⟩⟩) (BX.out wr hgr)
    simp only at r2
    clear r0 r1 r3 r4
    by_cases hlt : k < vin.length
    · have HLk := HG.out.ins.more (grown_trans g0 hgr)
      obtain ⟨b, off, rfl⟩ := HLk.addr (by rw [List.length_map]; exact hlt)
      obtain ⟨a0, a1, a2⟩ := HLk.val k (by rw [List.length_map]; exact hlt)
      have HD := hide ((HG.out.din vin[k] (List.getElem_mem hlt)).more (grown_trans g0 hgr))
      have HE := hide (firstE_step (l := vin.map valE) (r := its.map namE ++ cs.map nodE) (k := k) (z := valE vin[k]) (by rw [List.getElem?_map, List.getElem?_eq_getElem hlt]; rfl))
      rw [List.getElem_map] at a0 a1 a2
      obtain ⟨A, hA⟩ : ∃ A, A = vin[k] := ⟨_, rfl⟩
      rw [← hA] at a0 a1 a2 HD HE
      clear HLk hA
      obtain ⟨⟨vn, vt, ⟨da, dN, dc⟩⟩, ds⟩ := A
      simp only [Sl.v] at a0 a1 a2 HD
      go_wp2_with fail
      refine (rtyped_any vt wr).mono ?_
      rintro e w2 ⟨rfl, hw2⟩
      obtain rfl : wr = w2 := hw2.symm
      cases hc : chk vt 0 with
      | false =>
        have E : Hid (T = 5) := by show _ = _; rw [HTK.out, HE.out]; unfold valE; rw [hc]; rfl
        clear hc
        go_wp2
        go_ret
        exact ⟨by rw [E.out]; rfl, grown_trans g0 hgr⟩
      | true =>
        have E0 : Hid (valE (⟨vn, vt, ⟨da, dN, dc⟩⟩, ds) = cntE ds) := by show _ = _; unfold valE; rw [if_pos hc]
        clear hc
        go_wp2_with fail
        refine (refcount_any _ ds wr HD.out).mono ?_
        rintro e w3 ⟨rfl, rfl⟩
        by_cases hz : cntE ds = 0
        · have E : Hid (T = firstE ((vin.map valE).drop (k + 1) ++ (its.map namE ++ cs.map nodE))) := by show _ = _; rw [HTK.out, HE.out, if_pos (by rw [E0.out, hz])]
          rw [hz]
          clear hz
          go_wp2_with fail
          go_roundw
          case rel => exact ⟨hgr, k + 1, by omega, by go_num, E.out⟩
          case measure => simp [intOf]; omega
        · have E : Hid (T = cntE ds) := by show _ = _; rw [HTK.out, HE.out, if_neg (by rw [E0.out]; exact hz), E0.out]
          obtain ⟨ce, hce⟩ : ∃ ce, ce = cntE ds := ⟨_, rfl⟩
          rw [← hce] at hz E ⊢
          clear hce
          go_wp2
          go_ret
          exact ⟨by rw [E.out]; rfl, grown_trans g0 hgr⟩
    · obtain rfl : k = vin.length := by omega
      have HT2 : Hid (T = firstE ((its.map namE).drop 0 ++ cs.map nodE)) := by show _ = _; rw [HTK.out, List.drop_of_length_le (by simp)]; rfl
      obtain ⟨wo, hwo⟩ : ∃ wo, wo = wr := ⟨_, rfl⟩
      rw [← hwo] at hgr r2 ⊢
      clear hwo HTK
      go_wp2_with fail
      clear r2
      go_loopw [6] (fun i wr => w0.grownBy wr none ∧ ∃ k : Nat, k ≤ its.length ∧ i = .int .i64 k ∧ T = firstE ((its.map namE).drop k ++ cs.map nodE)) (fun i _ => its.length - (intOf i).toNat)
      case atStart => exact ⟨hgr, 0, Nat.zero_le _, rfl, HT2.out⟩
      case round =>
        obtain ⟨hgr, k, hk, rfl, htk⟩ := hrel
        have HTK := hide htk
        clear htk
        obtain ⟨r0, r1, r2, r3, r4⟩ := gra_cells (g := ⟨nam, ⟨na0, cs.length, nc0⟩, ⟨ia, vin.length, ic⟩, ⟨oa, oN, oc⟩, ⟨ta, its.length, tc⟩⟩) (BX.out wr hgr)
        simp only at r4
        clear r0 r1 r2 r3
        by_cases hlt : k < its.length
        · have HLk := HG.out.inits.more (grown_trans g0 hgr)
          obtain ⟨b, off, rfl⟩ := HLk.addr (by rw [List.length_map]; exact hlt)
          obtain ⟨a0, a1, a2, a3⟩ := HLk.nam k (by rw [List.length_map]; exact hlt)
          have hdd := HG.out.dinit its[k] (List.getElem_mem hlt)
          have HE := hide (firstE_step (l := its.map namE) (r := cs.map nodE) (k := k) (z := namE its[k]) (by rw [List.getElem?_map, List.getElem?_eq_getElem hlt]; rfl))
          rw [List.getElem_map] at a0 a1 a2 a3
          obtain ⟨A, hA⟩ : ∃ A, A = its[k] := ⟨_, rfl⟩
          rw [← hA] at a0 a1 a2 a3 hdd HE
          clear HLk hA
          obtain ⟨⟨vn, vt, ⟨da, dN, dc⟩, ⟨ea, eN, ec⟩⟩, ds, es⟩ := A
          simp only [Sl.v] at a0 a1 a2 a3 hdd
          have PC := hide (rpbcheck_any vt _ _ ds es wr (hdd.1.more (grown_trans g0 hgr)) (hdd.2.more (grown_trans g0 hgr)))
          have E0 : Hid (namE (⟨vn, vt, ⟨da, dN, dc⟩, ⟨ea, eN, ec⟩⟩, ds, es) = pbE vt ds es) := rfl
          clear hdd
          go_wp2_with fail
          refine PC.out.mono ?_
          rintro e w2 ⟨rfl, hg2⟩
          by_cases hz : pbE vt ds es = 0
          · have E : Hid (T = firstE ((its.map namE).drop (k + 1) ++ cs.map nodE)) := by show _ = _; rw [HTK.out, HE.out, if_pos (by rw [E0.out, hz])]
            rw [hz]
            clear hz
            go_wp2_with fail
            go_roundw
            case rel => exact ⟨grown_trans hgr hg2, k + 1, by omega, by go_num, E.out⟩
            case measure => simp [intOf]; omega
          · have E : Hid (T = pbE vt ds es) := by show _ = _; rw [HTK.out, HE.out, if_neg (by rw [E0.out]; exact hz), E0.out]
            obtain ⟨ce, hce⟩ : ∃ ce, ce = pbE vt ds es := ⟨_, rfl⟩
            rw [← hce] at hz E ⊢
            clear hce
            go_wp2
            go_ret
            exact ⟨by rw [E.out]; rfl, grown_trans (grown_trans g0 hgr) hg2⟩
        · obtain rfl : k = its.length := by omega
          have HT3 : Hid (T = firstE ((cs.map nodE).drop 0)) := by show _ = _; rw [HTK.out, List.drop_of_length_le (by simp)]; rfl
          obtain ⟨wo, hwo⟩ : ∃ wo, wo = wr := ⟨_, rfl⟩
          rw [← hwo] at hgr r4 ⊢
          clear hwo HTK
          go_wp2_with fail
          clear r4
          go_loopw [8] (fun i wr => w0.grownBy wr none ∧ ∃ k : Nat, k ≤ cs.length ∧ i = .int .i64 k ∧ T = firstE ((cs.map nodE).drop k)) (fun i _ => cs.length - (intOf i).toNat)
          case atStart => exact ⟨hgr, 0, Nat.zero_le _, rfl, HT3.out⟩
          case round =>
            obtain ⟨hgr, k, hk, rfl, htk⟩ := hrel
            have HTK := hide htk
            clear htk
            obtain ⟨r0, r1, r2, r3, r4⟩ := gra_cells (g := ⟨nam, ⟨na0, cs.length, nc0⟩, ⟨ia, vin.length, ic⟩, ⟨oa, oN, oc⟩, ⟨ta, its.length, tc⟩⟩) (BX.out wr hgr)
            simp only at r1
            clear r0 r2 r3 r4
            by_cases hlt : k < cs.length
            · have HLk := HG.out.nodes.more (grown_trans g0 hgr)
              obtain ⟨b, off, rfl⟩ := HLk.addr (by rw [List.length_map]; exact hlt)
              obtain ⟨a0, a1, a2, a3, a4⟩ := HLk.nod k (by rw [List.length_map]; exact hlt)
              have hnn := HG.out.node cs[k] (List.getElem_mem hlt)
              have HE := hide (firstE_step (l := cs.map nodE) (r := []) (k := k) (z := nodE cs[k]) (by rw [List.getElem?_map, List.getElem?_eq_getElem hlt]; rfl))
              rw [List.append_nil, List.append_nil] at HE
              rw [List.getElem_map] at a0 a1 a2 a3 a4
              obtain ⟨A, hA⟩ : ∃ A, A = cs[k] := ⟨_, rfl⟩
              rw [← hA] at a0 a1 a2 a3 a4 hnn HE
              clear HLk hA
              have PC := hide (rnode_any A.n A.ins A.xs A.cs wr (hnn.more (grown_trans g0 hgr)))
              unfold nval at PC
              have E0 : Hid (nodE A = checkF (ruleF A.n.op) A.n.op A.ins A.n.out A.xs A.cs) := rfl
              obtain ⟨ce, hce⟩ : ∃ ce, ce = checkF (ruleF A.n.op) A.n.op A.ins A.n.out A.xs A.cs := ⟨_, rfl⟩
              rw [← hce] at PC E0
              clear hnn hce
              go_wp2_with fail
              refine PC.out.mono ?_
              rintro e w2 ⟨rfl, hg2⟩
              by_cases hz : ce = 0
              · have E : Hid (T = firstE ((cs.map nodE).drop (k + 1))) := by show _ = _; rw [HTK.out, HE.out, if_pos (by rw [E0.out, hz])]
                subst hz
                go_wp2_with fail
                go_roundw
                case rel => exact ⟨grown_trans hgr hg2, k + 1, by omega, by go_num, E.out⟩
                case measure => simp [intOf]; omega
              · have E : Hid (T = ce) := by show _ = _; rw [HTK.out, HE.out, if_neg (by rw [E0.out]; exact hz), E0.out]
                go_wp2
                go_ret
                exact ⟨by rw [E.out]; rfl, grown_trans (grown_trans g0 hgr) hg2⟩
            · have E : Hid (T = 0) := by show _ = _; rw [HTK.out, List.drop_of_length_le (by simp; omega)]; rfl
              go_wp2
              go_ret
              exact ⟨by rw [E.out]; rfl, grown_trans g0 hgr⟩
end Go.Proofs.YtmdpeckeliplkaaDoor
