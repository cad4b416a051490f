/- Each part of a graph by itself, by the walk. -/
import Derived.Test.YtmdpeckeliplkaaDoorGPartsJ
namespace Go.Proofs.YtmdpeckeliplkaaDoor
open Go.RowKit

/-- The first of several that is an error. -/
def firstE : List Int → Int
  | [] => 0
  | e :: l => if e = 0 then firstE l else e

theorem firstE_step {l r : List Int} {k : Nat} {z : Int} (hk : l[k]? = some z) : firstE (l.drop k ++ r) = if z = 0 then firstE (l.drop (k + 1) ++ r) else z := by
  have hl := (List.getElem?_eq_some_iff.1 hk).1
  rw [List.drop_eq_getElem_cons hl, List.cons_append, firstE]
  rw [List.getElem?_eq_getElem hl] at hk
  rw [Option.some.inj hk]

def valE (p : Val × List Int) : Int := if chk p.1.ty 0 = true then cntE p.2 else 5
def namE (p : Nam × List Int × List Int) : Int := pbE p.1.ty p.2.1 p.2.2
def nodE (c : Nc) : Int := checkF (ruleF c.n.op) c.n.op c.ins c.n.out c.xs c.cs

/-- What checkParts answers. -/
def partsF (cs : List Nc) (vin : List (Val × List Int)) (its : List (Nam × List Int × List Int)) : Int := firstE (vin.map valE ++ (its.map namE ++ cs.map nodE))

set_option maxRecDepth 100000 in
set_option maxHeartbeats 6400000 in
theorem checkparts_any (g : Gra) (cs : List Nc) (vin vout : List (Val × List Int)) (its : List (Nam × List Int × List Int)) (w : World) (hl : Laid w) (hg : GraphIn w g cs vin vout its) :
    Calls Tryd.prog 53 #[gval g] w fun e w' => e = .returned (.int .i64 (partsF cs vin its)) ∧ w.grownBy w' none := by
  have HL := hide hl
  have HG := hide hg
  obtain ⟨f1, f2, -, f4⟩ := hg.few
  obtain ⟨nam, ⟨na0, nn0, nc0⟩, ⟨ia, iN, ic⟩, ⟨oa, oN, oc⟩, ⟨ta, tN, tc⟩⟩ := g
  obtain ⟨xa, xc, e1, p1, p2, p3⟩ := hg.nodes.form
  rw [List.length_map] at e1 p1 p3
  obtain ⟨rfl, rfl, rfl⟩ : na0 = xa ∧ nn0 = cs.length ∧ nc0 = xc := by simpa [Sl.v] using e1
  obtain ⟨ya, yc, e2, p4, p5, p6⟩ := hg.ins.form
  rw [List.length_map] at e2 p4 p6
  obtain ⟨rfl, rfl, rfl⟩ : ia = ya ∧ iN = vin.length ∧ ic = yc := by simpa [Sl.v] using e2
  obtain ⟨qa, qc, e4, p10, p11, p12⟩ := hg.inits.form
  rw [List.length_map] at e4 p10 p12
  obtain ⟨rfl, rfl, rfl⟩ : ta = qa ∧ tN = its.length ∧ tc = qc := by simpa [Sl.v] using e4
  obtain ⟨T, hT⟩ : ∃ T, T = partsF cs vin its := ⟨_, rfl⟩
  have HT : Hid (T = firstE ((vin.map valE).drop 0 ++ (its.map namE ++ cs.map nodE))) := hT
  rw [← hT]
  clear hg e1 e2 e4 hl hT
  unfold gval
  simp only
  obtain ⟨w0, hw0⟩ : ∃ w0, w0 = w.alloc (.cells #[.string nam, .slice na0 cs.length nc0, .slice ia vin.length ic, .slice oa oN oc, .slice ta its.length tc] 26) := ⟨_, rfl⟩
  have g0 : w.grownBy w0 none := by rw [hw0]; exact grown_new _ _
  have b0 := heap_alloc_new w (.cells #[.string nam, .slice na0 cs.length nc0, .slice ia vin.length ic, .slice oa oN oc, .slice ta its.length tc] 26)
  obtain ⟨r0, r1, r2, r3, r4⟩ := gra_cells (g := ⟨nam, ⟨na0, cs.length, nc0⟩, ⟨ia, vin.length, ic⟩, ⟨oa, oN, oc⟩, ⟨ta, its.length, tc⟩⟩) b0
  rw [← hw0] at b0
  have BX : Hid (∀ wx, w0.grownBy wx none → wx.heap[w.heap.size]? = some (.cells #[.string nam, .slice na0 cs.length nc0, .slice ia vin.length ic, .slice oa oN oc, .slice ta its.length tc] 26 (0, 0))) := fun wx hx => box_kept b0 hx
  clear b0
  go_enter Tryd.func53, Tryd.ntmps53
  go_wp2_with fail
  rw [← hw0]
  clear hw0 r0 r1 r2 r3 r4
  go_loopg [16] vin.length (fun gh i wr => w0.grownBy wr none ∧ ∃ k : Nat, gh = vin.length - k ∧ k ≤ vin.length ∧ i = .int .i64 k ∧ T = firstE ((vin.map valE).drop k ++ (its.map namE ++ cs.map nodE)))
  case atStart => exact ⟨grown_refl _, 0, rfl, Nat.zero_le _, rfl, HT.out⟩
  case round =>
    obtain ⟨hgr, k, hgk, hk, rfl, htk⟩ := hrel
    have HTK := hide htk
    clear htk
    by_cases hlt : k < vin.length
    · have HLk := HG.out.ins.more (grown_trans g0 hgr)
      obtain ⟨b, off, rfl⟩ := HLk.addr (by rw [List.length_map]; exact hlt)
      obtain ⟨a0, a1, a2⟩ := HLk.val k (by rw [List.length_map]; exact hlt)
      have HD := hide ((HG.out.din vin[k] (List.getElem_mem hlt)).more (grown_trans g0 hgr))
      have HE := hide (firstE_step (l := vin.map valE) (r := its.map namE ++ cs.map nodE) (k := k) (z := valE vin[k]) (by rw [List.getElem?_map, List.getElem?_eq_getElem hlt]; rfl))
      rw [List.getElem_map] at a0 a1 a2
      obtain ⟨A, hA⟩ : ∃ A, A = vin[k] := ⟨_, rfl⟩
      rw [← hA] at a0 a1 a2 HD HE
      clear HLk hA
      obtain ⟨⟨vn, vt, ⟨da, dN, dc⟩⟩, ds⟩ := A
      simp only [Sl.v] at a0 a1 a2 HD
      obtain ⟨W, hW⟩ : ∃ W, W = wr.alloc (.cells #[.string vn, .int .i64 vt, .slice da dN dc] 42) := ⟨_, rfl⟩
      have gW : w0.grownBy W none := by rw [hW]; exact grown_trans hgr (grown_new _ _)
      have HDW : Hid (IsInts W (.slice da dN dc) ds) := by show IsInts _ _ _; rw [hW]; exact HD.out.more (grown_new _ _)
      have bW := heap_alloc_new wr (.cells #[.string vn, .int .i64 vt, .slice da dN dc] 42)
      rw [← hW] at bW
      go_wp2_with fail
      rw [← hW]
      clear hW a0 a1 a2
      refine (numck_any vt 0 W).mono ?_
      rintro e w2 ⟨rfl, rfl⟩
      have v2 : w2.cell? ⟨wr.heap.size, 2, none⟩ = some (.slice da dN dc) := (cell_of_row _ _ 2 _ _ (0, 0) bW).trans rfl
      cases hc : chk vt 0 with
      | false =>
        have E : Hid (T = 5) := by show _ = _; rw [HTK.out, HE.out]; unfold valE; rw [hc]; rfl
        clear hc bW
        go_wp2
        go_ret
        exact ⟨by rw [E.out]; rfl, grown_trans g0 gW⟩
      | true =>
        have E0 : Hid (valE (⟨vn, vt, ⟨da, dN, dc⟩⟩, ds) = cntE ds) := by show _ = _; unfold valE; rw [if_pos hc]
        clear hc bW
        go_wp2_with fail
        refine (count_any _ ds w2 HDW.out).mono ?_
        rintro e w3 ⟨rfl, rfl⟩
        by_cases hz : cntE ds = 0
        · have E : Hid (T = firstE ((vin.map valE).drop (k + 1) ++ (its.map namE ++ cs.map nodE))) := by show _ = _; rw [HTK.out, HE.out, if_pos (by rw [E0.out, hz])]
          rw [hz]
          clear hz
          go_wp2_with fail
          go_roundg (vin.length - (k + 1))
          case measure => omega
          case rel => exact ⟨gW, k + 1, rfl, by omega, by go_num, E.out⟩
        · have E : Hid (T = cntE ds) := by show _ = _; rw [HTK.out, HE.out, if_neg (by rw [E0.out]; exact hz), E0.out]
          have hzb : (cntE ds != 0) = true := by simpa using hz
          obtain ⟨ce, hce⟩ : ∃ ce, ce = cntE ds := ⟨_, rfl⟩
          rw [← hce] at hz hzb E ⊢
          clear hce
          go_wp2
          go_ret
          exact ⟨by rw [E.out]; rfl, grown_trans g0 gW⟩
    · obtain rfl : k = vin.length := by omega
      rw [List.drop_of_length_le (by simp), List.nil_append] at HTK
      have HTA : Hid (T = firstE ((its.map namE).drop 0 ++ cs.map nodE)) := HTK.out
      obtain ⟨r0, r1, r2, r3, r4⟩ := gra_cells (g := ⟨nam, ⟨na0, cs.length, nc0⟩, ⟨ia, vin.length, ic⟩, ⟨oa, oN, oc⟩, ⟨ta, its.length, tc⟩⟩) (BX.out wr hgr)
      obtain ⟨wp, hwp⟩ : ∃ wp, wp = wr := ⟨_, rfl⟩
      rw [← hwp] at hgr r0 r1 r2 r3 r4 ⊢
      clear hwp HTK
      have hgp := hgr
      clear hgr
      go_wp2_with fail
      clear r0 r1 r2 r3 r4
      go_loopg [37] its.length (fun gh i wr => w0.grownBy wr none ∧ ∃ k : Nat, gh = its.length - k ∧ k ≤ its.length ∧ i = .int .i64 k ∧ T = firstE ((its.map namE).drop k ++ cs.map nodE))
      case atStart => exact ⟨hgp, 0, rfl, Nat.zero_le _, rfl, HTA.out⟩
      case round =>
        obtain ⟨hgr, k, hgk2, hk2, rfl, htk⟩ := hrel
        have HTK := hide htk
        clear htk
        by_cases hlt2 : k < its.length
        · have HLk := HG.out.inits.more (grown_trans g0 hgr)
          obtain ⟨b, off, rfl⟩ := HLk.addr (by rw [List.length_map]; exact hlt2)
          obtain ⟨a0, a1, a2, a3⟩ := HLk.nam k (by rw [List.length_map]; exact hlt2)
          have HD := hide (HG.out.dinit its[k] (List.getElem_mem hlt2))
          have HE := hide (firstE_step (l := its.map namE) (r := cs.map nodE) (k := k) (z := namE its[k]) (by rw [List.getElem?_map, List.getElem?_eq_getElem hlt2]; rfl))
          rw [List.getElem_map] at a0 a1 a2 a3
          obtain ⟨A, hA⟩ : ∃ A, A = its[k] := ⟨_, rfl⟩
          rw [← hA] at a0 a1 a2 a3 HD HE
          clear HLk hA
          obtain ⟨⟨vn, vt, ⟨da, dN, dc⟩, ⟨ea, eN, ec⟩⟩, ds, ts⟩ := A
          simp only [Sl.v] at a0 a1 a2 a3 HD
          obtain ⟨W, hW⟩ : ∃ W, W = wr.alloc (.cells #[.string vn, .int .i64 vt, .slice da dN dc, .slice ea eN ec] 59) := ⟨_, rfl⟩
          have gW : w0.grownBy W none := by rw [hW]; exact grown_trans hgr (grown_new _ _)
          have PC := hide (pbcheck_any vt (.slice da dN dc) (.slice ea eN ec) ds ts W (HD.out.1.more (grown_trans g0 gW)) (HD.out.2.more (grown_trans g0 gW)))
          have E0 : Hid (namE (⟨vn, vt, ⟨da, dN, dc⟩, ⟨ea, eN, ec⟩⟩, ds, ts) = pbE vt ds ts) := rfl
          obtain ⟨ce, hce⟩ : ∃ ce, ce = pbE vt ds ts := ⟨_, rfl⟩
          rw [← hce] at PC E0
          clear hce
          go_wp2_with fail
          rw [← hW]
          clear hW a0 a1 a2 a3
          refine PC.out.mono ?_
          rintro e w2 ⟨rfl, hg2⟩
          by_cases hz : ce = 0
          · have E : Hid (T = firstE ((its.map namE).drop (k + 1) ++ cs.map nodE)) := by show _ = _; rw [HTK.out, HE.out, if_pos (by rw [E0.out, hz])]
            rw [hz]
            clear hz
            go_wp2_with fail
            go_roundg (its.length - (k + 1))
            case measure => omega
            case rel => exact ⟨grown_trans gW hg2, k + 1, rfl, by omega, by go_num, E.out⟩
          · have E : Hid (T = ce) := by show _ = _; rw [HTK.out, HE.out, if_neg (by rw [E0.out]; exact hz), E0.out]
            have hzb : (ce != 0) = true := by simpa using hz
            go_wp2
            go_ret
            exact ⟨by rw [E.out]; rfl, grown_trans (grown_trans g0 gW) hg2⟩
        · obtain rfl : k = its.length := by omega
          rw [List.drop_of_length_le (by simp), List.nil_append] at HTK
          have HTB : Hid (T = firstE ((cs.map nodE).drop 0 ++ [])) := by show _ = _; rw [List.append_nil]; exact HTK.out
          obtain ⟨r0, r1, r2, r3, r4⟩ := gra_cells (g := ⟨nam, ⟨na0, cs.length, nc0⟩, ⟨ia, vin.length, ic⟩, ⟨oa, oN, oc⟩, ⟨ta, its.length, tc⟩⟩) (BX.out wr hgr)
          obtain ⟨wq, hwq⟩ : ∃ wq, wq = wr := ⟨_, rfl⟩
          rw [← hwq] at hgr r0 r1 r2 r3 r4 ⊢
          clear hwq HTK
          have hgq := hgr
          clear hgr
          go_wp2_with fail
          clear r0 r1 r2 r3 r4
          go_loopg [51] cs.length (fun gh i wr => w0.grownBy wr none ∧ ∃ k : Nat, gh = cs.length - k ∧ k ≤ cs.length ∧ i = .int .i64 k ∧ T = firstE ((cs.map nodE).drop k ++ []))
          case atStart => exact ⟨hgq, 0, rfl, Nat.zero_le _, rfl, HTB.out⟩
          case round =>
            obtain ⟨hgr, k, hgk3, hk3, rfl, htk⟩ := hrel
            have HTK := hide htk
            clear htk
            by_cases hlt3 : k < cs.length
            · have HLk := HG.out.nodes.more (grown_trans g0 hgr)
              obtain ⟨b, off, rfl⟩ := HLk.addr (by rw [List.length_map]; exact hlt3)
              obtain ⟨a0, a1, a2, a3, a4⟩ := HLk.nod k (by rw [List.length_map]; exact hlt3)
              have HD := hide (HG.out.node cs[k] (List.getElem_mem hlt3))
              have HE := hide (firstE_step (l := cs.map nodE) (r := []) (k := k) (z := nodE cs[k]) (by rw [List.getElem?_map, List.getElem?_eq_getElem hlt3]; rfl))
              rw [List.getElem_map] at a0 a1 a2 a3 a4
              obtain ⟨A, hA⟩ : ∃ A, A = cs[k] := ⟨_, rfl⟩
              rw [← hA] at a0 a1 a2 a3 a4 HD HE
              clear HLk hA
              obtain ⟨⟨cop, cnam, ⟨ca, cN, cc⟩, cout, ⟨da, dN, dc⟩⟩, cins, cxs, ccs⟩ := A
              simp only at a0 a1 a2 a3 a4
              obtain ⟨W, hW⟩ : ∃ W, W = wr.alloc (.cells #[.string cop, .string cnam, .slice ca cN cc, .string cout, .slice da dN dc] 52) := ⟨_, rfl⟩
              have gW : w0.grownBy W none := by rw [hW]; exact grown_trans hgr (grown_new _ _)
              have PC := hide (check_in ⟨cop, cnam, ⟨ca, cN, cc⟩, cout, ⟨da, dN, dc⟩⟩ cins cxs ccs W (HL.out.more (grown_trans g0 gW)) (HD.out.more (grown_trans g0 gW)))
              have E0 : Hid (nodE ⟨⟨cop, cnam, ⟨ca, cN, cc⟩, cout, ⟨da, dN, dc⟩⟩, cins, cxs, ccs⟩ = checkF (ruleF cop) cop cins cout cxs ccs) := rfl
              unfold nval at PC
              simp only at PC
              obtain ⟨ce, hce⟩ : ∃ ce, ce = checkF (ruleF cop) cop cins cout cxs ccs := ⟨_, rfl⟩
              rw [← hce] at PC E0
              clear hce
              go_wp2_with fail
              rw [← hW]
              clear hW a0 a1 a2 a3 a4
              refine PC.out.mono ?_
              rintro e w2 ⟨rfl, hg2⟩
              by_cases hz : ce = 0
              · have E : Hid (T = firstE ((cs.map nodE).drop (k + 1) ++ [])) := by show _ = _; rw [HTK.out, HE.out, if_pos (by rw [E0.out, hz])]
                rw [hz]
                clear hz
                go_wp2_with fail
                go_roundg (cs.length - (k + 1))
                case measure => omega
                case rel => exact ⟨grown_trans gW hg2, k + 1, rfl, by omega, by go_num, E.out⟩
              · have E : Hid (T = ce) := by show _ = _; rw [HTK.out, HE.out, if_neg (by rw [E0.out]; exact hz), E0.out]
                have hzb : (ce != 0) = true := by simpa using hz
                go_wp2
                go_ret
                exact ⟨by rw [E.out]; rfl, grown_trans (grown_trans g0 gW) hg2⟩
            · obtain rfl : k = cs.length := by omega
              rw [List.drop_of_length_le (by simp), List.nil_append] at HTK
              have E : Hid (T = 0) := HTK.out
              go_wp2
              go_ret
              exact ⟨by rw [E.out]; rfl, grown_trans g0 hgr⟩
end Go.Proofs.YtmdpeckeliplkaaDoor
