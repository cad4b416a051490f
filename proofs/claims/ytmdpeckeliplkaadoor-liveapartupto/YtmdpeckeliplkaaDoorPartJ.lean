/- Joined texts: GParts, GChk, GOrder, GReads, GOrdP, GOrdQ, GTwo, GLive. -/
import Derived.Test.YtmdpeckeliplkaaDoorGLinksJ
import Derived.Test.YtmdpeckeliplkaaDoorGLitJ
import Derived.Test.YtmdpeckeliplkaaDoorSSameJ
/- A graph's parts, and whether there are too many, by the walk. -/
namespace Go.Proofs.YtmdpeckeliplkaaDoor
open Go.RowKit

/-- Are there too many? -/
def manyF (nn vi vo it : Nat) : Bool := decide (1000 < nn) || decide (3000 < vi + it + nn) || decide (3000 < vo)

set_option maxRecDepth 100000 in
set_option maxHeartbeats 3200000 in
theorem toomany_any (g : Gra) (w : World) (h1 : g.nv.n ≤ 1048576) (h2 : g.iv.n ≤ 1048576) (h3 : g.ov.n ≤ 1048576) (h4 : g.tv.n ≤ 1048576) :
    Calls Tryd.prog 52 #[gval g] w fun e w' => e = .returned (.bool (manyF g.nv.n g.iv.n g.ov.n g.tv.n)) ∧ w.grownBy w' none := by
  obtain ⟨nam, ⟨na0, nn0, nc0⟩, ⟨ia, iN, ic⟩, ⟨oa, oN, oc⟩, ⟨ta, tN, tc⟩⟩ := g
  unfold gval
  simp only at h1 h2 h3 h4 ⊢
  obtain ⟨w0, hw0⟩ : ∃ w0, w0 = w.alloc (.cells #[.string nam, .slice na0 nn0 nc0, .slice ia iN ic, .slice oa oN oc, .slice ta tN tc] 26) := ⟨_, rfl⟩
  have g0 : w.grownBy w0 none := by rw [hw0]; exact grown_new _ _
  have b0 := heap_alloc_new w (.cells #[.string nam, .slice na0 nn0 nc0, .slice ia iN ic, .slice oa oN oc, .slice ta tN tc] 26)
  obtain ⟨r0, r1, r2, r3, r4⟩ := gra_cells (g := ⟨nam, ⟨na0, nn0, nc0⟩, ⟨ia, iN, ic⟩, ⟨oa, oN, oc⟩, ⟨ta, tN, tc⟩⟩) b0
  clear b0
  by_cases a1 : 1000 < nn0
  · have A : (1000 : Int) < (nn0 : Int) := by omega
    have E : Hid (manyF nn0 iN oN tN = true) := by show _ = _; unfold manyF; simp [a1]
    clear a1
    go_enter Tryd.func52, Tryd.ntmps52
    go_wp2
    rw [← hw0]
    go_ret
    exact ⟨by rw [E.out]; rfl, g0⟩
  · have A : ¬ (1000 : Int) < (nn0 : Int) := by omega
    by_cases a2 : 3000 < iN + tN + nn0
    · have A2 : (3000 : Int) < (iN : Int) + (tN : Int) + (nn0 : Int) := by omega
      have E : Hid (manyF nn0 iN oN tN = true) := by show _ = _; unfold manyF; simp [a2]
      clear a1 a2
      go_enter Tryd.func52, Tryd.ntmps52
      go_wp2
      rw [← hw0]
      go_ret
      exact ⟨by rw [E.out]; rfl, g0⟩
    · have A2 : ¬ (3000 : Int) < (iN : Int) + (tN : Int) + (nn0 : Int) := by omega
      have E : Hid (manyF nn0 iN oN tN = decide (3000 < (oN : Int))) := by
        show _ = _
        unfold manyF
        rw [decide_eq_false a1, decide_eq_false a2, Bool.false_or, Bool.false_or]
        exact decide_eq_decide.2 (by omega)
      clear a1 a2
      go_enter Tryd.func52, Tryd.ntmps52
      go_wp2
      rw [← hw0]
      go_ret
      exact ⟨by rw [E.out]; rfl, g0⟩
end Go.Proofs.YtmdpeckeliplkaaDoor

/- Each part of a graph by itself, by the walk. -/
namespace Go.Proofs.YtmdpeckeliplkaaDoor
open Go.RowKit

/-- The first of several that is an error. -/
def firstE : List Int → Int
  | [] => 0
  | e :: l => if e = 0 then firstE l else e

theorem firstE_step {l r : List Int} {k : Nat} {z : Int} (hk : l[k]? = some z) : firstE (l.drop k ++ r) = if z = 0 then firstE (l.drop (k + 1) ++ r) else z := by
  have hl := (List.getElem?_eq_some_iff.1 hk).1
  rw [List.drop_eq_getElem_cons hl, List.cons_append, firstE]
  rw [List.getElem?_eq_getElem hl] at hk
  rw [Option.some.inj hk]

def valE (p : Val × List Int) : Int := if chk p.1.ty 0 = true then cntE p.2 else 5
def namE (p : Nam × List Int × List Int) : Int := pbE p.1.ty p.2.1 p.2.2
def nodE (c : Nc) : Int := checkF (ruleF c.n.op) c.n.op c.ins c.n.out c.xs c.cs

/-- What checkParts answers. -/
def partsF (cs : List Nc) (vin : List (Val × List Int)) (its : List (Nam × List Int × List Int)) : Int := firstE (vin.map valE ++ (its.map namE ++ cs.map nodE))

set_option maxRecDepth 100000 in
set_option maxHeartbeats 6400000 in
theorem checkparts_any (g : Gra) (cs : List Nc) (vin vout : List (Val × List Int)) (its : List (Nam × List Int × List Int)) (w : World) (hl : Laid w) (hg : GraphIn w g cs vin vout its) :
    Calls Tryd.prog 53 #[gval g] w fun e w' => e = .returned (.int .i64 (partsF cs vin its)) ∧ w.grownBy w' none := by
  have HL := hide hl
  have HG := hide hg
  obtain ⟨f1, f2, -, f4⟩ := hg.few
  obtain ⟨nam, ⟨na0, nn0, nc0⟩, ⟨ia, iN, ic⟩, ⟨oa, oN, oc⟩, ⟨ta, tN, tc⟩⟩ := g
  obtain ⟨xa, xc, e1, p1, p2, p3⟩ := hg.nodes.form
  rw [List.length_map] at e1 p1 p3
  obtain ⟨rfl, rfl, rfl⟩ : na0 = xa ∧ nn0 = cs.length ∧ nc0 = xc := by simpa [Sl.v] using e1
  obtain ⟨ya, yc, e2, p4, p5, p6⟩ := hg.ins.form
  rw [List.length_map] at e2 p4 p6
  obtain ⟨rfl, rfl, rfl⟩ : ia = ya ∧ iN = vin.length ∧ ic = yc := by simpa [Sl.v] using e2
  obtain ⟨qa, qc, e4, p10, p11, p12⟩ := hg.inits.form
  rw [List.length_map] at e4 p10 p12
  obtain ⟨rfl, rfl, rfl⟩ : ta = qa ∧ tN = its.length ∧ tc = qc := by simpa [Sl.v] using e4
  obtain ⟨T, hT⟩ : ∃ T, T = partsF cs vin its := ⟨_, rfl⟩
  have HT : Hid (T = firstE ((vin.map valE).drop 0 ++ (its.map namE ++ cs.map nodE))) := hT
  rw [← hT]
  clear hg e1 e2 e4 hl hT
  unfold gval
  simp only
  obtain ⟨w0, hw0⟩ : ∃ w0, w0 = w.alloc (.cells #[.string nam, .slice na0 cs.length nc0, .slice ia vin.length ic, .slice oa oN oc, .slice ta its.length tc] 26) := ⟨_, rfl⟩
  have g0 : w.grownBy w0 none := by rw [hw0]; exact grown_new _ _
  have b0 := heap_alloc_new w (.cells #[.string nam, .slice na0 cs.length nc0, .slice ia vin.length ic, .slice oa oN oc, .slice ta its.length tc] 26)
  obtain ⟨r0, r1, r2, r3, r4⟩ := gra_cells (g := ⟨nam, ⟨na0, cs.length, nc0⟩, ⟨ia, vin.length, ic⟩, ⟨oa, oN, oc⟩, ⟨ta, its.length, tc⟩⟩) b0
  rw [← hw0] at b0
  have BX : Hid (∀ wx, w0.grownBy wx none → wx.heap[w.heap.size]? = some (.cells #[.string nam, .slice na0 cs.length nc0, .slice ia vin.length ic, .slice oa oN oc, .slice ta its.length tc] 26 (0, 0))) := fun wx hx => box_kept b0 hx
  clear b0
  go_enter Tryd.func53, Tryd.ntmps53
  go_wp2_with fail
  rw [← hw0]
  clear hw0 r0 r1 r2 r3 r4
  go_loopg [16] vin.length (fun gh i wr => w0.grownBy wr none ∧ ∃ k : Nat, gh = vin.length - k ∧ k ≤ vin.length ∧ i = .int .i64 k ∧ T = firstE ((vin.map valE).drop k ++ (its.map namE ++ cs.map nodE)))
  case atStart => exact ⟨grown_refl _, 0, rfl, Nat.zero_le _, rfl, HT.out⟩
  case round =>
    obtain ⟨hgr, k, hgk, hk, rfl, htk⟩ := hrel
    have HTK := hide htk
    clear htk
    by_cases hlt : k < vin.length
    · have HLk := HG.out.ins.more (grown_trans g0 hgr)
      obtain ⟨b, off, rfl⟩ := HLk.addr (by rw [List.length_map]; exact hlt)
      obtain ⟨a0, a1, a2⟩ := HLk.val k (by rw [List.length_map]; exact hlt)
      have HD := hide ((HG.out.din vin[k] (List.getElem_mem hlt)).more (grown_trans g0 hgr))
      have HE := hide (firstE_step (l := vin.map valE) (r := its.map namE ++ cs.map nodE) (k := k) (z := valE vin[k]) (by rw [List.getElem?_map, List.getElem?_eq_getElem hlt]; rfl))
      rw [List.getElem_map] at a0 a1 a2
      obtain ⟨A, hA⟩ : ∃ A, A = vin[k] := ⟨_, rfl⟩
      rw [← hA] at a0 a1 a2 HD HE
      clear HLk hA
      obtain ⟨⟨vn, vt, ⟨da, dN, dc⟩⟩, ds⟩ := A
      simp only [Sl.v] at a0 a1 a2 HD
      obtain ⟨W, hW⟩ : ∃ W, W = wr.alloc (.cells #[.string vn, .int .i64 vt, .slice da dN dc] 42) := ⟨_, rfl⟩
      have gW : w0.grownBy W none := by rw [hW]; exact grown_trans hgr (grown_new _ _)
      have HDW : Hid (IsInts W (.slice da dN dc) ds) := by show IsInts _ _ _; rw [hW]; exact HD.out.more (grown_new _ _)
      have bW := heap_alloc_new wr (.cells #[.string vn, .int .i64 vt, .slice da dN dc] 42)
      rw [← hW] at bW
      go_wp2_with fail
      rw [← hW]
      clear hW a0 a1 a2
      refine (numck_any vt 0 W).mono ?_
      rintro e w2 ⟨rfl, rfl⟩
      have v2 : w2.cell? ⟨wr.heap.size, 2, none⟩ = some (.slice da dN dc) := (cell_of_row _ _ 2 _ _ (0, 0) bW).trans rfl
      cases hc : chk vt 0 with
      | false =>
        have E : Hid (T = 5) := by show _ = _; rw [HTK.out, HE.out]; unfold valE; rw [hc]; rfl
        clear hc bW
        go_wp2
        go_ret
        exact ⟨by rw [E.out]; rfl, grown_trans g0 gW⟩
      | true =>
        have E0 : Hid (valE (⟨vn, vt, ⟨da, dN, dc⟩⟩, ds) = cntE ds) := by show _ = _; unfold valE; rw [if_pos hc]
        clear hc bW
        go_wp2_with fail
        refine (count_any _ ds w2 HDW.out).mono ?_
        rintro e w3 ⟨rfl, rfl⟩
        by_cases hz : cntE ds = 0
        · have E : Hid (T = firstE ((vin.map valE).drop (k + 1) ++ (its.map namE ++ cs.map nodE))) := by show _ = _; rw [HTK.out, HE.out, if_pos (by rw [E0.out, hz])]
          rw [hz]
          clear hz
          go_wp2_with fail
          go_roundg (vin.length - (k + 1))
          case measure => omega
          case rel => exact ⟨gW, k + 1, rfl, by omega, by go_num, E.out⟩
        · have E : Hid (T = cntE ds) := by show _ = _; rw [HTK.out, HE.out, if_neg (by rw [E0.out]; exact hz), E0.out]
          have hzb : (cntE ds != 0) = true := by simpa using hz
          obtain ⟨ce, hce⟩ : ∃ ce, ce = cntE ds := ⟨_, rfl⟩
          rw [← hce] at hz hzb E ⊢
          clear hce
          go_wp2
          go_ret
          exact ⟨by rw [E.out]; rfl, grown_trans g0 gW⟩
    · obtain rfl : k = vin.length := by omega
      rw [List.drop_of_length_le (by simp), List.nil_append] at HTK
      have HTA : Hid (T = firstE ((its.map namE).drop 0 ++ cs.map nodE)) := HTK.out
      obtain ⟨r0, r1, r2, r3, r4⟩ := gra_cells (g := ⟨nam, ⟨na0, cs.length, nc0⟩, ⟨ia, vin.length, ic⟩, ⟨oa, oN, oc⟩, ⟨ta, its.length, tc⟩⟩) (BX.out wr hgr)
      obtain ⟨wp, hwp⟩ : ∃ wp, wp = wr := ⟨_, rfl⟩
      rw [← hwp] at hgr r0 r1 r2 r3 r4 ⊢
      clear hwp HTK
      have hgp := hgr
      clear hgr
      go_wp2_with fail
      clear r0 r1 r2 r3 r4
      go_loopg [37] its.length (fun gh i wr => w0.grownBy wr none ∧ ∃ k : Nat, gh = its.length - k ∧ k ≤ its.length ∧ i = .int .i64 k ∧ T = firstE ((its.map namE).drop k ++ cs.map nodE))
      case atStart => exact ⟨hgp, 0, rfl, Nat.zero_le _, rfl, HTA.out⟩
      case round =>
        obtain ⟨hgr, k, hgk2, hk2, rfl, htk⟩ := hrel
        have HTK := hide htk
        clear htk
        by_cases hlt2 : k < its.length
        · have HLk := HG.out.inits.more (grown_trans g0 hgr)
          obtain ⟨b, off, rfl⟩ := HLk.addr (by rw [List.length_map]; exact hlt2)
          obtain ⟨a0, a1, a2, a3⟩ := HLk.nam k (by rw [List.length_map]; exact hlt2)
          have HD := hide (HG.out.dinit its[k] (List.getElem_mem hlt2))
          have HE := hide (firstE_step (l := its.map namE) (r := cs.map nodE) (k := k) (z := namE its[k]) (by rw [List.getElem?_map, List.getElem?_eq_getElem hlt2]; rfl))
          rw [List.getElem_map] at a0 a1 a2 a3
          obtain ⟨A, hA⟩ : ∃ A, A = its[k] := ⟨_, rfl⟩
          rw [← hA] at a0 a1 a2 a3 HD HE
          clear HLk hA
          obtain ⟨⟨vn, vt, ⟨da, dN, dc⟩, ⟨ea, eN, ec⟩⟩, ds, ts⟩ := A
          simp only [Sl.v] at a0 a1 a2 a3 HD
          obtain ⟨W, hW⟩ : ∃ W, W = wr.alloc (.cells #[.string vn, .int .i64 vt, .slice da dN dc, .slice ea eN ec] 59) := ⟨_, rfl⟩
          have gW : w0.grownBy W none := by rw [hW]; exact grown_trans hgr (grown_new _ _)
          have PC := hide (pbcheck_any vt (.slice da dN dc) (.slice ea eN ec) ds ts W (HD.out.1.more (grown_trans g0 gW)) (HD.out.2.more (grown_trans g0 gW)))
          have E0 : Hid (namE (⟨vn, vt, ⟨da, dN, dc⟩, ⟨ea, eN, ec⟩⟩, ds, ts) = pbE vt ds ts) := rfl
          obtain ⟨ce, hce⟩ : ∃ ce, ce = pbE vt ds ts := ⟨_, rfl⟩
          rw [← hce] at PC E0
          clear hce
          go_wp2_with fail
          rw [← hW]
          clear hW a0 a1 a2 a3
          refine PC.out.mono ?_
          rintro e w2 ⟨rfl, hg2⟩
          by_cases hz : ce = 0
          · have E : Hid (T = firstE ((its.map namE).drop (k + 1) ++ cs.map nodE)) := by show _ = _; rw [HTK.out, HE.out, if_pos (by rw [E0.out, hz])]
            rw [hz]
            clear hz
            go_wp2_with fail
            go_roundg (its.length - (k + 1))
            case measure => omega
            case rel => exact ⟨grown_trans gW hg2, k + 1, rfl, by omega, by go_num, E.out⟩
          · have E : Hid (T = ce) := by show _ = _; rw [HTK.out, HE.out, if_neg (by rw [E0.out]; exact hz), E0.out]
            have hzb : (ce != 0) = true := by simpa using hz
            go_wp2
            go_ret
            exact ⟨by rw [E.out]; rfl, grown_trans (grown_trans g0 gW) hg2⟩
        · obtain rfl : k = its.length := by omega
          rw [List.drop_of_length_le (by simp), List.nil_append] at HTK
          have HTB : Hid (T = firstE ((cs.map nodE).drop 0 ++ [])) := by show _ = _; rw [List.append_nil]; exact HTK.out
          obtain ⟨r0, r1, r2, r3, r4⟩ := gra_cells (g := ⟨nam, ⟨na0, cs.length, nc0⟩, ⟨ia, vin.length, ic⟩, ⟨oa, oN, oc⟩, ⟨ta, its.length, tc⟩⟩) (BX.out wr hgr)
          obtain ⟨wq, hwq⟩ : ∃ wq, wq = wr := ⟨_, rfl⟩
          rw [← hwq] at hgr r0 r1 r2 r3 r4 ⊢
          clear hwq HTK
          have hgq := hgr
          clear hgr
          go_wp2_with fail
          clear r0 r1 r2 r3 r4
          go_loopg [51] cs.length (fun gh i wr => w0.grownBy wr none ∧ ∃ k : Nat, gh = cs.length - k ∧ k ≤ cs.length ∧ i = .int .i64 k ∧ T = firstE ((cs.map nodE).drop k ++ []))
          case atStart => exact ⟨hgq, 0, rfl, Nat.zero_le _, rfl, HTB.out⟩
          case round =>
            obtain ⟨hgr, k, hgk3, hk3, rfl, htk⟩ := hrel
            have HTK := hide htk
            clear htk
            by_cases hlt3 : k < cs.length
            · have HLk := HG.out.nodes.more (grown_trans g0 hgr)
              obtain ⟨b, off, rfl⟩ := HLk.addr (by rw [List.length_map]; exact hlt3)
              obtain ⟨a0, a1, a2, a3, a4⟩ := HLk.nod k (by rw [List.length_map]; exact hlt3)
              have HD := hide (HG.out.node cs[k] (List.getElem_mem hlt3))
              have HE := hide (firstE_step (l := cs.map nodE) (r := []) (k := k) (z := nodE cs[k]) (by rw [List.getElem?_map, List.getElem?_eq_getElem hlt3]; rfl))
              rw [List.getElem_map] at a0 a1 a2 a3 a4
              obtain ⟨A, hA⟩ : ∃ A, A = cs[k] := ⟨_, rfl⟩
              rw [← hA] at a0 a1 a2 a3 a4 HD HE
              clear HLk hA
              obtain ⟨⟨cop, cnam, ⟨ca, cN, cc⟩, cout, ⟨da, dN, dc⟩⟩, cins, cxs, ccs⟩ := A
              simp only at a0 a1 a2 a3 a4
              obtain ⟨W, hW⟩ : ∃ W, W = wr.alloc (.cells #[.string cop, .string cnam, .slice ca cN cc, .string cout, .slice da dN dc] 52) := ⟨_, rfl⟩
              have gW : w0.grownBy W none := by rw [hW]; exact grown_trans hgr (grown_new _ _)
              have PC := hide (check_in ⟨cop, cnam, ⟨ca, cN, cc⟩, cout, ⟨da, dN, dc⟩⟩ cins cxs ccs W (HL.out.more (grown_trans g0 gW)) (HD.out.more (grown_trans g0 gW)))
              have E0 : Hid (nodE ⟨⟨cop, cnam, ⟨ca, cN, cc⟩, cout, ⟨da, dN, dc⟩⟩, cins, cxs, ccs⟩ = checkF (ruleF cop) cop cins cout cxs ccs) := rfl
              unfold nval at PC
              simp only at PC
              obtain ⟨ce, hce⟩ : ∃ ce, ce = checkF (ruleF cop) cop cins cout cxs ccs := ⟨_, rfl⟩
              rw [← hce] at PC E0
              clear hce
              go_wp2_with fail
              rw [← hW]
              clear hW a0 a1 a2 a3 a4
              refine PC.out.mono ?_
              rintro e w2 ⟨rfl, hg2⟩
              by_cases hz : ce = 0
              · have E : Hid (T = firstE ((cs.map nodE).drop (k + 1) ++ [])) := by show _ = _; rw [HTK.out, HE.out, if_pos (by rw [E0.out, hz])]
                rw [hz]
                clear hz
                go_wp2_with fail
                go_roundg (cs.length - (k + 1))
                case measure => omega
                case rel => exact ⟨grown_trans gW hg2, k + 1, rfl, by omega, by go_num, E.out⟩
              · have E : Hid (T = ce) := by show _ = _; rw [HTK.out, HE.out, if_neg (by rw [E0.out]; exact hz), E0.out]
                have hzb : (ce != 0) = true := by simpa using hz
                go_wp2
                go_ret
                exact ⟨by rw [E.out]; rfl, grown_trans (grown_trans g0 gW) hg2⟩
            · obtain rfl : k = cs.length := by omega
              rw [List.drop_of_length_le (by simp), List.nil_append] at HTK
              have E : Hid (T = 0) := HTK.out
              go_wp2
              go_ret
              exact ⟨by rw [E.out]; rfl, grown_trans g0 hgr⟩
end Go.Proofs.YtmdpeckeliplkaaDoor

/- The order of work of any graph, by the walk. -/
namespace Go.Proofs.YtmdpeckeliplkaaDoor
open Go.RowKit

/-- The names of a graph's values, in their order. -/
def vnames (cs : List Nc) (vin : List (Val × List Int)) (its : List (Nam × List Int × List Int)) : List ByteArray := (vin.map (·.1)).map (·.name) ++ (its.map (·.1)).map (·.name) ++ (cs.map (·.n)).map (·.out)

def onames (vout : List (Val × List Int)) : List ByteArray := (vout.map (·.1)).map (·.name)

theorem vnames_len (cs : List Nc) (vin : List (Val × List Int)) (its : List (Nam × List Int × List Int)) : (vnames cs vin its).length = vin.length + its.length + cs.length := by simp [vnames, Nat.add_assoc]

/-- A graph that comes in, whose names are not too long. -/
structure GraphOk (w : World) (g : Gra) (cs : List Nc) (vin vout : List (Val × List Int)) (its : List (Nam × List Int × List Int)) : Prop where
  base : GraphIn w g cs vin vout its
  vs : ∀ x ∈ vnames cs vin its, x.size ≤ 1048576
  os : ∀ x ∈ onames vout, x.size ≤ 1048576
  is : ∀ c ∈ cs, c.ins.length ≤ 1048576 ∧ ∀ x ∈ c.ins, x.size ≤ 1048576

theorem GraphOk.more {w w' : World} {g : Gra} {cs : List Nc} {vin vout : List (Val × List Int)} {its : List (Nam × List Int × List Int)} (h : GraphOk w g cs vin vout its) (hg : w.grownBy w' none) : GraphOk w' g cs vin vout its :=
  ⟨h.base.more hg, h.vs, h.os, h.is⟩

/-- The nodes in their order, as far as there is one. -/
def lineF (cs : List Nc) (vin : List (Val × List Int)) (its : List (Nam × List Int × List Int)) : List Int :=
  ordF cs.length (linksN cs (vnames cs vin its) (vin.length + its.length) cs.length).1 (linksN cs (vnames cs vin its) (vin.length + its.length) cs.length).2

/-- What Order answers. -/
def orderR (cs : List Nc) (vin vout : List (Val × List Int)) (its : List (Nam × List Int × List Int)) : List Int × Int :=
  if manyF cs.length vin.length vout.length its.length = true then ([], 6)
  else if partsF cs vin its ≠ 0 then ([], partsF cs vin its)
  else if (namesOK [] (vnames cs vin its) && foundF cs (onames vout) (vnames cs vin its)) = false then ([], 4)
  else if (lineF cs vin its).length < cs.length then ([], 4)
  else (lineF cs vin its, 0)

theorem Lk.rds {w : World} {base Bw Br n : Nat} {p : List Int × List (List Int)} {rs : List Sl} (h : Lk w base Bw Br p rs) (hn : p.2.length = n) : Rds w ⟨some ⟨Br, 0, none⟩, n, n⟩ p.2 Bw := by
  refine ⟨hn.symm, fun k hk => ⟨Br, 0, rs.getD k nilS, rfl, fun wx hx => ?_⟩⟩
  have hB := (World.ownsRow.lt h.row Br rfl).2
  have hb : wx.heap[Br]? = w.heap[Br]? := hx.block Br hB (fun e => by injection e with e; exact h.ne e.symm)
  have hl : k < rs.length := by rw [h.len]; exact hk
  refine ⟨?_, ((h.each k hk).more hx (some_or fun g e => by have := (h.apart k hk g e).1; simpa using this)).ints⟩
  rw [Nat.zero_add]
  refine (World.cell?_of_block hb).trans ((World.ownsRow.cellAt h.row k (by omega)).trans ?_)
  rw [List.getElem?_map, List.getElem?_eq_getElem hl, List.getD, List.getElem?_eq_getElem hl]
  rfl

theorem linksN_lb (cs : List Nc) (l : List ByteArray) (k0 : Nat) (hl : l.length = k0 + cs.length) (hin : ∀ c ∈ cs, c.ins.length ≤ 1048576 ∧ ∀ x ∈ c.ins, inL x l = true) : ∀ k, k ≤ cs.length → LB cs.length (k * 1048576) (linksN cs l k0 k)
  | 0, _ => by
    rw [Nat.zero_mul]
    exact LB.start cs.length
  | k + 1, hk => by
    have ih := linksN_lb cs l k0 hl hin k (by omega)
    have hc := hin cs[k] (List.getElem_mem (by omega))
    have e : linksN cs l k0 (k + 1) = lnkRow l k0 k (linksN cs l k0 k) cs[k].ins := by
      rw [linksN, List.getElem?_eq_getElem (by omega)]
      rfl
    have st : ∀ t, t ≤ cs[k].ins.length → LB cs.length (k * 1048576 + t) (lnkRow l k0 k (linksN cs l k0 k) (cs[k].ins.take t)) := by
      intro t
      induction t with
      | zero => intro _; rw [List.take_zero]; exact ih.le (Nat.le_add_right _ _)
      | succ t iht =>
        intro ht
        rw [lnkRow_step _ _ _ _ _ (by omega)]
        have hp := pos_lt (hc.2 (cs[k].ins[t]'(by omega)) (List.getElem_mem _))
        exact ((iht (by omega)).step (by omega) (by omega)).le (by omega)
    have fin := st cs[k].ins.length (Nat.le_refl _)
    rw [List.take_of_length_le (Nat.le_refl _), ← e] at fin
    exact fin.le (by have := hc.1; omega)

set_option maxRecDepth 100000 in
set_option maxHeartbeats 6400000 in
theorem order_any (g : Gra) (cs : List Nc) (vin vout : List (Val × List Int)) (its : List (Nam × List Int × List Int)) (w : World) (hl : Laid w) (hg : GraphOk w g cs vin vout its) :
    Calls Tryd.prog 39 #[gval g] w fun e w' => ∃ u : Sl, e = .returned (.tuple #[u.v, .int .i64 (orderR cs vin vout its).2]) ∧ Owns w' w.heap.size u.v (orderR cs vin vout its).1 ∧ w.grownBy w' none := by
  obtain ⟨f1, f2, f3, f4⟩ := hg.base.few
  have e1 : g.nv.n = cs.length := by obtain ⟨_, _, e, -⟩ := hg.base.nodes.form; rw [List.length_map] at e; simp only [Sl.v, Value.slice.injEq] at e; exact e.2.1
  have e2 : g.iv.n = vin.length := by obtain ⟨_, _, e, -⟩ := hg.base.ins.form; rw [List.length_map] at e; simp only [Sl.v, Value.slice.injEq] at e; exact e.2.1
  have e3 : g.ov.n = vout.length := by obtain ⟨_, _, e, -⟩ := hg.base.outs.form; rw [List.length_map] at e; simp only [Sl.v, Value.slice.injEq] at e; exact e.2.1
  have e4 : g.tv.n = its.length := by obtain ⟨_, _, e, -⟩ := hg.base.inits.form; rw [List.length_map] at e; simp only [Sl.v, Value.slice.injEq] at e; exact e.2.1
  have LV := hide (vnames_len cs vin its)
  have TM := hide (fun wx : World => toomany_any g wx (by omega) (by omega) (by omega) (by omega))
  rw [e1, e2, e3, e4] at TM
  have CP := hide (fun (wx : World) (hx : w.grownBy wx none) => checkparts_any g cs vin vout its wx (hl.more hx) (hg.base.more hx))
  have VN := hide (fun (wx : World) (hx : w.grownBy wx none) => valuenames_any g (cs.map (·.n)) (vin.map (·.1)) (vout.map (·.1)) (its.map (·.1)) wx (hg.base.nodes.more hx) (hg.base.ins.more hx) (hg.base.outs.more hx) (hg.base.inits.more hx) ⟨by rw [List.length_map]; exact f1, by rw [List.length_map]; exact f2, by rw [List.length_map]; exact f3, by rw [List.length_map]; exact f4⟩)
  rw [show (vin.map (·.1)).map (·.name) ++ (its.map (·.1)).map (·.name) ++ (cs.map (·.n)).map (·.out) = vnames cs vin its from rfl] at VN
  have NU := hide (fun (v : Value) (wx : World) (hv : IsStrs wx v (vnames cs vin its)) => numbered_any v (vnames cs vin its) wx hv hg.vs)
  have NF := hide (fun (b : Nat) (wx : World) (hx : w.grownBy wx none) (hn : Nums wx b (vnames cs vin its)) => namesfound_any g cs (vin.map (·.1)) (vout.map (·.1)) (its.map (·.1)) b (vnames cs vin its) wx (hg.base.nodes.more hx) (hg.base.ins.more hx) (hg.base.outs.more hx) (hg.base.inits.more hx) ⟨by rw [List.length_map]; exact f1, by rw [List.length_map]; exact f2, by rw [List.length_map]; exact f3, by rw [List.length_map]; exact f4⟩ (fun c hc => ⟨(hg.base.node c hc).ins.more hx, (hg.is c hc).2⟩) (by exact hg.os) hn)
  rw [show (vout.map (·.1)).map (·.name) = onames vout from rfl] at NF
  have LI := hide (fun (b : Nat) (wx : World) (hx : w.grownBy wx none) (h1 : cs.length ≤ 1024) (hfo : foundF cs (onames vout) (vnames cs vin its) = true) (hn : Nums wx b (vnames cs vin its)) => linksof_any g cs (vin.map (·.1)) (its.map (·.1)) b (vnames cs vin its) wx (hg.base.nodes.more hx) (hg.base.ins.more hx) (hg.base.inits.more hx) ⟨h1, by rw [List.length_map]; exact f2, by rw [List.length_map]; exact f4⟩ (fun c hc => ⟨(hg.base.node c hc).ins.more hx, (hg.is c hc).1, fun x hxx => ⟨(hg.is c hc).2 x hxx, by
    unfold foundF at hfo
    simp only [Bool.and_eq_true, List.all_eq_true] at hfo
    have := hfo.2 c hc
    unfold allF at this
    rw [List.all_eq_true] at this
    exact this x hxx⟩⟩) (by rw [List.length_map, List.length_map]; exact vnames_len cs vin its) hn)
  simp only [List.length_map] at LI
  have LBD := hide (fun (hfo : foundF cs (onames vout) (vnames cs vin its) = true) => linksN_lb cs (vnames cs vin its) (vin.length + its.length) (vnames_len cs vin its) (fun c hc => ⟨(hg.is c hc).1, fun x hxx => by
    unfold foundF at hfo
    simp only [Bool.and_eq_true, List.all_eq_true] at hfo
    have := hfo.2 c hc
    unfold allF at this
    rw [List.all_eq_true] at this
    exact this x hxx⟩) cs.length (Nat.le_refl _))
  have HR : Hid (orderR cs vin vout its = if manyF cs.length vin.length vout.length its.length = true then ([], 6) else if partsF cs vin its ≠ 0 then ([], partsF cs vin its) else if (namesOK [] (vnames cs vin its) && foundF cs (onames vout) (vnames cs vin its)) = false then ([], 4) else if (lineF cs vin its).length < cs.length then ([], 4) else (lineF cs vin its, 0)) := rfl
  have HLF : Hid (lineF cs vin its = ordF cs.length (linksN cs (vnames cs vin its) (vin.length + its.length) cs.length).1 (linksN cs (vnames cs vin its) (vin.length + its.length) cs.length).2) := rfl
  have NIL : Hid (∀ wx : World, Owns wx w.heap.size (.slice none 0 0) []) := fun wx => ⟨World.ownsRow_nil _ _ _ _, by simp, by simp⟩
  have HM : Hid (manyF cs.length vin.length vout.length its.length = false → cs.length ≤ 1024) := fun h => by
    unfold manyF at h
    simp only [Bool.or_eq_false_iff, decide_eq_false_iff_not] at h
    omega
  obtain ⟨V, hV⟩ : ∃ V, V = vnames cs vin its := ⟨_, rfl⟩
  obtain ⟨O, hO⟩ : ∃ O, O = onames vout := ⟨_, rfl⟩
  obtain ⟨LF, hLF⟩ : ∃ LF, LF = lineF cs vin its := ⟨_, rfl⟩
  obtain ⟨PF, hPF⟩ : ∃ PF, PF = partsF cs vin its := ⟨_, rfl⟩
  obtain ⟨OR, hOR⟩ : ∃ OR, OR = orderR cs vin vout its := ⟨_, rfl⟩
  rw [← hV] at VN NU NF LI LBD HR HLF LV
  rw [← hO] at NF LI LBD HR
  rw [← hLF] at HR HLF
  rw [← hPF] at HR CP
  rw [← hOR] at HR ⊢
  obtain ⟨MF, hMF⟩ : ∃ MF, MF = manyF cs.length vin.length vout.length its.length := ⟨_, rfl⟩
  rw [← hMF] at TM HR HM
  have HE1 := hide e1
  clear hV hO hLF hPF hOR hMF hl hg e1 e2 e3 e4
  obtain ⟨nam, ⟨na0, nn0, nc0⟩, ⟨ia, iN, ic⟩, ⟨oa, oN, oc⟩, ⟨ta, tN, tc⟩⟩ := g
  unfold gval at TM CP VN NF LI ⊢
  simp only at TM CP VN NF LI ⊢
  have HE1 : Hid (nn0 = cs.length) := HE1.out
  rw [HE1.out] at TM CP VN NF LI ⊢
  obtain ⟨w0, hw0⟩ : ∃ w0, w0 = w.alloc (.cells #[.string nam, .slice na0 cs.length nc0, .slice ia iN ic, .slice oa oN oc, .slice ta tN tc] 26) := ⟨_, rfl⟩
  have g0 : w.grownBy w0 none := by rw [hw0]; exact grown_new _ _
  have b0 := heap_alloc_new w (.cells #[.string nam, .slice na0 cs.length nc0, .slice ia iN ic, .slice oa oN oc, .slice ta tN tc] 26)
  rw [← hw0] at b0
  have BX : Hid (∀ wx, w0.grownBy wx none → wx.heap[w.heap.size]? = some (.cells #[.string nam, .slice na0 cs.length nc0, .slice ia iN ic, .slice oa oN oc, .slice ta tN tc] 26 (0, 0))) := fun wx hx => box_kept b0 hx
  clear b0
  obtain ⟨r0, r1, r2, r3, r4⟩ := gra_cells (g := ⟨nam, ⟨na0, cs.length, nc0⟩, ⟨ia, iN, ic⟩, ⟨oa, oN, oc⟩, ⟨ta, tN, tc⟩⟩) (BX.out w0 (grown_refl _))
  rw [hw0] at r0 r1 r2 r3 r4
  go_enter Tryd.func39, Tryd.ntmps39
  go_wp2_with fail
  rw [← hw0]
  clear hw0 r0 r1 r2 r3 r4
  refine (TM.out w0).mono ?_
  rintro e w1 ⟨rfl, hg1⟩
  cases MF with
  | true =>
    have E : Hid (OR = ([], 6)) := by show _ = _; rw [HR.out, if_pos rfl]
    go_wp2
    go_ret2
    exact ⟨nilS, by rw [E.out]; rfl, by rw [E.out]; exact NIL.out _, grown_trans g0 hg1⟩
  | false =>
    have h1024 : Hid (cs.length ≤ 1024) := HM.out rfl
    have HR1 : Hid (OR = if PF ≠ 0 then ([], PF) else if (namesOK [] V && foundF cs O V) = false then ([], 4) else if LF.length < cs.length then ([], 4) else (LF, 0)) := by show _ = _; rw [HR.out, if_neg (by decide)]
    clear HR HM
    obtain ⟨r0, r1, r2, r3, r4⟩ := gra_cells (g := ⟨nam, ⟨na0, cs.length, nc0⟩, ⟨ia, iN, ic⟩, ⟨oa, oN, oc⟩, ⟨ta, tN, tc⟩⟩) (BX.out w1 hg1)
    go_wp2_with fail
    clear r0 r1 r2 r3 r4
    refine (CP.out w1 (grown_trans g0 hg1)).mono ?_
    rintro e w2 ⟨rfl, hg2⟩
    have g02 := grown_trans hg1 hg2
    by_cases hz : PF = 0
    · have HR2 : Hid (OR = if (namesOK [] V && foundF cs O V) = false then ([], 4) else if LF.length < cs.length then ([], 4) else (LF, 0)) := by show _ = _; rw [HR1.out, if_neg (by simpa using hz)]
      clear HR1
      rw [hz]
      clear hz
      obtain ⟨r0, r1, r2, r3, r4⟩ := gra_cells (g := ⟨nam, ⟨na0, cs.length, nc0⟩, ⟨ia, iN, ic⟩, ⟨oa, oN, oc⟩, ⟨ta, tN, tc⟩⟩) (BX.out w2 g02)
      go_wp2_with fail
      clear r0 r1 r2 r3 r4
      refine (VN.out w2 (grown_trans g0 g02)).mono ?_
      rintro e w3 ⟨⟨ua, un, uc⟩, rfl, hown, hg3⟩
      have g03 := grown_trans g02 hg3
      have IS := hide (hown.isL (bytes := 16) scell_len (by have := LV.out; omega))
      clear hown
      unfold Sl.v at IS ⊢
      simp only at IS ⊢
      go_wp2_with fail
      refine (NU.out _ w3 IS.out).mono ?_
      rintro e w4 ⟨hg4, hh⟩
      have g04 := grown_trans g03 hg4
      obtain ⟨r0, r1, r2, r3, r4⟩ := gra_cells (g := ⟨nam, ⟨na0, cs.length, nc0⟩, ⟨ia, iN, ic⟩, ⟨oa, oN, oc⟩, ⟨ta, tN, tc⟩⟩) (BX.out w4 g04)
      rcases hh with ⟨hok, b, hb, rfl, hnum⟩ | ⟨hno, rfl⟩
      · have HOK := hide hok
        have HNU := hide hnum
        clear hok hnum hb
        go_wp2_with fail
        clear r0 r1 r2 r3 r4
        refine (NF.out b w4 (grown_trans g0 g04) HNU.out).mono ?_
        rintro e w5 ⟨rfl, hg5⟩
        have g05 := grown_trans g04 hg5
        obtain ⟨r0, r1, r2, r3, r4⟩ := gra_cells (g := ⟨nam, ⟨na0, cs.length, nc0⟩, ⟨ia, iN, ic⟩, ⟨oa, oN, oc⟩, ⟨ta, tN, tc⟩⟩) (BX.out w5 g05)
        cases hfo : foundF cs O V with
        | false =>
          have E : Hid (OR = ([], 4)) := by show _ = _; rw [HR2.out, if_pos (by rw [hfo]; simp)]
          clear hfo
          go_wp2
          go_ret2
          exact ⟨nilS, by rw [E.out]; rfl, by rw [E.out]; exact NIL.out _, grown_trans g0 g05⟩
        | true =>
          have HFO := hide hfo
          have HR3 : Hid (OR = if LF.length < cs.length then ([], 4) else (LF, 0)) := by show _ = _; rw [HR2.out, if_neg (by rw [hfo, HOK.out]; decide)]
          clear hfo HR2
          go_wp2_with fail
          clear r0 r1 r2 r3 r4
          refine (LI.out b w5 (grown_trans g0 g05) h1024.out HFO.out (HNU.out.more hg5)).mono ?_
          rintro e w6 ⟨Bw, Br, rs, rfl, hlk, hg6⟩
          have g06 := grown_trans g05 hg6
          have hlb := LBD.out HFO.out
          have hbase := (World.ownsRow.lt hlk.own Bw rfl).1
          have HIOx := hide (inorder_any Bw w5.heap.size ⟨some ⟨Br, 0, none⟩, cs.length, cs.length⟩ _ _ w6 hlk.own (hlk.rds hlb.l2) (hlb.l2.trans hlb.l1.symm) (fun r hr => ⟨by have := (hlb.b2 r hr).1; have := h1024.out; omega, fun z hz => by rw [hlb.l1]; exact (hlb.b2 r hr).2 z hz⟩) (fun z hz => by have := hlb.b1 z hz; have := h1024.out; omega) (by rw [hlb.l1]; have := h1024.out; omega))
          rw [hlb.l1, ← HLF.out] at HIOx
          clear hlb hlk
          go_wp2_with fail
          refine HIOx.out.mono ?_
          rintro e w7 ⟨⟨oa7, on7, oc7⟩, rfl, ho7, hg7⟩
          obtain ⟨oa', oc', ho⟩ := own_form ho7.1
          obtain ⟨rfl, rfl, rfl⟩ : oa7 = oa' ∧ on7 = LF.length ∧ oc7 = oc' := by simpa [Sl.v] using ho
          have HO7 := hide ho7
          have g07 : w0.grownBy w7 none := grown_trans_row g06 hg7 (fun g e => by injection e with e; have := g05.size; omega)
          have hsz : w.heap.size ≤ w6.heap.size := by have := g0.size; have := g06.size; omega
          clear ho ho7
          unfold Sl.v
          simp only
          obtain ⟨r0, r1, r2, r3, r4⟩ := gra_cells (g := ⟨nam, ⟨na0, cs.length, nc0⟩, ⟨ia, iN, ic⟩, ⟨oa, oN, oc⟩, ⟨ta, tN, tc⟩⟩) (BX.out w7 g07)
          by_cases hlen : LF.length < cs.length
          · have E : Hid (OR = ([], 4)) := by show _ = _; rw [HR3.out, if_pos hlen]
            have hlen' : (LF.length : Int) < (cs.length : Int) := by omega
            clear hlen
            go_wp2
            go_ret2
            exact ⟨nilS, by rw [E.out]; rfl, by rw [E.out]; exact NIL.out _, grown_trans g0 g07⟩
          · have E : Hid (OR = (LF, 0)) := by show _ = _; rw [HR3.out, if_neg hlen]
            have hlen' : ¬ (LF.length : Int) < (cs.length : Int) := by omega
            clear hlen
            go_wp2
            go_ret2
            exact ⟨⟨oa7, LF.length, oc7⟩, by rw [E.out]; rfl, by rw [E.out]; exact HO7.out.base_le hsz, grown_trans g0 g07⟩
      · have E : Hid (OR = ([], 4)) := by show _ = _; rw [HR2.out, if_pos (by rw [hno]; rfl)]
        clear hno
        go_wp2
        go_ret2
        exact ⟨nilS, by rw [E.out]; rfl, by rw [E.out]; exact NIL.out _, grown_trans g0 g04⟩
    · have E : Hid (OR = ([], PF)) := by show _ = _; rw [HR1.out, if_pos hz]
      have hzb : (PF != 0) = true := by simpa using hz
      go_wp2
      go_ret2
      exact ⟨nilS, by rw [E.out]; rfl, by rw [E.out]; exact NIL.out _, grown_trans g0 g02⟩
end Go.Proofs.YtmdpeckeliplkaaDoor

/- Check, and who reads a value, by the walk. -/
namespace Go.Proofs.YtmdpeckeliplkaaDoor
open Go.RowKit

/-- The places, among the first k nodes, of those that read a name. -/
def readsN (cs : List Nc) (x : ByteArray) : Nat → List Int
  | 0 => []
  | k + 1 => readsN cs x k ++ (if ((cs[k]?.map (·.ins)).getD []).any (isS x) = true then [(k : Int)] else [])

theorem readsN_le (cs : List Nc) (x : ByteArray) : ∀ k, (readsN cs x k).length ≤ k ∧ ∀ z ∈ readsN cs x k, 0 ≤ z ∧ z < k
  | 0 => ⟨Nat.le_refl _, fun z hz => by cases hz⟩
  | k + 1 => by
    have ih := readsN_le cs x k
    unfold readsN
    split
    · refine ⟨by rw [List.length_append]; simp; exact ih.1, fun z hz => ?_⟩
      rcases List.mem_append.1 hz with h | h
      · have := ih.2 z h; omega
      · simp at h; omega
    · rw [List.append_nil]
      exact ⟨by have := ih.1; omega, fun z hz => by have := ih.2 z hz; omega⟩

end Go.Proofs.YtmdpeckeliplkaaDoor

/- What an order out of waits and readers is: each once, behind all whose values it reads. -/
namespace Go.Proofs.YtmdpeckeliplkaaDoor
open Go.RowKit

/-- How often a node is told by those, of the first m, that are not taken. -/
def owed (R : List (List Int)) (acc : List Int) (i : Int) : Nat → Nat
  | 0 => 0
  | m + 1 => owed R acc i m + (if (m : Int) ∈ acc then 0 else (R.getD m []).count i)

theorem owed_far {R : List (List Int)} {acc : List Int} {i : Int} {k : Nat} : ∀ {m : Nat}, m ≤ k → owed R (acc ++ [(k : Int)]) i m = owed R acc i m
  | 0, _ => rfl
  | m + 1, h => by
    unfold owed
    rw [owed_far (m := m) (by omega)]
    have : ((m : Int) ∈ acc ++ [(k : Int)]) ↔ (m : Int) ∈ acc := by
      rw [List.mem_append]
      constructor
      · rintro (h1 | h1)
        · exact h1
        · simp at h1; omega
      · exact Or.inl
    simp only [this]

theorem owed_take {R : List (List Int)} {acc : List Int} {i : Int} {k : Nat} (hk : (k : Int) ∉ acc) : ∀ {m : Nat}, k < m → owed R acc i m = owed R (acc ++ [(k : Int)]) i m + (R.getD k []).count i
  | 0, h => by omega
  | m + 1, h => by
    unfold owed
    by_cases e : k = m
    · subst e
      rw [owed_far (Nat.le_refl _), if_neg hk, if_pos (by simp)]
      omega
    · rw [owed_take hk (m := m) (by omega)]
      have : ((m : Int) ∈ acc ++ [(k : Int)]) ↔ (m : Int) ∈ acc := by
        rw [List.mem_append]
        constructor
        · rintro (h1 | h1)
          · exact h1
          · simp at h1; omega
        · exact Or.inl
      simp only [this]
      omega

theorem owed_zero {R : List (List Int)} {acc : List Int} {i : Int} : ∀ {m : Nat}, owed R acc i m = 0 → ∀ j : Nat, j < m → (j : Int) ∉ acc → i ∉ R.getD j []
  | 0, _, j, h, _ => by omega
  | m + 1, h0, j, h, hj => by
    unfold owed at h0
    by_cases e : j = m
    · subst e
      rw [if_neg hj] at h0
      exact List.count_eq_zero.1 (by omega)
    · exact owed_zero (m := m) (by omega) j (by omega) hj

theorem getD_set_int (W : List Int) (r i : Nat) (x : Int) (hr : r < W.length) : (W.set r x).getD i 0 = if r = i then x else W.getD i 0 := by
  by_cases e : r = i
  · subst e
    rw [if_pos rfl, List.getD, List.getElem?_set_self hr]
    rfl
  · rw [if_neg e, List.getD, List.getElem?_set_ne e]
    rfl

theorem dec_count {i : Nat} : ∀ {rs W : List Int}, (∀ r ∈ rs, 0 ≤ r ∧ r < W.length) → (decAll W rs).getD i 0 = W.getD i 0 - (rs.count (i : Int) : Nat)
  | [], W, _ => by simp [decAll]
  | r :: rs, W, h => by
    have hr := h r (by simp)
    have e : decAll W (r :: rs) = decAll (W.set r.toNat (W.getD r.toNat 0 - 1)) rs := rfl
    rw [e, dec_count (fun y hy => by rw [List.length_set]; exact h y (by simp [hy])), getD_set_int _ _ _ _ (by omega), List.count_cons]
    by_cases hi : r.toNat = i
    · rw [if_pos hi]
      have h2 : (r == (i : Int)) = true := by simp; omega
      rw [if_pos h2, hi]
      omega
    · rw [if_neg hi]
      have h2 : ¬ (r == (i : Int)) = true := by simp; omega
      rw [if_neg h2]
      omega

/-- Where an order stands. -/
structure Cons (n : Nat) (R : List (List Int)) (acc W : List Int) : Prop where
  len : W.length = n
  once : acc.Nodup
  inr : ∀ z ∈ acc, 0 ≤ z ∧ z < n
  free : ∀ i : Nat, i < n → (i : Int) ∉ acc → W.getD i 0 = owed R acc (i : Int) n
  gone : ∀ i : Nat, i < n → (i : Int) ∈ acc → W.getD i 0 < 0
  behind : ∀ (p : Nat) (z : Int), acc[p]? = some z → ∀ j : Nat, j < n → z ∈ R.getD j [] → (j : Int) ∈ acc.take p

theorem Cons.step {n : Nat} {R : List (List Int)} {acc W : List Int} (h : Cons n R acc W) (hR : ∀ k, k < n → ∀ z ∈ R.getD k [], 0 ≤ z ∧ z < n) {k : Nat} (hk : k < n) (h0 : W.getD k 0 = 0) : Cons n R (acc ++ [(k : Int)]) (decAll (W.set k (-1)) (R.getD k [])) := by
  have hl : ∀ r ∈ R.getD k [], 0 ≤ r ∧ r < (W.set k (-1)).length := fun r hr => by rw [List.length_set, h.len]; exact hR k hk r hr
  have hka : (k : Int) ∉ acc := fun e => by have := h.gone k hk e; omega
  have hz : owed R acc (k : Int) n = 0 := by have := h.free k hk hka; omega
  refine ⟨by rw [decAll_len, List.length_set]; exact h.len, ?_, fun z hz => ?_, fun i hi hia => ?_, fun i hi hia => ?_, fun p z hp j hj hzj => ?_⟩
  · rw [List.nodup_append]
    refine ⟨h.once, by simp, fun a ha b hb => ?_⟩
    simp at hb
    subst hb
    exact fun e => hka (e ▸ ha)
  · rcases List.mem_append.1 hz with h1 | h1
    · exact h.inr z h1
    · simp at h1; omega
  · have hne : i ≠ k := fun e => hia (by simp [e])
    have hna : (i : Int) ∉ acc := fun e => hia (List.mem_append.2 (Or.inl e))
    rw [dec_count hl, getD_set_int _ _ _ _ (by rw [h.len]; exact hk), if_neg (fun e => hne e.symm), h.free i hi hna, owed_take hka hk]
    omega
  · rw [dec_count hl, getD_set_int _ _ _ _ (by rw [h.len]; exact hk)]
    by_cases e : k = i
    · rw [if_pos e]
      omega
    · rw [if_neg e]
      rcases List.mem_append.1 hia with h1 | h1
      · have := h.gone i hi h1
        omega
      · simp at h1
        omega
  · by_cases hp2 : p < acc.length
    · rw [List.getElem?_append_left hp2] at hp
      rw [List.take_append_of_le_length (by omega)]
      exact h.behind p z hp j hj hzj
    · have hp3 : p = acc.length := by
        have := (List.getElem?_eq_some_iff.1 hp).1
        rw [List.length_append] at this
        simp at this
        omega
      subst hp3
      rw [List.getElem?_append_right (Nat.le_refl _), Nat.sub_self] at hp
      have hzk : (k : Int) = z := by simpa using hp
      subst hzk
      rw [List.take_append_of_le_length (Nat.le_refl _), List.take_of_length_le (Nat.le_refl _)]
      refine Classical.byContradiction fun hja => ?_
      exact owed_zero hz j hj hja hzj

theorem ordF_cons {n : Nat} {R : List (List Int)} (hR : ∀ k, k < n → ∀ z ∈ R.getD k [], 0 ≤ z ∧ z < n) : ∀ (f : Nat) {acc W : List Int}, Cons n R acc W → ∃ W', Cons n R (acc ++ ordF f W R) W'
  | 0, acc, W, h => ⟨W, by rw [ordF, List.append_nil]; exact h⟩
  | f + 1, acc, W, h => by
    unfold ordF
    cases hf : W.findIdx? (fun z => z == 0) with
    | none => exact ⟨W, by simpa using h⟩
    | some k =>
      obtain ⟨hk, hz, -⟩ := List.findIdx?_eq_some_iff_getElem.1 hf
      have h0 : W.getD k 0 = 0 := by rw [List.getD, List.getElem?_eq_getElem hk]; simpa using hz
      have st := h.step hR (by rw [← h.len]; exact hk) h0
      obtain ⟨W', hW'⟩ := ordF_cons hR f st
      refine ⟨W', ?_⟩
      rw [List.append_assoc] at hW'
      exact hW'
end Go.Proofs.YtmdpeckeliplkaaDoor

/- Waits and readers tell one another; the order of a graph's nodes. -/
namespace Go.Proofs.YtmdpeckeliplkaaDoor
open Go.RowKit

theorem getD_set_list (R : List (List Int)) (m i : Nat) (x : List Int) (hm : m < R.length) : (R.set m x).getD i [] = if m = i then x else R.getD i [] := by
  by_cases e : m = i
  · subst e
    rw [if_pos rfl, List.getD, List.getElem?_set_self hm]
    rfl
  · rw [if_neg e, List.getD, List.getElem?_set_ne e]
    rfl

theorem owed_more {R : List (List Int)} {i : Int} {k : Int} {m : Nat} (hm : m < R.length) : ∀ {t : Nat}, owed (R.set m (R.getD m [] ++ [k])) [] i t = owed R [] i t + (if m < t ∧ k = i then 1 else 0)
  | 0 => by simp [owed]
  | t + 1 => by
    unfold owed
    rw [owed_more hm (t := t), getD_set_list _ _ _ _ hm]
    by_cases e : m = t
    · subst e
      rw [if_pos rfl, List.count_append]
      by_cases hk : k = i
      · simp [hk]
        omega
      · have : ¬ (k == i) = true := by simpa using hk
        simp [hk]
    · rw [if_neg e]
      by_cases hk : k = i
      · by_cases hmt : m < t
        · simp [hk, hmt, show m < t + 1 by omega]
          omega
        · simp [hk, hmt, show ¬ m < t + 1 by omega]
      · simp [hk]

/-- Waits are told by readers. -/
def Even (n : Nat) (p : List Int × List (List Int)) : Prop := p.1.length = n ∧ p.2.length = n ∧ ∀ i : Nat, i < n → p.1.getD i 0 = owed p.2 [] (i : Int) n

theorem Even.lnk {n : Nat} {p : List Int × List (List Int)} (h : Even n p) {l : List ByteArray} {k0 i : Nat} {x : ByteArray} (hi : i < n) (hx : pos l x < k0 + n) : Even n (lnk l k0 i p x) := by
  obtain ⟨h1, h2, h3⟩ := h
  unfold Go.Proofs.YtmdpeckeliplkaaDoor.lnk
  split
  · rename_i hk
    have hm : pos l x - k0 < p.2.length := by omega
    refine ⟨by simp [h1], by simp [h2], fun j hj => ?_⟩
    show (p.1.set i (p.1.getD i 0 + 1)).getD j 0 = owed (p.2.set (pos l x - k0) (p.2.getD (pos l x - k0) [] ++ [(i : Int)])) [] (j : Int) n
    rw [owed_more hm, getD_set_int _ _ _ _ (by omega)]
    by_cases e : i = j
    · subst e
      rw [if_pos rfl, if_pos ⟨by omega, rfl⟩, h3 i hi]
      omega
    · rw [if_neg e, if_neg (fun hh => e (by omega)), h3 j hj]
      omega
  · exact ⟨h1, h2, h3⟩

theorem Even.row {n : Nat} {l : List ByteArray} {k0 i : Nat} (hi : i < n) : ∀ {xs : List ByteArray} {p : List Int × List (List Int)}, (∀ x ∈ xs, pos l x < k0 + n) → Even n p → Even n (lnkRow l k0 i p xs)
  | [], p, _, h => h
  | x :: xs, p, hx, h => Even.row hi (xs := xs) (fun y hy => hx y (by simp [hy])) (h.lnk hi (hx x (by simp)))

theorem Even.links {cs : List Nc} {l : List ByteArray} {k0 : Nat} (hin : ∀ c ∈ cs, ∀ x ∈ c.ins, pos l x < k0 + cs.length) : ∀ k, k ≤ cs.length → Even cs.length (linksN cs l k0 k)
  | 0, _ => by
    refine ⟨by simp [linksN], by simp [linksN], fun i hi => ?_⟩
    have : ∀ t, owed (List.replicate cs.length []) [] (i : Int) t = 0 := by
      intro t
      induction t with
      | zero => rfl
      | succ t ih =>
        unfold owed
        rw [ih, show (List.replicate cs.length ([] : List Int)).getD t [] = [] by rw [List.getD, List.getElem?_replicate]; split <;> rfl]
        simp
    show (List.replicate cs.length (0 : Int)).getD i 0 = owed (List.replicate cs.length []) [] (i : Int) cs.length
    rw [this]
    rw [List.getD, List.getElem?_replicate]
    split <;> rfl
  | k + 1, hk => by
    have e : linksN cs l k0 (k + 1) = lnkRow l k0 k (linksN cs l k0 k) cs[k].ins := by
      rw [linksN, List.getElem?_eq_getElem (by omega)]
      rfl
    rw [e]
    exact Even.row (by omega) (hin cs[k] (List.getElem_mem (by omega))) (Even.links hin k (by omega))

/-- What is told once stays told. -/
theorem lnk_keeps {l : List ByteArray} {k0 i : Nat} {p : List Int × List (List Int)} {x : ByteArray} {j : Nat} {z : Int} (h : z ∈ p.2.getD j []) : z ∈ (lnk l k0 i p x).2.getD j [] := by
  unfold lnk
  split
  · by_cases hm : pos l x - k0 < p.2.length
    · show z ∈ (p.2.set _ _).getD j []
      rw [getD_set_list _ _ _ _ hm]
      split
      · rename_i e
        rw [e]
        exact List.mem_append.2 (Or.inl h)
      · exact h
    · show z ∈ (p.2.set _ _).getD j []
      rw [List.set_eq_of_length_le (by omega)]
      exact h
  · exact h

theorem row_keeps {l : List ByteArray} {k0 i : Nat} {j : Nat} {z : Int} : ∀ {xs : List ByteArray} {p : List Int × List (List Int)}, z ∈ p.2.getD j [] → z ∈ (lnkRow l k0 i p xs).2.getD j []
  | [], _, h => h
  | _ :: xs, _, h => row_keeps (xs := xs) (lnk_keeps h)

theorem row_tells {n : Nat} {l : List ByteArray} {k0 i j : Nat} (hj : j < n) (hi : i < n) : ∀ {xs : List ByteArray} {p : List Int × List (List Int)}, Even n p → (∀ x ∈ xs, pos l x < k0 + n) → (∃ x ∈ xs, pos l x = k0 + j) → (i : Int) ∈ (lnkRow l k0 i p xs).2.getD j []
  | [], _, _, _, h => by obtain ⟨x, hx, -⟩ := h; cases hx
  | y :: xs, p, he, hl, ⟨x, hx, hp⟩ => by
    rcases List.mem_cons.1 hx with rfl | hx
    · refine row_keeps (xs := xs) ?_
      unfold lnk
      rw [if_pos (by omega)]
      show (i : Int) ∈ (p.2.set _ _).getD j []
      rw [getD_set_list _ _ _ _ (by have := he.2.1; omega), if_pos (by omega)]
      simp
    · exact row_tells hj hi (xs := xs) (he.lnk hi (hl y (by simp))) (fun z hz => hl z (by simp [hz])) ⟨x, hx, hp⟩

theorem links_tell {cs : List Nc} {l : List ByteArray} {k0 : Nat} (hin : ∀ c ∈ cs, ∀ x ∈ c.ins, pos l x < k0 + cs.length) {i j : Nat} (hi : i < cs.length) (hj : j < cs.length) (h : ∃ x ∈ cs[i].ins, pos l x = k0 + j) : ∀ k, i < k → k ≤ cs.length → (i : Int) ∈ (linksN cs l k0 k).2.getD j []
  | 0, h0, _ => by omega
  | k + 1, h0, hk => by
    have e : linksN cs l k0 (k + 1) = lnkRow l k0 k (linksN cs l k0 k) cs[k].ins := by
      rw [linksN, List.getElem?_eq_getElem (by omega)]
      rfl
    rw [e]
    by_cases hik : i = k
    · subst hik
      exact row_tells hj hi (Even.links hin i (by omega)) (hin _ (List.getElem_mem _)) h
    · exact row_keeps (links_tell hin hi hj h k (by omega) (by omega))

/-- The order of a graph's nodes: each at most once, behind all whose values it reads. -/
theorem line_law {cs : List Nc} {vin : List (Val × List Int)} {its : List (Nam × List Int × List Int)} (hlen : ∀ c ∈ cs, c.ins.length ≤ 1048576) (hin : ∀ c ∈ cs, ∀ x ∈ c.ins, inL x (vnames cs vin its) = true) :
    (lineF cs vin its).Nodup ∧ (∀ z ∈ lineF cs vin its, 0 ≤ z ∧ z < cs.length) ∧ ∀ (p i j : Nat) (hi : i < cs.length), (lineF cs vin its)[p]? = some (i : Int) → j < cs.length → (∃ x ∈ cs[i].ins, pos (vnames cs vin its) x = vin.length + its.length + j) → (j : Int) ∈ (lineF cs vin its).take p := by
  have hp : ∀ c ∈ cs, ∀ x ∈ c.ins, pos (vnames cs vin its) x < vin.length + its.length + cs.length := fun c hc x hx => by have := pos_lt (hin c hc x hx); rwa [vnames_len] at this
  have hlb := linksN_lb cs (vnames cs vin its) (vin.length + its.length) (vnames_len cs vin its) (fun c hc => ⟨hlen c hc, hin c hc⟩) cs.length (Nat.le_refl _)
  have hev := Even.links hp cs.length (Nat.le_refl _)
  have hR : ∀ k, k < cs.length → ∀ z ∈ (linksN cs (vnames cs vin its) (vin.length + its.length) cs.length).2.getD k [], 0 ≤ z ∧ z < cs.length := fun k hk z hz => by
    rw [List.getD, List.getElem?_eq_getElem (by rw [hlb.l2]; exact hk)] at hz
    exact (hlb.b2 _ (List.getElem_mem _)).2 z hz
  have h0 : Cons cs.length (linksN cs (vnames cs vin its) (vin.length + its.length) cs.length).2 [] (linksN cs (vnames cs vin its) (vin.length + its.length) cs.length).1 :=
    ⟨hev.1, List.nodup_nil, (fun z hz => by cases hz), (fun i hi _ => hev.2.2 i hi), (fun i _ h => by cases h), (fun p z hz => by simp at hz)⟩
  obtain ⟨W', hc⟩ := ordF_cons hR cs.length h0
  rw [List.nil_append] at hc
  exact ⟨hc.once, hc.inr, fun p i j hi hpi hj hx => hc.behind p i hpi j hj (links_tell hp hi hj hx cs.length hi (Nat.le_refl _))⟩
end Go.Proofs.YtmdpeckeliplkaaDoor

/- The graphs of live, by the walk. -/
namespace Go.Proofs.YtmdpeckeliplkaaDoor
open Go.RowKit

theorem six (w : World) (a b c d e f : Obj) : ∀ W, W = (((((w.alloc a).alloc b).alloc c).alloc d).alloc e).alloc f →
    W.heap[w.heap.size]? = some a ∧ W.heap[w.heap.size + 1]? = some b ∧ W.heap[w.heap.size + 1 + 1]? = some c ∧ W.heap[w.heap.size + 1 + 1 + 1]? = some d ∧ W.heap[w.heap.size + 1 + 1 + 1 + 1]? = some e ∧ W.heap[w.heap.size + 1 + 1 + 1 + 1 + 1]? = some f ∧ w.grownBy W none := by
  rintro W rfl
  have z : ∀ (x : World) (o : Obj), (x.alloc o).heap.size = x.heap.size + 1 := fun x o => by simp
  have k1 := heap_alloc_new w a
  have k2 := heap_alloc_new (w.alloc a) b
  have k3 := heap_alloc_new ((w.alloc a).alloc b) c
  have k4 := heap_alloc_new (((w.alloc a).alloc b).alloc c) d
  have k5 := heap_alloc_new ((((w.alloc a).alloc b).alloc c).alloc d) e
  have k6 := heap_alloc_new (((((w.alloc a).alloc b).alloc c).alloc d).alloc e) f
  rw [z] at k2
  rw [z, z] at k3
  rw [z, z, z] at k4
  rw [z, z, z, z] at k5
  rw [z, z, z, z, z] at k6
  have up : ∀ {x : World} {i : Nat} {o : Obj} (p : Obj), x.heap[i]? = some o → (x.alloc p).heap[i]? = some o := fun {x i o} p h => ((grown_new x p).block i (Array.getElem?_eq_some_iff.1 h).1 (by simp)).trans h
  exact ⟨up _ (up _ (up _ (up _ (up _ k1)))), up _ (up _ (up _ (up _ k2))), up _ (up _ (up _ k3)), up _ (up _ k4), up _ k5, k6, grown_trans (grown_trans (grown_trans (grown_trans (grown_trans (grown_new _ _) (grown_new _ _)) (grown_new _ _)) (grown_new _ _)) (grown_new _ _)) (grown_new _ _)⟩

theorem graInfo : (Tryd.prog.info? 26).map (·.size) = some 5 := by kernel_rfl

theorem ret_gra {fn : Func} {p : Tmp} (h : fn.results = #[.cell p 26]) (tmps : Array Value) (w : World) (B : Nat) (hp : tmps.getD p undef = .pointer (some ⟨B, 0, none⟩)) {a0 a1 a2 a3 a4 : Value}
    (hb : w.heap[B]? = some (.cells #[a0, a1, a2, a3, a4] 26 (0, 0))) : (results fn tmps).run Tryd.prog w = .ok (.agg #[a0, a1, a2, a3, a4]) w :=
  results_cell_row h tmps w B 26 #[a0, a1, a2, a3, a4] (0, 0) _ hp hb Tryd.underlying26 rfl (by rw [graInfo]; rfl)

/-- The nodes of live's graphs. -/
def twoCs (s1 s2 : Sl) (x : UInt8) : List Nc := [⟨⟨⟨#[82, 101, 108, 117]⟩, ⟨#[]⟩, s1, ⟨#[121]⟩, nilS⟩, [⟨#[122]⟩], [], []⟩, ⟨⟨⟨#[78, 101, 103]⟩, ⟨#[]⟩, s2, ⟨#[122]⟩, nilS⟩, [⟨#[x]⟩], [], []⟩]

def twoIn : List (Val × List Int) := [(⟨⟨#[120]⟩, 1, nilS⟩, [])]
def twoOut : List (Val × List Int) := [(⟨⟨#[121]⟩, 1, nilS⟩, [])]

theorem two_ok (w : World) (x : UInt8) (W : World) (hW : W = (((((w.alloc (.cells #[.string ⟨#[]⟩, .slice (some ⟨w.heap.size + 1 + 1 + 1 + 1 + 1, 0, none⟩) 2 2, .slice (some ⟨w.heap.size + 1, 0, none⟩) 1 1, .slice (some ⟨w.heap.size + 1 + 1, 0, none⟩) 1 1, .slice none 0 0] 26)).alloc (.cells #[.string ⟨#[120]⟩, .int .i64 1, .slice none 0 0] 42)).alloc (.cells #[.string ⟨#[121]⟩, .int .i64 1, .slice none 0 0] 42)).alloc (.cells #[.string ⟨#[122]⟩] 9)).alloc (.cells #[.string ⟨#[x]⟩] 9)).alloc (.cells #[.string ⟨#[82, 101, 108, 117]⟩, .string ⟨#[]⟩, .slice (some ⟨w.heap.size + 1 + 1 + 1, 0, none⟩) 1 1, .string ⟨#[121]⟩, .slice none 0 0, .string ⟨#[78, 101, 103]⟩, .string ⟨#[]⟩, .slice (some ⟨w.heap.size + 1 + 1 + 1 + 1, 0, none⟩) 1 1, .string ⟨#[122]⟩, .slice none 0 0] 52)) :
    W.heap[w.heap.size]? = some (.cells #[.string ⟨#[]⟩, .slice (some ⟨w.heap.size + 1 + 1 + 1 + 1 + 1, 0, none⟩) 2 2, .slice (some ⟨w.heap.size + 1, 0, none⟩) 1 1, .slice (some ⟨w.heap.size + 1 + 1, 0, none⟩) 1 1, .slice none 0 0] 26 (0, 0)) ∧ w.grownBy W none ∧
    GraphOk W ⟨⟨#[]⟩, ⟨some ⟨w.heap.size + 1 + 1 + 1 + 1 + 1, 0, none⟩, 2, 2⟩, ⟨some ⟨w.heap.size + 1, 0, none⟩, 1, 1⟩, ⟨some ⟨w.heap.size + 1 + 1, 0, none⟩, 1, 1⟩, nilS⟩ (twoCs ⟨some ⟨w.heap.size + 1 + 1 + 1, 0, none⟩, 1, 1⟩ ⟨some ⟨w.heap.size + 1 + 1 + 1 + 1, 0, none⟩, 1, 1⟩ x) twoIn twoOut [] := by
  obtain ⟨h0, h1, h2, h3, h4, h5, hg⟩ := six w _ _ _ _ _ _ W hW
  have nilA : IsAttrs W nilS.v [] := OwnsL.isL (te := 82) (base := 0) acells_len (OwnsL.nil ..) (by simp)
  refine ⟨h0, hg, ⟨?_, ?_, ?_, ?_, fun c hc => ?_, fun p hp => ?_, fun p hp => ?_, (fun p hp => by cases hp), fun p hp => ?_, ?_⟩, fun y hy => ?_, fun y hy => ?_, fun c hc => ?_⟩
  · exact lit_isLG (te := 52) (bytes := 96) (xs := (twoCs ⟨some ⟨w.heap.size + 1 + 1 + 1, 0, none⟩, 1, 1⟩ ⟨some ⟨w.heap.size + 1 + 1 + 1 + 1, 0, none⟩, 1, 1⟩ x).map (·.n)) ncells_len h5 rfl rfl (Nat.le_of_ble_eq_true rfl) (Nat.le_of_ble_eq_true rfl)
  · exact lit_isLG (te := 42) (bytes := 48) (xs := twoIn.map (·.1)) vcells_len h1 rfl rfl (Nat.le_of_ble_eq_true rfl) (Nat.le_of_ble_eq_true rfl)
  · exact lit_isLG (te := 42) (bytes := 48) (xs := twoOut.map (·.1)) vcells_len h2 rfl rfl (Nat.le_of_ble_eq_true rfl) (Nat.le_of_ble_eq_true rfl)
  · exact OwnsL.isL (te := 59) (base := 0) mcells_len (OwnsL.nil ..) (by simp)
  · simp only [twoCs, List.mem_cons, List.not_mem_nil, or_false] at hc
    rcases hc with rfl | rfl
    · exact ⟨lit_isLG (te := 9) (bytes := 16) (xs := [⟨#[122]⟩]) scell_len h3 rfl rfl (Nat.le_of_ble_eq_true rfl) (Nat.le_of_ble_eq_true rfl), nilA, (fun j a h => by simp at h), by simp, (fun a h => by cases h)⟩
    · exact ⟨lit_isLG (te := 9) (bytes := 16) (xs := [⟨#[x]⟩]) scell_len h4 rfl rfl (Nat.le_of_ble_eq_true rfl) (Nat.le_of_ble_eq_true rfl), nilA, (fun j a h => by simp at h), by simp, (fun a h => by cases h)⟩
  · simp only [twoIn, List.mem_cons, List.not_mem_nil, or_false] at hp
    subst hp
    exact ints_nil W
  · simp only [twoOut, List.mem_cons, List.not_mem_nil, or_false] at hp
    subst hp
    exact ints_nil W
  · simp only [twoIn, List.mem_cons, List.not_mem_nil, or_false] at hp
    subst hp
    show (1 : Nat) ≤ 1048576
    omega
  · simp [twoCs, twoIn, twoOut]
  · simp only [vnames, twoIn, twoCs, List.map_cons, List.map_nil, List.nil_append, List.append_nil, List.cons_append, List.mem_cons, List.not_mem_nil, or_false] at hy
    rcases hy with rfl | rfl | rfl <;> (show (1 : Nat) ≤ 1048576; omega)
  · simp only [onames, twoOut, List.map_cons, List.map_nil, List.mem_cons, List.not_mem_nil, or_false] at hy
    subst hy
    show (1 : Nat) ≤ 1048576
    omega
  · simp only [twoCs, List.mem_cons, List.not_mem_nil, or_false] at hc
    rcases hc with rfl | rfl
    · refine ⟨by simp, fun y hy => ?_⟩
      simp at hy
      subst hy
      show (1 : Nat) ≤ 1048576
      omega
    · refine ⟨by simp, fun y hy => ?_⟩
      simp at hy
      subst hy
      show (1 : Nat) ≤ 1048576
      omega

/-- How two ends. -/
def Twos (x : UInt8) (w : World) (e : Ending) (w' : World) : Prop := ∃ (g : Gra) (s1 s2 : Sl), e = .returned (gval g) ∧ GraphOk w' g (twoCs s1 s2 x) twoIn twoOut [] ∧ w.grownBy w' none

end Go.Proofs.YtmdpeckeliplkaaDoor

/- The statements' own live, by the walk. -/
namespace Go.Proofs.YtmdpeckeliplkaaDoor
open Go.RowKit

theorem two_order (s1 s2 : Sl) : orderR (twoCs s1 s2 120) twoIn twoOut [] = ([1, 0], 0) := by kernel_rfl

theorem two_order' (s1 s2 : Sl) : (orderR (twoCs s1 s2 121) twoIn twoOut []).2 = 4 := by kernel_rfl

theorem two_reads (s1 s2 : Sl) : readsN (twoCs s1 s2 120) ⟨#[120]⟩ (twoCs s1 s2 120).length = [1] := by kernel_rfl

theorem lit_ints (w : World) (zs : List Int) (hl : zs.length ≤ 1024) (hz : ∀ z ∈ zs, -1024 ≤ z ∧ z ≤ 1024) : IsInts (w.alloc (.cells (zs.map (Value.int .i64)).toArray 3)) (.slice (some ⟨w.heap.size, 0, none⟩) zs.length zs.length) zs := by
  refine Owns.ints (base := 0) ⟨⟨by simp, Or.inr ⟨w.heap.size, zs.length, _, rfl, Nat.zero_le _, heap_alloc_new w _, Nat.le_refl _, by simp only [maxLen]; omega, by simp, ?_⟩⟩, by omega, fun z h => by have := hz z h; omega⟩
  rw [List.take_of_length_le (by simp)]

end Go.Proofs.YtmdpeckeliplkaaDoor
