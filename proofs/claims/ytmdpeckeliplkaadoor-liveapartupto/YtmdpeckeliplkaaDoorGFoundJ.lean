/- Whether a graph's names are found, by the walk. -/
import Derived.Test.YtmdpeckeliplkaaDoorGMapJ
import Derived.Test.YtmdpeckeliplkaaDoorGNamesJ
namespace Go.Proofs.YtmdpeckeliplkaaDoor
open Go.RowKit

/-- Do all names of a list stand among others? -/
def allF (l xs : List ByteArray) : Bool := xs.all (fun x => inL x l)

/-- Is there an output, are they unlike, and are they and all inputs of nodes values? -/
def foundF (cs : List Nc) (outs l : List ByteArray) : Bool := namesOK [] outs && !(outs.length == 0) && allF l outs && cs.all (fun c => allF l c.ins)

set_option maxRecDepth 100000 in
set_option maxHeartbeats 6400000 in
theorem namesfound_any (g : Gra) (cs : List Nc) (vin vout : List Val) (its : List Nam) (b : Nat) (l : List ByteArray) (w : World) (h1 : IsNods w g.nv.v (cs.map (·.n))) (h2 : IsVals w g.iv.v vin) (h3 : IsVals w g.ov.v vout) (h4 : IsNams w g.tv.v its) (hf : (cs.map (·.n)).length ≤ 1048576 ∧ vin.length ≤ 1048576 ∧ vout.length ≤ 1048576 ∧ its.length ≤ 1048576)
    (hin : ∀ c ∈ cs, IsStrs w c.n.iv.v c.ins ∧ ∀ x ∈ c.ins, x.size ≤ 1048576) (hso : ∀ x ∈ vout.map (·.name), x.size ≤ 1048576) (hn : Nums w b l) :
    Calls Tryd.prog 56 #[gval g, .map (some b)] w fun e w' => e = .returned (.bool (foundF cs (vout.map (·.name)) l)) ∧ w.grownBy w' none := by
  have ON := hide (fun (wx : World) (hx : w.grownBy wx none) => outputnames_any g (cs.map (·.n)) vin vout its wx (h1.more hx) (h2.more hx) (h3.more hx) (h4.more hx) hf)
  have NU := hide (fun (v : Value) (wx : World) (hv : IsStrs wx v (vout.map (·.name))) => numbered_any v (vout.map (·.name)) wx hv hso)
  have AO := hide (fun (v : Value) (wx : World) (hx : w.grownBy wx none) (hv : IsStrs wx v (vout.map (·.name))) => allin_any b v l (vout.map (·.name)) wx (hn.more hx) hv hso)
  have AI := hide (fun (c : Nc) (hc : c ∈ cs) (wx : World) (hx : w.grownBy wx none) => allin_any b c.n.iv.v l c.ins wx (hn.more hx) ((hin c hc).1.more hx) (hin c hc).2)
  have HF : Hid (foundF cs (vout.map (·.name)) l = (namesOK [] (vout.map (·.name)) && !(vout.length == 0) && allF l (vout.map (·.name)) && cs.all (fun c => allF l c.ins))) := by show _ = _; unfold foundF; rw [List.length_map]
  have hLB : (vout.map (·.name)).length * 16 ≤ 140737488351232 := by rw [List.length_map]; omega
  have HLEN : Hid ((vout.map (·.name)).length = vout.length) := by show _ = _; rw [List.length_map]
  obtain ⟨O, hO⟩ : ∃ O, O = vout.map (·.name) := ⟨_, rfl⟩
  rw [← hO] at ON NU AO HF hLB HLEN ⊢
  obtain ⟨F, hF⟩ : ∃ F, F = foundF cs O l := ⟨_, rfl⟩
  rw [← hF] at HF ⊢
  obtain ⟨nam, ⟨na0, nn, nc0⟩, iv, ov, tv⟩ := g
  have H1 := hide h1
  obtain ⟨xa, xc, e1, p1, p2, p3⟩ := h1.form
  obtain ⟨rfl, rfl, rfl⟩ : na0 = xa ∧ nn = (cs.map (·.n)).length ∧ nc0 = xc := by simpa [Sl.v] using e1
  rw [List.length_map] at ON p1 p3 ⊢
  obtain ⟨ia, iN, ic⟩ := iv
  obtain ⟨oa, oN, oc⟩ := ov
  obtain ⟨ta, tN, tc⟩ := tv
  clear h1 h2 h3 h4 e1 hin hso hn hO hF hf
  unfold gval at ON ⊢
  simp only at ON ⊢
  obtain ⟨w0, hw0⟩ : ∃ w0, w0 = w.alloc (.cells #[.string nam, .slice na0 cs.length nc0, .slice ia iN ic, .slice oa oN oc, .slice ta tN tc] 26) := ⟨_, rfl⟩
  have g0 : w.grownBy w0 none := by rw [hw0]; exact grown_new _ _
  have b0 := heap_alloc_new w (.cells #[.string nam, .slice na0 cs.length nc0, .slice ia iN ic, .slice oa oN oc, .slice ta tN tc] 26)
  obtain ⟨r0, r1, r2, r3, r4⟩ := gra_cells (g := ⟨nam, ⟨na0, cs.length, nc0⟩, ⟨ia, iN, ic⟩, ⟨oa, oN, oc⟩, ⟨ta, tN, tc⟩⟩) b0
  rw [← hw0] at b0
  have BX : Hid (∀ wx, w0.grownBy wx none → wx.heap[w.heap.size]? = some (.cells #[.string nam, .slice na0 cs.length nc0, .slice ia iN ic, .slice oa oN oc, .slice ta tN tc] 26 (0, 0))) := fun wx hx => box_kept b0 hx
  clear b0
  go_enter Tryd.func56, Tryd.ntmps56
  go_wp2_with fail
  rw [← hw0]
  clear hw0 r0 r1 r2 r3 r4
  refine (ON.out w0 g0).mono ?_
  rintro e w1 ⟨⟨ua, un, uc⟩, rfl, hown, hg1⟩
  have g1 := grown_trans g0 hg1
  obtain ⟨ua', uc', hu⟩ := OwnsL.form hown
  obtain ⟨rfl, rfl, rfl⟩ : ua = ua' ∧ un = O.length ∧ uc = uc' := by simpa [Sl.v] using hu
  have IS := hide (hown.isL (bytes := 16) scell_len hLB)
  clear hown hu
  unfold Sl.v at IS ⊢
  simp only at IS ⊢
  go_wp2_with fail
  refine (NU.out _ w1 IS.out).mono ?_
  rintro e w2 ⟨hg2, hh⟩
  have g2 := grown_trans g1 hg2
  rcases hh with ⟨hok, bb, hbb, rfl, -⟩ | ⟨hno, rfl⟩
  · by_cases hz : vout.length = 0
    · have E : Hid (F = false) := by show _ = _; rw [HF.out, hz]; simp
      rw [HLEN.out, hz]
      clear hok
      go_wp2
      go_ret
      exact ⟨by rw [E.out]; rfl, g2⟩
    · have HK := hide hok
      have hz' : 0 < vout.length := by omega
      rw [HLEN.out]
      rw [HLEN.out] at IS
      clear hok
      have hz0 : ¬ ((vout.length : Int) = 0) := by omega
      have hzb : ((vout.length : Int) == 0) = false := by simpa using hz0
      go_wp2_with fail
      clear hz hz0 hzb
      refine (AO.out _ w2 g2 (IS.out.more hg2)).mono ?_
      rintro e w3 ⟨rfl, rfl⟩
      cases hall : O.all (fun x => inL x l) with
      | false =>
        have E : Hid (F = false) := by show _ = _; rw [HF.out]; unfold allF; rw [hall]; simp
        clear hall
        go_wp2
        go_ret
        exact ⟨by rw [E.out]; rfl, g2⟩
      | true =>
        have E : Hid (F = cs.all (fun c => allF l c.ins)) := by show _ = _; rw [HF.out, HK.out]; unfold allF; rw [hall]; simp [show vout.length ≠ 0 from by omega]
        clear hall
        obtain ⟨r0, r1, r2, r3, r4⟩ := gra_cells (g := ⟨nam, ⟨na0, cs.length, nc0⟩, ⟨ia, iN, ic⟩, ⟨oa, oN, oc⟩, ⟨ta, tN, tc⟩⟩) (BX.out w3 (grown_trans hg1 hg2))
        go_wp2_with fail
        clear r0 r1 r2 r3 r4
        go_loopw [33] (fun i wr => w.grownBy wr none ∧ ∃ k : Nat, k ≤ cs.length ∧ i = .int .i64 k ∧ (cs.take k).all (fun c => allF l c.ins) = true) (fun i _ => cs.length - (intOf i).toNat)
        case atStart => exact ⟨g2, 0, Nat.zero_le _, rfl, rfl⟩
        case round =>
          obtain ⟨hg, k, hk, rfl, hall⟩ := hrel
          have HALL := hide hall
          clear hall
          by_cases hlt : k < cs.length
          · have HLk := H1.out.more hg
            obtain ⟨b9, off, rfl⟩ := HLk.addr (by rw [List.length_map]; exact hlt)
            obtain ⟨a0, a1, a2, a3, a4⟩ := HLk.nod k (by rw [List.length_map]; exact hlt)
            have AC := hide (fun (wx : World) (hx : w.grownBy wx none) => AI.out cs[k] (List.getElem_mem hlt) wx hx)
            have HK : Hid (cs[k]? = some cs[k]) := List.getElem?_eq_getElem hlt
            rw [List.getElem_map] at a0 a1 a2 a3 a4
            obtain ⟨C, hC⟩ : ∃ C, C = cs[k] := ⟨_, rfl⟩
            rw [← hC] at a0 a1 a2 a3 a4 HK AC
            clear HLk hC
            obtain ⟨⟨cop, cnam, ⟨ca, cN, cc⟩, cout, ⟨da, dN, dc⟩⟩, cins, cxs, ccs⟩ := C
            simp only [Sl.v] at a0 a1 a2 a3 a4 AC
            obtain ⟨W, hW⟩ : ∃ W, W = wr.alloc (.cells #[.string cop, .string cnam, .slice ca cN cc, .string cout, .slice da dN dc] 52) := ⟨_, rfl⟩
            have gW : w.grownBy W none := by rw [hW]; exact grown_trans hg (grown_new _ _)
            go_wp2_with fail
            rw [← hW]
            clear hW
            refine (AC.out W gW).mono ?_
            rintro e w5 ⟨rfl, rfl⟩
            cases hq : cins.all (fun x => inL x l) with
            | false =>
              have E2 : Hid (F = false) := by show _ = _; rw [E.out, List.all_eq_false]; exact ⟨_, List.mem_of_getElem? HK.out, by unfold allF; rw [hq]; decide⟩
              clear hq
              go_wp2
              go_ret
              exact ⟨by rw [E2.out]; rfl, gW⟩
            | true =>
              have HN : Hid ((cs.take (k + 1)).all (fun c => allF l c.ins) = true) := by show _ = _; rw [List.take_add_one, List.all_append, HALL.out, HK.out]; simp [allF, hq]
              clear hq
              go_wp2_with fail
              go_roundw
              case rel => exact ⟨gW, k + 1, by omega, by go_num, HN.out⟩
              case measure => simp [intOf]; omega
          · obtain rfl : k = cs.length := by omega
            have E2 : Hid (F = true) := by show _ = _; rw [E.out]; have := HALL.out; rwa [List.take_of_length_le (Nat.le_refl _)] at this
            go_wp2
            go_ret
            exact ⟨by rw [E2.out]; rfl, hg⟩
  · have E : Hid (F = false) := by show _ = _; rw [HF.out, hno]; rfl
    clear hno
    go_wp2
    go_ret
    exact ⟨by rw [E.out]; rfl, g2⟩
end Go.Proofs.YtmdpeckeliplkaaDoor
