/- A part. -/
import Derived.Test.YtbgbpfbjeleooaaGreatRartAH
set_option maxHeartbeats 6400000
set_option maxRecDepth 100000
namespace Go.Proofs.YtbgbpfbjeleooaaGreat
open Go.RowKit
theorem jgm (h g : Gra) (cs cs' : List Nc) (vin vout vin' vout' : List (Val × List Int)) (its its' : List (Nam × List Int × List Int)) (w : World) (hg : GraphIn0 w g cs vin vout its) (hh : GraphIn0 w h cs' vin' vout' its') (hnm : h.name = g.name) (hs : SameG cs vin vout its cs' vin' vout' its') :
    Calls Tryz.prog 12 #[jc3 h, jc3 g] w fun e w' => e = .returned (.bool true) ∧ w.grownBy w' none := by
     have HG := jac hg
     have HH := jac hh
     have HS := jac hs
     have l1 := jg8 hs.nodes
     have l4 := jg8 hs.inits
     obtain ⟨nam, ⟨na0, nn0, nc0⟩, ⟨ia, iN, ic⟩, ⟨oa, oN, oc⟩, ⟨ta, tN, tc⟩⟩ := g
     obtain ⟨nam', ⟨ma0, mn0, mc0⟩, ⟨ja, jN, jc⟩, ⟨qa, qN, qc⟩, ⟨ua, uN, uc⟩⟩ := h
     simp only at hnm
     subst hnm
     obtain ⟨xa, xc, e1, p1, p2, p3⟩ := hg.nodes.form
     rw [List.length_map] at e1 p1 p3
     obtain ⟨rfl, rfl, rfl⟩ : na0 = xa ∧ nn0 = cs.length ∧ nc0 = xc := by simpa [Sl.v] using e1
     obtain ⟨ya, yc, e2, p4, p5, p6⟩ := hh.nodes.form
     rw [List.length_map, l1] at e2 p4 p6
     obtain ⟨rfl, rfl, rfl⟩ : ma0 = ya ∧ mn0 = cs.length ∧ mc0 = yc := by simpa [Sl.v] using e2
     obtain ⟨za, zc, e3, p7, p8, p9⟩ := hg.inits.form
     rw [List.length_map] at e3 p7 p9
     obtain ⟨rfl, rfl, rfl⟩ : ta = za ∧ tN = its.length ∧ tc = zc := by simpa [Sl.v] using e3
     obtain ⟨va, vc, e4, p10, p11, p12⟩ := hh.inits.form
     rw [List.length_map, l4] at e4 p10 p12
     obtain ⟨rfl, rfl, rfl⟩ : ua = va ∧ uN = its.length ∧ uc = vc := by simpa [Sl.v] using e4
     have L1 := jac l1
     have L4 := jac l4
     clear hg hh hs e1 e2 e3 e4 l1 l4
     unfold jc3
     simp only
     obtain ⟨w0, hw0⟩ : ∃ w0, w0 = (w.alloc (.cells #[.string nam', .slice ma0 cs.length mc0, .slice ja jN jc, .slice qa qN qc, .slice ua its.length uc] 27)).alloc (.cells #[.string nam', .slice na0 cs.length nc0, .slice ia iN ic, .slice oa oN oc, .slice ta its.length tc] 27) := ⟨_, rfl⟩
     have g0 : w.grownBy w0 none := by rw [hw0]; exact jaa (jab _ _) (jab _ _)
     have hbx := jd7 w (.cells #[.string nam', .slice ma0 cs.length mc0, .slice ja jN jc, .slice qa qN qc, .slice ua its.length uc] 27) (.cells #[.string nam', .slice na0 cs.length nc0, .slice ia iN ic, .slice oa oN oc, .slice ta its.length tc] 27)
     have hbx0 := hbx
     rw [← hw0] at hbx
     have B1 : Hid (∀ wx, w0.grownBy wx none → wx.heap[w.heap.size]? = some (.cells #[.string nam', .slice ma0 cs.length mc0, .slice ja jN jc, .slice qa qN qc, .slice ua its.length uc] 27 (0, 0))) := fun wx hg => jag hbx.1 hg
     have B2 : Hid (∀ wx, w0.grownBy wx none → wx.heap[w.heap.size + 1]? = some (.cells #[.string nam', .slice na0 cs.length nc0, .slice ia iN ic, .slice oa oN oc, .slice ta its.length tc] 27 (0, 0))) := fun wx hg => jag hbx.2 hg
     obtain ⟨n0, n1, n2, n3, n4⟩ := jbX (g := ⟨nam', ⟨ma0, cs.length, mc0⟩, ⟨ja, jN, jc⟩, ⟨qa, qN, qc⟩, ⟨ua, its.length, uc⟩⟩) hbx0.1
     obtain ⟨m0, m1, m2, m3, m4⟩ := jbX (g := ⟨nam', ⟨na0, cs.length, nc0⟩, ⟨ia, iN, ic⟩, ⟨oa, oN, oc⟩, ⟨ta, its.length, tc⟩⟩) hbx0.2
     have SI := jac (je6 (.slice ja jN jc) (.slice ia iN ic) vin' vin w0 (HH.out.ins.more g0) (HG.out.ins.more g0) (fun p hp => (HH.out.din p hp).more g0) (fun p hp => (HG.out.din p hp).more g0) HS.out.ins)
     have SO := jac (fun (wx : World) (hx : w0.grownBy wx none) => je6 (.slice qa qN qc) (.slice oa oN oc) vout' vout wx (HH.out.outs.more (jaa g0 hx)) (HG.out.outs.more (jaa g0 hx)) (fun p hp => (HH.out.dout p hp).more (jaa g0 hx)) (fun p hp => (HG.out.dout p hp).more (jaa g0 hx)) HS.out.outs)
     clear hbx hbx0
     go_enter Tryz.func12, Tryz.ntmps12
     go_wp2_with fail
     rw [← hw0]
     clear hw0 n0 n1 n2 n3 n4 m0 m1 m2 m3 m4
     refine SI.out.mono ?_
     rintro e w1 ⟨rfl, hg1⟩
     obtain ⟨n0, n1, n2, n3, n4⟩ := jbX (g := ⟨nam', ⟨ma0, cs.length, mc0⟩, ⟨ja, jN, jc⟩, ⟨qa, qN, qc⟩, ⟨ua, its.length, uc⟩⟩) (B1.out w1 hg1)
     obtain ⟨m0, m1, m2, m3, m4⟩ := jbX (g := ⟨nam', ⟨na0, cs.length, nc0⟩, ⟨ia, iN, ic⟩, ⟨oa, oN, oc⟩, ⟨ta, its.length, tc⟩⟩) (B2.out w1 hg1)
     go_wp2_with fail
     clear n0 n1 n2 n3 n4 m0 m1 m2 m3 m4
     refine (SO.out w1 hg1).mono ?_
     rintro e w2 ⟨rfl, hg2⟩
     have g2 := jaa hg1 hg2
     obtain ⟨n0, n1, n2, n3, n4⟩ := jbX (g := ⟨nam', ⟨ma0, cs.length, mc0⟩, ⟨ja, jN, jc⟩, ⟨qa, qN, qc⟩, ⟨ua, its.length, uc⟩⟩) (B1.out w2 g2)
     obtain ⟨m0, m1, m2, m3, m4⟩ := jbX (g := ⟨nam', ⟨na0, cs.length, nc0⟩, ⟨ia, iN, ic⟩, ⟨oa, oN, oc⟩, ⟨ta, its.length, tc⟩⟩) (B2.out w2 g2)
     go_wp2_with fail
     clear n0 n1 n2 n3 n4 m0 m1 m2 m3 m4
     go_loopw [5] (fun i wr => w0.grownBy wr none ∧ ∃ k : Nat, k ≤ cs.length ∧ i = .int .i64 k) (fun i _ => cs.length - (intOf i).toNat)
     case atStart => exact ⟨g2, 0, Nat.zero_le _, rfl⟩
     case round =>
      obtain ⟨hg, k, hk, rfl⟩ := hrel
      obtain ⟨n0, n1, n2, n3, n4⟩ := jbX (g := ⟨nam', ⟨ma0, cs.length, mc0⟩, ⟨ja, jN, jc⟩, ⟨qa, qN, qc⟩, ⟨ua, its.length, uc⟩⟩) (B1.out wr hg)
      obtain ⟨m0, m1, m2, m3, m4⟩ := jbX (g := ⟨nam', ⟨na0, cs.length, nc0⟩, ⟨ia, iN, ic⟩, ⟨oa, oN, oc⟩, ⟨ta, its.length, tc⟩⟩) (B2.out wr hg)
      simp only at n1 n4 m1 m4
      clear n0 n2 n3 m0 m2 m3
      by_cases hlt : k < cs.length
      ·have hlp : k < cs'.length := by have := L1.out; omega
       have hl1 : k < (cs'.map (·.n)).length := by rw [List.length_map]; exact hlp
       have hl2 : k < (cs.map (·.n)).length := by rw [List.length_map]; exact hlt
       have gg := jaa g0 hg
       have I1 := HH.out.nodes.more gg
       have I2 := HG.out.nodes.more gg
       obtain ⟨ub, uo, rfl⟩ := I1.addr hl1
       obtain ⟨vb, vo, rfl⟩ := I2.addr hl2
       obtain ⟨a0, a1, a2, a3, a4⟩ := I1.nod k hl1
       obtain ⟨b0, b1, b2, b3, b4⟩ := I2.nod k hl2
       rw [List.getElem_map] at a0 a1 a2 a3 a4 b0 b1 b2 b3 b4
       have hkk := jiU HS.out.nodes hlp hlt
       have hna := (HH.out.node cs'[k] (List.getElem_mem hlp)).more (jaa g0 (jaV hg))
       have hnb := (HG.out.node cs[k] (List.getElem_mem hlt)).more (jaa g0 (jaV hg))
       obtain ⟨⟨op, nm, iv, ot, av⟩, ins, xs, ks, hA⟩ : ∃ n ins xs ks, cs'[k] = ⟨n, ins, xs, ks⟩ := ⟨_, _, _, _, rfl⟩
       obtain ⟨⟨op', nm', iv', ot', av'⟩, ins', xs', ks', hB⟩ : ∃ n ins xs ks, cs[k] = ⟨n, ins, xs, ks⟩ := ⟨_, _, _, _, rfl⟩
       rw [hA] at a0 a1 a2 a3 a4 hkk hna
       rw [hB] at b0 b1 b2 b3 b4 hkk hnb
       simp only [jjT, Prod.mk.injEq] at hkk
       obtain ⟨rfl, rfl, rfl, rfl, hst, rfl⟩ := hkk
       simp only at a0 a1 a2 a3 a4 b0 b1 b2 b3 b4 hna hnb
       have SN := jac (jgu op nm ot iv av iv' av' ins xs' xs ks wr.drew hna hnb hst)
       unfold jh4 at SN
       have CX := jac (fun (wx : World) (hx : wr.grownBy wx none) => And.intro (And.intro (jah n1 hx) (jah m1 hx)) (And.intro (And.intro (jah a0 hx) (And.intro (jah a1 hx) (And.intro (jah a2 hx) (And.intro (jah a3 hx) (jah a4 hx))))) (And.intro (jah b0 hx) (And.intro (jah b1 hx) (And.intro (jah b2 hx) (And.intro (jah b3 hx) (jah b4 hx)))))))
       have gd := jaV (jae wr)
       clear I1 I2 hA hB hst hna hnb
       go_wp2_with fail
       go_region_held3 (fun w' => w'.cell? ⟨w.heap.size, 1, none⟩ = some (.slice (some ⟨ub, uo, none⟩) cs.length mc0) ∧ w'.cell? ⟨w.heap.size + 1, 1, none⟩ = some (.slice (some ⟨vb, vo, none⟩) cs.length nc0) ∧ w'.cell? ⟨ub, uo + k * 5, none⟩ = some (.string op) ∧ w'.cell? ⟨ub, uo + k * 5 + 1, none⟩ = some (.string nm) ∧ w'.cell? ⟨ub, uo + k * 5 + 2, none⟩ = some (.slice iv.a iv.n iv.c) ∧ w'.cell? ⟨ub, uo + k * 5 + 3, none⟩ = some (.string ot) ∧ w'.cell? ⟨ub, uo + k * 5 + 4, none⟩ = some (.slice av.a av.n av.c) ∧ w'.cell? ⟨vb, vo + k * 5, none⟩ = some (.string op) ∧ w'.cell? ⟨vb, vo + k * 5 + 1, none⟩ = some (.string nm) ∧ w'.cell? ⟨vb, vo + k * 5 + 2, none⟩ = some (.slice iv'.a iv'.n iv'.c) ∧ w'.cell? ⟨vb, vo + k * 5 + 3, none⟩ = some (.string ot) ∧ w'.cell? ⟨vb, vo + k * 5 + 4, none⟩ = some (.slice av'.a av'.n av'.c)) (go_keep) (first | (go_at_call 30; refine SN.out.mono ?_; rintro e w3 ⟨rfl, hg3⟩; have g3 : wr.grownBy w3 none := jaa gd hg3; obtain ⟨⟨n1, m1⟩, ⟨a0, a1, a2, a3, a4⟩, b0, b1, b2, b3, b4⟩ := CX.out w3 g3) | fail)
       all_goals
        go_wp2
        go_roundw
        case rel => exact ⟨jaa hg g3, k + 1, by omega, by go_num⟩
        case measure => simp [intOf]; omega
      ·obtain ⟨wo, rfl⟩ : ∃ wo, wo = wr := ⟨_, rfl⟩
       go_wp2_with fail
       clear n1 n4 m1 m4
       go_loopw [7] (fun i wr => w0.grownBy wr none ∧ ∃ k : Nat, k ≤ its.length ∧ i = .int .i64 k) (fun i _ => its.length - (intOf i).toNat)
       case atStart => exact ⟨hg, 0, Nat.zero_le _, rfl⟩
       case round =>
        obtain ⟨hg, k, hk, rfl⟩ := hrel
        obtain ⟨n0, n1, n2, n3, n4⟩ := jbX (g := ⟨nam', ⟨ma0, cs.length, mc0⟩, ⟨ja, jN, jc⟩, ⟨qa, qN, qc⟩, ⟨ua, its.length, uc⟩⟩) (B1.out wr hg)
        obtain ⟨m0, m1, m2, m3, m4⟩ := jbX (g := ⟨nam', ⟨na0, cs.length, nc0⟩, ⟨ia, iN, ic⟩, ⟨oa, oN, oc⟩, ⟨ta, its.length, tc⟩⟩) (B2.out wr hg)
        simp only at n1 n4 m1 m4
        clear n0 n1 n2 n3 m0 m1 m2 m3
        by_cases hlt : k < its.length
        ·have hlp : k < its'.length := by have := L4.out; omega
         have hl1 : k < (its'.map (·.1)).length := by rw [List.length_map]; exact hlp
         have hl2 : k < (its.map (·.1)).length := by rw [List.length_map]; exact hlt
         have gg := jaa g0 hg
         have I1 := HH.out.inits.more gg
         have I2 := HG.out.inits.more gg
         obtain ⟨ub, uo, rfl⟩ := I1.addr hl1
         obtain ⟨vb, vo, rfl⟩ := I2.addr hl2
         obtain ⟨a0, a1, a2, a3⟩ := I1.nam k hl1
         obtain ⟨b0, b1, b2, b3⟩ := I2.nam k hl2
         rw [List.getElem_map] at a0 a1 a2 a3 b0 b1 b2 b3
         have hkk := jiU HS.out.inits hlp hlt
         have hda := HH.out.dinit its'[k] (List.getElem_mem hlp)
         have hdb := HG.out.dinit its[k] (List.getElem_mem hlt)
         obtain ⟨⟨nm, ty, dv, tv⟩, ds, es, hA⟩ : ∃ A ds es, its'[k] = (A, ds, es) := ⟨_, _, _, rfl⟩
         obtain ⟨⟨nm', ty', dv', tv'⟩, ds', es', hB⟩ : ∃ A ds es, its[k] = (A, ds, es) := ⟨_, _, _, rfl⟩
         rw [hA] at a0 a1 a2 a3 hkk hda
         rw [hB] at b0 b1 b2 b3 hkk hdb
         simp only [jj7, Prod.mk.injEq] at hkk
         obtain ⟨rfl, rfl, rfl, rfl⟩ := hkk
         simp only at a0 a1 a2 a3 b0 b1 b2 b3 hda hdb
         have gdd := jaa g0 (jaV hg)
         have SN := jac (jfC ty dv.v tv.v dv'.v tv'.v ds es wr.drew (hda.1.more gdd) (hda.2.more gdd) (hdb.1.more gdd) (hdb.2.more gdd))
         have CX := jac (fun (wx : World) (hx : wr.grownBy wx none) => And.intro (And.intro (jah n4 hx) (jah m4 hx)) (And.intro (And.intro (jah a0 hx) (And.intro (jah a1 hx) (And.intro (jah a2 hx) (jah a3 hx)))) (And.intro (jah b0 hx) (And.intro (jah b1 hx) (And.intro (jah b2 hx) (jah b3 hx))))))
         have gd := jaV (jae wr)
         clear I1 I2 hA hB hda hdb
         go_wp2_with fail
         go_region_held3 (fun w' => w'.cell? ⟨w.heap.size, 4, none⟩ = some (.slice (some ⟨ub, uo, none⟩) its.length uc) ∧ w'.cell? ⟨w.heap.size + 1, 4, none⟩ = some (.slice (some ⟨vb, vo, none⟩) its.length tc) ∧ w'.cell? ⟨ub, uo + k * 4, none⟩ = some (.string nm) ∧ w'.cell? ⟨ub, uo + k * 4 + 1, none⟩ = some (.int .i64 ty) ∧ w'.cell? ⟨ub, uo + k * 4 + 1 + 1, none⟩ = some (.slice dv.a dv.n dv.c) ∧ w'.cell? ⟨ub, uo + k * 4 + 1 + 2, none⟩ = some (.slice tv.a tv.n tv.c) ∧ w'.cell? ⟨vb, vo + k * 4, none⟩ = some (.string nm) ∧ w'.cell? ⟨vb, vo + k * 4 + 1, none⟩ = some (.int .i64 ty) ∧ w'.cell? ⟨vb, vo + k * 4 + 1 + 1, none⟩ = some (.slice dv'.a dv'.n dv'.c) ∧ w'.cell? ⟨vb, vo + k * 4 + 1 + 2, none⟩ = some (.slice tv'.a tv'.n tv'.c)) (go_keep) (first | (go_at_call 31; refine SN.out.mono ?_; rintro e w3 ⟨rfl, hg3⟩; have g3 : wr.grownBy w3 none := jaa gd hg3; obtain ⟨⟨n4, m4⟩, ⟨a0, a1, a2, a3⟩, b0, b1, b2, b3⟩ := CX.out w3 g3) | fail)
         all_goals
          go_wp2
          go_roundw
          case rel => exact ⟨jaa hg g3, k + 1, by omega, by go_num⟩
          case measure => simp [intOf]; omega
        ·go_wp2
         go_ret
         exact ⟨rfl, jaa g0 hg⟩
end Go.Proofs.YtbgbpfbjeleooaaGreat
