/- A part. -/
import Derived.Test.YtbgbpfbjeleooaaGreatPartBO
import Derived.Test.YtbgbpfbjeleooaaGreatPartAZ
import Derived.Test.YtbgbpfbjeleooaaGreatPartBB
set_option maxHeartbeats 12800000
set_option maxRecDepth 100000
namespace Go.Proofs.YtbgbpfbjeleooaaGreat.Pd
open Go.RowKit
open Wr (Fld)
theorem jgD (g : Gra) (w : World) (hn : g.nv.n ≤ 140737488351232) (hi : g.iv.n ≤ 140737488351232) (ht : g.tv.n ≤ 140737488351232) :
    Calls Tryz.prog 66 #[jdG g] w fun e w' => e = .returned (.bool (je7 g.nv.n g.iv.n g.ov.n g.tv.n)) ∧ w.grownBy w' none := by
     obtain ⟨nm, ⟨na, nn, nc⟩, ⟨ia, iN, ic⟩, ⟨oa, oN, oc⟩, ⟨ta, tN, tc⟩⟩ := g
     unfold jdG je7
     simp only at hn hi ht ⊢
     have hb := heap_alloc_new w (.cells #[.string nm, .slice na nn nc, .slice ia iN ic, .slice oa oN oc, .slice ta tN tc] 27)
     have gg := jac (jab w (.cells #[.string nm, .slice na nn nc, .slice ia iN ic, .slice oa oN oc, .slice ta tN tc] 27))
     obtain ⟨⟨x0, x1, x2, x3, x4⟩, -⟩ := jay hb
     have e1 : wrap64 ((iN : Int) + (tN : Int)) = ((iN + tN : Nat) : Int) := by unfold wrap64; omega
     have e2 : wrap64 (((iN + tN : Nat) : Int) + (nn : Int)) = ((iN + tN + nn : Nat) : Int) := by unfold wrap64; omega
     clear hb
     by_cases h1 : 1000 < nn
     ·have d1 : decide ((1000 : Int) < (nn : Int)) = true := by simp; omega
      rw [decide_eq_true h1]
      clear h1 e1 e2
      go_enter Tryz.func66, Tryz.ntmps66
      go_wp2
      go_ret
      exact ⟨rfl, gg.out⟩
     ·have d1 : decide ((1000 : Int) < (nn : Int)) = false := by simp; omega
      rw [decide_eq_false h1]
      have k3 : decide ((3000 : Int) < (oN : Int)) = decide (3000 < oN) := by rw [decide_eq_decide]; omega
      by_cases h2 : (3000 : Int) < (iN : Int) + (tN : Int) + (nn : Int)
      ·have E : Hid ((false || decide (3000 < iN + tN + nn) || decide (3000 < oN)) = true) := by show _ = _; rw [decide_eq_true (by omega)]; rfl
       rw [E.out]
       clear h1 e1 e2 k3
       go_enter Tryz.func66, Tryz.ntmps66
       go_wp2
       go_ret
       exact ⟨rfl, gg.out⟩
      ·have E : Hid ((false || decide (3000 < iN + tN + nn) || decide (3000 < oN)) = decide ((3000 : Int) < (oN : Int))) := by show _ = _; rw [decide_eq_false (by omega), k3]; rfl
       rw [E.out]
       have d2 : decide ((3000 : Int) < (iN : Int) + (tN : Int) + (nn : Int)) = false := decide_eq_false h2
       clear h1 e1 e2 k3 h2
       go_enter Tryz.func66, Tryz.ntmps66
       go_wp2
       go_ret
       exact ⟨rfl, gg.out⟩
def jfd (p : Nod × Ni) : Bool := ji3 p.1 p.2
def jdX (p : Nam × List Int × List Int) : Bool := !jaR [p.1.name] && decide (pbE p.1.ty p.2.1 p.2.2 = 0)
def jhZ (g : Gra) (ns : List (Nod × Ni)) (is os : List (Val × List Int)) (ts : List (Nam × List Int × List Int)) : Bool :=
 !jaR [g.name] && !je7 ns.length is.length os.length ts.length && (ns.all jfd && (ts.all jdX && (jbo is && jbo os)))
theorem jg5 (g : Gra) (ns : List (Nod × Ni)) (is os : List (Val × List Int)) (ts : List (Nam × List Int × List Int)) (w : World) (hr : RdG w g ns is os ts) :
    Calls Tryz.prog 35 #[jdG g] w fun e w' => e = .returned (.bool (jhZ g ns is os ts)) ∧ w.grownBy w' none := by
     obtain ⟨nm, nv, iv, ov, tv⟩ := g
     have HR0 := jac hr
     obtain ⟨hn, hi, ho, ht, hN, hI, hO, hT⟩ := hr
     simp only at hn hi ho ht
     obtain ⟨na, nc, e1, a1, a2, a3⟩ := hn.form
     obtain ⟨ia, ic, e2, b1, b2, b3⟩ := hi.form
     obtain ⟨oa, oc, e3, c1, c2, c3⟩ := ho.form
     obtain ⟨ta, tc, e4, d1, d2, d3⟩ := ht.form
     simp only [List.length_map] at a1 a2 a3 b1 b2 b3 c1 c2 c3 d1 d2 d3
     have hNN : ns.length ≤ 140737488351232 := by omega
     have hNI : is.length ≤ 140737488351232 := by omega
     have hNT : ts.length ≤ 140737488351232 := by omega
     clear a1 a2 a3 b1 b2 b3 c1 c2 c3 d1 d2 d3 hn hi ho ht
     unfold jdG
     simp only [Sl.v, Value.slice.injEq, List.length_map] at e1 e2 e3 e4
     obtain ⟨e1a, e1b, e1c⟩ := e1
     obtain ⟨e2a, e2b, e2c⟩ := e2
     obtain ⟨e3a, e3b, e3c⟩ := e3
     obtain ⟨e4a, e4b, e4c⟩ := e4
     simp only
     rw [e1a, e1b, e1c, e2a, e2b, e2c, e3a, e3b, e3c, e4a, e4b, e4c]
     obtain ⟨R0, hR0⟩ : ∃ r, r = jhZ ⟨nm, nv, iv, ov, tv⟩ ns is os ts := ⟨_, rfl⟩
     rw [← hR0]
     have E : Hid (R0 = (!jaR [nm] && !je7 ns.length is.length os.length ts.length && (ns.all jfd && (ts.all jdX && (jbo is && jbo os))))) := hR0
     clear hR0
     have LG := jac (jaH (.slice (some ⟨w.heap.size + 1, 0, none⟩) 1 1) [nm] ((w.alloc (.cells #[.string nm, .slice na ns.length nc, .slice ia is.length ic, .slice oa os.length oc, .slice ta ts.length tc] 27)).alloc (.cells #[.string nm] 9)) (by have h := jbQ (heap_alloc_new (w.alloc (.cells #[.string nm, .slice na ns.length nc, .slice ia is.length ic, .slice oa os.length oc, .slice ta ts.length tc] 27)) (.cells #[.string nm] 9)); rw [jaq] at h; exact h))
     have hb1 : ((w.alloc (.cells #[.string nm, .slice na ns.length nc, .slice ia is.length ic, .slice oa os.length oc, .slice ta ts.length tc] 27)).alloc (.cells #[.string nm] 9)).heap[w.heap.size]? = some (.cells #[.string nm, .slice na ns.length nc, .slice ia is.length ic, .slice oa os.length oc, .slice ta ts.length tc] 27 (0, 0)) := jbF _ _ _ _ _
     have gd : w.grownBy ((w.alloc (.cells #[.string nm, .slice na ns.length nc, .slice ia is.length ic, .slice oa os.length oc, .slice ta ts.length tc] 27)).alloc (.cells #[.string nm] 9)) none := jaa (jab _ _) (jab _ _)
     obtain ⟨⟨x0, x1, x2, x3, x4⟩, -⟩ := jay (heap_alloc_new w (.cells #[.string nm, .slice na ns.length nc, .slice ia is.length ic, .slice oa os.length oc, .slice ta ts.length tc] 27))
     go_enter Tryz.func35, Tryz.ntmps35
     go_wp2_with fail
     refine LG.out.mono ?_
     obtain ⟨wn, hwn⟩ : ∃ y9, y9 = (w.alloc (.cells #[.string nm, .slice na ns.length nc, .slice ia is.length ic, .slice oa os.length oc, .slice ta ts.length tc] 27)).alloc (.cells #[.string nm] 9) := ⟨_, rfl⟩
     rw [← hwn] at gd hb1 ⊢
     have G0 := jac gd
     have BX : Hid (∀ wx, wn.grownBy wx none → wx.heap[w.heap.size]? = some (.cells #[.string nm, .slice na ns.length nc, .slice ia is.length ic, .slice oa os.length oc, .slice ta ts.length tc] 27 (0, 0))) := fun wx hg => jag hb1 hg
     have HR := jac (HR0.out.more gd)
     obtain ⟨hn, hi, ho, ht, hN2, hI2, hO2, hT2⟩ := HR.out
     simp only [Sl.v] at hn hi ho ht
     rw [e1a, e1b, e1c] at hn
     rw [e2a, e2b, e2c] at hi
     rw [e3a, e3b, e3c] at ho
     rw [e4a, e4b, e4c] at ht
     have HN := jac hn
     have HI := jac hi
     have HO := jac ho
     have HT := jac ht
     have HHN := jac hN2
     have HHI := jac hI2
     have HHO := jac hO2
     have HHT := jac hT2
     clear hn hi ho ht hN2 hI2 hO2 hT2 hN hI hO hT HR HR0 e1a e1b e1c e2a e2b e2c e3a e3b e3c e4a e4b e4c hwn LG gd hb1 x0 x1 x2 x3 x4
     rintro e wq ⟨rfl, rfl⟩
     have G := jac (jae wn)
     obtain ⟨⟨x0, x1, x2, x3, x4⟩, -⟩ := jay (BX.out wn G.out)
     cases hl : jaR [nm] with
     | true =>
      have E2 : Hid (R0 = false) := by show _ = _; rw [E.out, hl]; simp
      clear E
      have E := E2
      clear E2 hl
      go_wp2
      go_ret
      exact ⟨congrArg (fun b => Ending.returned (Value.bool b)) E.out.symm, (jac (jaa G0.out G.out)).out⟩
     | false =>
      have E2 : Hid (R0 = (!je7 ns.length is.length os.length ts.length && (ns.all jfd && (ts.all jdX && (jbo is && jbo os))))) := by show _ = _; rw [E.out, hl]; rfl
      clear E hl
      have E := E2
      clear E2
      have TM := jac (jgD ⟨nm, ⟨na, ns.length, nc⟩, ⟨ia, is.length, ic⟩, ⟨oa, os.length, oc⟩, ⟨ta, ts.length, tc⟩⟩ wn hNN hNI hNT)
      unfold jdG at TM
      simp only at TM
      go_wp2_with fail
      refine TM.out.mono ?_
      rintro e wm ⟨rfl, hg⟩
      have G2 := jac hg
      clear hg TM G x0 x1 x2 x3 x4
      have G := G2
      clear G2
      obtain ⟨⟨x0, x1, x2, x3, x4⟩, -⟩ := jay (BX.out wm G.out)
      cases hm : je7 ns.length is.length os.length ts.length with
      | true =>
       have E2 : Hid (R0 = false) := by show _ = _; rw [E.out, hm]; simp
       clear E
       have E := E2
       clear E2 hm
       go_wp2
       go_ret
       exact ⟨congrArg (fun b => Ending.returned (Value.bool b)) E.out.symm, (jac (jaa G0.out G.out)).out⟩
      | false =>
       have E2 : Hid (R0 = (ns.all jfd && (ts.all jdX && (jbo is && jbo os)))) := by show _ = _; rw [E.out, hm]; rfl
       clear E hm
       have E := E2
       clear E2
       go_wp2
       clear x0 x1 x2 x3 x4
       go_loopg [18] ns.length (fun gh iv wr => ∃ k : Nat, gh = ns.length - k ∧ k ≤ ns.length ∧ iv = .int .i64 k ∧ wn.grownBy wr none ∧ R0 = ((ns.drop k).all jfd && (ts.all jdX && (jbo is && jbo os))))
       case atStart => exact ⟨0, rfl, Nat.zero_le _, rfl, G.out, by rw [List.drop_zero]; exact E.out⟩
       case round =>
        clear G E
        obtain ⟨k, rfl, hk, rfl, hg, he⟩ := hrel
        have G := jac hg
        have E := jac he
        clear hg he
        by_cases hlt : k < ns.length
        ·skip
         obtain ⟨xb, xo, rfl⟩ := (HN.out.more G.out).addr (k := k) (by rw [List.length_map]; exact hlt)
         have NC := IsL.nod (HN.out.more G.out) k (by rw [List.length_map]; exact hlt)
         simp only [List.getElem_map] at NC
         obtain ⟨e0, e1, e2, e3, e4⟩ := NC
         have hx0 := HHN.out ns[k] (List.getElem_mem hlt)
         have DS := List.drop_eq_getElem_cons hlt
         obtain ⟨p, hp⟩ : ∃ p, p = ns[k] := ⟨_, rfl⟩
         rw [← hp] at e0 e1 e2 e3 e4 hx0 DS
         obtain ⟨x, cx⟩ := p
         simp only at e0 e1 e2 e3 e4 hx0
         have HX := jac (NodeIn0.more hx0 G.out)
         clear hp hx0
         have E1 : Hid (R0 = ((ji3 x cx && (ns.drop (k + 1)).all jfd) && (ts.all jdX && (jbo is && jbo os)))) := by show _ = _; rw [E.out, DS]; rfl
         clear E DS
         have E := E1
         clear E1
         have gd := jab wr (.cells #[.string x.op, .string x.name, .slice x.iv.a x.iv.n x.iv.c, .string x.out, .slice x.av.a x.av.n x.av.c] 35)
         obtain ⟨⟨y0, y1, y2, y3, y4⟩, -⟩ := jay (heap_alloc_new wr (.cells #[.string x.op, .string x.name, .slice x.iv.a x.iv.n x.iv.c, .string x.out, .slice x.av.a x.av.n x.av.c] 35))
         go_wp2_with fail
         obtain ⟨wp, hwp⟩ : ∃ y9, y9 = wr.alloc (.cells #[.string x.op, .string x.name, .slice x.iv.a x.iv.n x.iv.c, .string x.out, .slice x.av.a x.av.n x.av.c] 35) := ⟨_, rfl⟩
         rw [← hwp] at gd ⊢
         have AT := jac (jg4 x cx wp (NodeIn0.more HX.out gd))
         unfold jhE at AT
         have G1 := jac (jaa G.out gd)
         clear hwp gd G e0 e1 e2 e3 e4 y0 y1 y2 y3 y4 HX
         refine AT.out.mono ?_
         rintro e wz ⟨rfl, hg⟩
         have G2 := jac (jaa G1.out hg)
         clear hg AT G1
         cases ht : ji3 x cx with
         | false =>
          have E2 : Hid (R0 = false) := by show _ = _; rw [E.out, ht]; rfl
          clear E
          have E := E2
          clear E2 ht
          go_wp2
          go_ret
          exact ⟨congrArg (fun b => Ending.returned (Value.bool b)) E.out.symm, (jac (jaa G0.out G2.out)).out⟩
         | true =>
          have E2 : Hid (R0 = ((ns.drop (k + 1)).all jfd && (ts.all jdX && (jbo is && jbo os)))) := by show _ = _; rw [E.out, ht]; rfl
          clear E ht
          have E := E2
          clear E2
          go_wp2_with fail
          go_roundg (ns.length - (k + 1))
          case measure => omega
          case rel => exact ⟨k + 1, rfl, by omega, by go_num, G2.out, E.out⟩
        ·obtain hkN : k = ns.length := by omega
         have E2 : Hid (R0 = (ts.all jdX && (jbo is && jbo os))) := by show _ = _; rw [E.out, List.drop_eq_nil_of_le (by omega)]; rfl
         clear E
         have E := E2
         clear E2
         subst hkN
         obtain ⟨⟨x0, x1, x2, x3, x4⟩, -⟩ := jay (BX.out wr G.out)
         go_wp2
         clear x0 x1 x2 x3 x4
         go_loopg [29] ts.length (fun gh iv wr => ∃ k : Nat, gh = ts.length - k ∧ k ≤ ts.length ∧ iv = .int .i64 k ∧ wn.grownBy wr none ∧ R0 = ((ts.drop k).all jdX && (jbo is && jbo os)))
         case atStart => exact ⟨0, rfl, Nat.zero_le _, rfl, G.out, by rw [List.drop_zero]; exact E.out⟩
         case round =>
          clear G E
          obtain ⟨k, rfl, hk, rfl, hg, he⟩ := hrel
          have G := jac hg
          have E := jac he
          clear hg he
          by_cases hlt : k < ts.length
          ·skip
           obtain ⟨xb, xo, rfl⟩ := (HT.out.more G.out).addr (k := k) (by rw [List.length_map]; exact hlt)
           have NC := IsL.nam (HT.out.more G.out) k (by rw [List.length_map]; exact hlt)
           simp only [List.getElem_map] at NC
           obtain ⟨e0, e1, e2, e3⟩ := NC
           have hx0 := HHT.out ts[k] (List.getElem_mem hlt)
           have DS := List.drop_eq_getElem_cons hlt
           obtain ⟨p, hp⟩ : ∃ p, p = ts[k] := ⟨_, rfl⟩
           rw [← hp] at e0 e1 e2 e3 hx0 DS
           obtain ⟨x, cx⟩ := p
           simp only at e0 e1 e2 e3 hx0
           have HX := jac (And.intro (jap.more hx0.1 G.out) (jap.more hx0.2 G.out))
           clear hp hx0
           have E1 : Hid (R0 = ((jdX (x, cx) && (ts.drop (k + 1)).all jdX) && (jbo is && jbo os))) := by show _ = _; rw [E.out, DS]; rfl
           clear E DS
           have E := E1
           clear E1
           have LG := jac (jaH (.slice (some ⟨wr.heap.size + 1, 0, none⟩) 1 1) [x.name] ((wr.alloc (.cells #[.string x.name, .int .i64 x.ty, .slice x.dv.a x.dv.n x.dv.c, .slice x.tv.a x.tv.n x.tv.c] 67)).alloc (.cells #[.string x.name] 9)) (by have h := jbQ (heap_alloc_new (wr.alloc (.cells #[.string x.name, .int .i64 x.ty, .slice x.dv.a x.dv.n x.dv.c, .slice x.tv.a x.tv.n x.tv.c] 67)) (.cells #[.string x.name] 9)); rw [jaq] at h; exact h))
           have hb1 : ((wr.alloc (.cells #[.string x.name, .int .i64 x.ty, .slice x.dv.a x.dv.n x.dv.c, .slice x.tv.a x.tv.n x.tv.c] 67)).alloc (.cells #[.string x.name] 9)).heap[wr.heap.size]? = some (.cells #[.string x.name, .int .i64 x.ty, .slice x.dv.a x.dv.n x.dv.c, .slice x.tv.a x.tv.n x.tv.c] 67 (0, 0)) := jbF _ _ _ _ _
           have gd : wr.grownBy ((wr.alloc (.cells #[.string x.name, .int .i64 x.ty, .slice x.dv.a x.dv.n x.dv.c, .slice x.tv.a x.tv.n x.tv.c] 67)).alloc (.cells #[.string x.name] 9)) none := jaa (jab _ _) (jab _ _)
           obtain ⟨⟨y0, y1, y2, y3⟩, -⟩ := jaP (heap_alloc_new wr (.cells #[.string x.name, .int .i64 x.ty, .slice x.dv.a x.dv.n x.dv.c, .slice x.tv.a x.tv.n x.tv.c] 67))
           go_wp2_with fail
           refine LG.out.mono ?_
           obtain ⟨wp, hwp⟩ : ∃ y9, y9 = (wr.alloc (.cells #[.string x.name, .int .i64 x.ty, .slice x.dv.a x.dv.n x.dv.c, .slice x.tv.a x.tv.n x.tv.c] 67)).alloc (.cells #[.string x.name] 9) := ⟨_, rfl⟩
           rw [← hwp] at gd hb1 ⊢
           have G2 := jac (jaa G.out gd)
           have HB := jac hb1
           have HX2 := jac (And.intro (jap.more HX.out.1 gd) (jap.more HX.out.2 gd))
           clear e3 hwp LG G gd hb1 e0 e1 e2 y0 y1 y2 y3
           rintro e wq ⟨rfl, rfl⟩
           obtain ⟨⟨y0, y1, y2, y3⟩, -⟩ := jaP HB.out
           cases hl : jaR [x.name] with
           | true =>
            have E2 : Hid (R0 = false) := by show _ = _; rw [E.out]; simp [jdX, hl]
            clear E
            have E := E2
            clear E2 hl
            go_wp2
            go_ret
            exact ⟨congrArg (fun b => Ending.returned (Value.bool b)) E.out.symm, (jac (jaa G0.out G2.out)).out⟩
           | false =>
            have PC := jac (jc0 x.ty (.slice x.dv.a x.dv.n x.dv.c) (.slice x.tv.a x.tv.n x.tv.c) cx.1 cx.2 wp HX2.out.1 HX2.out.2)
            go_wp2_with fail
            refine PC.out.mono ?_
            rintro e wz ⟨rfl, hg⟩
            have G3 := jac (jaa G2.out hg)
            clear hg G2 PC y0 y1 y2 y3
            have G2 := G3
            clear G3
            obtain ⟨pe, hpe⟩ : ∃ y9, y9 = pbE x.ty cx.1 cx.2 := ⟨_, rfl⟩
            rw [← hpe]
            by_cases hc : pe = 0
            ·have E2 : Hid (R0 = ((ts.drop (k + 1)).all jdX && (jbo is && jbo os))) := by show _ = _; rw [E.out]; simp [jdX, hl, ← hpe, hc]
             subst hc
             clear E hl hpe
             have E := E2
             clear E2
             go_wp2_with fail
             go_roundg (ts.length - (k + 1))
             case measure => omega
             case rel => exact ⟨k + 1, rfl, by omega, by go_num, G2.out, E.out⟩
            ·have hc2 : (pe == 0) = false := by simpa using hc
             have hc3 : (pe != 0) = true := by simpa using hc
             have E2 : Hid (R0 = false) := by show _ = _; rw [E.out]; simp [jdX, hl, ← hpe, hc]
             clear E
             have E := E2
             clear E2 hl hpe hc
             go_wp2
             go_ret
             exact ⟨congrArg (fun b => Ending.returned (Value.bool b)) E.out.symm, (jac (jaa G0.out G2.out)).out⟩
          ·obtain hkN : k = ts.length := by omega
           have E2 : Hid (R0 = (jbo is && jbo os)) := by show _ = _; rw [E.out, List.drop_eq_nil_of_le (by omega)]; rfl
           clear E
           have E := E2
           clear E2
           subst hkN
           obtain ⟨⟨x0, x1, x2, x3, x4⟩, -⟩ := jay (BX.out wr G.out)
           have VI := jac (jey (.slice ia is.length ic) is wr (HI.out.more G.out) (fun p hp => jap.more (HHI.out p hp) G.out))
           go_wp2_with fail
           refine VI.out.mono ?_
           rintro e wz ⟨rfl, hg⟩
           have G2 := jac (jaa G.out hg)
           clear hg VI G x0 x1 x2 x3 x4
           obtain ⟨⟨x0, x1, x2, x3, x4⟩, -⟩ := jay (BX.out wz G2.out)
           cases hv : jbo is with
           | false =>
            have E2 : Hid (R0 = false) := by show _ = _; rw [E.out, hv]; rfl
            clear E
            have E := E2
            clear E2 hv
            go_wp2
            go_ret
            exact ⟨congrArg (fun b => Ending.returned (Value.bool b)) E.out.symm, (jac (jaa G0.out G2.out)).out⟩
           | true =>
            have E2 : Hid (R0 = jbo os) := by show _ = _; rw [E.out, hv]; rfl
            clear E hv
            have E := E2
            clear E2
            have VO := jac (jey (.slice oa os.length oc) os wz (HO.out.more G2.out) (fun p hp => jap.more (HHO.out p hp) G2.out))
            go_wp2_with fail
            refine VO.out.mono ?_
            rintro e wy ⟨rfl, hg⟩
            have G3 := jac (jaa G2.out hg)
            clear hg VO G2 x0 x1 x2 x3 x4
            go_wp2
            go_ret
            exact ⟨congrArg (fun b => Ending.returned (Value.bool b)) E.out.symm, (jac (jaa G0.out G3.out)).out⟩
end Go.Proofs.YtbgbpfbjeleooaaGreat.Pd
namespace Go.Proofs.YtbgbpfbjeleooaaGreat.Pd
open Go.RowKit
open Wr (Fld)
def EncQ (w : World) (r : R ByteArray) (e : Ending) (w' : World) : Prop := w.grownBy w' none ∧ match r with
 | .ok s => e = .returned (.tuple #[.string s, .int .i64 0])
 | .error c => e = .returned (.tuple #[.string ⟨#[]⟩, .int .i64 c])
theorem jg6 (p : Addr) (w : World) :
    CallsD Tryz.prog 69 #[.pointer (some p)] .returning w fun e u' w' => e = .returned (.tuple #[]) ∧ u' = .returning ∧ w' = w := by
     refine callsD_of_wpS Tryz.func69 rfl fun c₀ cs hu => ?_
     apply wpS_seq
     apply wpS_region
     simp [wpOpsS, go_sem, recoverD, hu, Tryz.ntmps69, Exit.thenS]
     apply wpS_seq
     apply wpS_region
     simp [wpOpsS, go_sem, Exit.thenS]
     refine wpS_cond (t := false) (by simp [Act.eval, Array.replicate]) ?_
     simp only [Bool.false_eq_true, if_false]
     refine wpS_of_wp (wp_skip ?_)
     cases c₀
     simp_all [bodyPostS, results, Tryz.results69]
theorem jeD (p : Addr) (x c : Int) (older : List PanicEntry) (w : World) (hc : w.cell? p = some (.int .i64 x)) (hz : w.frozen? p = false) :
    CallsD Tryz.prog 69 #[.pointer (some p)] (.panicking ({ v := .iface 28 (.int .i64 c), recovered := false } :: older)) w fun e u' w' => e = .returned (.tuple #[]) ∧ u' = .panicking ({ v := .iface 28 (.int .i64 c), recovered := true } :: older) ∧ w' = w.setCell p (.int .i64 c) := by
     refine callsD_of_wpS Tryz.func69 rfl fun c₀ cs hu => ?_
     apply wpS_seq
     apply wpS_region
     simp [wpOpsS, go_sem, recoverD, hu, Tryz.ntmps69, Exit.thenS]
     apply wpS_seq
     apply wpS_region
     simp [wpOpsS, go_sem, Exit.thenS]
     refine wpS_cond (t := true) (by simp [Act.eval, Array.replicate]) ?_
     simp only [if_true]
     apply wpS_region
     have ha := jef c w
     simp [wpOpsS, go_sem, hc, hz, ha, bodyPostS, results, Tryz.results69]
theorem jgE (r : R ByteArray) (w : World) (ps : Nat) (HC : ∀ wx, w.grownBy wx none → Calls Tryz.prog 37 #[.pointer (some ⟨ps, 0, none⟩)] wx (jbv wx r fun s v _ => v = .string s)) :
    Calls Tryz.prog 36 #[.func (.func 37) #[] #[.pointer (some ⟨ps, 0, none⟩)]] w (EncQ w r) := by
     have hmf : ∀ (fn : Fn) (first cap : Array Value) (w : World), (Instr.makeFunc fn first cap).run Tryz.prog w = .ok (.func fn first cap) w := fun _ _ _ _ => rfl
     have H := jac HC
     clear HC
     go_enter_defers Tryz.func36, Tryz.ntmps36
     obtain ⟨w0, hw0⟩ : ∃ w0, w0 = w.alloc (.cells #[.int .i64 0] 28) := ⟨_, rfl⟩
     have g0 : Hid (w.grownBy w0 none) := by show w.grownBy w0 none; rw [hw0]; exact jab _ _
     have hb2 : w0.heap[w.heap.size]? = some (.cells #[.int .i64 0] 28 (0, 0)) := by rw [hw0]; exact heap_alloc_new w _
     have BX : Hid (∀ wx, w0.grownBy wx none → wx.heap[w.heap.size]? = some (.cells #[.int .i64 0] 28 (0, 0))) := fun wx hg => jag hb2 hg
     clear hb2
     go_wp2_with fail
     rw [← hw0]
     clear hw0
     have H1 := jac (H.out w0 g0.out)
     clear H
     cases r with
     | error c =>
      refine H1.out.mono ?_
      rintro e w1 ⟨hg, rfl⟩
      have B2 := BX.out w1 hg
      refine leaves_cons (f := 69) (args := #[.pointer (some ⟨w.heap.size, 0, none⟩)]) (by simp) (by simp [go_sem]) ?_
      refine (jeD ⟨w.heap.size, 0, none⟩ 0 c [] w1 (jcx B2) (frozen_of_row w1 _ 0 _ _ B2)).mono ?_
      rintro e u' w'' ⟨rfl, rfl, rfl⟩
      have h2 := heap_setCell_same w1 w.heap.size 0 _ _ (.int .i64 c) B2
      have gp := jam w1 w.heap.size 0 (.int .i64 c)
      have k5 := (cell_of_row _ _ 0 _ _ (0, 0) h2).trans rfl
      have gf : w.grownBy (w1.setCell ⟨w.heap.size, 0, none⟩ (.int .i64 c)) none := jaf (row := none) (jaa g0.out hg) gp (fun g e => by cases e; exact .inr (Nat.le_refl _))
      obtain ⟨wf, hwf⟩ : ∃ wf, wf = w1.setCell ⟨w.heap.size, 0, none⟩ (.int .i64 c) := ⟨_, rfl⟩
      rw [← hwf] at k5 gf ⊢
      clear hwf h2 B2 gp
      simp [Leaves, settle, results, Tryz.results36, go_sem, k5]
      exact ⟨gf, rfl⟩
     | ok s =>
      refine H1.out.mono ?_
      rintro e w1 ⟨hg, v, rfl, rfl⟩
      have B3 := BX.out w1 hg
      have e0x := jcx B3
      have e1x := frozen_of_row _ w.heap.size 0 _ _ B3
      have h2 := heap_setCell_same _ w.heap.size 0 _ _ (.int .i64 0) B3
      have gp := jam w1 w.heap.size 0 (.int .i64 0)
      have gf := jaf (row := none) (jaa g0.out hg) gp (fun g e => by cases e; exact .inr (Nat.le_refl _))
      have GF := jac gf
      have H2x := jac h2
      clear gp h2 gf
      go_wp2_with fail
      refine leaves_cons (f := 69) (args := #[.pointer (some ⟨w.heap.size, 0, none⟩)]) (by simp) (by simp [go_sem]) ?_
      refine (jg6 ⟨w.heap.size, 0, none⟩ _).mono ?_
      rintro e u' w'' ⟨rfl, rfl, rfl⟩
      have k5 := (cell_of_row _ _ 0 _ _ (0, 0) H2x.out).trans rfl
      obtain ⟨wf, hwf⟩ : ∃ wf, wf = w1.setCell ⟨w.heap.size, 0, none⟩ (.int .i64 0) := ⟨_, rfl⟩
      have hG := GF.out
      rw [← hwf] at k5 hG ⊢
      clear hwf H2x B3 GF e0x e1x
      simp [Leaves, settle, results, Tryz.results36, go_sem, k5]
      exact ⟨hG, rfl⟩
def jf1 (g : Gra) (ns : List (Nod × Ni)) (is os : List (Val × List Int)) (ts : List (Nam × List Int × List Int)) : R ByteArray := if jhZ g ns is os ts = true then jaY (jci g ns is os ts) else .error 1
theorem jg7 (g : Gra) (ns : List (Nod × Ni)) (is os : List (Val × List Int)) (ts : List (Nam × List Int × List Int)) (B : Nat) (w : World) (hr : RdG w g ns is os ts) (hsm : SmallG g ns is os ts)
    (hb : w.heap[B]? = some (.cells #[.string g.name, .slice g.nv.a g.nv.n g.nv.c, .slice g.iv.a g.iv.n g.iv.c, .slice g.ov.a g.ov.n g.ov.c, .slice g.tv.a g.tv.n g.tv.c] 27 (0, 0))) :
    Calls Tryz.prog 37 #[.pointer (some ⟨B, 0, none⟩)] w (jbv w (jaY (jci g ns is os ts)) fun s v _ => v = .string s) := by
     have WM := jac (jfk g ns is os ts w hr hsm)
     unfold jdG at WM
     obtain ⟨⟨x0, x1, x2, x3, x4⟩, -⟩ := jay hb
     clear hr hsm hb
     obtain ⟨R0, hR0⟩ : ∃ r, r = jaY (jci g ns is os ts) := ⟨_, rfl⟩
     rw [← hR0] at WM ⊢
     clear hR0
     go_enter Tryz.func37, Tryz.ntmps37
     go_wp2_with fail
     refine WM.out.mono ?_
     cases R0 with
     | error c =>
      rintro e w1 ⟨hg, rfl⟩
      exact ⟨rfl, jad rfl hg⟩
     | ok s =>
      rintro e w1 ⟨hg, v, rfl, rfl⟩
      have G1 := jac hg
      clear hg
      go_wp2
      go_ret
      exact jaC rfl G1.out rfl
theorem jh0 (g : Gra) (ns : List (Nod × Ni)) (is os : List (Val × List Int)) (ts : List (Nam × List Int × List Int)) (w : World) (hr : RdG w g ns is os ts) (hsm : jhZ g ns is os ts = true → SmallG g ns is os ts) :
    Calls Tryz.prog 14 #[jdG g] w (EncQ w (jf1 g ns is os ts)) := by
     have hmf : ∀ (fn : Fn) (first cap : Array Value) (w : World), (Instr.makeFunc fn first cap).run Tryz.prog w = .ok (.func fn first cap) w := fun _ _ _ _ => rfl
     obtain ⟨w0, hw0⟩ : ∃ w0, w0 = w.alloc (.cells #[.string g.name, .slice g.nv.a g.nv.n g.nv.c, .slice g.iv.a g.iv.n g.iv.c, .slice g.ov.a g.ov.n g.ov.c, .slice g.tv.a g.tv.n g.tv.c] 27) := ⟨_, rfl⟩
     have g0 : w.grownBy w0 none := by rw [hw0]; exact jab _ _
     have hb : w0.heap[w.heap.size]? = some (.cells #[.string g.name, .slice g.nv.a g.nv.n g.nv.c, .slice g.iv.a g.iv.n g.iv.c, .slice g.ov.a g.ov.n g.ov.c, .slice g.tv.a g.tv.n g.tv.c] 27 (0, 0)) := by rw [hw0]; exact heap_alloc_new w _
     obtain ⟨⟨x0, x1, x2, x3, x4⟩, -⟩ := jay hb
     have MT := jac (jg5 g ns is os ts w0 (hr.more g0))
     have HR := jac (hr.more g0)
     have HS := jac hsm
     have G0 := jac g0
     have HB := jac hb
     rw [hw0] at x0 x1 x2 x3 x4
     unfold jdG
     unfold jdG at MT
     obtain ⟨b, hbb⟩ : ∃ b, b = jhZ g ns is os ts := ⟨_, rfl⟩
     obtain ⟨R0, hR0⟩ : ∃ r, r = jf1 g ns is os ts := ⟨_, rfl⟩
     have E : Hid (R0 = if b = true then jaY (jci g ns is os ts) else .error 1) := by show _ = _; rw [hR0, hbb]; rfl
     rw [← hR0]
     rw [← hbb] at MT HS
     clear hR0 hbb hb g0 hr hsm
     go_enter Tryz.func14, Tryz.ntmps14
     go_wp2_with fail
     rw [← hw0]
     clear hw0 x0 x1 x2 x3 x4
     refine MT.out.mono ?_
     rintro e w1 ⟨rfl, hg⟩
     have G1 := jac (jaa G0.out hg)
     have HB1 := jac (jag HB.out hg)
     have HR1 := jac (HR.out.more hg)
     clear hg HB HR G0 MT
     cases b with
     | false =>
      go_wp2
      go_ret2
      exact ⟨G1.out, by rw [E.out]; rfl⟩
     | true =>
      have E2 : Hid (R0 = jaY (jci g ns is os ts)) := E.out
      clear E
      have AT := jac (jgE (jaY (jci g ns is os ts)) w1 w.heap.size (fun wx hg => jg7 g ns is os ts w.heap.size wx (HR1.out.more hg) (HS.out rfl) (jag HB1.out hg)))
      rw [← E2.out] at AT
      clear E2 HS HR1 HB1
      go_wp2_with fail
      refine AT.out.mono ?_
      clear AT
      cases R0 with
      | error c =>
       rintro e w2 ⟨hg, rfl⟩
       have G2 := jac (jaa G1.out hg)
       clear hg
       go_wp2
       go_ret2
       exact ⟨G2.out, rfl⟩
      | ok s =>
       rintro e w2 ⟨hg, rfl⟩
       have G2 := jac (jaa G1.out hg)
       clear hg
       go_wp2
       go_ret2
       exact ⟨G2.out, rfl⟩
end Go.Proofs.YtbgbpfbjeleooaaGreat.Pd
namespace Go.Proofs.YtbgbpfbjeleooaaGreat.Pd
open Go.RowKit
open Wr (Fld)
def jdF : ByteArray := ⟨#[58, 51, 10, 12, 10, 1, 120, 18, 1, 121, 34, 4, 82, 101, 108, 117, 18, 1, 103, 90, 15, 10, 1, 120, 18, 10, 10, 8, 8, 1, 18, 4, 10, 2, 8, 2, 98, 15, 10, 1, 121, 18, 10, 10, 8, 8, 1, 18, 4, 10, 2, 8, 2]⟩
def jcO (s : Sl) : List (Nod × Ni) := [(⟨⟨#[82, 101, 108, 117]⟩, ⟨#[]⟩, s, ⟨#[121]⟩, ⟨none, 0, 0⟩⟩, ⟨[⟨#[120]⟩], [], []⟩)]
def jcP (s : Sl) : List (Val × List Int) := [(⟨⟨#[120]⟩, 1, s⟩, [2])]
def jcQ (s : Sl) : List (Val × List Int) := [(⟨⟨#[121]⟩, 1, s⟩, [2])]
def ji5 : NGra := ⟨⟨#[103]⟩, [⟨⟨#[82, 101, 108, 117]⟩, ⟨#[]⟩, [⟨#[120]⟩], ⟨#[121]⟩, []⟩], [⟨⟨#[120]⟩, 1, [2]⟩], [⟨⟨#[121]⟩, 1, [2]⟩], []⟩
theorem jh1 (nv iv ov tv s1 s2 s3 : Sl) : jhZ ⟨⟨#[103]⟩, nv, iv, ov, tv⟩ (jcO s1) (jcP s2) (jcQ s3) [] = true := by kernel_rfl
theorem ji6 : jaY ji5 = .ok jdF := by kernel_rfl
theorem jh2 : jaQ jdF = .ok ji5 := by kernel_rfl
theorem ji7 : jaQ ⟨#[58, 0]⟩ = .ok ⟨⟨#[]⟩, [], [], [], []⟩ := by kernel_rfl
theorem ji8 : jaQ ⟨#[56, 1]⟩ = .error 3 := by kernel_rfl
theorem jh3 : jaQ ⟨#[]⟩ = .error 4 := by kernel_rfl
end Go.Proofs.YtbgbpfbjeleooaaGreat.Pd
