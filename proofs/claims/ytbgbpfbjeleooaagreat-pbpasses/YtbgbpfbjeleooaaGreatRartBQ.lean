/- A part. -/
import Derived.Test.YtbgbpfbjeleooaaGreatRartBP
import Derived.Test.YtbgbpfbjeleooaaGreatRartBB
import Derived.Test.YtbgbpfbjeleooaaGreatRartBD
set_option maxHeartbeats 12800000
set_option maxRecDepth 100000
namespace Go.Proofs.YtbgbpfbjeleooaaGreat.Pd
open Go.RowKit
open Wr (Fld)
theorem jgU (g : Gra) (w : World) (hn : g.nv.n ≤ 140737488351232) (hi : g.iv.n ≤ 140737488351232) (ht : g.tv.n ≤ 140737488351232) :
    Calls Tryz.prog 66 #[jc3 g] w fun e w' => e = .returned (.bool (jeD g.nv.n g.iv.n g.ov.n g.tv.n)) ∧ w.grownBy w' none := by
     obtain ⟨nm, ⟨na, nn, nc⟩, ⟨ia, iN, ic⟩, ⟨oa, oN, oc⟩, ⟨ta, tN, tc⟩⟩ := g
     unfold jc3 jeD
     simp only at hn hi ht ⊢
     have hb := heap_alloc_new w (.cells #[.string nm, .slice na nn nc, .slice ia iN ic, .slice oa oN oc, .slice ta tN tc] 27)
     have gg := jac (jab w (.cells #[.string nm, .slice na nn nc, .slice ia iN ic, .slice oa oN oc, .slice ta tN tc] 27))
     obtain ⟨⟨x0, x1, x2, x3, x4⟩, -⟩ := jay hb
     have e1 : wrap64 ((iN : Int) + (tN : Int)) = ((iN + tN : Nat) : Int) := by unfold wrap64; omega
     have e2 : wrap64 (((iN + tN : Nat) : Int) + (nn : Int)) = ((iN + tN + nn : Nat) : Int) := by unfold wrap64; omega
     clear hb
     by_cases h1 : 1000 < nn
     ·have d1 : decide ((1000 : Int) < (nn : Int)) = true := by simp; omega
      rw [decide_eq_true h1]
      clear h1 e1 e2
      go_enter Tryz.func66, Tryz.ntmps66
      go_wp2
      go_ret
      exact ⟨rfl, gg.out⟩
     ·have d1 : decide ((1000 : Int) < (nn : Int)) = false := by simp; omega
      rw [decide_eq_false h1]
      have k3 : decide ((3000 : Int) < (oN : Int)) = decide (3000 < oN) := by rw [decide_eq_decide]; omega
      by_cases h2 : (3000 : Int) < (iN : Int) + (tN : Int) + (nn : Int)
      ·have E : Hid ((false || decide (3000 < iN + tN + nn) || decide (3000 < oN)) = true) := by show _ = _; rw [decide_eq_true (by omega)]; rfl
       rw [E.out]
       clear h1 e1 e2 k3
       go_enter Tryz.func66, Tryz.ntmps66
       go_wp2
       go_ret
       exact ⟨rfl, gg.out⟩
      ·have E : Hid ((false || decide (3000 < iN + tN + nn) || decide (3000 < oN)) = decide ((3000 : Int) < (oN : Int))) := by show _ = _; rw [decide_eq_false (by omega), k3]; rfl
       rw [E.out]
       have d2 : decide ((3000 : Int) < (iN : Int) + (tN : Int) + (nn : Int)) = false := decide_eq_false h2
       clear h1 e1 e2 k3 h2
       go_enter Tryz.func66, Tryz.ntmps66
       go_wp2
       go_ret
       exact ⟨rfl, gg.out⟩
def jfq (p : Nod × Ni) : Bool := jjC p.1 p.2
def jdY (p : Nam × List Int × List Int) : Bool := !jaQ [p.1.name] && decide (pbE p.1.ty p.2.1 p.2.2 = 0)
def jir (g : Gra) (ns : List (Nod × Ni)) (is os : List (Val × List Int)) (ts : List (Nam × List Int × List Int)) : Bool :=
 !jaQ [g.name] && !jeD ns.length is.length os.length ts.length && (ns.all jfq && (ts.all jdY && (jbs is && jbs os)))
theorem jhs (g : Gra) (ns : List (Nod × Ni)) (is os : List (Val × List Int)) (ts : List (Nam × List Int × List Int)) (w : World) (hr : RdG w g ns is os ts) :
    Calls Tryz.prog 35 #[jc3 g] w fun e w' => e = .returned (.bool (jir g ns is os ts)) ∧ w.grownBy w' none := by
     obtain ⟨nm, nv, iv, ov, tv⟩ := g
     have HR0 := jac hr
     obtain ⟨hn, hi, ho, ht, hN, hI, hO, hT⟩ := hr
     simp only at hn hi ho ht
     obtain ⟨na, nc, e1, a1, a2, a3⟩ := hn.form
     obtain ⟨ia, ic, e2, b1, b2, b3⟩ := hi.form
     obtain ⟨oa, oc, e3, c1, c2, c3⟩ := ho.form
     obtain ⟨ta, tc, e4, d1, d2, d3⟩ := ht.form
     simp only [List.length_map] at a1 a2 a3 b1 b2 b3 c1 c2 c3 d1 d2 d3
     have hNN : ns.length ≤ 140737488351232 := by omega
     have hNI : is.length ≤ 140737488351232 := by omega
     have hNT : ts.length ≤ 140737488351232 := by omega
     clear a1 a2 a3 b1 b2 b3 c1 c2 c3 d1 d2 d3 hn hi ho ht
     unfold jc3
     simp only [Sl.v, Value.slice.injEq, List.length_map] at e1 e2 e3 e4
     obtain ⟨e1a, e1b, e1c⟩ := e1
     obtain ⟨e2a, e2b, e2c⟩ := e2
     obtain ⟨e3a, e3b, e3c⟩ := e3
     obtain ⟨e4a, e4b, e4c⟩ := e4
     simp only
     rw [e1a, e1b, e1c, e2a, e2b, e2c, e3a, e3b, e3c, e4a, e4b, e4c]
     obtain ⟨R0, hR0⟩ : ∃ r, r = jir ⟨nm, nv, iv, ov, tv⟩ ns is os ts := ⟨_, rfl⟩
     rw [← hR0]
     have E : Hid (R0 = (!jaQ [nm] && !jeD ns.length is.length os.length ts.length && (ns.all jfq && (ts.all jdY && (jbs is && jbs os))))) := hR0
     clear hR0
     have LG := jac (jaK (.slice (some ⟨w.heap.size + 1, 0, none⟩) 1 1) [nm] ((w.alloc (.cells #[.string nm, .slice na ns.length nc, .slice ia is.length ic, .slice oa os.length oc, .slice ta ts.length tc] 27)).alloc (.cells #[.string nm] 9)) (by have h := jb0 (heap_alloc_new (w.alloc (.cells #[.string nm, .slice na ns.length nc, .slice ia is.length ic, .slice oa os.length oc, .slice ta ts.length tc] 27)) (.cells #[.string nm] 9)); rw [jar] at h; exact h))
     have hb1 : ((w.alloc (.cells #[.string nm, .slice na ns.length nc, .slice ia is.length ic, .slice oa os.length oc, .slice ta ts.length tc] 27)).alloc (.cells #[.string nm] 9)).heap[w.heap.size]? = some (.cells #[.string nm, .slice na ns.length nc, .slice ia is.length ic, .slice oa os.length oc, .slice ta ts.length tc] 27 (0, 0)) := jbN _ _ _ _ _
     have gd : w.grownBy ((w.alloc (.cells #[.string nm, .slice na ns.length nc, .slice ia is.length ic, .slice oa os.length oc, .slice ta ts.length tc] 27)).alloc (.cells #[.string nm] 9)) none := jaa (jab _ _) (jab _ _)
     obtain ⟨⟨x0, x1, x2, x3, x4⟩, -⟩ := jay (heap_alloc_new w (.cells #[.string nm, .slice na ns.length nc, .slice ia is.length ic, .slice oa os.length oc, .slice ta ts.length tc] 27))
     go_enter Tryz.func35, Tryz.ntmps35
     go_wp2_with fail
     refine LG.out.mono ?_
     obtain ⟨wn, hwn⟩ : ∃ y9, y9 = (w.alloc (.cells #[.string nm, .slice na ns.length nc, .slice ia is.length ic, .slice oa os.length oc, .slice ta ts.length tc] 27)).alloc (.cells #[.string nm] 9) := ⟨_, rfl⟩
     rw [← hwn] at gd hb1 ⊢
     have G0 := jac gd
     have BX : Hid (∀ wx, wn.grownBy wx none → wx.heap[w.heap.size]? = some (.cells #[.string nm, .slice na ns.length nc, .slice ia is.length ic, .slice oa os.length oc, .slice ta ts.length tc] 27 (0, 0))) := fun wx hg => jag hb1 hg
     have HR := jac (HR0.out.more gd)
     obtain ⟨hn, hi, ho, ht, hN2, hI2, hO2, hT2⟩ := HR.out
     simp only [Sl.v] at hn hi ho ht
     rw [e1a, e1b, e1c] at hn
     rw [e2a, e2b, e2c] at hi
     rw [e3a, e3b, e3c] at ho
     rw [e4a, e4b, e4c] at ht
     have HN := jac hn
     have HI := jac hi
     have HO := jac ho
     have HT := jac ht
     have HHN := jac hN2
     have HHI := jac hI2
     have HHO := jac hO2
     have HHT := jac hT2
     clear hn hi ho ht hN2 hI2 hO2 hT2 hN hI hO hT HR HR0 e1a e1b e1c e2a e2b e2c e3a e3b e3c e4a e4b e4c hwn LG gd hb1 x0 x1 x2 x3 x4
     rintro e wq ⟨rfl, rfl⟩
     have G := jac (jae wn)
     obtain ⟨⟨x0, x1, x2, x3, x4⟩, -⟩ := jay (BX.out wn G.out)
     cases hl : jaQ [nm] with
     | true =>
      have E2 : Hid (R0 = false) := by show _ = _; rw [E.out, hl]; simp
      clear E
      have E := E2
      clear E2 hl
      go_wp2
      go_ret
      exact ⟨congrArg (fun b => Ending.returned (Value.bool b)) E.out.symm, (jac (jaa G0.out G.out)).out⟩
     | false =>
      have E2 : Hid (R0 = (!jeD ns.length is.length os.length ts.length && (ns.all jfq && (ts.all jdY && (jbs is && jbs os))))) := by show _ = _; rw [E.out, hl]; rfl
      clear E hl
      have E := E2
      clear E2
      have TM := jac (jgU ⟨nm, ⟨na, ns.length, nc⟩, ⟨ia, is.length, ic⟩, ⟨oa, os.length, oc⟩, ⟨ta, ts.length, tc⟩⟩ wn hNN hNI hNT)
      unfold jc3 at TM
      simp only at TM
      go_wp2_with fail
      refine TM.out.mono ?_
      rintro e wm ⟨rfl, hg⟩
      have G2 := jac hg
      clear hg TM G x0 x1 x2 x3 x4
      have G := G2
      clear G2
      obtain ⟨⟨x0, x1, x2, x3, x4⟩, -⟩ := jay (BX.out wm G.out)
      cases hm : jeD ns.length is.length os.length ts.length with
      | true =>
       have E2 : Hid (R0 = false) := by show _ = _; rw [E.out, hm]; simp
       clear E
       have E := E2
       clear E2 hm
       go_wp2
       go_ret
       exact ⟨congrArg (fun b => Ending.returned (Value.bool b)) E.out.symm, (jac (jaa G0.out G.out)).out⟩
      | false =>
       have E2 : Hid (R0 = (ns.all jfq && (ts.all jdY && (jbs is && jbs os)))) := by show _ = _; rw [E.out, hm]; rfl
       clear E hm
       have E := E2
       clear E2
       go_wp2
       clear x0 x1 x2 x3 x4
       go_loopg [18] ns.length (fun gh iv wr => ∃ k : Nat, gh = ns.length - k ∧ k ≤ ns.length ∧ iv = .int .i64 k ∧ wn.grownBy wr none ∧ R0 = ((ns.drop k).all jfq && (ts.all jdY && (jbs is && jbs os))))
       case atStart => exact ⟨0, rfl, Nat.zero_le _, rfl, G.out, by rw [List.drop_zero]; exact E.out⟩
       case round =>
        clear G E
        obtain ⟨k, rfl, hk, rfl, hg, he⟩ := hrel
        have G := jac hg
        have E := jac he
        clear hg he
        by_cases hlt : k < ns.length
        ·skip
         obtain ⟨xb, xo, rfl⟩ := (HN.out.more G.out).addr (k := k) (by rw [List.length_map]; exact hlt)
         have NC := IsL.nod (HN.out.more G.out) k (by rw [List.length_map]; exact hlt)
         simp only [List.getElem_map] at NC
         obtain ⟨e0, e1, e2, e3, e4⟩ := NC
         have hx0 := HHN.out ns[k] (List.getElem_mem hlt)
         have DS := List.drop_eq_getElem_cons hlt
         obtain ⟨p, hp⟩ : ∃ p, p = ns[k] := ⟨_, rfl⟩
         rw [← hp] at e0 e1 e2 e3 e4 hx0 DS
         obtain ⟨x, cx⟩ := p
         simp only at e0 e1 e2 e3 e4 hx0
         have HX := jac (NodeIn0.more hx0 G.out)
         clear hp hx0
         have E1 : Hid (R0 = ((jjC x cx && (ns.drop (k + 1)).all jfq) && (ts.all jdY && (jbs is && jbs os)))) := by show _ = _; rw [E.out, DS]; rfl
         clear E DS
         have E := E1
         clear E1
         have gd := jab wr (.cells #[.string x.op, .string x.name, .slice x.iv.a x.iv.n x.iv.c, .string x.out, .slice x.av.a x.av.n x.av.c] 35)
         obtain ⟨⟨y0, y1, y2, y3, y4⟩, -⟩ := jay (heap_alloc_new wr (.cells #[.string x.op, .string x.name, .slice x.iv.a x.iv.n x.iv.c, .string x.out, .slice x.av.a x.av.n x.av.c] 35))
         go_wp2_with fail
         obtain ⟨wp, hwp⟩ : ∃ y9, y9 = wr.alloc (.cells #[.string x.op, .string x.name, .slice x.iv.a x.iv.n x.iv.c, .string x.out, .slice x.av.a x.av.n x.av.c] 35) := ⟨_, rfl⟩
         rw [← hwp] at gd ⊢
         have AT := jac (jhr x cx wp (NodeIn0.more HX.out gd))
         unfold jh4 at AT
         have G1 := jac (jaa G.out gd)
         clear hwp gd G e0 e1 e2 e3 e4 y0 y1 y2 y3 y4 HX
         refine AT.out.mono ?_
         rintro e wz ⟨rfl, hg⟩
         have G2 := jac (jaa G1.out hg)
         clear hg AT G1
         cases ht : jjC x cx with
         | false =>
          have E2 : Hid (R0 = false) := by show _ = _; rw [E.out, ht]; rfl
          clear E
          have E := E2
          clear E2 ht
          go_wp2
          go_ret
          exact ⟨congrArg (fun b => Ending.returned (Value.bool b)) E.out.symm, (jac (jaa G0.out G2.out)).out⟩
         | true =>
          have E2 : Hid (R0 = ((ns.drop (k + 1)).all jfq && (ts.all jdY && (jbs is && jbs os)))) := by show _ = _; rw [E.out, ht]; rfl
          clear E ht
          have E := E2
          clear E2
          go_wp2_with fail
          go_roundg (ns.length - (k + 1))
          case measure => omega
          case rel => exact ⟨k + 1, rfl, by omega, by go_num, G2.out, E.out⟩
        ·obtain hkN : k = ns.length := by omega
         have E2 : Hid (R0 = (ts.all jdY && (jbs is && jbs os))) := by show _ = _; rw [E.out, List.drop_eq_nil_of_le (by omega)]; rfl
         clear E
         have E := E2
         clear E2
         subst hkN
         obtain ⟨⟨x0, x1, x2, x3, x4⟩, -⟩ := jay (BX.out wr G.out)
         go_wp2
         clear x0 x1 x2 x3 x4
         go_loopg [29] ts.length (fun gh iv wr => ∃ k : Nat, gh = ts.length - k ∧ k ≤ ts.length ∧ iv = .int .i64 k ∧ wn.grownBy wr none ∧ R0 = ((ts.drop k).all jdY && (jbs is && jbs os)))
         case atStart => exact ⟨0, rfl, Nat.zero_le _, rfl, G.out, by rw [List.drop_zero]; exact E.out⟩
         case round =>
          clear G E
          obtain ⟨k, rfl, hk, rfl, hg, he⟩ := hrel
          have G := jac hg
          have E := jac he
          clear hg he
          by_cases hlt : k < ts.length
          ·skip
           obtain ⟨xb, xo, rfl⟩ := (HT.out.more G.out).addr (k := k) (by rw [List.length_map]; exact hlt)
           have NC := IsL.nam (HT.out.more G.out) k (by rw [List.length_map]; exact hlt)
           simp only [List.getElem_map] at NC
           obtain ⟨e0, e1, e2, e3⟩ := NC
           have hx0 := HHT.out ts[k] (List.getElem_mem hlt)
           have DS := List.drop_eq_getElem_cons hlt
           obtain ⟨p, hp⟩ : ∃ p, p = ts[k] := ⟨_, rfl⟩
           rw [← hp] at e0 e1 e2 e3 hx0 DS
           obtain ⟨x, cx⟩ := p
           simp only at e0 e1 e2 e3 hx0
           have HX := jac (And.intro (jaw.more hx0.1 G.out) (jaw.more hx0.2 G.out))
           clear hp hx0
           have E1 : Hid (R0 = ((jdY (x, cx) && (ts.drop (k + 1)).all jdY) && (jbs is && jbs os))) := by show _ = _; rw [E.out, DS]; rfl
           clear E DS
           have E := E1
           clear E1
           have LG := jac (jaK (.slice (some ⟨wr.heap.size + 1, 0, none⟩) 1 1) [x.name] ((wr.alloc (.cells #[.string x.name, .int .i64 x.ty, .slice x.dv.a x.dv.n x.dv.c, .slice x.tv.a x.tv.n x.tv.c] 67)).alloc (.cells #[.string x.name] 9)) (by have h := jb0 (heap_alloc_new (wr.alloc (.cells #[.string x.name, .int .i64 x.ty, .slice x.dv.a x.dv.n x.dv.c, .slice x.tv.a x.tv.n x.tv.c] 67)) (.cells #[.string x.name] 9)); rw [jar] at h; exact h))
           have hb1 : ((wr.alloc (.cells #[.string x.name, .int .i64 x.ty, .slice x.dv.a x.dv.n x.dv.c, .slice x.tv.a x.tv.n x.tv.c] 67)).alloc (.cells #[.string x.name] 9)).heap[wr.heap.size]? = some (.cells #[.string x.name, .int .i64 x.ty, .slice x.dv.a x.dv.n x.dv.c, .slice x.tv.a x.tv.n x.tv.c] 67 (0, 0)) := jbN _ _ _ _ _
           have gd : wr.grownBy ((wr.alloc (.cells #[.string x.name, .int .i64 x.ty, .slice x.dv.a x.dv.n x.dv.c, .slice x.tv.a x.tv.n x.tv.c] 67)).alloc (.cells #[.string x.name] 9)) none := jaa (jab _ _) (jab _ _)
           obtain ⟨⟨y0, y1, y2, y3⟩, -⟩ := jaS (heap_alloc_new wr (.cells #[.string x.name, .int .i64 x.ty, .slice x.dv.a x.dv.n x.dv.c, .slice x.tv.a x.tv.n x.tv.c] 67))
           go_wp2_with fail
           refine LG.out.mono ?_
           obtain ⟨wp, hwp⟩ : ∃ y9, y9 = (wr.alloc (.cells #[.string x.name, .int .i64 x.ty, .slice x.dv.a x.dv.n x.dv.c, .slice x.tv.a x.tv.n x.tv.c] 67)).alloc (.cells #[.string x.name] 9) := ⟨_, rfl⟩
           rw [← hwp] at gd hb1 ⊢
           have G2 := jac (jaa G.out gd)
           have HB := jac hb1
           have HX2 := jac (And.intro (jaw.more HX.out.1 gd) (jaw.more HX.out.2 gd))
           clear e3 hwp LG G gd hb1 e0 e1 e2 y0 y1 y2 y3
           rintro e wq ⟨rfl, rfl⟩
           obtain ⟨⟨y0, y1, y2, y3⟩, -⟩ := jaS HB.out
           cases hl : jaQ [x.name] with
           | true =>
            have E2 : Hid (R0 = false) := by show _ = _; rw [E.out]; simp [jdY, hl]
            clear E
            have E := E2
            clear E2 hl
            go_wp2
            go_ret
            exact ⟨congrArg (fun b => Ending.returned (Value.bool b)) E.out.symm, (jac (jaa G0.out G2.out)).out⟩
           | false =>
            have PC := jac (jdS x.ty (.slice x.dv.a x.dv.n x.dv.c) (.slice x.tv.a x.tv.n x.tv.c) cx.1 cx.2 wp HX2.out.1 HX2.out.2)
            go_wp2_with fail
            refine PC.out.mono ?_
            rintro e wz ⟨rfl, hg⟩
            have G3 := jac (jaa G2.out hg)
            clear hg G2 PC y0 y1 y2 y3
            have G2 := G3
            clear G3
            obtain ⟨pe, hpe⟩ : ∃ y9, y9 = pbE x.ty cx.1 cx.2 := ⟨_, rfl⟩
            rw [← hpe]
            by_cases hc : pe = 0
            ·have E2 : Hid (R0 = ((ts.drop (k + 1)).all jdY && (jbs is && jbs os))) := by show _ = _; rw [E.out]; simp [jdY, hl, ← hpe, hc]
             subst hc
             clear E hl hpe
             have E := E2
             clear E2
             go_wp2_with fail
             go_roundg (ts.length - (k + 1))
             case measure => omega
             case rel => exact ⟨k + 1, rfl, by omega, by go_num, G2.out, E.out⟩
            ·have hc2 : (pe == 0) = false := by simpa using hc
             have hc3 : (pe != 0) = true := by simpa using hc
             have E2 : Hid (R0 = false) := by show _ = _; rw [E.out]; simp [jdY, hl, ← hpe, hc]
             clear E
             have E := E2
             clear E2 hl hpe hc
             go_wp2
             go_ret
             exact ⟨congrArg (fun b => Ending.returned (Value.bool b)) E.out.symm, (jac (jaa G0.out G2.out)).out⟩
          ·obtain hkN : k = ts.length := by omega
           have E2 : Hid (R0 = (jbs is && jbs os)) := by show _ = _; rw [E.out, List.drop_eq_nil_of_le (by omega)]; rfl
           clear E
           have E := E2
           clear E2
           subst hkN
           obtain ⟨⟨x0, x1, x2, x3, x4⟩, -⟩ := jay (BX.out wr G.out)
           have VI := jac (jeK (.slice ia is.length ic) is wr (HI.out.more G.out) (fun p hp => jaw.more (HHI.out p hp) G.out))
           go_wp2_with fail
           refine VI.out.mono ?_
           rintro e wz ⟨rfl, hg⟩
           have G2 := jac (jaa G.out hg)
           clear hg VI G x0 x1 x2 x3 x4
           obtain ⟨⟨x0, x1, x2, x3, x4⟩, -⟩ := jay (BX.out wz G2.out)
           cases hv : jbs is with
           | false =>
            have E2 : Hid (R0 = false) := by show _ = _; rw [E.out, hv]; rfl
            clear E
            have E := E2
            clear E2 hv
            go_wp2
            go_ret
            exact ⟨congrArg (fun b => Ending.returned (Value.bool b)) E.out.symm, (jac (jaa G0.out G2.out)).out⟩
           | true =>
            have E2 : Hid (R0 = jbs os) := by show _ = _; rw [E.out, hv]; rfl
            clear E hv
            have E := E2
            clear E2
            have VO := jac (jeK (.slice oa os.length oc) os wz (HO.out.more G2.out) (fun p hp => jaw.more (HHO.out p hp) G2.out))
            go_wp2_with fail
            refine VO.out.mono ?_
            rintro e wy ⟨rfl, hg⟩
            have G3 := jac (jaa G2.out hg)
            clear hg VO G2 x0 x1 x2 x3 x4
            go_wp2
            go_ret
            exact ⟨congrArg (fun b => Ending.returned (Value.bool b)) E.out.symm, (jac (jaa G0.out G3.out)).out⟩
end Go.Proofs.YtbgbpfbjeleooaaGreat.Pd
namespace Go.Proofs.YtbgbpfbjeleooaaGreat.Pd
open Go.RowKit
open Wr (Fld)
def EncQ (w : World) (r : R ByteArray) (e : Ending) (w' : World) : Prop := w.grownBy w' none ∧ match r with
 | .ok s => e = .returned (.tuple #[.string s, .int .i64 0])
 | .error c => e = .returned (.tuple #[.string ⟨#[]⟩, .int .i64 c])
theorem jht (p : Addr) (w : World) :
    CallsD Tryz.prog 69 #[.pointer (some p)] .returning w fun e u' w' => e = .returned (.tuple #[]) ∧ u' = .returning ∧ w' = w := by
     refine callsD_of_wpS Tryz.func69 rfl fun c₀ cs hu => ?_
     apply wpS_seq
     apply wpS_region
     simp [wpOpsS, go_sem, recoverD, hu, Tryz.ntmps69, Exit.thenS]
     apply wpS_seq
     apply wpS_region
     simp [wpOpsS, go_sem, Exit.thenS]
     refine wpS_cond (t := false) (by simp [Act.eval, Array.replicate]) ?_
     simp only [Bool.false_eq_true, if_false]
     refine wpS_of_wp (wp_skip ?_)
     cases c₀
     simp_all [bodyPostS, results, Tryz.results69]
theorem jeO (p : Addr) (x c : Int) (older : List PanicEntry) (w : World) (hc : w.cell? p = some (.int .i64 x)) (hz : w.frozen? p = false) :
    CallsD Tryz.prog 69 #[.pointer (some p)] (.panicking ({ v := .iface 28 (.int .i64 c), recovered := false } :: older)) w fun e u' w' => e = .returned (.tuple #[]) ∧ u' = .panicking ({ v := .iface 28 (.int .i64 c), recovered := true } :: older) ∧ w' = w.setCell p (.int .i64 c) := by
     refine callsD_of_wpS Tryz.func69 rfl fun c₀ cs hu => ?_
     apply wpS_seq
     apply wpS_region
     simp [wpOpsS, go_sem, recoverD, hu, Tryz.ntmps69, Exit.thenS]
     apply wpS_seq
     apply wpS_region
     simp [wpOpsS, go_sem, Exit.thenS]
     refine wpS_cond (t := true) (by simp [Act.eval, Array.replicate]) ?_
     simp only [if_true]
     apply wpS_region
     have ha := jel c w
     simp [wpOpsS, go_sem, hc, hz, ha, bodyPostS, results, Tryz.results69]
theorem jgV (r : R ByteArray) (w : World) (ps : Nat) (HC : ∀ wx, w.grownBy wx none → Calls Tryz.prog 37 #[.pointer (some ⟨ps, 0, none⟩)] wx (jbA wx r fun s v _ => v = .string s)) :
    Calls Tryz.prog 36 #[.func (.func 37) #[] #[.pointer (some ⟨ps, 0, none⟩)]] w (EncQ w r) := by
     have hmf : ∀ (fn : Fn) (first cap : Array Value) (w : World), (Instr.makeFunc fn first cap).run Tryz.prog w = .ok (.func fn first cap) w := fun _ _ _ _ => rfl
     have H := jac HC
     clear HC
     go_enter_defers Tryz.func36, Tryz.ntmps36
     obtain ⟨w0, hw0⟩ : ∃ w0, w0 = w.alloc (.cells #[.int .i64 0] 28) := ⟨_, rfl⟩
     have g0 : Hid (w.grownBy w0 none) := by show w.grownBy w0 none; rw [hw0]; exact jab _ _
     have hb2 : w0.heap[w.heap.size]? = some (.cells #[.int .i64 0] 28 (0, 0)) := by rw [hw0]; exact heap_alloc_new w _
     have BX : Hid (∀ wx, w0.grownBy wx none → wx.heap[w.heap.size]? = some (.cells #[.int .i64 0] 28 (0, 0))) := fun wx hg => jag hb2 hg
     clear hb2
     go_wp2_with fail
     rw [← hw0]
     clear hw0
     have H1 := jac (H.out w0 g0.out)
     clear H
     cases r with
     | error c =>
      refine H1.out.mono ?_
      rintro e w1 ⟨hg, rfl⟩
      have B2 := BX.out w1 hg
      refine leaves_cons (f := 69) (args := #[.pointer (some ⟨w.heap.size, 0, none⟩)]) (by simp) (by simp [go_sem]) ?_
      refine (jeO ⟨w.heap.size, 0, none⟩ 0 c [] w1 (jcG B2) (frozen_of_row w1 _ 0 _ _ B2)).mono ?_
      rintro e u' w'' ⟨rfl, rfl, rfl⟩
      have h2 := heap_setCell_same w1 w.heap.size 0 _ _ (.int .i64 c) B2
      have gp := jao w1 w.heap.size 0 (.int .i64 c)
      have k5 := (cell_of_row _ _ 0 _ _ (0, 0) h2).trans rfl
      have gf : w.grownBy (w1.setCell ⟨w.heap.size, 0, none⟩ (.int .i64 c)) none := jaf (row := none) (jaa g0.out hg) gp (fun g e => by cases e; exact .inr (Nat.le_refl _))
      obtain ⟨wf, hwf⟩ : ∃ wf, wf = w1.setCell ⟨w.heap.size, 0, none⟩ (.int .i64 c) := ⟨_, rfl⟩
      rw [← hwf] at k5 gf ⊢
      clear hwf h2 B2 gp
      simp [Leaves, settle, results, Tryz.results36, go_sem, k5]
      exact ⟨gf, rfl⟩
     | ok s =>
      refine H1.out.mono ?_
      rintro e w1 ⟨hg, v, rfl, rfl⟩
      have B3 := BX.out w1 hg
      have e0x := jcG B3
      have e1x := frozen_of_row _ w.heap.size 0 _ _ B3
      have h2 := heap_setCell_same _ w.heap.size 0 _ _ (.int .i64 0) B3
      have gp := jao w1 w.heap.size 0 (.int .i64 0)
      have gf := jaf (row := none) (jaa g0.out hg) gp (fun g e => by cases e; exact .inr (Nat.le_refl _))
      have GF := jac gf
      have H2x := jac h2
      clear gp h2 gf
      go_wp2_with fail
      refine leaves_cons (f := 69) (args := #[.pointer (some ⟨w.heap.size, 0, none⟩)]) (by simp) (by simp [go_sem]) ?_
      refine (jht ⟨w.heap.size, 0, none⟩ _).mono ?_
      rintro e u' w'' ⟨rfl, rfl, rfl⟩
      have k5 := (cell_of_row _ _ 0 _ _ (0, 0) H2x.out).trans rfl
      obtain ⟨wf, hwf⟩ : ∃ wf, wf = w1.setCell ⟨w.heap.size, 0, none⟩ (.int .i64 0) := ⟨_, rfl⟩
      have hG := GF.out
      rw [← hwf] at k5 hG ⊢
      clear hwf H2x B3 GF e0x e1x
      simp [Leaves, settle, results, Tryz.results36, go_sem, k5]
      exact ⟨hG, rfl⟩
def jgj (g : Gra) (ns : List (Nod × Ni)) (is os : List (Val × List Int)) (ts : List (Nam × List Int × List Int)) : R ByteArray := if jir g ns is os ts = true then ja0 (jcg g ns is os ts) else .error 1
theorem jhu (g : Gra) (ns : List (Nod × Ni)) (is os : List (Val × List Int)) (ts : List (Nam × List Int × List Int)) (B : Nat) (w : World) (hr : RdG w g ns is os ts) (hsm : SmallG g ns is os ts)
    (hb : w.heap[B]? = some (.cells #[.string g.name, .slice g.nv.a g.nv.n g.nv.c, .slice g.iv.a g.iv.n g.iv.c, .slice g.ov.a g.ov.n g.ov.c, .slice g.tv.a g.tv.n g.tv.c] 27 (0, 0))) :
    Calls Tryz.prog 37 #[.pointer (some ⟨B, 0, none⟩)] w (jbA w (ja0 (jcg g ns is os ts)) fun s v _ => v = .string s) := by
     have WM := jac (jfy g ns is os ts w hr hsm)
     unfold jc3 at WM
     obtain ⟨⟨x0, x1, x2, x3, x4⟩, -⟩ := jay hb
     clear hr hsm hb
     obtain ⟨R0, hR0⟩ : ∃ r, r = ja0 (jcg g ns is os ts) := ⟨_, rfl⟩
     rw [← hR0] at WM ⊢
     clear hR0
     go_enter Tryz.func37, Tryz.ntmps37
     go_wp2_with fail
     refine WM.out.mono ?_
     cases R0 with
     | error c =>
      rintro e w1 ⟨hg, rfl⟩
      exact ⟨rfl, jad rfl hg⟩
     | ok s =>
      rintro e w1 ⟨hg, v, rfl, rfl⟩
      have G1 := jac hg
      clear hg
      go_wp2
      go_ret
      exact jaE rfl G1.out rfl
theorem jis (g : Gra) (ns : List (Nod × Ni)) (is os : List (Val × List Int)) (ts : List (Nam × List Int × List Int)) (w : World) (hr : RdG w g ns is os ts) (hsm : jir g ns is os ts = true → SmallG g ns is os ts) :
    Calls Tryz.prog 14 #[jc3 g] w (EncQ w (jgj g ns is os ts)) := by
     have hmf : ∀ (fn : Fn) (first cap : Array Value) (w : World), (Instr.makeFunc fn first cap).run Tryz.prog w = .ok (.func fn first cap) w := fun _ _ _ _ => rfl
     obtain ⟨w0, hw0⟩ : ∃ w0, w0 = w.alloc (.cells #[.string g.name, .slice g.nv.a g.nv.n g.nv.c, .slice g.iv.a g.iv.n g.iv.c, .slice g.ov.a g.ov.n g.ov.c, .slice g.tv.a g.tv.n g.tv.c] 27) := ⟨_, rfl⟩
     have g0 : w.grownBy w0 none := by rw [hw0]; exact jab _ _
     have hb : w0.heap[w.heap.size]? = some (.cells #[.string g.name, .slice g.nv.a g.nv.n g.nv.c, .slice g.iv.a g.iv.n g.iv.c, .slice g.ov.a g.ov.n g.ov.c, .slice g.tv.a g.tv.n g.tv.c] 27 (0, 0)) := by rw [hw0]; exact heap_alloc_new w _
     obtain ⟨⟨x0, x1, x2, x3, x4⟩, -⟩ := jay hb
     have MT := jac (jhs g ns is os ts w0 (hr.more g0))
     have HR := jac (hr.more g0)
     have HS := jac hsm
     have G0 := jac g0
     have HB := jac hb
     rw [hw0] at x0 x1 x2 x3 x4
     unfold jc3
     unfold jc3 at MT
     obtain ⟨b, hbb⟩ : ∃ b, b = jir g ns is os ts := ⟨_, rfl⟩
     obtain ⟨R0, hR0⟩ : ∃ r, r = jgj g ns is os ts := ⟨_, rfl⟩
     have E : Hid (R0 = if b = true then ja0 (jcg g ns is os ts) else .error 1) := by show _ = _; rw [hR0, hbb]; rfl
     rw [← hR0]
     rw [← hbb] at MT HS
     clear hR0 hbb hb g0 hr hsm
     go_enter Tryz.func14, Tryz.ntmps14
     go_wp2_with fail
     rw [← hw0]
     clear hw0 x0 x1 x2 x3 x4
     refine MT.out.mono ?_
     rintro e w1 ⟨rfl, hg⟩
     have G1 := jac (jaa G0.out hg)
     have HB1 := jac (jag HB.out hg)
     have HR1 := jac (HR.out.more hg)
     clear hg HB HR G0 MT
     cases b with
     | false =>
      go_wp2
      go_ret2
      exact ⟨G1.out, by rw [E.out]; rfl⟩
     | true =>
      have E2 : Hid (R0 = ja0 (jcg g ns is os ts)) := E.out
      clear E
      have AT := jac (jgV (ja0 (jcg g ns is os ts)) w1 w.heap.size (fun wx hg => jhu g ns is os ts w.heap.size wx (HR1.out.more hg) (HS.out rfl) (jag HB1.out hg)))
      rw [← E2.out] at AT
      clear E2 HS HR1 HB1
      go_wp2_with fail
      refine AT.out.mono ?_
      clear AT
      cases R0 with
      | error c =>
       rintro e w2 ⟨hg, rfl⟩
       have G2 := jac (jaa G1.out hg)
       clear hg
       go_wp2
       go_ret2
       exact ⟨G2.out, rfl⟩
      | ok s =>
       rintro e w2 ⟨hg, rfl⟩
       have G2 := jac (jaa G1.out hg)
       clear hg
       go_wp2
       go_ret2
       exact ⟨G2.out, rfl⟩
end Go.Proofs.YtbgbpfbjeleooaaGreat.Pd
namespace Go.Proofs.YtbgbpfbjeleooaaGreat.Pd
open Go.RowKit
open Wr (Fld)
def WP {α : Type} (r : R α) (Q : α → Prop) : Prop := match r with
 | .ok a => Q a
 | .error c => c = 6
theorem WP.bind {α β : Type} {r : R α} {f : α → R β} {Q : α → Prop} {P : β → Prop} (h : WP r Q) (k : ∀ a, Q a → WP (f a) P) : WP (r.bind f) P := by
 cases r with
 | ok a => exact k a h
 | error c => exact h
theorem WP.mono {α : Type} {r : R α} {Q P : α → Prop} (h : WP r Q) (k : ∀ a, Q a → P a) : WP r P := by
 cases r with
 | ok a => exact k a h
 | error c => exact h
def Lst (m : List Fld × Nat) (l : List Fld) : Prop := m.1 = l ∧ ∀ x ∈ l, Wr.fok x = true ∧ Wr.FldIn x
theorem Lst.nil : Lst ([], 0) [] := ⟨rfl, fun x hx => by cases hx⟩
theorem jgk {σ : Type} (f : σ → Fld → R σ) (r : List Fld) : ∀ (l : List Fld) (a : σ), jaH f a (l ++ r) = (jaH f a l).bind fun b => jaH f b r
 | [], a => rfl
 | x :: l, a => by
  show (f a x).bind _ = ((f a x).bind _).bind _
  cases h : f a x with
  | error c => rfl
  | ok b => exact jgk f r l b
theorem jlC {σ : Type} {f : σ → Fld → R σ} {a b : σ} {l r : List Fld} (h : jaH f a l = .ok b) : jaH f a (l ++ r) = jaH f b r := by rw [jgk, h]; rfl
theorem jhS {σ : Type} {f : σ → Fld → R σ} {a b : σ} {x : Fld} (h : f a x = .ok b) : jaH f a [x] = .ok b := by show (f a x).bind _ = _; rw [h]; rfl
end Go.Proofs.YtbgbpfbjeleooaaGreat.Pd
namespace Go.Proofs.YtbgbpfbjeleooaaGreat.Pd
open Go.RowKit
open Wr (Fld)
def I64 (l : List Int) : Prop := ∀ x ∈ l, -9223372036854775808 ≤ x ∧ x ≤ 9223372036854775807
end Go.Proofs.YtbgbpfbjeleooaaGreat.Pd
namespace Go.Proofs.YtbgbpfbjeleooaaGreat.Pd
open Go.RowKit
open Wr (Fld)
structure TA (A : NAtr) : Prop where
 kind : jcI A = .ok A
 long : jaQ [A.name, A.s] = false
 few : A.ints.length ≤ 20
 flt : A.kind = 1 → chk 1 A.f = true
 ten : A.kind = 4 → pbE A.ty A.dims A.data = 0
 rd : I64 A.data
 ri : I64 A.ints
 r1 : I64 [A.i]
structure TN (N : NNod) : Prop where
 li : jaQ N.ins = false
 ln : jaQ [N.out, N.name, N.op] = false
 fi : N.ins.length ≤ 20
 fa : N.attrs.length ≤ 20
 at' : ∀ A ∈ N.attrs, TA A
structure TT (T : NTen) : Prop where
 long : jaQ [T.name] = false
 ok : pbE T.ty T.dims T.data = 0
 rd : I64 T.data
structure TV (V : NVal) : Prop where
 long : jaQ [V.name] = false
 ty : chk V.ty 0 = true
 ok : jde V.dims = 0
structure TG (G : NGra) : Prop where
 long : jaQ [G.name] = false
 few : jeD G.nodes.length G.ins.length G.outs.length G.inits.length = false
 nodes : ∀ N ∈ G.nodes, TN N
 inits : ∀ T ∈ G.inits, TT T
 ins : ∀ V ∈ G.ins, TV V
 outs : ∀ V ∈ G.outs, TV V
end Go.Proofs.YtbgbpfbjeleooaaGreat.Pd
namespace Go.Proofs.YtbgbpfbjeleooaaGreat.Pd
open Go.RowKit
open Wr (Fld)
theorem jeq {σ : Type} {f : σ → Fld → R σ} {P : σ → Prop} (hs : ∀ a x b, f a x = .ok b → P a → P b) : ∀ (l : List Fld) {a b : σ}, jaH f a l = .ok b → P a → P b
 | [], a, b, h, k => by cases h; exact k
 | x :: l, a, b, h, k => by
  obtain ⟨c, h1, h2⟩ := jai (show (f a x).bind _ = .ok b from h)
  exact jeq hs l h2 (hs a x c h1 k)
theorem jhT {e : Int} {u : Unit} (h : jet e = .ok u) : e = 0 := by
 unfold jet at h
 split at h
 ·assumption
 ·cases h
def R64 (x : Int) : Prop := -9223372036854775808 ≤ x ∧ x ≤ 9223372036854775807
theorem jhU {x : Fld} {y : Int} (h : jbv x = .ok y) : R64 y := by
 rcases jbK x with ⟨z, k, r⟩ | k
 ·rw [k] at h; cases h; exact r
 ·rw [k] at h; cases h
theorem jlc {b : Int} (h : R64 b) : R64 (jbw b) := by
 unfold jbw
 split
 ·exact h
 ·exact ⟨by decide, by decide⟩
theorem jkJ (b : Int) : chk 1 (jbw b) = true := by
 unfold jbw
 split
 ·assumption
 ·decide
theorem jjE {x : Fld} {y : Int} (h : jcx x = .ok y) : R64 y ∧ chk 1 y = true := by
 unfold jcx at h
 obtain ⟨_, -, h⟩ := jai h
 cases h
 exact ⟨jlc (jbt _), jkJ _⟩
theorem jjF (t u : Int) : R64 (jbE t u) := by
 unfold jbE
 split
 ·exact jlc (jbt _)
 split
 ·exact jbt _
 ·exact jbt _
theorem jjG (t : Int) (w : Nat) (s : ByteArray) : ∀ n p, I64 (jcE t w s n p)
 | 0, _ => fun x hx => by cases hx
 | n + 1, p => fun x hx => by
  rcases List.mem_cons.1 hx with rfl | hx
  ·exact jjF _ _
  ·exact jjG t w s n _ x hx
theorem jfP (t : Int) (s : ByteArray) : I64 (jbn t s) := by
 unfold jbn
 split
 ·exact jjG _ _ _ _ _
 ·exact fun x hx => by cases hx
theorem jgl {a b : List Int} (ha : I64 a) (hb : I64 b) : I64 (a ++ b) := fun x hx => (List.mem_append.1 hx).elim (ha x) (hb x)
theorem jfr {a l : List Int} {x : Fld} (h : ja7 a x = .ok l) (ha : I64 a) : I64 l := by
 unfold ja7 at h
 split at h
 ·obtain ⟨y, h1, h2⟩ := jai h
  cases h2
  exact jgl ha fun z hz => by rw [List.mem_singleton.1 hz]; exact jhU h1
 ·obtain ⟨y, h1, h2⟩ := jai h
  cases h2
  refine jgl ha fun z hz => ?_
  unfold jeu at h1
  split at h1
  ·cases h1
  ·cases h1
   obtain ⟨u, -, rfl⟩ := List.mem_map.1 hz
   exact jbt _
theorem jkK {a l : List Int} {x : Fld} (h : jb4 a x = .ok l) (ha : I64 a) : I64 l := by
 unfold jb4 at h
 split at h
 ·obtain ⟨y, h1, h2⟩ := jai h
  cases h2
  exact jgl ha fun z hz => by rw [List.mem_singleton.1 hz]; exact (jjE h1).1
 ·obtain ⟨_, -, h2⟩ := jai h
  cases h2
  exact jgl ha (jfP _ _)
def P64 (p : Prt) : Prop := I64 p.fl ∧ I64 p.i32 ∧ I64 p.i64
theorem jkL {a b : TSt} {x : Fld} (h : jaT a x = .ok b) (k : P64 a.p) : P64 b.p := by
 unfold jaT at h
 split at h
 ·obtain ⟨_, -, h⟩ := jai h; cases h; exact k
 split at h
 ·obtain ⟨_, -, h⟩ := jai h; cases h; exact k
 split at h
 ·obtain ⟨_, h1, h⟩ := jai h; cases h; exact ⟨jkK h1 k.1, k.2⟩
 split at h
 ·obtain ⟨_, h1, h⟩ := jai h; cases h; exact ⟨k.1, jfr h1 k.2.1, k.2.2⟩
 split at h
 ·obtain ⟨_, h1, h⟩ := jai h; cases h; exact ⟨k.1, k.2.1, jfr h1 k.2.2⟩
 split at h
 ·obtain ⟨_, -, h⟩ := jai h; cases h; exact k
 split at h
 ·obtain ⟨_, -, h⟩ := jai h; cases h; exact k
 ·cases h; exact k
theorem jcm : I64 [] := fun x hx => by cases hx
theorem jhV {s : ByteArray} {T : NTen} (h : jaC s = .ok T) : TT T := by
 unfold jaC at h
 obtain ⟨l, -, h⟩ := jai h
 obtain ⟨t, h1, h⟩ := jai h
 obtain ⟨_, h2, h⟩ := jai h
 obtain ⟨_, h3, h⟩ := jai h
 cases h
 have k : P64 t.p := jeq (P := fun t => P64 t.p) (fun a x b => jkL) l h1 ⟨jcm, jcm, jcm⟩
 refine ⟨jbS h3, jhT h2, ?_⟩
 show I64 (jeh t.ty t.p)
 unfold jeh
 split
 ·exact jfP _ _
 split
 ·exact k.1
 split
 ·exact k.2.2
 ·exact k.2.1
theorem jhW {s : ByteArray} {V : NVal} (h : jaL s = .ok V) : TV V := by
 unfold jaL at h
 obtain ⟨l, -, h⟩ := jai h
 obtain ⟨t, -, h⟩ := jai h
 obtain ⟨_, -, h⟩ := jai h
 obtain ⟨⟨ty, ds⟩, h1, h⟩ := jai h
 obtain ⟨_, h2, h⟩ := jai h
 cases h
 unfold jbd at h1
 obtain ⟨_, -, h1⟩ := jai h1
 obtain ⟨_, -, h1⟩ := jai h1
 obtain ⟨_, -, h1⟩ := jai h1
 obtain ⟨_, h3, h1⟩ := jai h1
 cases h1
 unfold jas at h3
 obtain ⟨_, -, h3⟩ := jai h3
 obtain ⟨_, -, h3⟩ := jai h3
 obtain ⟨_, -, h3⟩ := jai h3
 obtain ⟨_, -, h3⟩ := jai h3
 obtain ⟨_, h4, h3⟩ := jai h3
 obtain ⟨_, h5, h3⟩ := jai h3
 cases h3
 exact ⟨jbS h2, by have := jbS h4; simpa using this, jhT h5⟩
def Q64 (a : ASt) : Prop := chk 1 a.f = true ∧ R64 a.i ∧ I64 a.ints
theorem jkM {a b : ASt} {x : Fld} (h : jaU a x = .ok b) (k : Q64 a) : Q64 b := by
 unfold jaU at h
 split at h
 ·obtain ⟨_, -, h⟩ := jai h; cases h; exact k
 split at h
 ·obtain ⟨_, h1, h⟩ := jai h; cases h; exact ⟨(jjE h1).2, k.2⟩
 split at h
 ·obtain ⟨_, h1, h⟩ := jai h; cases h; exact ⟨k.1, jhU h1, k.2.2⟩
 split at h
 ·obtain ⟨_, -, h⟩ := jai h; cases h; exact k
 split at h
 ·obtain ⟨_, -, h⟩ := jai h; cases h; exact k
 split at h
 ·obtain ⟨_, h1, h⟩ := jai h; cases h; exact ⟨k.1, k.2.1, jfr h1 k.2.2⟩
 split at h
 ·obtain ⟨_, -, h⟩ := jai h; cases h; exact k
 ·cases h; exact k
theorem jit {B A : NAtr} (h : jcI B = .ok A) : jcI A = .ok A := by
 unfold jcI at h
 split at h
 ·rename_i k; cases h; unfold jcI; rw [if_pos k]
 split at h
 ·rename_i k1 k; cases h; unfold jcI; rw [if_neg k1, if_pos k]
 split at h
 ·rename_i k1 k2 k; cases h; unfold jcI; rw [if_neg k1, if_neg k2, if_pos k]
 split at h
 ·rename_i k1 k2 k3 k; cases h; unfold jcI; rw [if_neg k1, if_neg k2, if_neg k3, if_pos k]
 split at h
 ·rename_i k1 k2 k3 k4 k; cases h; unfold jcI; rw [if_neg k1, if_neg k2, if_neg k3, if_neg k4, if_pos k]
 ·cases h
theorem jlD {B A : NAtr} (h : jcI B = .ok A) (hf : chk 1 B.f = true) (hi : R64 B.i) (hs : I64 B.ints) (hd : I64 B.data) (hp : B.kind = 4 → pbE B.ty B.dims B.data = 0) : (A.kind = 1 → chk 1 A.f = true) ∧ (A.kind = 4 → pbE A.ty A.dims A.data = 0) ∧ I64 A.data ∧ I64 A.ints ∧ I64 [A.i] := by
 have r0 : I64 [0] := fun x hx => by rw [List.mem_singleton.1 hx]; exact ⟨by decide, by decide⟩
 have ri : I64 [B.i] := fun x hx => by rw [List.mem_singleton.1 hx]; exact hi
 unfold jcI at h
 split at h
 ·rename_i k; cases h; exact ⟨fun _ => hf, fun e => by simp only at e; omega, jcm, jcm, r0⟩
 split at h
 ·rename_i k1 k; cases h; exact ⟨fun e => by simp only at e; omega, fun e => by simp only at e; omega, jcm, jcm, ri⟩
 split at h
 ·rename_i k1 k2 k; cases h; exact ⟨fun e => by simp only at e; omega, fun e => by simp only at e; omega, jcm, jcm, r0⟩
 split at h
 ·rename_i k1 k2 k3 k; cases h; exact ⟨fun e => by simp only at e; omega, fun e => hp k, hd, jcm, r0⟩
 split at h
 ·rename_i k1 k2 k3 k4 k; cases h; exact ⟨fun e => by simp only at e; omega, fun e => by simp only at e; omega, jcm, hs, r0⟩
 ·cases h
theorem jjH {B A : NAtr} (h : jcI B = .ok A) : A.kind = B.kind := by
 unfold jcI at h
 split at h
 ·cases h; rfl
 split at h
 ·cases h; rfl
 split at h
 ·cases h; rfl
 split at h
 ·cases h; rfl
 split at h
 ·cases h; rfl
 ·cases h
theorem jkN {s : ByteArray} {A : NAtr} (h : jav s = .ok A) : TA A := by
 unfold jav at h
 obtain ⟨l, -, h⟩ := jai h
 obtain ⟨t, h1, h⟩ := jai h
 have k : Q64 t := jeq (P := Q64) (fun a x b => jkM) l h1 ⟨by decide, ⟨by decide, by decide⟩, jcm⟩
 unfold jfj at h
 obtain ⟨T, h2, h⟩ := jai h
 obtain ⟨B, h3, h⟩ := jai h
 obtain ⟨_, h4, h⟩ := jai h
 obtain ⟨_, h5, h⟩ := jai h
 cases h
 have k4 := jbS h4
 have k5 := jbS h5
 rw [Bool.or_eq_false_iff] at k5
 have hT : I64 T.data ∧ (t.kind = 4 → pbE T.ty T.dims T.data = 0) := by
  unfold jkt at h2
  split at h2
  ·rename_i h0
   cases h2
   refine ⟨jcm, fun e => ?_⟩
   have e2 : A.kind = 4 := (jjH h3).trans e
   rw [e2, h0] at k4
   cases k4
  ·have := jhV h2
   exact ⟨this.rd, fun _ => this.ok⟩
 obtain ⟨r1, r2, r3, r4, r5⟩ := jlD h3 k.1 k.2.1 k.2.2 hT.1 hT.2
 exact ⟨jit h3, k5.1, by have := k5.2; simp at this; omega, r1, r2, r3, r4, r5⟩
theorem jkO {a b : NSt} {x : Fld} (h : jaN a x = .ok b) (k : ∀ A ∈ a.attrs, TA A) : ∀ A ∈ b.attrs, TA A := by
 unfold jaN at h
 split at h
 ·obtain ⟨_, -, h⟩ := jai h; cases h; exact k
 split at h
 ·obtain ⟨_, -, h⟩ := jai h; cases h; exact k
 split at h
 ·obtain ⟨_, -, h⟩ := jai h; cases h; exact k
 split at h
 ·obtain ⟨_, -, h⟩ := jai h; cases h; exact k
 split at h
 ·obtain ⟨_, -, h⟩ := jai h
  obtain ⟨B, h1, h⟩ := jai h
  cases h
  intro A hA
  rcases List.mem_append.1 hA with e | e
  ·exact k A e
  ·rw [List.mem_singleton.1 e]; exact jkN h1
 split at h
 ·obtain ⟨_, -, h⟩ := jai h; cases h; exact k
 ·cases h; exact k
theorem jkP {s : ByteArray} {N : NNod} (h : jaA s = .ok N) : TN N := by
 unfold jaA at h
 obtain ⟨l, -, h⟩ := jai h
 obtain ⟨t, h1, h⟩ := jai h
 have k : ∀ A ∈ t.attrs, TA A := jeq (P := fun t => ∀ A ∈ NSt.attrs t, TA A) (fun a x b => jkO) l h1 (fun A hA => by cases hA)
 unfold jfK at h
 obtain ⟨_, -, h⟩ := jai h
 obtain ⟨_, -, h⟩ := jai h
 obtain ⟨_, h2, h⟩ := jai h
 obtain ⟨_, h3, h⟩ := jai h
 cases h
 have k2 := jbS h2
 have k3 := jbS h3
 rw [Bool.or_eq_false_iff] at k2 k3
 exact ⟨k2.1, k2.2, by have := k3.1; simp at this; exact this, by have := k3.2; simp at this; exact this, k⟩
structure SG (G : NGra) : Prop where
 nodes : ∀ N ∈ G.nodes, TN N
 inits : ∀ T ∈ G.inits, TT T
 ins : ∀ V ∈ G.ins, TV V
 outs : ∀ V ∈ G.outs, TV V
theorem je0 {α : Type} {P : α → Prop} {l : List α} {x : α} (h : ∀ y ∈ l, P y) (hx : P x) : ∀ y ∈ l ++ [x], P y := fun y hy => (List.mem_append.1 hy).elim (h y) fun e => by rw [List.mem_singleton.1 e]; exact hx
theorem jkQ {a b : NGra} {x : Fld} (h : jat a x = .ok b) (k : SG a) : SG b := by
 obtain ⟨k1, k2, k3, k4⟩ := k
 unfold jat at h
 split at h
 ·obtain ⟨_, -, h⟩ := jai h; obtain ⟨_, e, h⟩ := jai h; cases h; exact ⟨je0 k1 (jkP e), k2, k3, k4⟩
 split at h
 ·obtain ⟨_, -, h⟩ := jai h; cases h; exact ⟨k1, k2, k3, k4⟩
 split at h
 ·obtain ⟨_, -, h⟩ := jai h; obtain ⟨_, e, h⟩ := jai h; cases h; exact ⟨k1, je0 k2 (jhV e), k3, k4⟩
 split at h
 ·obtain ⟨_, -, h⟩ := jai h; obtain ⟨_, e, h⟩ := jai h; cases h; exact ⟨k1, k2, je0 k3 (jhW e), k4⟩
 split at h
 ·obtain ⟨_, -, h⟩ := jai h; obtain ⟨_, e, h⟩ := jai h; cases h; exact ⟨k1, k2, k3, je0 k4 (jhW e)⟩
 ·cases h; exact ⟨k1, k2, k3, k4⟩
theorem jkR {s : ByteArray} {G : NGra} (h : jaI s = .ok G) : TG G := by
 unfold jaI at h
 obtain ⟨l, -, h⟩ := jai h
 obtain ⟨t, h1, h⟩ := jai h
 have k : SG t := jeq (P := SG) (fun a x b => jkQ) l h1 ⟨fun A hA => (by cases hA), fun A hA => (by cases hA), fun A hA => (by cases hA), fun A hA => (by cases hA)⟩
 unfold jfM at h
 obtain ⟨_, h2, h⟩ := jai h
 cases h
 have k2 := jbS h2
 rw [Bool.or_eq_false_iff] at k2
 exact ⟨k2.1, k2.2, k.nodes, k.inits, k.ins, k.outs⟩
theorem jkS {s : ByteArray} {G : NGra} (h : jal s = .ok G) : TG G := by
 unfold jal at h
 obtain ⟨l, -, h⟩ := jai h
 obtain ⟨t, -, h⟩ := jai h
 obtain ⟨_, -, h⟩ := jai h
 exact jkR h
end Go.Proofs.YtbgbpfbjeleooaaGreat.Pd
namespace Go.Proofs.YtbgbpfbjeleooaaGreat.Pd
open Go.RowKit
open Wr (Fld)
def jdJ : ByteArray := ⟨#[58, 51, 10, 12, 10, 1, 120, 18, 1, 121, 34, 4, 82, 101, 108, 117, 18, 1, 103, 90, 15, 10, 1, 120, 18, 10, 10, 8, 8, 1, 18, 4, 10, 2, 8, 2, 98, 15, 10, 1, 121, 18, 10, 10, 8, 8, 1, 18, 4, 10, 2, 8, 2]⟩
def jcS (s : Sl) : List (Nod × Ni) := [(⟨⟨#[82, 101, 108, 117]⟩, ⟨#[]⟩, s, ⟨#[121]⟩, ⟨none, 0, 0⟩⟩, ⟨[⟨#[120]⟩], [], []⟩)]
def jcT (s : Sl) : List (Val × List Int) := [(⟨⟨#[120]⟩, 1, s⟩, [2])]
def jcU (s : Sl) : List (Val × List Int) := [(⟨⟨#[121]⟩, 1, s⟩, [2])]
def jjI : NGra := ⟨⟨#[103]⟩, [⟨⟨#[82, 101, 108, 117]⟩, ⟨#[]⟩, [⟨#[120]⟩], ⟨#[121]⟩, []⟩], [⟨⟨#[120]⟩, 1, [2]⟩], [⟨⟨#[121]⟩, 1, [2]⟩], []⟩
theorem jiu (nv iv ov tv s1 s2 s3 : Sl) : jir ⟨⟨#[103]⟩, nv, iv, ov, tv⟩ (jcS s1) (jcT s2) (jcU s3) [] = true := by kernel_rfl
theorem jjJ : ja0 jjI = .ok jdJ := by kernel_rfl
theorem jiv : jal jdJ = .ok jjI := by kernel_rfl
theorem jjK : jal ⟨#[58, 0]⟩ = .ok ⟨⟨#[]⟩, [], [], [], []⟩ := by kernel_rfl
theorem jjL : jal ⟨#[56, 1]⟩ = .error 3 := by kernel_rfl
theorem jiw : jal ⟨#[]⟩ = .error 4 := by kernel_rfl
end Go.Proofs.YtbgbpfbjeleooaaGreat.Pd
