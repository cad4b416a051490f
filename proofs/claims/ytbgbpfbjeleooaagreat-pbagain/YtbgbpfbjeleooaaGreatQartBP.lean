/- A part. -/
import Derived.Test.YtbgbpfbjeleooaaGreatQartBO
import Derived.Test.YtbgbpfbjeleooaaGreatQartBA
import Derived.Test.YtbgbpfbjeleooaaGreatQartBC
set_option maxHeartbeats 12800000
set_option maxRecDepth 100000
namespace Go.Proofs.YtbgbpfbjeleooaaGreat.Pd
open Go.RowKit
open Wr (Fld)
theorem jhc (g : Gra) (w : World) (hn : g.nv.n ≤ 140737488351232) (hi : g.iv.n ≤ 140737488351232) (ht : g.tv.n ≤ 140737488351232) :
    Calls Tryz.prog 66 #[jdb g] w fun e w' => e = .returned (.bool (jeG g.nv.n g.iv.n g.ov.n g.tv.n)) ∧ w.grownBy w' none := by
     obtain ⟨nm, ⟨na, nn, nc⟩, ⟨ia, iN, ic⟩, ⟨oa, oN, oc⟩, ⟨ta, tN, tc⟩⟩ := g
     unfold jdb jeG
     simp only at hn hi ht ⊢
     have hb := heap_alloc_new w (.cells #[.string nm, .slice na nn nc, .slice ia iN ic, .slice oa oN oc, .slice ta tN tc] 27)
     have gg := jac (jab w (.cells #[.string nm, .slice na nn nc, .slice ia iN ic, .slice oa oN oc, .slice ta tN tc] 27))
     obtain ⟨⟨x0, x1, x2, x3, x4⟩, -⟩ := jaz hb
     have e1 : wrap64 ((iN : Int) + (tN : Int)) = ((iN + tN : Nat) : Int) := by unfold wrap64; omega
     have e2 : wrap64 (((iN + tN : Nat) : Int) + (nn : Int)) = ((iN + tN + nn : Nat) : Int) := by unfold wrap64; omega
     clear hb
     by_cases h1 : 1000 < nn
     ·have d1 : decide ((1000 : Int) < (nn : Int)) = true := by simp; omega
      rw [decide_eq_true h1]
      clear h1 e1 e2
      go_enter Tryz.func66, Tryz.ntmps66
      go_wp2
      go_ret
      exact ⟨rfl, gg.out⟩
     ·have d1 : decide ((1000 : Int) < (nn : Int)) = false := by simp; omega
      rw [decide_eq_false h1]
      have k3 : decide ((3000 : Int) < (oN : Int)) = decide (3000 < oN) := by rw [decide_eq_decide]; omega
      by_cases h2 : (3000 : Int) < (iN : Int) + (tN : Int) + (nn : Int)
      ·have E : Hid ((false || decide (3000 < iN + tN + nn) || decide (3000 < oN)) = true) := by show _ = _; rw [decide_eq_true (by omega)]; rfl
       rw [E.out]
       clear h1 e1 e2 k3
       go_enter Tryz.func66, Tryz.ntmps66
       go_wp2
       go_ret
       exact ⟨rfl, gg.out⟩
      ·have E : Hid ((false || decide (3000 < iN + tN + nn) || decide (3000 < oN)) = decide ((3000 : Int) < (oN : Int))) := by show _ = _; rw [decide_eq_false (by omega), k3]; rfl
       rw [E.out]
       have d2 : decide ((3000 : Int) < (iN : Int) + (tN : Int) + (nn : Int)) = false := decide_eq_false h2
       clear h1 e1 e2 k3 h2
       go_enter Tryz.func66, Tryz.ntmps66
       go_wp2
       go_ret
       exact ⟨rfl, gg.out⟩
def je7 (p : Nod × Ni) : Bool := jhO p.1 p.2
def jdR (p : Nam × List Int × List Int) : Bool := !jaL [p.1.name] && decide (pbE p.1.ty p.2.1 p.2.2 = 0)
def jhd (g : Gra) (ns : List (Nod × Ni)) (is os : List (Val × List Int)) (ts : List (Nam × List Int × List Int)) : Bool :=
 !jaL [g.name] && !jeG ns.length is.length os.length ts.length && (ns.all je7 && (ts.all jdR && (jbw is && jbw os)))
theorem jhQ (g : Gra) (ns : List (Nod × Ni)) (is os : List (Val × List Int)) (ts : List (Nam × List Int × List Int)) (w : World) (hr : RdG w g ns is os ts) :
    Calls Tryz.prog 35 #[jdb g] w fun e w' => e = .returned (.bool (jhd g ns is os ts)) ∧ w.grownBy w' none := by
     obtain ⟨nm, nv, iv, ov, tv⟩ := g
     have HR0 := jac hr
     obtain ⟨hn, hi, ho, ht, hN, hI, hO, hT⟩ := hr
     simp only at hn hi ho ht
     obtain ⟨na, nc, e1, a1, a2, a3⟩ := hn.form
     obtain ⟨ia, ic, e2, b1, b2, b3⟩ := hi.form
     obtain ⟨oa, oc, e3, c1, c2, c3⟩ := ho.form
     obtain ⟨ta, tc, e4, d1, d2, d3⟩ := ht.form
     simp only [List.length_map] at a1 a2 a3 b1 b2 b3 c1 c2 c3 d1 d2 d3
     have hNN : ns.length ≤ 140737488351232 := by omega
     have hNI : is.length ≤ 140737488351232 := by omega
     have hNT : ts.length ≤ 140737488351232 := by omega
     clear a1 a2 a3 b1 b2 b3 c1 c2 c3 d1 d2 d3 hn hi ho ht
     unfold jdb
     simp only [Sl.v, Value.slice.injEq, List.length_map] at e1 e2 e3 e4
     obtain ⟨e1a, e1b, e1c⟩ := e1
     obtain ⟨e2a, e2b, e2c⟩ := e2
     obtain ⟨e3a, e3b, e3c⟩ := e3
     obtain ⟨e4a, e4b, e4c⟩ := e4
     simp only
     rw [e1a, e1b, e1c, e2a, e2b, e2c, e3a, e3b, e3c, e4a, e4b, e4c]
     obtain ⟨R0, hR0⟩ : ∃ r, r = jhd ⟨nm, nv, iv, ov, tv⟩ ns is os ts := ⟨_, rfl⟩
     rw [← hR0]
     have E : Hid (R0 = (!jaL [nm] && !jeG ns.length is.length os.length ts.length && (ns.all je7 && (ts.all jdR && (jbw is && jbw os))))) := hR0
     clear hR0
     have LG := jac (jaQ (.slice (some ⟨w.heap.size + 1, 0, none⟩) 1 1) [nm] ((w.alloc (.cells #[.string nm, .slice na ns.length nc, .slice ia is.length ic, .slice oa os.length oc, .slice ta ts.length tc] 27)).alloc (.cells #[.string nm] 9)) (by have h := jb8 (heap_alloc_new (w.alloc (.cells #[.string nm, .slice na ns.length nc, .slice ia is.length ic, .slice oa os.length oc, .slice ta ts.length tc] 27)) (.cells #[.string nm] 9)); rw [jas] at h; exact h))
     have hb1 : ((w.alloc (.cells #[.string nm, .slice na ns.length nc, .slice ia is.length ic, .slice oa os.length oc, .slice ta ts.length tc] 27)).alloc (.cells #[.string nm] 9)).heap[w.heap.size]? = some (.cells #[.string nm, .slice na ns.length nc, .slice ia is.length ic, .slice oa os.length oc, .slice ta ts.length tc] 27 (0, 0)) := jbV _ _ _ _ _
     have gd : w.grownBy ((w.alloc (.cells #[.string nm, .slice na ns.length nc, .slice ia is.length ic, .slice oa os.length oc, .slice ta ts.length tc] 27)).alloc (.cells #[.string nm] 9)) none := jaa (jab _ _) (jab _ _)
     obtain ⟨⟨x0, x1, x2, x3, x4⟩, -⟩ := jaz (heap_alloc_new w (.cells #[.string nm, .slice na ns.length nc, .slice ia is.length ic, .slice oa os.length oc, .slice ta ts.length tc] 27))
     go_enter Tryz.func35, Tryz.ntmps35
     go_wp2_with fail
     refine LG.out.mono ?_
     obtain ⟨wn, hwn⟩ : ∃ y9, y9 = (w.alloc (.cells #[.string nm, .slice na ns.length nc, .slice ia is.length ic, .slice oa os.length oc, .slice ta ts.length tc] 27)).alloc (.cells #[.string nm] 9) := ⟨_, rfl⟩
     rw [← hwn] at gd hb1 ⊢
     have G0 := jac gd
     have BX : Hid (∀ wx, wn.grownBy wx none → wx.heap[w.heap.size]? = some (.cells #[.string nm, .slice na ns.length nc, .slice ia is.length ic, .slice oa os.length oc, .slice ta ts.length tc] 27 (0, 0))) := fun wx hg => jag hb1 hg
     have HR := jac (HR0.out.more gd)
     obtain ⟨hn, hi, ho, ht, hN2, hI2, hO2, hT2⟩ := HR.out
     simp only [Sl.v] at hn hi ho ht
     rw [e1a, e1b, e1c] at hn
     rw [e2a, e2b, e2c] at hi
     rw [e3a, e3b, e3c] at ho
     rw [e4a, e4b, e4c] at ht
     have HN := jac hn
     have HI := jac hi
     have HO := jac ho
     have HT := jac ht
     have HHN := jac hN2
     have HHI := jac hI2
     have HHO := jac hO2
     have HHT := jac hT2
     clear hn hi ho ht hN2 hI2 hO2 hT2 hN hI hO hT HR HR0 e1a e1b e1c e2a e2b e2c e3a e3b e3c e4a e4b e4c hwn LG gd hb1 x0 x1 x2 x3 x4
     rintro e wq ⟨rfl, rfl⟩
     have G := jac (jae wn)
     obtain ⟨⟨x0, x1, x2, x3, x4⟩, -⟩ := jaz (BX.out wn G.out)
     cases hl : jaL [nm] with
     | true =>
      have E2 : Hid (R0 = false) := by show _ = _; rw [E.out, hl]; simp
      clear E
      have E := E2
      clear E2 hl
      go_wp2
      go_ret
      exact ⟨congrArg (fun b => Ending.returned (Value.bool b)) E.out.symm, (jac (jaa G0.out G.out)).out⟩
     | false =>
      have E2 : Hid (R0 = (!jeG ns.length is.length os.length ts.length && (ns.all je7 && (ts.all jdR && (jbw is && jbw os))))) := by show _ = _; rw [E.out, hl]; rfl
      clear E hl
      have E := E2
      clear E2
      have TM := jac (jhc ⟨nm, ⟨na, ns.length, nc⟩, ⟨ia, is.length, ic⟩, ⟨oa, os.length, oc⟩, ⟨ta, ts.length, tc⟩⟩ wn hNN hNI hNT)
      unfold jdb at TM
      simp only at TM
      go_wp2_with fail
      refine TM.out.mono ?_
      rintro e wm ⟨rfl, hg⟩
      have G2 := jac hg
      clear hg TM G x0 x1 x2 x3 x4
      have G := G2
      clear G2
      obtain ⟨⟨x0, x1, x2, x3, x4⟩, -⟩ := jaz (BX.out wm G.out)
      cases hm : jeG ns.length is.length os.length ts.length with
      | true =>
       have E2 : Hid (R0 = false) := by show _ = _; rw [E.out, hm]; simp
       clear E
       have E := E2
       clear E2 hm
       go_wp2
       go_ret
       exact ⟨congrArg (fun b => Ending.returned (Value.bool b)) E.out.symm, (jac (jaa G0.out G.out)).out⟩
      | false =>
       have E2 : Hid (R0 = (ns.all je7 && (ts.all jdR && (jbw is && jbw os)))) := by show _ = _; rw [E.out, hm]; rfl
       clear E hm
       have E := E2
       clear E2
       go_wp2
       clear x0 x1 x2 x3 x4
       go_loopg [18] ns.length (fun gh iv wr => ∃ k : Nat, gh = ns.length - k ∧ k ≤ ns.length ∧ iv = .int .i64 k ∧ wn.grownBy wr none ∧ R0 = ((ns.drop k).all je7 && (ts.all jdR && (jbw is && jbw os))))
       case atStart => exact ⟨0, rfl, Nat.zero_le _, rfl, G.out, by rw [List.drop_zero]; exact E.out⟩
       case round =>
        clear G E
        obtain ⟨k, rfl, hk, rfl, hg, he⟩ := hrel
        have G := jac hg
        have E := jac he
        clear hg he
        by_cases hlt : k < ns.length
        ·skip
         obtain ⟨xb, xo, rfl⟩ := (HN.out.more G.out).addr (k := k) (by rw [List.length_map]; exact hlt)
         have NC := IsL.nod (HN.out.more G.out) k (by rw [List.length_map]; exact hlt)
         simp only [List.getElem_map] at NC
         obtain ⟨e0, e1, e2, e3, e4⟩ := NC
         have hx0 := HHN.out ns[k] (List.getElem_mem hlt)
         have DS := List.drop_eq_getElem_cons hlt
         obtain ⟨p, hp⟩ : ∃ p, p = ns[k] := ⟨_, rfl⟩
         rw [← hp] at e0 e1 e2 e3 e4 hx0 DS
         obtain ⟨x, cx⟩ := p
         simp only at e0 e1 e2 e3 e4 hx0
         have HX := jac (NodeIn0.more hx0 G.out)
         clear hp hx0
         have E1 : Hid (R0 = ((jhO x cx && (ns.drop (k + 1)).all je7) && (ts.all jdR && (jbw is && jbw os)))) := by show _ = _; rw [E.out, DS]; rfl
         clear E DS
         have E := E1
         clear E1
         have gd := jab wr (.cells #[.string x.op, .string x.name, .slice x.iv.a x.iv.n x.iv.c, .string x.out, .slice x.av.a x.av.n x.av.c] 35)
         obtain ⟨⟨y0, y1, y2, y3, y4⟩, -⟩ := jaz (heap_alloc_new wr (.cells #[.string x.op, .string x.name, .slice x.iv.a x.iv.n x.iv.c, .string x.out, .slice x.av.a x.av.n x.av.c] 35))
         go_wp2_with fail
         obtain ⟨wp, hwp⟩ : ∃ y9, y9 = wr.alloc (.cells #[.string x.op, .string x.name, .slice x.iv.a x.iv.n x.iv.c, .string x.out, .slice x.av.a x.av.n x.av.c] 35) := ⟨_, rfl⟩
         rw [← hwp] at gd ⊢
         have AT := jac (jhP x cx wp (NodeIn0.more HX.out gd))
         unfold jiz at AT
         have G1 := jac (jaa G.out gd)
         clear hwp gd G e0 e1 e2 e3 e4 y0 y1 y2 y3 y4 HX
         refine AT.out.mono ?_
         rintro e wz ⟨rfl, hg⟩
         have G2 := jac (jaa G1.out hg)
         clear hg AT G1
         cases ht : jhO x cx with
         | false =>
          have E2 : Hid (R0 = false) := by show _ = _; rw [E.out, ht]; rfl
          clear E
          have E := E2
          clear E2 ht
          go_wp2
          go_ret
          exact ⟨congrArg (fun b => Ending.returned (Value.bool b)) E.out.symm, (jac (jaa G0.out G2.out)).out⟩
         | true =>
          have E2 : Hid (R0 = ((ns.drop (k + 1)).all je7 && (ts.all jdR && (jbw is && jbw os)))) := by show _ = _; rw [E.out, ht]; rfl
          clear E ht
          have E := E2
          clear E2
          go_wp2_with fail
          go_roundg (ns.length - (k + 1))
          case measure => omega
          case rel => exact ⟨k + 1, rfl, by omega, by go_num, G2.out, E.out⟩
        ·obtain hkN : k = ns.length := by omega
         have E2 : Hid (R0 = (ts.all jdR && (jbw is && jbw os))) := by show _ = _; rw [E.out, List.drop_eq_nil_of_le (by omega)]; rfl
         clear E
         have E := E2
         clear E2
         subst hkN
         obtain ⟨⟨x0, x1, x2, x3, x4⟩, -⟩ := jaz (BX.out wr G.out)
         go_wp2
         clear x0 x1 x2 x3 x4
         go_loopg [29] ts.length (fun gh iv wr => ∃ k : Nat, gh = ts.length - k ∧ k ≤ ts.length ∧ iv = .int .i64 k ∧ wn.grownBy wr none ∧ R0 = ((ts.drop k).all jdR && (jbw is && jbw os)))
         case atStart => exact ⟨0, rfl, Nat.zero_le _, rfl, G.out, by rw [List.drop_zero]; exact E.out⟩
         case round =>
          clear G E
          obtain ⟨k, rfl, hk, rfl, hg, he⟩ := hrel
          have G := jac hg
          have E := jac he
          clear hg he
          by_cases hlt : k < ts.length
          ·skip
           obtain ⟨xb, xo, rfl⟩ := (HT.out.more G.out).addr (k := k) (by rw [List.length_map]; exact hlt)
           have NC := IsL.nam (HT.out.more G.out) k (by rw [List.length_map]; exact hlt)
           simp only [List.getElem_map] at NC
           obtain ⟨e0, e1, e2, e3⟩ := NC
           have hx0 := HHT.out ts[k] (List.getElem_mem hlt)
           have DS := List.drop_eq_getElem_cons hlt
           obtain ⟨p, hp⟩ : ∃ p, p = ts[k] := ⟨_, rfl⟩
           rw [← hp] at e0 e1 e2 e3 hx0 DS
           obtain ⟨x, cx⟩ := p
           simp only at e0 e1 e2 e3 hx0
           have HX := jac (And.intro (jax.more hx0.1 G.out) (jax.more hx0.2 G.out))
           clear hp hx0
           have E1 : Hid (R0 = ((jdR (x, cx) && (ts.drop (k + 1)).all jdR) && (jbw is && jbw os))) := by show _ = _; rw [E.out, DS]; rfl
           clear E DS
           have E := E1
           clear E1
           have LG := jac (jaQ (.slice (some ⟨wr.heap.size + 1, 0, none⟩) 1 1) [x.name] ((wr.alloc (.cells #[.string x.name, .int .i64 x.ty, .slice x.dv.a x.dv.n x.dv.c, .slice x.tv.a x.tv.n x.tv.c] 67)).alloc (.cells #[.string x.name] 9)) (by have h := jb8 (heap_alloc_new (wr.alloc (.cells #[.string x.name, .int .i64 x.ty, .slice x.dv.a x.dv.n x.dv.c, .slice x.tv.a x.tv.n x.tv.c] 67)) (.cells #[.string x.name] 9)); rw [jas] at h; exact h))
           have hb1 : ((wr.alloc (.cells #[.string x.name, .int .i64 x.ty, .slice x.dv.a x.dv.n x.dv.c, .slice x.tv.a x.tv.n x.tv.c] 67)).alloc (.cells #[.string x.name] 9)).heap[wr.heap.size]? = some (.cells #[.string x.name, .int .i64 x.ty, .slice x.dv.a x.dv.n x.dv.c, .slice x.tv.a x.tv.n x.tv.c] 67 (0, 0)) := jbV _ _ _ _ _
           have gd : wr.grownBy ((wr.alloc (.cells #[.string x.name, .int .i64 x.ty, .slice x.dv.a x.dv.n x.dv.c, .slice x.tv.a x.tv.n x.tv.c] 67)).alloc (.cells #[.string x.name] 9)) none := jaa (jab _ _) (jab _ _)
           obtain ⟨⟨y0, y1, y2, y3⟩, -⟩ := jaV (heap_alloc_new wr (.cells #[.string x.name, .int .i64 x.ty, .slice x.dv.a x.dv.n x.dv.c, .slice x.tv.a x.tv.n x.tv.c] 67))
           go_wp2_with fail
           refine LG.out.mono ?_
           obtain ⟨wp, hwp⟩ : ∃ y9, y9 = (wr.alloc (.cells #[.string x.name, .int .i64 x.ty, .slice x.dv.a x.dv.n x.dv.c, .slice x.tv.a x.tv.n x.tv.c] 67)).alloc (.cells #[.string x.name] 9) := ⟨_, rfl⟩
           rw [← hwp] at gd hb1 ⊢
           have G2 := jac (jaa G.out gd)
           have HB := jac hb1
           have HX2 := jac (And.intro (jax.more HX.out.1 gd) (jax.more HX.out.2 gd))
           clear e3 hwp LG G gd hb1 e0 e1 e2 y0 y1 y2 y3
           rintro e wq ⟨rfl, rfl⟩
           obtain ⟨⟨y0, y1, y2, y3⟩, -⟩ := jaV HB.out
           cases hl : jaL [x.name] with
           | true =>
            have E2 : Hid (R0 = false) := by show _ = _; rw [E.out]; simp [jdR, hl]
            clear E
            have E := E2
            clear E2 hl
            go_wp2
            go_ret
            exact ⟨congrArg (fun b => Ending.returned (Value.bool b)) E.out.symm, (jac (jaa G0.out G2.out)).out⟩
           | false =>
            have PC := jac (jeg x.ty (.slice x.dv.a x.dv.n x.dv.c) (.slice x.tv.a x.tv.n x.tv.c) cx.1 cx.2 wp HX2.out.1 HX2.out.2)
            go_wp2_with fail
            refine PC.out.mono ?_
            rintro e wz ⟨rfl, hg⟩
            have G3 := jac (jaa G2.out hg)
            clear hg G2 PC y0 y1 y2 y3
            have G2 := G3
            clear G3
            obtain ⟨pe, hpe⟩ : ∃ y9, y9 = pbE x.ty cx.1 cx.2 := ⟨_, rfl⟩
            rw [← hpe]
            by_cases hc : pe = 0
            ·have E2 : Hid (R0 = ((ts.drop (k + 1)).all jdR && (jbw is && jbw os))) := by show _ = _; rw [E.out]; simp [jdR, hl, ← hpe, hc]
             subst hc
             clear E hl hpe
             have E := E2
             clear E2
             go_wp2_with fail
             go_roundg (ts.length - (k + 1))
             case measure => omega
             case rel => exact ⟨k + 1, rfl, by omega, by go_num, G2.out, E.out⟩
            ·have hc2 : (pe == 0) = false := by simpa using hc
             have hc3 : (pe != 0) = true := by simpa using hc
             have E2 : Hid (R0 = false) := by show _ = _; rw [E.out]; simp [jdR, hl, ← hpe, hc]
             clear E
             have E := E2
             clear E2 hl hpe hc
             go_wp2
             go_ret
             exact ⟨congrArg (fun b => Ending.returned (Value.bool b)) E.out.symm, (jac (jaa G0.out G2.out)).out⟩
          ·obtain hkN : k = ts.length := by omega
           have E2 : Hid (R0 = (jbw is && jbw os)) := by show _ = _; rw [E.out, List.drop_eq_nil_of_le (by omega)]; rfl
           clear E
           have E := E2
           clear E2
           subst hkN
           obtain ⟨⟨x0, x1, x2, x3, x4⟩, -⟩ := jaz (BX.out wr G.out)
           have VI := jac (je5 (.slice ia is.length ic) is wr (HI.out.more G.out) (fun p hp => jax.more (HHI.out p hp) G.out))
           go_wp2_with fail
           refine VI.out.mono ?_
           rintro e wz ⟨rfl, hg⟩
           have G2 := jac (jaa G.out hg)
           clear hg VI G x0 x1 x2 x3 x4
           obtain ⟨⟨x0, x1, x2, x3, x4⟩, -⟩ := jaz (BX.out wz G2.out)
           cases hv : jbw is with
           | false =>
            have E2 : Hid (R0 = false) := by show _ = _; rw [E.out, hv]; rfl
            clear E
            have E := E2
            clear E2 hv
            go_wp2
            go_ret
            exact ⟨congrArg (fun b => Ending.returned (Value.bool b)) E.out.symm, (jac (jaa G0.out G2.out)).out⟩
           | true =>
            have E2 : Hid (R0 = jbw os) := by show _ = _; rw [E.out, hv]; rfl
            clear E hv
            have E := E2
            clear E2
            have VO := jac (je5 (.slice oa os.length oc) os wz (HO.out.more G2.out) (fun p hp => jax.more (HHO.out p hp) G2.out))
            go_wp2_with fail
            refine VO.out.mono ?_
            rintro e wy ⟨rfl, hg⟩
            have G3 := jac (jaa G2.out hg)
            clear hg VO G2 x0 x1 x2 x3 x4
            go_wp2
            go_ret
            exact ⟨congrArg (fun b => Ending.returned (Value.bool b)) E.out.symm, (jac (jaa G0.out G3.out)).out⟩
end Go.Proofs.YtbgbpfbjeleooaaGreat.Pd
namespace Go.Proofs.YtbgbpfbjeleooaaGreat.Pd
open Go.RowKit
open Wr (Fld)
def EncQ (w : World) (r : R ByteArray) (e : Ending) (w' : World) : Prop := w.grownBy w' none ∧ match r with
 | .ok s => e = .returned (.tuple #[.string s, .int .i64 0])
 | .error c => e = .returned (.tuple #[.string ⟨#[]⟩, .int .i64 c])
theorem jhR (p : Addr) (w : World) :
    CallsD Tryz.prog 69 #[.pointer (some p)] .returning w fun e u' w' => e = .returned (.tuple #[]) ∧ u' = .returning ∧ w' = w := by
     refine callsD_of_wpS Tryz.func69 rfl fun c₀ cs hu => ?_
     apply wpS_seq
     apply wpS_region
     simp [wpOpsS, go_sem, recoverD, hu, Tryz.ntmps69, Exit.thenS]
     apply wpS_seq
     apply wpS_region
     simp [wpOpsS, go_sem, Exit.thenS]
     refine wpS_cond (t := false) (by simp [Act.eval, Array.replicate]) ?_
     simp only [Bool.false_eq_true, if_false]
     refine wpS_of_wp (wp_skip ?_)
     cases c₀
     simp_all [bodyPostS, results, Tryz.results69]
theorem jfa (p : Addr) (x c : Int) (older : List PanicEntry) (w : World) (hc : w.cell? p = some (.int .i64 x)) (hz : w.frozen? p = false) :
    CallsD Tryz.prog 69 #[.pointer (some p)] (.panicking ({ v := .iface 28 (.int .i64 c), recovered := false } :: older)) w fun e u' w' => e = .returned (.tuple #[]) ∧ u' = .panicking ({ v := .iface 28 (.int .i64 c), recovered := true } :: older) ∧ w' = w.setCell p (.int .i64 c) := by
     refine callsD_of_wpS Tryz.func69 rfl fun c₀ cs hu => ?_
     apply wpS_seq
     apply wpS_region
     simp [wpOpsS, go_sem, recoverD, hu, Tryz.ntmps69, Exit.thenS]
     apply wpS_seq
     apply wpS_region
     simp [wpOpsS, go_sem, Exit.thenS]
     refine wpS_cond (t := true) (by simp [Act.eval, Array.replicate]) ?_
     simp only [if_true]
     apply wpS_region
     have ha := jeH c w
     simp [wpOpsS, go_sem, hc, hz, ha, bodyPostS, results, Tryz.results69]
theorem jhe (r : R ByteArray) (w : World) (ps : Nat) (HC : ∀ wx, w.grownBy wx none → Calls Tryz.prog 37 #[.pointer (some ⟨ps, 0, none⟩)] wx (jbJ wx r fun s v _ => v = .string s)) :
    Calls Tryz.prog 36 #[.func (.func 37) #[] #[.pointer (some ⟨ps, 0, none⟩)]] w (EncQ w r) := by
     have hmf : ∀ (fn : Fn) (first cap : Array Value) (w : World), (Instr.makeFunc fn first cap).run Tryz.prog w = .ok (.func fn first cap) w := fun _ _ _ _ => rfl
     have H := jac HC
     clear HC
     go_enter_defers Tryz.func36, Tryz.ntmps36
     obtain ⟨w0, hw0⟩ : ∃ w0, w0 = w.alloc (.cells #[.int .i64 0] 28) := ⟨_, rfl⟩
     have g0 : Hid (w.grownBy w0 none) := by show w.grownBy w0 none; rw [hw0]; exact jab _ _
     have hb2 : w0.heap[w.heap.size]? = some (.cells #[.int .i64 0] 28 (0, 0)) := by rw [hw0]; exact heap_alloc_new w _
     have BX : Hid (∀ wx, w0.grownBy wx none → wx.heap[w.heap.size]? = some (.cells #[.int .i64 0] 28 (0, 0))) := fun wx hg => jag hb2 hg
     clear hb2
     go_wp2_with fail
     rw [← hw0]
     clear hw0
     have H1 := jac (H.out w0 g0.out)
     clear H
     cases r with
     | error c =>
      refine H1.out.mono ?_
      rintro e w1 ⟨hg, rfl⟩
      have B2 := BX.out w1 hg
      refine leaves_cons (f := 69) (args := #[.pointer (some ⟨w.heap.size, 0, none⟩)]) (by simp) (by simp [go_sem]) ?_
      refine (jfa ⟨w.heap.size, 0, none⟩ 0 c [] w1 (jcP B2) (frozen_of_row w1 _ 0 _ _ B2)).mono ?_
      rintro e u' w'' ⟨rfl, rfl, rfl⟩
      have h2 := heap_setCell_same w1 w.heap.size 0 _ _ (.int .i64 c) B2
      have gp := jap w1 w.heap.size 0 (.int .i64 c)
      have k5 := (cell_of_row _ _ 0 _ _ (0, 0) h2).trans rfl
      have gf : w.grownBy (w1.setCell ⟨w.heap.size, 0, none⟩ (.int .i64 c)) none := jaf (row := none) (jaa g0.out hg) gp (fun g e => by cases e; exact .inr (Nat.le_refl _))
      obtain ⟨wf, hwf⟩ : ∃ wf, wf = w1.setCell ⟨w.heap.size, 0, none⟩ (.int .i64 c) := ⟨_, rfl⟩
      rw [← hwf] at k5 gf ⊢
      clear hwf h2 B2 gp
      simp [Leaves, settle, results, Tryz.results36, go_sem, k5]
      exact ⟨gf, rfl⟩
     | ok s =>
      refine H1.out.mono ?_
      rintro e w1 ⟨hg, v, rfl, rfl⟩
      have B3 := BX.out w1 hg
      have e0x := jcP B3
      have e1x := frozen_of_row _ w.heap.size 0 _ _ B3
      have h2 := heap_setCell_same _ w.heap.size 0 _ _ (.int .i64 0) B3
      have gp := jap w1 w.heap.size 0 (.int .i64 0)
      have gf := jaf (row := none) (jaa g0.out hg) gp (fun g e => by cases e; exact .inr (Nat.le_refl _))
      have GF := jac gf
      have H2x := jac h2
      clear gp h2 gf
      go_wp2_with fail
      refine leaves_cons (f := 69) (args := #[.pointer (some ⟨w.heap.size, 0, none⟩)]) (by simp) (by simp [go_sem]) ?_
      refine (jhR ⟨w.heap.size, 0, none⟩ _).mono ?_
      rintro e u' w'' ⟨rfl, rfl, rfl⟩
      have k5 := (cell_of_row _ _ 0 _ _ (0, 0) H2x.out).trans rfl
      obtain ⟨wf, hwf⟩ : ∃ wf, wf = w1.setCell ⟨w.heap.size, 0, none⟩ (.int .i64 0) := ⟨_, rfl⟩
      have hG := GF.out
      rw [← hwf] at k5 hG ⊢
      clear hwf H2x B3 GF e0x e1x
      simp [Leaves, settle, results, Tryz.results36, go_sem, k5]
      exact ⟨hG, rfl⟩
def je1 (g : Gra) (ns : List (Nod × Ni)) (is os : List (Val × List Int)) (ts : List (Nam × List Int × List Int)) : R ByteArray := if jhd g ns is os ts = true then jaH (jb0 g ns is os ts) else .error 1
theorem jhS (g : Gra) (ns : List (Nod × Ni)) (is os : List (Val × List Int)) (ts : List (Nam × List Int × List Int)) (B : Nat) (w : World) (hr : RdG w g ns is os ts) (hsm : SmallG g ns is os ts)
    (hb : w.heap[B]? = some (.cells #[.string g.name, .slice g.nv.a g.nv.n g.nv.c, .slice g.iv.a g.iv.n g.iv.c, .slice g.ov.a g.ov.n g.ov.c, .slice g.tv.a g.tv.n g.tv.c] 27 (0, 0))) :
    Calls Tryz.prog 37 #[.pointer (some ⟨B, 0, none⟩)] w (jbJ w (jaH (jb0 g ns is os ts)) fun s v _ => v = .string s) := by
     have WM := jac (jfU g ns is os ts w hr hsm)
     unfold jdb at WM
     obtain ⟨⟨x0, x1, x2, x3, x4⟩, -⟩ := jaz hb
     clear hr hsm hb
     obtain ⟨R0, hR0⟩ : ∃ r, r = jaH (jb0 g ns is os ts) := ⟨_, rfl⟩
     rw [← hR0] at WM ⊢
     clear hR0
     go_enter Tryz.func37, Tryz.ntmps37
     go_wp2_with fail
     refine WM.out.mono ?_
     cases R0 with
     | error c =>
      rintro e w1 ⟨hg, rfl⟩
      exact ⟨rfl, jad rfl hg⟩
     | ok s =>
      rintro e w1 ⟨hg, v, rfl, rfl⟩
      have G1 := jac hg
      clear hg
      go_wp2
      go_ret
      exact jaI rfl G1.out rfl
theorem jf8 (g : Gra) (ns : List (Nod × Ni)) (is os : List (Val × List Int)) (ts : List (Nam × List Int × List Int)) (w : World) (hr : RdG w g ns is os ts) (hsm : jhd g ns is os ts = true → SmallG g ns is os ts) :
    Calls Tryz.prog 14 #[jdb g] w (EncQ w (je1 g ns is os ts)) := by
     have hmf : ∀ (fn : Fn) (first cap : Array Value) (w : World), (Instr.makeFunc fn first cap).run Tryz.prog w = .ok (.func fn first cap) w := fun _ _ _ _ => rfl
     obtain ⟨w0, hw0⟩ : ∃ w0, w0 = w.alloc (.cells #[.string g.name, .slice g.nv.a g.nv.n g.nv.c, .slice g.iv.a g.iv.n g.iv.c, .slice g.ov.a g.ov.n g.ov.c, .slice g.tv.a g.tv.n g.tv.c] 27) := ⟨_, rfl⟩
     have g0 : w.grownBy w0 none := by rw [hw0]; exact jab _ _
     have hb : w0.heap[w.heap.size]? = some (.cells #[.string g.name, .slice g.nv.a g.nv.n g.nv.c, .slice g.iv.a g.iv.n g.iv.c, .slice g.ov.a g.ov.n g.ov.c, .slice g.tv.a g.tv.n g.tv.c] 27 (0, 0)) := by rw [hw0]; exact heap_alloc_new w _
     obtain ⟨⟨x0, x1, x2, x3, x4⟩, -⟩ := jaz hb
     have MT := jac (jhQ g ns is os ts w0 (hr.more g0))
     have HR := jac (hr.more g0)
     have HS := jac hsm
     have G0 := jac g0
     have HB := jac hb
     rw [hw0] at x0 x1 x2 x3 x4
     unfold jdb
     unfold jdb at MT
     obtain ⟨b, hbb⟩ : ∃ b, b = jhd g ns is os ts := ⟨_, rfl⟩
     obtain ⟨R0, hR0⟩ : ∃ r, r = je1 g ns is os ts := ⟨_, rfl⟩
     have E : Hid (R0 = if b = true then jaH (jb0 g ns is os ts) else .error 1) := by show _ = _; rw [hR0, hbb]; rfl
     rw [← hR0]
     rw [← hbb] at MT HS
     clear hR0 hbb hb g0 hr hsm
     go_enter Tryz.func14, Tryz.ntmps14
     go_wp2_with fail
     rw [← hw0]
     clear hw0 x0 x1 x2 x3 x4
     refine MT.out.mono ?_
     rintro e w1 ⟨rfl, hg⟩
     have G1 := jac (jaa G0.out hg)
     have HB1 := jac (jag HB.out hg)
     have HR1 := jac (HR.out.more hg)
     clear hg HB HR G0 MT
     cases b with
     | false =>
      go_wp2
      go_ret2
      exact ⟨G1.out, by rw [E.out]; rfl⟩
     | true =>
      have E2 : Hid (R0 = jaH (jb0 g ns is os ts)) := E.out
      clear E
      have AT := jac (jhe (jaH (jb0 g ns is os ts)) w1 w.heap.size (fun wx hg => jhS g ns is os ts w.heap.size wx (HR1.out.more hg) (HS.out rfl) (jag HB1.out hg)))
      rw [← E2.out] at AT
      clear E2 HS HR1 HB1
      go_wp2_with fail
      refine AT.out.mono ?_
      clear AT
      cases R0 with
      | error c =>
       rintro e w2 ⟨hg, rfl⟩
       have G2 := jac (jaa G1.out hg)
       clear hg
       go_wp2
       go_ret2
       exact ⟨G2.out, rfl⟩
      | ok s =>
       rintro e w2 ⟨hg, rfl⟩
       have G2 := jac (jaa G1.out hg)
       clear hg
       go_wp2
       go_ret2
       exact ⟨G2.out, rfl⟩
end Go.Proofs.YtbgbpfbjeleooaaGreat.Pd
namespace Go.Proofs.YtbgbpfbjeleooaaGreat.Pd
open Go.RowKit
open Wr (Fld)
def WP {α : Type} (r : R α) (Q : α → Prop) : Prop := match r with
 | .ok a => Q a
 | .error c => c = 6
theorem WP.bind {α β : Type} {r : R α} {f : α → R β} {Q : α → Prop} {P : β → Prop} (h : WP r Q) (k : ∀ a, Q a → WP (f a) P) : WP (r.bind f) P := by
 cases r with
 | ok a => exact k a h
 | error c => exact h
theorem WP.mono {α : Type} {r : R α} {Q P : α → Prop} (h : WP r Q) (k : ∀ a, Q a → P a) : WP r P := by
 cases r with
 | ok a => exact k a h
 | error c => exact h
def Lst (m : List Fld × Nat) (l : List Fld) : Prop := m.1 = l ∧ ∀ x ∈ l, Wr.fok x = true ∧ Wr.FldIn x
theorem Lst.nil : Lst ([], 0) [] := ⟨rfl, fun x hx => by cases hx⟩
def FW (f : Fld) : Prop := Wr.fok f = true ∧ (f.b.size ≤ 16777216 → Wr.FldIn f)
theorem jdx {m : List Fld × Nat} {l : List Fld} {f : Fld} (h : Lst m l) (hf : FW f) : WP (ja9 m f) fun m' => Lst m' (l ++ [f]) := by
 unfold ja9
 split
 ·exact rfl
 ·refine ⟨by rw [h.1], fun x hx => ?_⟩
  rcases List.mem_append.1 hx with h1 | h1
  ·exact h.2 x h1
  ·rw [List.mem_singleton] at h1
   subst h1
   exact ⟨hf.1, hf.2 (by omega)⟩
theorem jig {num : Int} {s : ByteArray} (hn : 1 ≤ num ∧ num ≤ 1000) : FW (jaW num s) := by
 refine ⟨?_, fun hb => jbC _ _ (by omega) (by change s.size ≤ _ at hb; omega)⟩
 show (decide (1 ≤ num ∧ num ≤ 536870911) && true) = true
 rw [decide_eq_true (by omega)]
 rfl
theorem fw_n {num x : Int} (hn : 1 ≤ num ∧ num ≤ 1000) : FW (je0 num x) := by
 refine ⟨?_, fun _ => jhM _ _ (by omega)⟩
 show (decide (1 ≤ num ∧ num ≤ 536870911) && true) = true
 rw [decide_eq_true (by omega)]
 rfl
theorem fw_f {num x : Int} (hn : 1 ≤ num ∧ num ≤ 1000) (hx : 0 ≤ x ∧ x < 4294967296) : FW (jfQ num x) := by
 refine ⟨?_, fun _ => jhN _ _ (by omega)⟩
 show (decide (1 ≤ num ∧ num ≤ 536870911) && decide (ByteArray.size ⟨#[]⟩ = 0 ∧ x % 18446744073709551616 < 4294967296)) = true
 rw [decide_eq_true (by omega), decide_eq_true ⟨rfl, by omega⟩]
 rfl
theorem jjT {num : Int} {l : List Int} (hn : 1 ≤ num ∧ num ≤ 1000) : FW (jbF num l) := by
 unfold jbF
 split
 ·exact fw_n hn
 ·exact jig hn
def txF (num : Int) (s : ByteArray) : List Fld := if s.size = 0 then [] else [jaW num s]
def nuF (num x : Int) : List Fld := if x = 0 then [] else [je0 num x]
def flF (num x : Int) : List Fld := if x = 0 then [] else [jfQ num x]
def nsF (num : Int) (l : List Int) : List Fld := if l.length = 0 then [] else [jbF num l]
theorem jem {m : List Fld × Nat} {l : List Fld} {num : Int} {s : ByteArray} (h : Lst m l) (hn : 1 ≤ num ∧ num ≤ 1000) : WP (jaZ m num s) fun m' => Lst m' (l ++ txF num s) := by
 unfold jaZ txF
 split
 ·rw [List.append_nil]; exact h
 ·exact jdx h (jig hn)
theorem jhf {m : List Fld × Nat} {l : List Fld} {num x : Int} (h : Lst m l) (hn : 1 ≤ num ∧ num ≤ 1000) : WP (jcV m num x) fun m' => Lst m' (l ++ nuF num x) := by
 unfold jcV nuF
 split
 ·rw [List.append_nil]; exact h
 ·exact jdx h (fw_n hn)
theorem jmO {m : List Fld × Nat} {l : List Fld} {num x : Int} (h : Lst m l) (hn : 1 ≤ num ∧ num ≤ 1000) (hx : 0 ≤ x ∧ x < 4294967296) : WP (jiN m num x) fun m' => Lst m' (l ++ flF num x) := by
 unfold jiN flF
 split
 ·rw [List.append_nil]; exact h
 ·exact jdx h (fw_f hn hx)
theorem jmP {m : List Fld × Nat} {l : List Fld} {num : Int} {xs : List Int} (h : Lst m l) (hn : 1 ≤ num ∧ num ≤ 1000) : WP (nsM m num xs) fun m' => Lst m' (l ++ nsF num xs) := by
 unfold nsM nsF
 split
 ·rw [List.append_nil]; exact h
 ·exact jdx h (jjT hn)
inductive Two {α β : Type} (P : α → β → Prop) : List α → List β → Prop
 | nil : Two P [] []
 | cons {a : α} {b : β} {l : List α} {r : List β} : P a b → Two P l r → Two P (a :: l) (b :: r)
theorem jdS {α : Type} {f : α → R ByteArray} {num : Int} {P : α → ByteArray → Prop} (hn : 1 ≤ num ∧ num ≤ 1000) : ∀ (xs : List α) {m : List Fld × Nat} {l : List Fld}, Lst m l → (∀ x ∈ xs, WP (f x) (P x)) → WP (jaR f num m xs) fun m' => ∃ ss, Two P xs ss ∧ Lst m' (l ++ ss.map (jaW num))
 | [], m, l, h, _ => ⟨[], .nil, by simpa using h⟩
 | x :: xs, m, l, h, hx => by
  show WP ((f x).bind fun s => (ja9 m (jaW num s)).bind fun m => jaR f num m xs) _
  refine (hx x (List.mem_cons_self ..)).bind fun s hs => (jdx h (jig hn)).bind fun m' hm => ?_
  refine (jdS hn xs hm (fun y hy => hx y (List.mem_cons_of_mem _ hy))).mono fun m2 ⟨ss, h1, h2⟩ => ⟨s :: ss, .cons hs h1, ?_⟩
  simpa using h2
theorem jfb {m : List Fld × Nat} {l : List Fld} (h : Lst m l) : WP (wrP m.1) fun s => ja1 s = .ok l := by
 obtain ⟨rfl, h⟩ := h
 have ha : m.1.all Wr.fok = true := List.all_eq_true.2 fun x hx => (h x hx).1
 unfold wrP Wr.wrote
 rw [if_pos ha]
 by_cases hl : (Wr.outOf m.1).length ≤ 16777216
 ·rw [if_pos hl]
  simp only [if_true, WP]
  have hz : (Wr.sof (Wr.outOf m.1)).size = (Wr.outOf m.1).length := Wr.sof_size _
  unfold ja1
  rw [if_neg (by omega), show Wr.all (Wr.fd (Wr.sof (Wr.outOf m.1))) (Wr.sof (Wr.outOf m.1)).size = some m.1 from Wr.all_out m.1 (fun x hx => ⟨(h x hx).1, (h x hx).2, Wr.size_in (fun y hy => (h y hy).1) hl x hx⟩)]
 ·rw [if_neg hl]
  exact rfl
theorem jih {σ : Type} (f : σ → Fld → R σ) (r : List Fld) : ∀ (l : List Fld) (a : σ), jaA f a (l ++ r) = (jaA f a l).bind fun b => jaA f b r
 | [], a => rfl
 | x :: l, a => by
  show (f a x).bind _ = ((f a x).bind _).bind _
  cases h : f a x with
  | error c => rfl
  | ok b => exact jih f r l b
theorem jbG {σ : Type} {f : σ → Fld → R σ} {a b : σ} {l r : List Fld} (h : jaA f a l = .ok b) : jaA f a (l ++ r) = jaA f b r := by rw [jih, h]; rfl
theorem jdu {σ : Type} {f : σ → Fld → R σ} {a b : σ} {x : Fld} (h : f a x = .ok b) : jaA f a [x] = .ok b := by show (f a x).bind _ = _; rw [h]; rfl
theorem jcB {σ α : Type} {f : σ → Fld → R σ} {num : Int} {P : α → ByteArray → Prop} (put : σ → α → σ) (hs : ∀ a x s, P x s → f a (jaW num s) = .ok (put a x)) : ∀ {xs : List α} {ss : List ByteArray}, Two P xs ss → ∀ a, jaA f a (ss.map (jaW num)) = .ok (xs.foldl put a)
 | _, _, .nil, a => rfl
 | _, _, .cons h t, a => by
  rw [List.map_cons]
  show (f a _).bind _ = _
  rw [hs a _ _ h]
  exact jcB put hs t _
theorem jmQ (num x : Int) : jd9 (je0 num x) 0 = .ok () := rfl
theorem jd6 {num x : Int} (h : -9223372036854775808 ≤ x ∧ x ≤ 9223372036854775807) : jbx (je0 num x) = .ok x := by
 show (jd9 (je0 num x) 0).bind (fun _ => .ok (wrap64 (je0 num x).u)) = _
 rw [jmQ]
 show Except.ok _ = _
 congr 1
 show wrap64 (x % 18446744073709551616) = x
 unfold wrap64
 omega
theorem jeM (t : ByteArray) : jbP [t] = t := by
 unfold jbP
 simp
theorem jdh {σ : Type} {f : σ → Fld → R σ} {a b : σ} {num : Int} {s : ByteArray} (h1 : s.size = 0 → a = b) (h2 : f a (jaW num s) = .ok b) : jaA f a (txF num s) = .ok b := by
 unfold txF
 split
 ·rename_i h; rw [h1 h]; rfl
 ·exact jdu h2
theorem jeN {σ : Type} {f : σ → Fld → R σ} {a b : σ} {num x : Int} (h1 : x = 0 → a = b) (h2 : f a (je0 num x) = .ok b) : jaA f a (nuF num x) = .ok b := by
 unfold nuF
 split
 ·rename_i h; rw [h1 h]; rfl
 ·exact jdu h2
theorem jkZ {σ : Type} {f : σ → Fld → R σ} {a b : σ} {num x : Int} (h1 : x = 0 → a = b) (h2 : f a (jfQ num x) = .ok b) : jaA f a (flF num x) = .ok b := by
 unfold flF
 split
 ·rename_i h; rw [h1 h]; rfl
 ·exact jdu h2
theorem jjU {σ : Type} {f : σ → Fld → R σ} {a b : σ} {num : Int} {l : List Int} (h1 : l = [] → a = b) (h2 : f a (jbF num l) = .ok b) : jaA f a (nsF num l) = .ok b := by
 unfold nsF
 split
 ·rename_i h; rw [h1 (List.length_eq_zero_iff.1 h)]; rfl
 ·exact jdu h2
theorem jcR {s : ByteArray} (h : s.size = 0) : s = ⟨#[]⟩ := ByteArray.ext (Array.eq_empty_of_size_eq_zero h)
end Go.Proofs.YtbgbpfbjeleooaaGreat.Pd
namespace Go.Proofs.YtbgbpfbjeleooaaGreat.Pd
open Go.RowKit
open Wr (Fld)
theorem jk0 {d : Int} (h : 1 ≤ d ∧ d ≤ 65536) : WP (jlB d) fun s => jbf s = .ok d := by
 refine (jhf (l := []) Lst.nil (by decide)).bind fun m hm => (jfb hm).mono fun s hs => ?_
 unfold jbf
 rw [hs]
 have e : jaA jbK (0, false, false) ([] ++ nuF 1 d) = .ok (d, true, false) := by
  refine jeN (fun h0 => by omega) ?_
  unfold jbK
  rw [if_pos (show (je0 1 d).num = 1 from rfl), jd6 (by omega)]
  rfl
 show (jaA jbK (0, false, false) ([] ++ nuF 1 d)).bind _ = _
 rw [e]
 rfl
theorem jlD {zs : List Int} (h : Fine zs) : ∀ z ∈ zs, 1 ≤ z ∧ z ≤ 65536 := by
 have key : ∀ ys : List Int, (∀ y ∈ ys, 1 ≤ y) → ∀ z ∈ ys, z ≤ jdm ys := by
  intro ys
  induction ys with
  | nil => intro _ z hz; cases hz
  | cons y ys ih =>
   intro hp z hz
   have h1 := hp y (List.mem_cons_self ..)
   have h2 := prod_pos ys (fun x hx => hp x (List.mem_cons_of_mem _ hx))
   show z ≤ y * jdm ys
   rcases List.mem_cons.1 hz with rfl | hz
   ·have := Int.mul_le_mul_of_nonneg_left h2 (show 0 ≤ z by omega)
    omega
   ·have h3 := ih (fun x hx => hp x (List.mem_cons_of_mem _ hx)) z hz
    have := Int.mul_le_mul_of_nonneg_right h1 (show 0 ≤ jdm ys by omega)
    omega
 exact fun z hz => ⟨h.pos z hz, Int.le_trans (key zs h.pos z hz) h.le⟩
theorem jf9 {α : Type} : ∀ (l a : List α), l.foldl (fun s d => s ++ [d]) a = a ++ l
 | [], a => by simp
 | x :: l, a => by rw [List.foldl_cons, jf9 l]; simp
theorem jjV {t : Int} (h : chk t 0 = true) : t = 1 ∨ t = 6 ∨ t = 7 ∨ t = 9 := by
 unfold chk at h
 split at h
 ·exact .inl ‹_›
 split at h
 ·exact .inr (.inl ‹_›)
 split at h
 ·exact .inr (.inr (.inl ‹_›))
 split at h
 ·exact .inr (.inr (.inr ‹_›))
 ·cases h
theorem jii {V : NVal} (hn : jaL [V.name] = false) (ht : chk V.ty 0 = true) (hd : jcW V.dims = 0) : WP (jdl V) fun s => jaC s = .ok V := by
 obtain ⟨name, ty, ds⟩ := V
 simp only at hn ht hd
 have F := jeQ hd
 have hty : ty ≠ 0 ∧ -9223372036854775808 ≤ ty ∧ ty ≤ 9223372036854775807 := by have := jjV ht; omega
 have hdl := jlD F
 show WP (jak name ty ds) _
 unfold jak
 refine (jdS (P := fun d s => jbf s = .ok d) (by decide) ds Lst.nil (fun d hd => jk0 (hdl d hd))).bind fun D ⟨ss, h2, hD⟩ => ?_
 refine (jhf (l := []) Lst.nil (by decide)).bind fun m hm => (jfb hD).bind fun s hs => (jdx hm (jig (by decide))).bind fun m2 hm2 => (jfb hm2).bind fun s2 hs2 => ?_
 refine (jdx (l := []) Lst.nil (jig (by decide))).bind fun y hy => (jem (l := []) Lst.nil (by decide)).bind fun m3 hm3 => (jfb hy).bind fun s3 hs3 => (jdx hm3 (jig (by decide))).bind fun m4 hm4 => (jfb hm4).mono fun s4 hs4 => ?_
 have e1 : ja4 s = .ok ds := by
  unfold ja4
  rw [hs]
  show (jaA jbu [] ([] ++ ss.map (jaW 1))).bind _ = _
  rw [List.nil_append, jcB (P := fun d s => jbf s = .ok d) (fun a d => a ++ [d]) (fun a d t k => by show (jbf t).bind _ = _; rw [k]; rfl) h2, jf9]
  rfl
 have e2 : jao s2 = .ok (ty, ds) := by
  unfold jao
  rw [hs2]
  have k : jaA jcn (0, []) ([] ++ nuF 1 ty ++ [jaW 2 s]) = .ok (ty, [s]) := by
   rw [List.nil_append, jbG (b := (ty, [])) (jeN (fun h0 => absurd h0 hty.1) (by unfold jcn; rw [if_pos (show (je0 1 ty).num = 1 from rfl), jd6 hty.2]; rfl))]
   rfl
  show (jaA jcn (0, []) ([] ++ nuF 1 ty ++ [jaW 2 s])).bind _ = _
  rw [k]
  show (ja4 (jbP [s])).bind _ = _
  rw [jeM, e1]
  show (jai (!chk ty 0) 5).bind _ = _
  rw [ht]
  show (jdy (jcW ds)).bind _ = _
  rw [hd]
  rfl
 have e3 : ja5 s3 = .ok (ty, ds) := by
  unfold ja5
  rw [hs3]
  show (jao (jbP [s2])).bind _ = _
  rw [jeM, e2]
  rfl
 unfold jaC
 rw [hs4]
 have k : jaA jbU (⟨#[]⟩, []) ([] ++ txF 1 name ++ [jaW 2 s3]) = .ok (name, [s3]) := by
  rw [List.nil_append, jbG (b := (name, [])) (jdh (fun h0 => by rw [jcR h0]) rfl)]
  rfl
 show (jaA jbU (⟨#[]⟩, []) ([] ++ txF 1 name ++ [jaW 2 s3])).bind _ = _
 rw [k]
 show (ja5 (jbP [s3])).bind _ = _
 rw [jeM, e3]
 show (jai (jaL [name]) 6).bind _ = _
 rw [hn]
 rfl
end Go.Proofs.YtbgbpfbjeleooaaGreat.Pd
namespace Go.Proofs.YtbgbpfbjeleooaaGreat.Pd
open Go.RowKit
open Wr (Fld)
theorem jl8 (s t : ByteArray) : ∀ (f p : Nat), Wr.allF (Wr.tk (s ++ t)) (s.size + t.size) f (s.size + p) = Wr.allF (Wr.tk t) t.size f p := by
 intro f
 induction f with
 | zero => intro p; rfl
 | succ f ih =>
  intro p
  unfold Wr.allF
  by_cases hp : p < t.size
  ·rw [if_pos (by omega), if_pos hp, Wr.tk_right]
   cases Wr.tk t p with
   | none => rfl
   | some y => simp only [Option.map_some]; rw [ih]
  ·rw [if_neg (by omega), if_neg hp]
theorem jlE {s : ByteArray} {p : Nat} {x q : Nat} (h : Wr.tk s p = some (x, q)) : p < q := by
 have := Wr.tkF_spec (s := s) (p := p) 10 0 0 rfl (by decide) h
 omega
theorem jij : ∀ l : List Int, Wr.all (Wr.tk ⟨(jcl l).toArray⟩) (ByteArray.size ⟨(jcl l).toArray⟩) = some (l.map fun x => (x % 18446744073709551616).toNat)
 | [] => rfl
 | x :: l => by
  obtain ⟨u, hu⟩ : ∃ u, u = (x % 18446744073709551616).toNat := ⟨_, rfl⟩
  have e : (⟨(jcl (x :: l)).toArray⟩ : ByteArray) = Wr.sof (Wr.vb u) ++ ⟨(jcl l).toArray⟩ := by
   apply ByteArray.ext
   rw [ByteArray.data_append, hu]
   unfold jcl
   simp
  have h := Wr.tk_vb u (by omega)
  have hl : (Wr.sof (Wr.vb u)).size = (Wr.vb u).length := Wr.sof_size _
  have h0 := jlE h
  have hr := jij l
  rw [e, ByteArray.size_append]
  unfold Wr.all at hr ⊢
  rw [Wr.allF_some (by omega) (by omega) (Wr.tk_left h), ← hl]
  have k := jl8 (Wr.sof (Wr.vb u)) ⟨(jcl l).toArray⟩ ((Wr.sof (Wr.vb u)).size + ByteArray.size ⟨(jcl l).toArray⟩ - 1) 0
  rw [Nat.add_zero] at k
  rw [k, Wr.allF_fuel' (fun h => jlE h) (f' := ByteArray.size ⟨(jcl l).toArray⟩) (by omega) (by omega), hr, List.map_cons, hu]
  rfl
def I64 (l : List Int) : Prop := ∀ x ∈ l, -9223372036854775808 ≤ x ∧ x ≤ 9223372036854775807
theorem jk1 {x : Int} (h : -9223372036854775808 ≤ x ∧ x ≤ 9223372036854775807) : wrap64 (((x % 18446744073709551616).toNat : Nat) : Int) = x := by
 unfold wrap64
 omega
theorem jik : ∀ l : List Int, I64 l → (l.map fun x => (x % 18446744073709551616).toNat).map (fun (u : Nat) => wrap64 (u : Int)) = l
 | [], _ => rfl
 | x :: l, h => by rw [List.map_cons, List.map_cons, jk1 (h x (List.mem_cons_self ..)), jik l (fun y hy => h y (List.mem_cons_of_mem _ hy))]
theorem jhT {l : List Int} (h : I64 l) : jcK ⟨(jcl l).toArray⟩ = .ok l := by
 unfold jcK
 rw [jij]
 show Except.ok _ = _
 rw [jik l h]
theorem jc1 {num : Int} {a l : List Int} (h : I64 l) : jaX a (jbF num l) = .ok (a ++ l) := by
 unfold jbF
 split
 ·rename_i h1
  obtain ⟨x, rfl⟩ := List.length_eq_one_iff.1 h1
  show jaX a (je0 num x) = _
  unfold jaX
  rw [if_pos (show (je0 num x).kind ≠ 2 by show (0 : Int) ≠ 2; decide), jd6 (h x (List.mem_singleton.2 rfl))]
  rfl
 ·unfold jaX
  rw [if_neg (show ¬ (jaW num ⟨(jcl l).toArray⟩).kind ≠ 2 from fun h => h rfl)]
  show (jcK ⟨(jcl l).toArray⟩).bind _ = _
  rw [jhT h]
  rfl
theorem jl9 (t x : Int) : jg9 (jaY t) x = Wr.lo (x % 18446744073709551616).toNat (jaY t) := by
 rcases (show jaY t = 1 ∨ jaY t = 4 ∨ jaY t = 8 by unfold jaY; split; exact .inr (.inl rfl); split; exact .inr (.inr rfl); exact .inl rfl) with h | h | h <;> rw [h] <;>
 simp only [jg9, List.range, List.range.loop, List.map_cons, List.map_nil, Wr.lo, List.cons.injEq, and_true] <;> omega
theorem jk2 (t x : Int) (r : List Nat) : Wr.low (Wr.sof (jg9 (jaY t) x ++ r)) 0 (jaY t) = (x % 18446744073709551616).toNat % 256 ^ jaY t := by
 rw [Wr.sof_append, Wr.low_left _ _ _ _ (by rw [Wr.sof_size, jeI]; omega), jl9, Wr.low_lo _ (Wr.lo_lt _ _) (jaY t) _ 0 [] rfl rfl]
theorem jjW {t x : Int} (h : chk t x = true) (h64 : -9223372036854775808 ≤ x ∧ x ≤ 9223372036854775807) : jbt t ((x % 18446744073709551616).toNat % 256 ^ jaY t : Nat) = x := by
 have ht := h
 unfold chk at h
 unfold jbt jaY
 split at h
 ·rename_i h1
  subst h1
  simp only [decide_eq_true_eq] at h
  simp only [true_or, if_true]
  have e : (((x % 18446744073709551616).toNat % 256 ^ 4 : Nat) : Int) = x := by omega
  rw [e, show wrap64 x = x by unfold wrap64; omega]
  unfold jbl
  rw [if_pos ht]
 split at h
 ·rename_i h1 h6
  subst h6
  simp only [decide_eq_true_eq] at h
  rw [if_neg (by decide), if_pos rfl, if_pos (.inr rfl)]
  unfold wrap64 wrap32
  omega
 split at h
 ·rename_i h1 h6 h7
  subst h7
  rw [if_neg (by decide), if_neg (by decide), if_neg (by decide), if_pos rfl]
  unfold wrap64
  omega
 split at h
 ·rename_i h1 h6 h7 h9
  subst h9
  simp only [decide_eq_true_eq] at h
  rw [if_neg (by decide), if_neg (by decide), if_neg (by decide), if_neg (by decide)]
  unfold wrap64
  omega
 ·cases h
theorem jga {t : Int} : ∀ (l : List Int) (pre : List Nat), (∀ x ∈ l, chk t x = true) → I64 l → jcE t (jaY t) (Wr.sof (pre ++ jhi (jaY t) l)) l.length pre.length = l
 | [], _, _, _ => rfl
 | x :: l, pre, h, h64 => by
  show jbt t _ :: _ = _
  have e : Wr.low (Wr.sof (pre ++ jhi (jaY t) (x :: l))) pre.length (jaY t) = (x % 18446744073709551616).toNat % 256 ^ jaY t := by
   have k := Wr.low_right (Wr.sof pre) (Wr.sof (jhi (jaY t) (x :: l))) (jaY t) 0
   rw [← Wr.sof_append, Wr.sof_size, Nat.add_zero] at k
   rw [k]
   exact jk2 t x _
  rw [e, jjW (h x (List.mem_cons_self ..)) (h64 x (List.mem_cons_self ..))]
  congr 1
  have k := jga l (pre ++ jg9 (jaY t) x) (fun y hy => h y (List.mem_cons_of_mem _ hy)) (fun y hy => h64 y (List.mem_cons_of_mem _ hy))
  rw [List.length_append, jeI, List.append_assoc] at k
  exact k
theorem jgF {t : Int} {l : List Int} (h : ∀ x ∈ l, chk t x = true) (h64 : I64 l) : jbi t (jhL t l) = l := by
 unfold jbi
 have hz := jeK t l
 have hw : 1 ≤ jaY t := by unfold jaY; split; decide; split <;> decide
 rw [if_pos (by rw [hz, Nat.mul_mod_left]), hz, Nat.mul_div_cancel _ (by omega)]
 exact jga l [] h h64
def DF (ty : Int) (l : List Int) (f : Fld) : Prop := FW f ∧ ((f = jbF 5 l ∧ (ty = 6 ∨ ty = 9)) ∨ (f = jbF 7 l ∧ ty = 7) ∨ (∃ x, f = jfQ 4 x ∧ l = [x] ∧ ty = 1) ∨ f = jaW 9 (jhL ty l))
theorem jmR {a b : Fld} {Q : Fld → Prop} (ha : FW a) (hb : FW b) (sa : a.b.size ≤ 16777216) (sb : b.b.size ≤ 16777216) (qa : Q a) (qb : Q b) : WP (shP a b) Q := by
 refine (jfb (m := ([a], 0)) ⟨rfl, fun x hx => by rw [List.mem_singleton.1 hx]; exact ⟨ha.1, ha.2 sa⟩⟩).bind fun s _ => (jfb (m := ([b], 0)) ⟨rfl, fun x hx => by rw [List.mem_singleton.1 hx]; exact ⟨hb.1, hb.2 sb⟩⟩).bind fun t _ => ?_
 show Q _
 split
 ·exact qa
 ·exact qb
theorem wp_df {ty : Int} {l : List Int} (ht : chk ty 0 = true) (hl : l.length ≤ 65536) (h1 : 1 ≤ l.length) (hc : ∀ x ∈ l, chk ty x = true) : WP (dfP ty l) (DF ty l) := by
 have sr : (jhL ty l).size ≤ 16777216 := by
  rw [jeK]
  have : jaY ty ≤ 8 := by unfold jaY; split; decide; split <;> decide
  exact Nat.le_trans (Nat.mul_le_mul hl this) (by decide)
 have sn : ∀ num, (jbF num l).b.size ≤ 16777216 := fun num => by have := jf6 num l; omega
 unfold dfP
 split
 ·rename_i h
  exact jmR (jjT (by decide)) (jig (by decide)) (sn 5) sr ⟨jjT (by decide), .inl ⟨rfl, h⟩⟩ ⟨jig (by decide), .inr (.inr (.inr rfl))⟩
 split
 ·rename_i h
  exact jmR (jjT (by decide)) (jig (by decide)) (sn 7) sr ⟨jjT (by decide), .inr (.inl ⟨rfl, h⟩)⟩ ⟨jig (by decide), .inr (.inr (.inr rfl))⟩
 split
 ·rename_i h6 h7 h
  obtain ⟨x, rfl⟩ := List.length_eq_one_iff.1 h
  have t1 : ty = 1 := by have := jjV ht; omega
  subst t1
  have hx := hc x (List.mem_singleton.2 rfl)
  simp only [chk, if_true, decide_eq_true_eq] at hx
  exact ⟨fw_f (by decide) (show 0 ≤ x ∧ x < 4294967296 by omega), .inr (.inr (.inl ⟨x, rfl, rfl, rfl⟩))⟩
 ·exact ⟨jig (by decide), .inr (.inr (.inr rfl))⟩
theorem jfL {ty : Int} {ds l : List Int} (h : pbE ty ds l = 0) : chk ty 0 = true ∧ jcW ds = 0 ∧ (l.length : Int) = jdm ds ∧ ∀ x ∈ l, chk ty x = true := by
 unfold pbE at h
 split at h
 ·cases h
 split at h
 ·contradiction
 split at h
 ·cases h
 split at h
 ·rename_i h1 h2 h3 h4
  have h2' : jcW ds = 0 := Decidable.of_not_not h2
  refine ⟨by simpa using h1, h2', ?_, List.all_eq_true.1 h4⟩
  rw [← (jeQ h2').cnt]
  exact Decidable.of_not_not h3
 ·cases h
theorem jil {T : NTen} (hn : jaL [T.name] = false) (hp : pbE T.ty T.dims T.data = 0) (h64 : I64 T.data) : WP (jiR T) fun s => jau s = .ok T := by
 obtain ⟨name, ty, ds, l⟩ := T
 simp only at hn hp h64
 obtain ⟨ht, hd, hlen, hc⟩ := jfL hp
 have F := jeQ hd
 have hty : ty ≠ 0 ∧ -9223372036854775808 ≤ ty ∧ ty ≤ 9223372036854775807 := by have := jjV ht; omega
 have hdl := jlD F
 have d64 : I64 ds := fun d hd => by have := hdl d hd; omega
 have h1 := F.prod_pos
 have h2 := F.le
 show WP (jaE name ty ds l) _
 unfold jaE
 refine (jmP (l := []) Lst.nil (by decide)).bind fun m hm => (jhf hm (by decide)).bind fun m hm => (wp_df ht (by omega) (by omega) hc).bind fun f hf => (jdx hm hf.1).bind fun m hm => (jem hm (by decide)).bind fun m hm => (jfb hm).mono fun s hs => ?_
 unfold jau
 rw [hs]
 obtain ⟨p, e1, e2⟩ : ∃ p, jaN ⟨ds, ty, ⟨#[]⟩, ⟨[], [], [], ⟨#[]⟩⟩⟩ f = .ok ⟨ds, ty, ⟨#[]⟩, p⟩ ∧ jdd ty p = l := by
  rcases hf.2 with ⟨rfl, h⟩ | ⟨rfl, h⟩ | ⟨x, rfl, rfl, h⟩ | rfl
  ·refine ⟨⟨[], l, [], ⟨#[]⟩⟩, ?_, ?_⟩
   ·unfold jaN
    have hn : (jbF 5 l).num = 5 := by unfold jbF; split <;> rfl
    rw [hn, if_neg (by decide), if_neg (by decide), if_neg (by decide), if_pos rfl, jc1 h64]
    rfl
   ·unfold jdd
    rw [if_neg (fun h => h rfl), if_neg (by omega), if_neg (by omega)]
  ·refine ⟨⟨[], [], l, ⟨#[]⟩⟩, ?_, ?_⟩
   ·unfold jaN
    have hn : (jbF 7 l).num = 7 := by unfold jbF; split <;> rfl
    rw [hn, if_neg (by decide), if_neg (by decide), if_neg (by decide), if_neg (by decide), if_pos rfl, jc1 h64]
    rfl
   ·unfold jdd
    rw [if_neg (fun h => h rfl), if_neg (by omega), if_pos (by omega)]
  ·subst h
   have hx := hc x (List.mem_singleton.2 rfl)
   have hx2 := hx
   simp only [chk, if_true, decide_eq_true_eq] at hx2
   refine ⟨⟨[x], [], [], ⟨#[]⟩⟩, ?_, ?_⟩
   ·unfold jaN
    have hn : (jfQ 4 x).num = 4 := rfl
    rw [hn, if_neg (by decide), if_neg (by decide), if_pos rfl]
    have e : jbA [] (jfQ 4 x) = .ok [x] := by
     unfold jbA
     rw [if_pos (show (jfQ 4 x).kind ≠ 2 by show (5 : Int) ≠ 2; decide)]
     show Except.ok ([] ++ [jbl (wrap64 (x % 18446744073709551616))]) = _
     rw [show wrap64 (x % 18446744073709551616) = x by unfold wrap64; omega]
     unfold jbl
     rw [if_pos hx]
     rfl
    rw [show jbA (TSt.p ⟨ds, 1, ⟨#[]⟩, ⟨[], [], [], ⟨#[]⟩⟩⟩).fl (jfQ 4 x) = .ok [x] from e]
    rfl
   ·unfold jdd
    rw [if_neg (fun h => h rfl), if_pos rfl]
  ·refine ⟨⟨[], [], [], jhL ty l⟩, rfl, ?_⟩
   unfold jdd
   rw [if_pos (show (jhL ty l).size ≠ 0 by
    rw [jeK]
    have hw : 1 ≤ jaY ty := by unfold jaY; split; decide; split <;> decide
    have := Nat.mul_le_mul (show 1 ≤ l.length by omega) hw
    omega), jgF hc h64]
 have k : jaA jaN t0 ([] ++ nsF 1 ds ++ nuF 2 ty ++ [f] ++ txF 8 name) = .ok ⟨ds, ty, name, p⟩ := by
  rw [List.nil_append, List.append_assoc, List.append_assoc, jbG (b := ⟨ds, 0, ⟨#[]⟩, ⟨[], [], [], ⟨#[]⟩⟩⟩) (jjU (fun h0 => by rw [h0]; rfl) (by
   unfold jaN
   have hn : (jbF 1 ds).num = 1 := by unfold jbF; split <;> rfl
   rw [hn, if_pos rfl, jc1 d64]
   rfl)), jbG (b := ⟨ds, ty, ⟨#[]⟩, ⟨[], [], [], ⟨#[]⟩⟩⟩) (jeN (fun h0 => absurd h0 hty.1) (by
   unfold jaN
   rw [if_neg (show ¬ (je0 2 ty).num = 1 by show ¬ (2 : Int) = 1; decide), if_pos (show (je0 2 ty).num = 2 from rfl), jd6 hty.2]
   rfl)), jbG (b := ⟨ds, ty, ⟨#[]⟩, p⟩) (jdu e1)]
  exact jdh (fun h0 => by rw [jcR h0]) rfl
 show (jaA jaN t0 ([] ++ nsF 1 ds ++ nuF 2 ty ++ [f] ++ txF 8 name)).bind _ = _
 rw [k]
 show (jdy (pbE ty ds (jdd ty p))).bind _ = _
 rw [e2, hp]
 show (jai (jaL [name]) 6).bind _ = _
 rw [hn]
 rfl
end Go.Proofs.YtbgbpfbjeleooaaGreat.Pd
