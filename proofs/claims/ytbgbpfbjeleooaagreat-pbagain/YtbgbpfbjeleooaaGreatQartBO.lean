/- A part. -/
import Derived.Test.YtbgbpfbjeleooaaGreatQartBN
import Derived.Test.YtbgbpfbjeleooaaGreatQartAW
set_option maxHeartbeats 25600000
set_option maxRecDepth 100000
namespace Go.Proofs.YtbgbpfbjeleooaaGreat.Pd
open Go.RowKit
open Wr (Fld)
def jaH (G : NGra) : R ByteArray := (jam G).bind fun s => (ja9 ([], 0) (jaW 7 s)).bind fun m => wrP m.1
theorem jfU (g : Gra) (ns : List (Nod × Ni)) (is os : List (Val × List Int)) (ts : List (Nam × List Int × List Int)) (w : World) (hr : RdG w g ns is os ts) (hsm : SmallG g ns is os ts) :
    Calls Tryz.prog 38 #[jdb g] w (jbJ w (jaH (jb0 g ns is os ts)) fun s v _ => v = .string s) := by
     have HR := jac hr
     have HS := jac hsm
     obtain ⟨na, nc, e1, -⟩ := hr.nodes.form
     obtain ⟨ia, ic, e2, -⟩ := hr.ins.form
     obtain ⟨oa, oc, e3, -⟩ := hr.outs.form
     obtain ⟨ta, tc, e4, -⟩ := hr.inits.form
     unfold jdb
     simp only [Sl.v, Value.slice.injEq, List.length_map] at e1 e2 e3 e4
     obtain ⟨z1a, z1b, z1c⟩ := e1
     obtain ⟨z2a, z2b, z2c⟩ := e2
     obtain ⟨z3a, z3b, z3c⟩ := e3
     obtain ⟨z4a, z4b, z4c⟩ := e4
     rw [z1a, z1b, z1c, z2a, z2b, z2c, z3a, z3b, z3c, z4a, z4b, z4c]
     clear hr hsm
     obtain ⟨wb, hwb⟩ : ∃ wb, wb = w.alloc (.cells #[.string g.name, .slice na ns.length nc, .slice ia is.length ic, .slice oa os.length oc, .slice ta ts.length tc] 27) := ⟨_, rfl⟩
     have GB : Hid (w.grownBy wb none) := by show w.grownBy wb none; rw [hwb]; exact jab _ _
     have hb : wb.heap[w.heap.size]? = some (.cells #[.string g.name, .slice na ns.length nc, .slice ia is.length ic, .slice oa os.length oc, .slice ta ts.length tc] 27 (0, 0)) := by rw [hwb]; exact heap_alloc_new w _
     have BX : Hid (∀ wx, wb.grownBy wx none → wx.heap[w.heap.size]? = some (.cells #[.string g.name, .slice na ns.length nc, .slice ia is.length ic, .slice oa os.length oc, .slice ta ts.length tc] 27 (0, 0))) := fun wx hg => jag hb hg
     have pm := jcy wb
     have g1 := jab wb (.cells #[.slice none 0 0, .int .i64 0] 114)
     obtain ⟨w1, hw1⟩ : ∃ w1, w1 = wb.alloc (.cells #[.slice none 0 0, .int .i64 0] 114) := ⟨_, rfl⟩
     have sB : wb.heap.size = w.heap.size + 1 := by rw [hwb, jas]
     obtain ⟨B, hB⟩ : ∃ B, B = w.heap.size + 1 := ⟨_, rfl⟩
     obtain ⟨lo, hlo⟩ : ∃ lo, lo = B := ⟨_, rfl⟩
     rw [← hw1, sB, ← hB] at pm
     have PM : Hid (jcU w1 lo B [] 0) := by show jcU w1 lo B [] 0; rw [hlo]; exact pm
     rw [← hw1] at g1
     have G := jac g1
     have LO : Hid (wb.heap.size ≤ lo) := by show _ ≤ _; omega
     obtain ⟨ll, hll⟩ : ∃ x : List Fld, x = [] := ⟨_, rfl⟩
     obtain ⟨sz, hsz⟩ : ∃ x : Nat, x = 0 := ⟨_, rfl⟩
     have GD : Hid (Gd (ll, sz) 0) := by rw [hll, hsz]; exact Gd.nil
     rw [← hll, ← hsz] at PM
     have E : Hid (jaH (jb0 g ns is os ts) = (jam (jb0 g ns is os ts)).bind fun s => (ja9 (ll, sz) (jaW 7 s)).bind fun m => wrP m.1) := by show _ = _; rw [hll, hsz]; rfl
     clear hll hsz hb pm g1 sB hlo
     go_enter Tryz.func38, Tryz.ntmps38
     go_upto_region 2 with fail
     rw [← hwb, ← hw1, ← hB]
     clear hwb hw1 hB
     obtain ⟨⟨x0, x1, x2, x3, x4⟩, -⟩ := jaz (BX.out w1 G.out)
     have C0 := jac (jfT g ns is os ts w1 (RdG.more HR.out (jaa GB.out G.out)) HS.out)
     unfold jdb at C0
     rw [z1a, z1b, z1c, z2a, z2b, z2c, z3a, z3b, z3c, z4a, z4b, z4c] at C0
     go_wp2_with fail
     clear x0 x1 x2 x3 x4 z1a z1b z1c z2a z2b z2c z3a z3b z3c z4a z4b z4c
     cases hf : jam (jb0 g ns is os ts) with
     | error er =>
      have E2 : Hid (jaH (jb0 g ns is os ts) = .error er) := by show _ = _; rw [E.out, hf]; rfl
      rw [hf] at C0
      clear hf
      refine C0.out.mono ?_
      rintro e wf ⟨hg, rfl⟩
      exact ⟨rfl, jad E2.out (jaa GB.out (jaa G.out hg))⟩
     | ok tx =>
      have E2 : Hid (jaH (jb0 g ns is os ts) = (ja9 (ll, sz) (jaW 7 tx)).bind fun m => wrP m.1) := by show _ = _; rw [E.out, hf]; rfl
      have TS := jac (jmI _ _ hf)
      rw [hf] at C0
      clear hf E
      have E := E2
      clear E2
      refine C0.out.mono ?_
      rintro e wf ⟨hg, v, rfl, rfl⟩
      have PM1 := jac (PM.out.more hg)
      have G1 := jac (jaa G.out hg)
      clear hg C0 PM G
      have PM := PM1
      have G := G1
      clear PM1 G1
      have C := jac (jbj lo B ll sz 7 tx wf PM.out GD.out.1 (by have h := GD.out.2.1; simp only at h; omega) (by have := TS.out; omega))
      go_wp2_with fail
      cases hp : ja9 (ll, sz) (jaW 7 tx) with
      | error er =>
       have E2 : Hid (jaH (jb0 g ns is os ts) = .error er) := by show _ = _; rw [E.out, hp]; rfl
       rw [hp] at C
       clear hp
       refine C.out.mono ?_
       rintro e w4 ⟨ha, rfl⟩
       exact ⟨rfl, jad E2.out (jaa GB.out (Abv.grown G.out LO.out ha))⟩
      | ok m' =>
       obtain ⟨l2, s2⟩ := m'
       have E2 : Hid (jaH (jb0 g ns is os ts) = wrP (l2, s2).1) := by show _ = _; rw [E.out, hp]; rfl
       have GD2 := jac (jco hp GD.out (jbC _ _ (by decide) (by have := TS.out; omega)))
       rw [hp] at C
       clear hp
       refine C.out.mono ?_
       rintro e w4 ⟨ha, v, rfl, rfl, hq⟩
       have PM2 := jac hq
       have G2 := jac (Abv.grown G.out LO.out ha)
       clear ha hq C PM G E GD
       obtain ⟨ll, hll⟩ : ∃ x, x = l2 := ⟨_, rfl⟩
       obtain ⟨sz, hsz⟩ : ∃ x, x = s2 := ⟨_, rfl⟩
       rw [← hll, ← hsz] at PM2 E2 GD2
       clear hll hsz l2 s2
       have PM := PM2
       have G := G2
       have E := E2
       have GD := GD2
       clear PM2 G2 E2 GD2
       have C := jac (jbo lo B ll sz w4 PM.out (by have h := GD.out.2.1; simp only at h; omega) GD.out.2.2)
       go_wp2_with fail
       cases hp : wrP ll with
       | error er =>
        have E2 : Hid (jaH (jb0 g ns is os ts) = .error er) := by show _ = _; rw [E.out, hp]
        rw [hp] at C
        clear hp
        refine C.out.mono ?_
        rintro e wz ⟨hg, rfl⟩
        exact ⟨rfl, jad E2.out (jaa GB.out (jaa G.out hg))⟩
       | ok s =>
        have E2 : Hid (jaH (jb0 g ns is os ts) = .ok s) := by show _ = _; rw [E.out, hp]
        rw [hp] at C
        clear hp
        refine C.out.mono ?_
        rintro e wz ⟨hg, v, rfl, rfl⟩
        have GZ := jac (jaa GB.out (jaa G.out hg))
        clear hg
        go_wp2
        go_ret
        exact jaI E2.out GZ.out rfl
end Go.Proofs.YtbgbpfbjeleooaaGreat.Pd
namespace Go.Proofs.YtbgbpfbjeleooaaGreat.Pd
open Go.RowKit
open Wr (Fld)
def jdP (a : Atr) : Bool := decide (a.f = 0) && decide (a.i = 0) && decide (a.s.size = 0) && decide (a.iv.n = 0) && decide (a.ty = 0) && decide (a.dv.n = 0) && decide (a.tv.n = 0)
theorem jeL (a : Atr) (w : World) : Calls Tryz.prog 122 #[jcu a] w fun e w' => e = .returned (.bool (jdP a)) ∧ w.grownBy w' none := by
 obtain ⟨nm, kd, ff, ii, ss, ty, ⟨da, dn, dc⟩, ⟨ta, tn, tc⟩, ⟨va, vn, vc⟩⟩ := a
 unfold jcu
 simp only at *
 obtain ⟨R0, hR0⟩ : ∃ r, r = jdP ⟨nm, kd, ff, ii, ss, ty, ⟨da, dn, dc⟩, ⟨ta, tn, tc⟩, ⟨va, vn, vc⟩⟩ := ⟨_, rfl⟩
 rw [← hR0]
 have HR := jac hR0
 clear hR0
 have hb := heap_alloc_new w (.cells #[.string nm, .int .i64 kd, .int .i64 ff, .int .i64 ii, .string ss, .int .i64 ty, .slice da dn dc, .slice ta tn tc, .slice va vn vc] 78)
 have G0 := jac (jab w (.cells #[.string nm, .int .i64 kd, .int .i64 ff, .int .i64 ii, .string ss, .int .i64 ty, .slice da dn dc, .slice ta tn tc, .slice va vn vc] 78))
 obtain ⟨⟨x0, x1, x2, x3, x4, x5, x6, x7, x8⟩, -⟩ := jaF hb
 clear hb
 by_cases h0 : ff = 0
 ·skip
  subst h0
  by_cases h1 : ii = 0
  ·skip
   subst h1
   by_cases h2 : ss.size = 0
   ·skip
    have e2 : ss.toList.isEmpty = true := by rw [ByteArray.toList_eq, List.isEmpty_iff]; exact List.length_eq_zero_iff.1 (by rw [Array.length_toList]; exact h2)
    by_cases h3 : vn = 0
    ·skip
     subst h3
     by_cases h4 : ty = 0
     ·skip
      subst h4
      by_cases h5 : dn = 0
      ·skip
       subst h5
       by_cases h6 : tn = 0
       ·skip
        subst h6
        have E : Hid (R0 = true) := by show _ = _; rw [HR.out]; simp [jdP, *]
        rw [E.out]
        clear HR
        go_enter Tryz.func122, Tryz.ntmps122
        go_wp2
        go_ret
        exact ⟨rfl, G0.out⟩
       ·skip
        have E : Hid (R0 = false) := by show _ = _; rw [HR.out]; simp [jdP, *]
        rw [E.out]
        have e6 : ((tn : Int) == 0) = false := by simp; omega
        clear HR h6
        go_enter Tryz.func122, Tryz.ntmps122
        go_wp2
        go_ret
        exact ⟨rfl, G0.out⟩
      ·skip
       have E : Hid (R0 = false) := by show _ = _; rw [HR.out]; simp [jdP, *]
       rw [E.out]
       have e5 : ((dn : Int) == 0) = false := by simp; omega
       clear HR h5
       go_enter Tryz.func122, Tryz.ntmps122
       go_wp2
       go_ret
       exact ⟨rfl, G0.out⟩
     ·skip
      have E : Hid (R0 = false) := by show _ = _; rw [HR.out]; simp [jdP, *]
      rw [E.out]
      have e4 : (ty == 0) = false := by simp; omega
      clear HR h4
      go_enter Tryz.func122, Tryz.ntmps122
      go_wp2
      go_ret
      exact ⟨rfl, G0.out⟩
    ·skip
     have E : Hid (R0 = false) := by show _ = _; rw [HR.out]; simp [jdP, *]
     rw [E.out]
     have e3 : ((vn : Int) == 0) = false := by simp; omega
     clear HR h3
     go_enter Tryz.func122, Tryz.ntmps122
     go_wp2
     go_ret
     exact ⟨rfl, G0.out⟩
   ·skip
    have E : Hid (R0 = false) := by show _ = _; rw [HR.out]; simp [jdP, *]
    rw [E.out]
    have e2 : ss.toList.isEmpty = false := jeA (by omega)
    clear HR h2
    go_enter Tryz.func122, Tryz.ntmps122
    go_wp2
    go_ret
    exact ⟨rfl, G0.out⟩
  ·skip
   have E : Hid (R0 = false) := by show _ = _; rw [HR.out]; simp [jdP, *]
   rw [E.out]
   have e1 : (ii == 0) = false := by simp; omega
   clear HR h1
   go_enter Tryz.func122, Tryz.ntmps122
   go_wp2
   go_ret
   exact ⟨rfl, G0.out⟩
 ·skip
  have E : Hid (R0 = false) := by show _ = _; rw [HR.out]; simp [jdP, *]
  rw [E.out]
  have e0 : (ff == 0) = false := by simp; omega
  clear HR h0
  go_enter Tryz.func122, Tryz.ntmps122
  go_wp2
  go_ret
  exact ⟨rfl, G0.out⟩
end Go.Proofs.YtbgbpfbjeleooaaGreat.Pd
namespace Go.Proofs.YtbgbpfbjeleooaaGreat.Pd
open Go.RowKit
open Wr (Fld)
def jdQ (a : Atr) (c : Cont) : Bool := if a.kind = 1 then chk 1 a.f else if a.kind = 2 then true else if a.kind = 3 then !jaL [a.s] else if a.kind = 4 then decide (pbE a.ty c.d c.t = 0) else if a.kind = 7 then decide (a.iv.n ≤ 20) else false
def jfJ (a : Atr) : Atr := if a.kind = 1 then ⟨a.name, a.kind, 0, a.i, a.s, a.ty, a.dv, a.tv, a.iv⟩ else if a.kind = 2 then ⟨a.name, a.kind, a.f, 0, a.s, a.ty, a.dv, a.tv, a.iv⟩ else if a.kind = 3 then ⟨a.name, a.kind, a.f, a.i, ⟨#[]⟩, a.ty, a.dv, a.tv, a.iv⟩ else if a.kind = 4 then ⟨a.name, a.kind, a.f, a.i, a.s, 0, ⟨none, 0, 0⟩, ⟨none, 0, 0⟩, a.iv⟩ else ⟨a.name, a.kind, a.f, a.i, a.s, a.ty, a.dv, a.tv, ⟨none, 0, 0⟩⟩
def jb1 (a : Atr) (c : Cont) : Bool := jdQ a c && !jaL [a.name] && jdP (jfJ a)
theorem jmJ (a : Atr) (c : Cont) (w : World) (ha : Has w a c) (h : a.kind = 1) : Calls Tryz.prog 96 #[jcu a] w fun e w' => e = .returned (.bool (jb1 a c)) ∧ w.grownBy w' none := by
 obtain ⟨nm, kd, ff, ii, ss, ty, ⟨da, dn, dc⟩, ⟨ta, tn, tc⟩, ⟨va, vn, vc⟩⟩ := a
 obtain ⟨cd, ct, ci⟩ := c
 unfold jcu
 obtain ⟨hd, ht, -⟩ := ha
 simp only [Sl.v] at *
 have HD := jac hd
 have HT := jac ht
 clear hd ht
 obtain ⟨R0, hR0⟩ : ∃ r, r = jb1 ⟨nm, kd, ff, ii, ss, ty, ⟨da, dn, dc⟩, ⟨ta, tn, tc⟩, ⟨va, vn, vc⟩⟩ ⟨cd, ct, ci⟩ := ⟨_, rfl⟩
 rw [← hR0]
 have HR := jac hR0
 clear hR0
 subst h
 have hb := heap_alloc_new w (.cells #[.string nm, .int .i64 1, .int .i64 ff, .int .i64 ii, .string ss, .int .i64 ty, .slice da dn dc, .slice ta tn tc, .slice va vn vc] 78)
 obtain ⟨⟨x0, x1, x2, x3, x4, x5, x6, x7, x8⟩, -⟩ := jaF hb
 go_enter Tryz.func96, Tryz.ntmps96
 go_wp2_with fail
 obtain ⟨wc, hwc⟩ : ∃ wc, wc = w.alloc (.cells #[.string nm, .int .i64 1, .int .i64 ff, .int .i64 ii, .string ss, .int .i64 ty, .slice da dn dc, .slice ta tn tc, .slice va vn vc] 78) := ⟨_, rfl⟩
 have HB0 : Hid (wc.heap[w.heap.size]? = some (.cells #[.string nm, .int .i64 1, .int .i64 ff, .int .i64 ii, .string ss, .int .i64 ty, .slice da dn dc, .slice ta tn tc, .slice va vn vc] 78 (0, 0))) := by show _ = _; rw [hwc]; exact hb
 have G0 : Hid (w.grownBy wc none) := by show w.grownBy wc none; rw [hwc]; exact jab _ _
 rw [← hwc] at x0 x1 x2 x3 x4 x5 x6 x7 x8 ⊢
 clear hwc hb
 refine (jep 1 ff wc).mono ?_
 rintro e w1 ⟨rfl, rfl⟩
 cases hc : chk 1 ff with
 | true =>
  obtain ⟨-, f0, f1, f2, f3, f4, f5, f6, f7, f8⟩ := jaF HB0.out
  have V0 : (w1.setCell ⟨w.heap.size, 2, none⟩ (.int .i64 0)).heap[w.heap.size]? = some (.cells #[.string nm, .int .i64 1, .int .i64 0, .int .i64 ii, .string ss, .int .i64 ty, .slice da dn dc, .slice ta tn tc, .slice va vn vc] 78 (0, 0)) := by simpa using heap_setCell_same w1 w.heap.size 2 _ _ (.int .i64 0) HB0.out
  have G1 := jac (jaf (row := none) G0.out (jap w1 w.heap.size 2 (.int .i64 0)) (fun g e => by cases e; exact .inr (Nat.le_refl _)))
  have HV := jac V0
  obtain ⟨⟨v0, -⟩, -⟩ := jaF V0
  clear V0
  obtain ⟨ws, hws⟩ : ∃ ws, ws = (w1.setCell ⟨w.heap.size, 2, none⟩ (.int .i64 0)) := ⟨_, rfl⟩
  have SS : Hid (ws.heap.size = w1.heap.size) := by show _ = _; rw [hws]; exact World.size_setCell _ _ _
  have LG := jac (jaQ (.slice (some ⟨w1.heap.size, 0, none⟩) 1 1) [nm] (ws.alloc (.cells #[.string nm] 9)) (by have h := jb8 (heap_alloc_new ws (.cells #[.string nm] 9)); rw [SS.out] at h; exact h))
  rw [← hws] at HV G1
  have G2 := jac (jaa G1.out (jab ws (.cells #[.string nm] 9)))
  have H2 := jac (((jab ws (.cells #[.string nm] 9)).block w.heap.size (Array.getElem?_eq_some_iff.1 HV.out).1 (by simp)).trans HV.out)
  rw [hws] at LG G2 H2
  clear hws
  go_wp2_with fail
  refine LG.out.mono ?_
  rintro e w2 ⟨rfl, hw2⟩
  rw [hw2] at G2 H2
  clear hw2 LG v0 x0 x1 x2 x3 x4 x5 x6 x7 x8 f0 f1 f2 f3 f4 f5 f6 f7 f8 HB0 HV G1
  obtain ⟨⟨x0, x1, x2, x3, x4, x5, x6, x7, x8⟩, -⟩ := jaF H2.out
  cases hl : jaL [nm] with
  | true =>
   have E : Hid (R0 = false) := by show _ = _; rw [HR.out]; simp [jb1, jdQ, *]
   clear HR hl
   go_wp2
   go_ret
   exact ⟨congrArg (fun b => Ending.returned (Value.bool b)) E.out.symm, G2.out⟩
  | false =>
   have E : Hid (R0 = jdP ⟨nm, 1, 0, ii, ss, ty, ⟨da, dn, dc⟩, ⟨ta, tn, tc⟩, ⟨va, vn, vc⟩⟩) := by show _ = _; rw [HR.out]; simp [jb1, jdQ, jfJ, *]
   have HO := jac (jeL ⟨nm, 1, 0, ii, ss, ty, ⟨da, dn, dc⟩, ⟨ta, tn, tc⟩, ⟨va, vn, vc⟩⟩ w2)
   unfold jcu at HO
   clear HR hl
   go_wp2_with fail
   refine HO.out.mono ?_
   rintro e w3 ⟨rfl, hg⟩
   have G3 := jac (jaa G2.out hg)
   clear hg
   go_wp2
   go_ret
   exact ⟨congrArg (fun b => Ending.returned (Value.bool b)) E.out.symm, G3.out⟩
 | false =>
  obtain ⟨-, f0, f1, f2, f3, f4, f5, f6, f7, f8⟩ := jaF HB0.out
  have V0 : (w1.setCell ⟨w.heap.size, 2, none⟩ (.int .i64 0)).heap[w.heap.size]? = some (.cells #[.string nm, .int .i64 1, .int .i64 0, .int .i64 ii, .string ss, .int .i64 ty, .slice da dn dc, .slice ta tn tc, .slice va vn vc] 78 (0, 0)) := by simpa using heap_setCell_same w1 w.heap.size 2 _ _ (.int .i64 0) HB0.out
  have G1 := jac (jaf (row := none) G0.out (jap w1 w.heap.size 2 (.int .i64 0)) (fun g e => by cases e; exact .inr (Nat.le_refl _)))
  have HV := jac V0
  clear V0
  have E : Hid (R0 = false) := by show _ = _; rw [HR.out]; simp [jb1, jdQ, *]
  clear HR
  go_wp2
  go_ret
  exact ⟨congrArg (fun b => Ending.returned (Value.bool b)) E.out.symm, G1.out⟩
theorem jmK (a : Atr) (c : Cont) (w : World) (ha : Has w a c) (h : a.kind = 2) : Calls Tryz.prog 96 #[jcu a] w fun e w' => e = .returned (.bool (jb1 a c)) ∧ w.grownBy w' none := by
 obtain ⟨nm, kd, ff, ii, ss, ty, ⟨da, dn, dc⟩, ⟨ta, tn, tc⟩, ⟨va, vn, vc⟩⟩ := a
 obtain ⟨cd, ct, ci⟩ := c
 unfold jcu
 obtain ⟨hd, ht, -⟩ := ha
 simp only [Sl.v] at *
 have HD := jac hd
 have HT := jac ht
 clear hd ht
 obtain ⟨R0, hR0⟩ : ∃ r, r = jb1 ⟨nm, kd, ff, ii, ss, ty, ⟨da, dn, dc⟩, ⟨ta, tn, tc⟩, ⟨va, vn, vc⟩⟩ ⟨cd, ct, ci⟩ := ⟨_, rfl⟩
 rw [← hR0]
 have HR := jac hR0
 clear hR0
 subst h
 have hb := heap_alloc_new w (.cells #[.string nm, .int .i64 2, .int .i64 ff, .int .i64 ii, .string ss, .int .i64 ty, .slice da dn dc, .slice ta tn tc, .slice va vn vc] 78)
 obtain ⟨⟨x0, x1, x2, x3, x4, x5, x6, x7, x8⟩, -⟩ := jaF hb
 have HB0 := jac hb
 have G0 := jac (jab w (.cells #[.string nm, .int .i64 2, .int .i64 ff, .int .i64 ii, .string ss, .int .i64 ty, .slice da dn dc, .slice ta tn tc, .slice va vn vc] 78))
 clear hb
 obtain ⟨-, f0, f1, f2, f3, f4, f5, f6, f7, f8⟩ := jaF HB0.out
 have V0 := heap_alloc_new w (.cells #[.string nm, .int .i64 2, .int .i64 ff, .int .i64 0, .string ss, .int .i64 ty, .slice da dn dc, .slice ta tn tc, .slice va vn vc] 78)
 have G1 := jac (jab w (.cells #[.string nm, .int .i64 2, .int .i64 ff, .int .i64 0, .string ss, .int .i64 ty, .slice da dn dc, .slice ta tn tc, .slice va vn vc] 78))
 have HV := jac V0
 obtain ⟨⟨v0, -⟩, -⟩ := jaF V0
 clear V0
 obtain ⟨ws, hws⟩ : ∃ ws, ws = (w.alloc (.cells #[.string nm, .int .i64 2, .int .i64 ff, .int .i64 0, .string ss, .int .i64 ty, .slice da dn dc, .slice ta tn tc, .slice va vn vc] 78)) := ⟨_, rfl⟩
 have SS : Hid (ws.heap.size = w.heap.size + 1) := by show _ = _; rw [hws]; exact jas _ _ _
 have LG := jac (jaQ (.slice (some ⟨w.heap.size + 1, 0, none⟩) 1 1) [nm] (ws.alloc (.cells #[.string nm] 9)) (by have h := jb8 (heap_alloc_new ws (.cells #[.string nm] 9)); rw [SS.out] at h; exact h))
 rw [← hws] at HV G1
 have G2 := jac (jaa G1.out (jab ws (.cells #[.string nm] 9)))
 have H2 := jac (((jab ws (.cells #[.string nm] 9)).block w.heap.size (Array.getElem?_eq_some_iff.1 HV.out).1 (by simp)).trans HV.out)
 rw [hws] at LG G2 H2
 clear hws
 go_enter Tryz.func96, Tryz.ntmps96
 go_wp2_with fail
 refine LG.out.mono ?_
 rintro e w2 ⟨rfl, hw2⟩
 rw [hw2] at G2 H2
 clear hw2 LG v0 x0 x1 x2 x3 x4 x5 x6 x7 x8 f0 f1 f2 f3 f4 f5 f6 f7 f8 HB0 HV G1
 obtain ⟨⟨x0, x1, x2, x3, x4, x5, x6, x7, x8⟩, -⟩ := jaF H2.out
 cases hl : jaL [nm] with
 | true =>
  have E : Hid (R0 = false) := by show _ = _; rw [HR.out]; simp [jb1, jdQ, *]
  clear HR hl
  go_wp2
  go_ret
  exact ⟨congrArg (fun b => Ending.returned (Value.bool b)) E.out.symm, G2.out⟩
 | false =>
  have E : Hid (R0 = jdP ⟨nm, 2, ff, 0, ss, ty, ⟨da, dn, dc⟩, ⟨ta, tn, tc⟩, ⟨va, vn, vc⟩⟩) := by show _ = _; rw [HR.out]; simp [jb1, jdQ, jfJ, *]
  have HO := jac (jeL ⟨nm, 2, ff, 0, ss, ty, ⟨da, dn, dc⟩, ⟨ta, tn, tc⟩, ⟨va, vn, vc⟩⟩ w2)
  unfold jcu at HO
  clear HR hl
  go_wp2_with fail
  refine HO.out.mono ?_
  rintro e w3 ⟨rfl, hg⟩
  have G3 := jac (jaa G2.out hg)
  clear hg
  go_wp2
  go_ret
  exact ⟨congrArg (fun b => Ending.returned (Value.bool b)) E.out.symm, G3.out⟩
theorem jmL (a : Atr) (c : Cont) (w : World) (ha : Has w a c) (h : a.kind = 3) : Calls Tryz.prog 96 #[jcu a] w fun e w' => e = .returned (.bool (jb1 a c)) ∧ w.grownBy w' none := by
 obtain ⟨nm, kd, ff, ii, ss, ty, ⟨da, dn, dc⟩, ⟨ta, tn, tc⟩, ⟨va, vn, vc⟩⟩ := a
 obtain ⟨cd, ct, ci⟩ := c
 unfold jcu
 obtain ⟨hd, ht, -⟩ := ha
 simp only [Sl.v] at *
 have HD := jac hd
 have HT := jac ht
 clear hd ht
 obtain ⟨R0, hR0⟩ : ∃ r, r = jb1 ⟨nm, kd, ff, ii, ss, ty, ⟨da, dn, dc⟩, ⟨ta, tn, tc⟩, ⟨va, vn, vc⟩⟩ ⟨cd, ct, ci⟩ := ⟨_, rfl⟩
 rw [← hR0]
 have HR := jac hR0
 clear hR0
 subst h
 have hb := heap_alloc_new w (.cells #[.string nm, .int .i64 3, .int .i64 ff, .int .i64 ii, .string ss, .int .i64 ty, .slice da dn dc, .slice ta tn tc, .slice va vn vc] 78)
 obtain ⟨⟨x0, x1, x2, x3, x4, x5, x6, x7, x8⟩, -⟩ := jaF hb
 have LS := jac (jaQ (.slice (some ⟨w.heap.size + 1, 0, none⟩) 1 1) [ss] ((w.alloc (.cells #[.string nm, .int .i64 3, .int .i64 ff, .int .i64 ii, .string ss, .int .i64 ty, .slice da dn dc, .slice ta tn tc, .slice va vn vc] 78)).alloc (.cells #[.string ss] 9)) (by have h := jb8 (heap_alloc_new (w.alloc (.cells #[.string nm, .int .i64 3, .int .i64 ff, .int .i64 ii, .string ss, .int .i64 ty, .slice da dn dc, .slice ta tn tc, .slice va vn vc] 78)) (.cells #[.string ss] 9)); rw [jas] at h; exact h))
 go_enter Tryz.func96, Tryz.ntmps96
 go_wp2_with fail
 refine LS.out.mono ?_
 obtain ⟨wc, hwc⟩ : ∃ wc, wc = (w.alloc (.cells #[.string nm, .int .i64 3, .int .i64 ff, .int .i64 ii, .string ss, .int .i64 ty, .slice da dn dc, .slice ta tn tc, .slice va vn vc] 78)).alloc (.cells #[.string ss] 9) := ⟨_, rfl⟩
 have HB0 : Hid (wc.heap[w.heap.size]? = some (.cells #[.string nm, .int .i64 3, .int .i64 ff, .int .i64 ii, .string ss, .int .i64 ty, .slice da dn dc, .slice ta tn tc, .slice va vn vc] 78 (0, 0))) := by show _ = _; rw [hwc]; exact jbV _ _ _ _ _
 have G0 : Hid (w.grownBy wc none) := by show w.grownBy wc none; rw [hwc]; exact jaa (jab _ _) (jab _ _)
 rw [← hwc]
 clear x0 x1 x2 x3 x4 x5 x6 x7 x8 LS hwc hb
 rintro e w1 ⟨rfl, rfl⟩
 obtain ⟨⟨x0, x1, x2, x3, x4, x5, x6, x7, x8⟩, -⟩ := jaF HB0.out
 cases hc : jaL [ss] with
 | false =>
  obtain ⟨-, f0, f1, f2, f3, f4, f5, f6, f7, f8⟩ := jaF HB0.out
  have V0 : (wc.setCell ⟨w.heap.size, 4, none⟩ (.string ⟨#[]⟩)).heap[w.heap.size]? = some (.cells #[.string nm, .int .i64 3, .int .i64 ff, .int .i64 ii, .string ⟨#[]⟩, .int .i64 ty, .slice da dn dc, .slice ta tn tc, .slice va vn vc] 78 (0, 0)) := by simpa using heap_setCell_same wc w.heap.size 4 _ _ (.string ⟨#[]⟩) HB0.out
  have G1 := jac (jaf (row := none) G0.out (jap wc w.heap.size 4 (.string ⟨#[]⟩)) (fun g e => by cases e; exact .inr (Nat.le_refl _)))
  have HV := jac V0
  obtain ⟨⟨v0, -⟩, -⟩ := jaF V0
  clear V0
  obtain ⟨ws, hws⟩ : ∃ ws, ws = (wc.setCell ⟨w.heap.size, 4, none⟩ (.string ⟨#[]⟩)) := ⟨_, rfl⟩
  have SS : Hid (ws.heap.size = wc.heap.size) := by show _ = _; rw [hws]; exact World.size_setCell _ _ _
  have LG := jac (jaQ (.slice (some ⟨wc.heap.size, 0, none⟩) 1 1) [nm] (ws.alloc (.cells #[.string nm] 9)) (by have h := jb8 (heap_alloc_new ws (.cells #[.string nm] 9)); rw [SS.out] at h; exact h))
  rw [← hws] at HV G1
  have G2 := jac (jaa G1.out (jab ws (.cells #[.string nm] 9)))
  have H2 := jac (((jab ws (.cells #[.string nm] 9)).block w.heap.size (Array.getElem?_eq_some_iff.1 HV.out).1 (by simp)).trans HV.out)
  rw [hws] at LG G2 H2
  clear hws
  go_wp2_with fail
  refine LG.out.mono ?_
  rintro e w2 ⟨rfl, hw2⟩
  rw [hw2] at G2 H2
  clear hw2 LG v0 x0 x1 x2 x3 x4 x5 x6 x7 x8 f0 f1 f2 f3 f4 f5 f6 f7 f8 HB0 HV G1
  obtain ⟨⟨x0, x1, x2, x3, x4, x5, x6, x7, x8⟩, -⟩ := jaF H2.out
  cases hl : jaL [nm] with
  | true =>
   have E : Hid (R0 = false) := by show _ = _; rw [HR.out]; simp [jb1, jdQ, *]
   clear HR hl
   go_wp2
   go_ret
   exact ⟨congrArg (fun b => Ending.returned (Value.bool b)) E.out.symm, G2.out⟩
  | false =>
   have E : Hid (R0 = jdP ⟨nm, 3, ff, ii, ⟨#[]⟩, ty, ⟨da, dn, dc⟩, ⟨ta, tn, tc⟩, ⟨va, vn, vc⟩⟩) := by show _ = _; rw [HR.out]; simp [jb1, jdQ, jfJ, *]
   have HO := jac (jeL ⟨nm, 3, ff, ii, ⟨#[]⟩, ty, ⟨da, dn, dc⟩, ⟨ta, tn, tc⟩, ⟨va, vn, vc⟩⟩ w2)
   unfold jcu at HO
   clear HR hl
   go_wp2_with fail
   refine HO.out.mono ?_
   rintro e w3 ⟨rfl, hg⟩
   have G3 := jac (jaa G2.out hg)
   clear hg
   go_wp2
   go_ret
   exact ⟨congrArg (fun b => Ending.returned (Value.bool b)) E.out.symm, G3.out⟩
 | true =>
  obtain ⟨-, f0, f1, f2, f3, f4, f5, f6, f7, f8⟩ := jaF HB0.out
  have V0 : (wc.setCell ⟨w.heap.size, 4, none⟩ (.string ⟨#[]⟩)).heap[w.heap.size]? = some (.cells #[.string nm, .int .i64 3, .int .i64 ff, .int .i64 ii, .string ⟨#[]⟩, .int .i64 ty, .slice da dn dc, .slice ta tn tc, .slice va vn vc] 78 (0, 0)) := by simpa using heap_setCell_same wc w.heap.size 4 _ _ (.string ⟨#[]⟩) HB0.out
  have G1 := jac (jaf (row := none) G0.out (jap wc w.heap.size 4 (.string ⟨#[]⟩)) (fun g e => by cases e; exact .inr (Nat.le_refl _)))
  have HV := jac V0
  clear V0
  have E : Hid (R0 = false) := by show _ = _; rw [HR.out]; simp [jb1, jdQ, *]
  clear HR
  go_wp2
  go_ret
  exact ⟨congrArg (fun b => Ending.returned (Value.bool b)) E.out.symm, G1.out⟩
theorem jmM (a : Atr) (c : Cont) (w : World) (ha : Has w a c) (h : a.kind = 4) : Calls Tryz.prog 96 #[jcu a] w fun e w' => e = .returned (.bool (jb1 a c)) ∧ w.grownBy w' none := by
 obtain ⟨nm, kd, ff, ii, ss, ty, ⟨da, dn, dc⟩, ⟨ta, tn, tc⟩, ⟨va, vn, vc⟩⟩ := a
 obtain ⟨cd, ct, ci⟩ := c
 unfold jcu
 obtain ⟨hd, ht, -⟩ := ha
 simp only [Sl.v] at *
 have HD := jac hd
 have HT := jac ht
 clear hd ht
 obtain ⟨R0, hR0⟩ : ∃ r, r = jb1 ⟨nm, kd, ff, ii, ss, ty, ⟨da, dn, dc⟩, ⟨ta, tn, tc⟩, ⟨va, vn, vc⟩⟩ ⟨cd, ct, ci⟩ := ⟨_, rfl⟩
 rw [← hR0]
 have HR := jac hR0
 clear hR0
 subst h
 have hb := heap_alloc_new w (.cells #[.string nm, .int .i64 4, .int .i64 ff, .int .i64 ii, .string ss, .int .i64 ty, .slice da dn dc, .slice ta tn tc, .slice va vn vc] 78)
 obtain ⟨⟨x0, x1, x2, x3, x4, x5, x6, x7, x8⟩, -⟩ := jaF hb
 go_enter Tryz.func96, Tryz.ntmps96
 go_wp2_with fail
 obtain ⟨wc, hwc⟩ : ∃ wc, wc = w.alloc (.cells #[.string nm, .int .i64 4, .int .i64 ff, .int .i64 ii, .string ss, .int .i64 ty, .slice da dn dc, .slice ta tn tc, .slice va vn vc] 78) := ⟨_, rfl⟩
 have HB0 : Hid (wc.heap[w.heap.size]? = some (.cells #[.string nm, .int .i64 4, .int .i64 ff, .int .i64 ii, .string ss, .int .i64 ty, .slice da dn dc, .slice ta tn tc, .slice va vn vc] 78 (0, 0))) := by show _ = _; rw [hwc]; exact hb
 have G0 : Hid (w.grownBy wc none) := by show w.grownBy wc none; rw [hwc]; exact jab _ _
 rw [← hwc] at x0 x1 x2 x3 x4 x5 x6 x7 x8 ⊢
 clear hwc hb
 have PC := jac (jeg ty (.slice da dn dc) (.slice ta tn tc) cd ct wc (jax.more HD.out G0.out) (jax.more HT.out G0.out))
 refine PC.out.mono ?_
 rintro e w1 ⟨rfl, hg⟩
 have HB1 := jac ((hg.block w.heap.size (Array.getElem?_eq_some_iff.1 HB0.out).1 (by simp)).trans HB0.out)
 have G01 := jac (jaa G0.out hg)
 clear hg PC x0 x1 x2 x3 x4 x5 x6 x7 x8 HB0 G0
 have HB0 := HB1
 have G0 := G01
 clear HB1 G01
 obtain ⟨⟨x0, x1, x2, x3, x4, x5, x6, x7, x8⟩, -⟩ := jaF HB0.out
 obtain ⟨pe, hpe⟩ : ∃ x, x = pbE ty cd ct := ⟨_, rfl⟩
 rw [← hpe]
 by_cases hc : pe = 0
 ·skip
  have HC : Hid (pbE ty cd ct = 0) := by show _ = _; rw [← hpe, hc]
  have hc2 := HC.out
  subst hc
  clear hpe
  obtain ⟨-, f0, f1, f2, f3, f4, f5, f6, f7, f8⟩ := jaF HB0.out
  have V0 : (w1.setCell ⟨w.heap.size, 5, none⟩ (.int .i64 0)).heap[w.heap.size]? = some (.cells #[.string nm, .int .i64 4, .int .i64 ff, .int .i64 ii, .string ss, .int .i64 0, .slice da dn dc, .slice ta tn tc, .slice va vn vc] 78 (0, 0)) := by simpa using heap_setCell_same w1 w.heap.size 5 _ _ (.int .i64 0) HB0.out
  have V1 : ((w1.setCell ⟨w.heap.size, 5, none⟩ (.int .i64 0)).setCell ⟨w.heap.size, 6, none⟩ (.slice none 0 0)).heap[w.heap.size]? = some (.cells #[.string nm, .int .i64 4, .int .i64 ff, .int .i64 ii, .string ss, .int .i64 0, .slice none 0 0, .slice ta tn tc, .slice va vn vc] 78 (0, 0)) := by simpa using heap_setCell_same (w1.setCell ⟨w.heap.size, 5, none⟩ (.int .i64 0)) w.heap.size 6 _ _ (.slice none 0 0) V0
  have V2 : (((w1.setCell ⟨w.heap.size, 5, none⟩ (.int .i64 0)).setCell ⟨w.heap.size, 6, none⟩ (.slice none 0 0)).setCell ⟨w.heap.size, 7, none⟩ (.slice none 0 0)).heap[w.heap.size]? = some (.cells #[.string nm, .int .i64 4, .int .i64 ff, .int .i64 ii, .string ss, .int .i64 0, .slice none 0 0, .slice none 0 0, .slice va vn vc] 78 (0, 0)) := by simpa using heap_setCell_same ((w1.setCell ⟨w.heap.size, 5, none⟩ (.int .i64 0)).setCell ⟨w.heap.size, 6, none⟩ (.slice none 0 0)) w.heap.size 7 _ _ (.slice none 0 0) V1
  have G1 := jac (jaf (row := none) G0.out (Wr.row_trans (Wr.row_trans (jap w1 w.heap.size 5 (.int .i64 0)) (jap _ w.heap.size 6 (.slice none 0 0))) (jap _ w.heap.size 7 (.slice none 0 0))) (fun g e => by cases e; exact .inr (Nat.le_refl _)))
  have HV := jac V2
  obtain ⟨⟨v0, -⟩, -⟩ := jaF V2
  clear V0 V1 V2 
  obtain ⟨ws, hws⟩ : ∃ ws, ws = (((w1.setCell ⟨w.heap.size, 5, none⟩ (.int .i64 0)).setCell ⟨w.heap.size, 6, none⟩ (.slice none 0 0)).setCell ⟨w.heap.size, 7, none⟩ (.slice none 0 0)) := ⟨_, rfl⟩
  have SS : Hid (ws.heap.size = w1.heap.size) := by show _ = _; rw [hws]; exact (World.size_setCell _ _ _).trans ((World.size_setCell _ _ _).trans (World.size_setCell _ _ _))
  have LG := jac (jaQ (.slice (some ⟨w1.heap.size, 0, none⟩) 1 1) [nm] (ws.alloc (.cells #[.string nm] 9)) (by have h := jb8 (heap_alloc_new ws (.cells #[.string nm] 9)); rw [SS.out] at h; exact h))
  rw [← hws] at HV G1
  have G2 := jac (jaa G1.out (jab ws (.cells #[.string nm] 9)))
  have H2 := jac (((jab ws (.cells #[.string nm] 9)).block w.heap.size (Array.getElem?_eq_some_iff.1 HV.out).1 (by simp)).trans HV.out)
  rw [hws] at LG G2 H2
  clear hws
  go_wp2_with fail
  refine LG.out.mono ?_
  rintro e w2 ⟨rfl, hw2⟩
  rw [hw2] at G2 H2
  clear hw2 LG v0 x0 x1 x2 x3 x4 x5 x6 x7 x8 f0 f1 f2 f3 f4 f5 f6 f7 f8 HB0 HV G1
  obtain ⟨⟨x0, x1, x2, x3, x4, x5, x6, x7, x8⟩, -⟩ := jaF H2.out
  cases hl : jaL [nm] with
  | true =>
   have E : Hid (R0 = false) := by show _ = _; rw [HR.out]; simp [jb1, jdQ, *]
   clear HR hl
   go_wp2
   go_ret
   exact ⟨congrArg (fun b => Ending.returned (Value.bool b)) E.out.symm, G2.out⟩
  | false =>
   have E : Hid (R0 = jdP ⟨nm, 4, ff, ii, ss, 0, ⟨none, 0, 0⟩, ⟨none, 0, 0⟩, ⟨va, vn, vc⟩⟩) := by show _ = _; rw [HR.out]; simp [jb1, jdQ, jfJ, *]
   have HO := jac (jeL ⟨nm, 4, ff, ii, ss, 0, ⟨none, 0, 0⟩, ⟨none, 0, 0⟩, ⟨va, vn, vc⟩⟩ w2)
   unfold jcu at HO
   clear HR hl
   go_wp2_with fail
   refine HO.out.mono ?_
   rintro e w3 ⟨rfl, hg⟩
   have G3 := jac (jaa G2.out hg)
   clear hg
   go_wp2
   go_ret
   exact ⟨congrArg (fun b => Ending.returned (Value.bool b)) E.out.symm, G3.out⟩
 ·skip
  have hc2 : ¬ pbE ty cd ct = 0 := by rw [← hpe]; exact hc
  have hc3 : (pe == 0) = false := by simpa using hc
  obtain ⟨-, f0, f1, f2, f3, f4, f5, f6, f7, f8⟩ := jaF HB0.out
  have V0 : (w1.setCell ⟨w.heap.size, 5, none⟩ (.int .i64 0)).heap[w.heap.size]? = some (.cells #[.string nm, .int .i64 4, .int .i64 ff, .int .i64 ii, .string ss, .int .i64 0, .slice da dn dc, .slice ta tn tc, .slice va vn vc] 78 (0, 0)) := by simpa using heap_setCell_same w1 w.heap.size 5 _ _ (.int .i64 0) HB0.out
  have V1 : ((w1.setCell ⟨w.heap.size, 5, none⟩ (.int .i64 0)).setCell ⟨w.heap.size, 6, none⟩ (.slice none 0 0)).heap[w.heap.size]? = some (.cells #[.string nm, .int .i64 4, .int .i64 ff, .int .i64 ii, .string ss, .int .i64 0, .slice none 0 0, .slice ta tn tc, .slice va vn vc] 78 (0, 0)) := by simpa using heap_setCell_same (w1.setCell ⟨w.heap.size, 5, none⟩ (.int .i64 0)) w.heap.size 6 _ _ (.slice none 0 0) V0
  have V2 : (((w1.setCell ⟨w.heap.size, 5, none⟩ (.int .i64 0)).setCell ⟨w.heap.size, 6, none⟩ (.slice none 0 0)).setCell ⟨w.heap.size, 7, none⟩ (.slice none 0 0)).heap[w.heap.size]? = some (.cells #[.string nm, .int .i64 4, .int .i64 ff, .int .i64 ii, .string ss, .int .i64 0, .slice none 0 0, .slice none 0 0, .slice va vn vc] 78 (0, 0)) := by simpa using heap_setCell_same ((w1.setCell ⟨w.heap.size, 5, none⟩ (.int .i64 0)).setCell ⟨w.heap.size, 6, none⟩ (.slice none 0 0)) w.heap.size 7 _ _ (.slice none 0 0) V1
  have G1 := jac (jaf (row := none) G0.out (Wr.row_trans (Wr.row_trans (jap w1 w.heap.size 5 (.int .i64 0)) (jap _ w.heap.size 6 (.slice none 0 0))) (jap _ w.heap.size 7 (.slice none 0 0))) (fun g e => by cases e; exact .inr (Nat.le_refl _)))
  have HV := jac V2
  clear V0 V1 V2
  have E : Hid (R0 = false) := by show _ = _; rw [HR.out]; simp [jb1, jdQ, *]
  clear HR
  go_wp2
  go_ret
  exact ⟨congrArg (fun b => Ending.returned (Value.bool b)) E.out.symm, G1.out⟩
theorem jmN (a : Atr) (c : Cont) (w : World) (ha : Has w a c) (h : a.kind = 7) : Calls Tryz.prog 96 #[jcu a] w fun e w' => e = .returned (.bool (jb1 a c)) ∧ w.grownBy w' none := by
 obtain ⟨nm, kd, ff, ii, ss, ty, ⟨da, dn, dc⟩, ⟨ta, tn, tc⟩, ⟨va, vn, vc⟩⟩ := a
 obtain ⟨cd, ct, ci⟩ := c
 unfold jcu
 obtain ⟨hd, ht, -⟩ := ha
 simp only [Sl.v] at *
 have HD := jac hd
 have HT := jac ht
 clear hd ht
 obtain ⟨R0, hR0⟩ : ∃ r, r = jb1 ⟨nm, kd, ff, ii, ss, ty, ⟨da, dn, dc⟩, ⟨ta, tn, tc⟩, ⟨va, vn, vc⟩⟩ ⟨cd, ct, ci⟩ := ⟨_, rfl⟩
 rw [← hR0]
 have HR := jac hR0
 clear hR0
 subst h
 have hb := heap_alloc_new w (.cells #[.string nm, .int .i64 7, .int .i64 ff, .int .i64 ii, .string ss, .int .i64 ty, .slice da dn dc, .slice ta tn tc, .slice va vn vc] 78)
 obtain ⟨⟨x0, x1, x2, x3, x4, x5, x6, x7, x8⟩, -⟩ := jaF hb
 have HB0 := jac hb
 have G0 := jac (jab w (.cells #[.string nm, .int .i64 7, .int .i64 ff, .int .i64 ii, .string ss, .int .i64 ty, .slice da dn dc, .slice ta tn tc, .slice va vn vc] 78))
 clear hb
 by_cases hc : vn ≤ 20
 ·skip
  obtain ⟨-, f0, f1, f2, f3, f4, f5, f6, f7, f8⟩ := jaF HB0.out
  have V0 := heap_alloc_new w (.cells #[.string nm, .int .i64 7, .int .i64 ff, .int .i64 ii, .string ss, .int .i64 ty, .slice da dn dc, .slice ta tn tc, .slice none 0 0] 78)
  have G1 := jac (jab w (.cells #[.string nm, .int .i64 7, .int .i64 ff, .int .i64 ii, .string ss, .int .i64 ty, .slice da dn dc, .slice ta tn tc, .slice none 0 0] 78))
  have HV := jac V0
  obtain ⟨⟨v0, -⟩, -⟩ := jaF V0
  clear V0
  obtain ⟨ws, hws⟩ : ∃ ws, ws = (w.alloc (.cells #[.string nm, .int .i64 7, .int .i64 ff, .int .i64 ii, .string ss, .int .i64 ty, .slice da dn dc, .slice ta tn tc, .slice none 0 0] 78)) := ⟨_, rfl⟩
  have SS : Hid (ws.heap.size = w.heap.size + 1) := by show _ = _; rw [hws]; exact jas _ _ _
  have LG := jac (jaQ (.slice (some ⟨w.heap.size + 1, 0, none⟩) 1 1) [nm] (ws.alloc (.cells #[.string nm] 9)) (by have h := jb8 (heap_alloc_new ws (.cells #[.string nm] 9)); rw [SS.out] at h; exact h))
  rw [← hws] at HV G1
  have G2 := jac (jaa G1.out (jab ws (.cells #[.string nm] 9)))
  have H2 := jac (((jab ws (.cells #[.string nm] 9)).block w.heap.size (Array.getElem?_eq_some_iff.1 HV.out).1 (by simp)).trans HV.out)
  rw [hws] at LG G2 H2
  clear hws
  have hd : decide ((vn : Int) ≤ 20) = true := by simp; omega
  go_enter Tryz.func96, Tryz.ntmps96
  go_wp2_with fail
  refine LG.out.mono ?_
  rintro e w2 ⟨rfl, hw2⟩
  rw [hw2] at G2 H2
  clear hw2 LG v0 x0 x1 x2 x3 x4 x5 x6 x7 x8 f0 f1 f2 f3 f4 f5 f6 f7 f8 HB0 HV G1
  obtain ⟨⟨x0, x1, x2, x3, x4, x5, x6, x7, x8⟩, -⟩ := jaF H2.out
  cases hl : jaL [nm] with
  | true =>
   have E : Hid (R0 = false) := by show _ = _; rw [HR.out]; simp [jb1, jdQ, *]
   clear HR hl
   go_wp2
   go_ret
   exact ⟨congrArg (fun b => Ending.returned (Value.bool b)) E.out.symm, G2.out⟩
  | false =>
   have E : Hid (R0 = jdP ⟨nm, 7, ff, ii, ss, ty, ⟨da, dn, dc⟩, ⟨ta, tn, tc⟩, ⟨none, 0, 0⟩⟩) := by show _ = _; rw [HR.out]; simp [jb1, jdQ, jfJ, *]
   have HO := jac (jeL ⟨nm, 7, ff, ii, ss, ty, ⟨da, dn, dc⟩, ⟨ta, tn, tc⟩, ⟨none, 0, 0⟩⟩ w2)
   unfold jcu at HO
   clear HR hl
   go_wp2_with fail
   refine HO.out.mono ?_
   rintro e w3 ⟨rfl, hg⟩
   have G3 := jac (jaa G2.out hg)
   clear hg
   go_wp2
   go_ret
   exact ⟨congrArg (fun b => Ending.returned (Value.bool b)) E.out.symm, G3.out⟩
 ·skip
  obtain ⟨-, f0, f1, f2, f3, f4, f5, f6, f7, f8⟩ := jaF HB0.out
  have V0 := heap_alloc_new w (.cells #[.string nm, .int .i64 7, .int .i64 ff, .int .i64 ii, .string ss, .int .i64 ty, .slice da dn dc, .slice ta tn tc, .slice none 0 0] 78)
  have G1 := jac (jab w (.cells #[.string nm, .int .i64 7, .int .i64 ff, .int .i64 ii, .string ss, .int .i64 ty, .slice da dn dc, .slice ta tn tc, .slice none 0 0] 78))
  have HV := jac V0
  clear V0
  have E : Hid (R0 = false) := by show _ = _; rw [HR.out]; simp [jb1, jdQ, *]
  clear HR
  have hd : decide ((vn : Int) ≤ 20) = false := by simp; omega
  go_enter Tryz.func96, Tryz.ntmps96
  go_wp2
  go_ret
  exact ⟨congrArg (fun b => Ending.returned (Value.bool b)) E.out.symm, G1.out⟩
theorem jjR (a : Atr) (c : Cont) (w : World) (ha : Has w a c) (h1 : ¬ a.kind = 1) (h2 : ¬ a.kind = 2) (h3 : ¬ a.kind = 3) (h4 : ¬ a.kind = 4) (h7 : ¬ a.kind = 7) : Calls Tryz.prog 96 #[jcu a] w fun e w' => e = .returned (.bool (jb1 a c)) ∧ w.grownBy w' none := by
 obtain ⟨nm, kd, ff, ii, ss, ty, ⟨da, dn, dc⟩, ⟨ta, tn, tc⟩, ⟨va, vn, vc⟩⟩ := a
 obtain ⟨cd, ct, ci⟩ := c
 unfold jcu
 obtain ⟨hd, ht, -⟩ := ha
 simp only [Sl.v] at *
 have HD := jac hd
 have HT := jac ht
 clear hd ht
 obtain ⟨R0, hR0⟩ : ∃ r, r = jb1 ⟨nm, kd, ff, ii, ss, ty, ⟨da, dn, dc⟩, ⟨ta, tn, tc⟩, ⟨va, vn, vc⟩⟩ ⟨cd, ct, ci⟩ := ⟨_, rfl⟩
 rw [← hR0]
 have HR := jac hR0
 clear hR0
 have E : Hid (R0 = false) := by show _ = _; rw [HR.out]; simp [jb1, jdQ, *]
 have b1 : (kd == 1) = false := by simpa using h1
 have b2 : (kd == 2) = false := by simpa using h2
 have b3 : (kd == 3) = false := by simpa using h3
 have b4 : (kd == 4) = false := by simpa using h4
 have b7 : (kd == 7) = false := by simpa using h7
 clear h1 h2 h3 h4 h7 HR
 rw [E.out]
 have hb := heap_alloc_new w (.cells #[.string nm, .int .i64 kd, .int .i64 ff, .int .i64 ii, .string ss, .int .i64 ty, .slice da dn dc, .slice ta tn tc, .slice va vn vc] 78)
 have G0 := jac (jab w (.cells #[.string nm, .int .i64 kd, .int .i64 ff, .int .i64 ii, .string ss, .int .i64 ty, .slice da dn dc, .slice ta tn tc, .slice va vn vc] 78))
 obtain ⟨⟨x0, x1, x2, x3, x4, x5, x6, x7, x8⟩, -⟩ := jaF hb
 clear hb
 go_enter Tryz.func96, Tryz.ntmps96
 go_wp2
 go_ret
 exact ⟨rfl, G0.out⟩
theorem jhb (a : Atr) (c : Cont) (w : World) (ha : Has w a c) : Calls Tryz.prog 96 #[jcu a] w fun e w' => e = .returned (.bool (jb1 a c)) ∧ w.grownBy w' none := by
 by_cases h1 : a.kind = 1
 ·exact jmJ a c w ha h1
 by_cases h2 : a.kind = 2
 ·exact jmK a c w ha h2
 by_cases h3 : a.kind = 3
 ·exact jmL a c w ha h3
 by_cases h4 : a.kind = 4
 ·exact jmM a c w ha h4
 by_cases h7 : a.kind = 7
 ·exact jmN a c w ha h7
 exact jjR a c w ha h1 h2 h3 h4 h7
end Go.Proofs.YtbgbpfbjeleooaaGreat.Pd
namespace Go.Proofs.YtbgbpfbjeleooaaGreat.Pd
open Go.RowKit
open Wr (Fld)
def jfK (p : Val × List Int) : Bool := !jaL [p.1.name] && chk p.1.ty 0 && decide (jcW p.2 = 0)
def jbw (vs : List (Val × List Int)) : Bool := vs.all jfK
theorem je5 (v : Value) (vs : List (Val × List Int)) (w : World) (hv : jes w v (vs.map (·.1))) (hd : ∀ p ∈ vs, jiX w p.1 p.2) :
    Calls Tryz.prog 68 #[v] w fun e w' => e = .returned (.bool (jbw vs)) ∧ w.grownBy w' none := by
     have HV := jac hv
     have HD := jac hd
     obtain ⟨va, vc, rfl, n1, n2, -⟩ := hv.form
     have hNL : vs.length ≤ 9223372036854775807 := by rw [List.length_map] at n1; omega
     clear hv hd n1 n2
     rw [List.length_map] at HV ⊢
     obtain ⟨R0, hR0⟩ : ∃ r, r = jbw vs := ⟨_, rfl⟩
     rw [← hR0]
     have G := jac (jae w)
     have E : Hid (R0 = (vs.all jfK && true)) := by show _ = _; rw [hR0, Bool.and_true]; rfl
     clear hR0
     go_enter Tryz.func68, Tryz.ntmps68
     go_wp2
     go_loopg [9] vs.length (fun gh iv wr => ∃ k : Nat, gh = vs.length - k ∧ k ≤ vs.length ∧ iv = .int .i64 k ∧ w.grownBy wr none ∧ R0 = ((vs.drop k).all jfK && true))
     case atStart => exact ⟨0, rfl, Nat.zero_le _, rfl, G.out, by rw [List.drop_zero]; exact E.out⟩
     case round =>
      clear G E
      obtain ⟨k, rfl, hk, rfl, hg, he⟩ := hrel
      have G := jac hg
      have E := jac he
      clear hg he
      by_cases hlt : k < vs.length
      ·skip
       obtain ⟨xb, xo, rfl⟩ := (HV.out.more G.out).addr (k := k) (by rw [List.length_map]; exact hlt)
       have NC := IsL.val (HV.out.more G.out) k (by rw [List.length_map]; exact hlt)
       simp only [List.getElem_map] at NC
       obtain ⟨e0, e1, e2⟩ := NC
       have hx0 := HD.out vs[k] (List.getElem_mem hlt)
       have DS := List.drop_eq_getElem_cons hlt
       obtain ⟨p, hp⟩ : ∃ p, p = vs[k] := ⟨_, rfl⟩
       rw [← hp] at e0 e1 e2 hx0 DS
       obtain ⟨x, cx⟩ := p
       simp only at e0 e1 e2 hx0
       have HX := jac (jax.more hx0 G.out)
       clear hp hx0
       have E1 : Hid (R0 = ((jfK (x, cx) && (vs.drop (k + 1)).all jfK) && true)) := by show _ = _; rw [E.out, DS]; rfl
       clear E DS
       have LG := jac (jaQ (.slice (some ⟨wr.heap.size + 1, 0, none⟩) 1 1) [x.name] ((wr.alloc (.cells #[.string x.name, .int .i64 x.ty, .slice x.dv.a x.dv.n x.dv.c] 82)).alloc (.cells #[.string x.name] 9)) (by have h := jb8 (heap_alloc_new (wr.alloc (.cells #[.string x.name, .int .i64 x.ty, .slice x.dv.a x.dv.n x.dv.c] 82)) (.cells #[.string x.name] 9)); rw [jas] at h; exact h))
       have hb1 : ((wr.alloc (.cells #[.string x.name, .int .i64 x.ty, .slice x.dv.a x.dv.n x.dv.c] 82)).alloc (.cells #[.string x.name] 9)).heap[wr.heap.size]? = some (.cells #[.string x.name, .int .i64 x.ty, .slice x.dv.a x.dv.n x.dv.c] 82 (0, 0)) := jbV _ _ _ _ _
       have gd : wr.grownBy ((wr.alloc (.cells #[.string x.name, .int .i64 x.ty, .slice x.dv.a x.dv.n x.dv.c] 82)).alloc (.cells #[.string x.name] 9)) none := jaa (jab _ _) (jab _ _)
       obtain ⟨⟨y0, y1, y2⟩, -⟩ := jbd (heap_alloc_new wr (.cells #[.string x.name, .int .i64 x.ty, .slice x.dv.a x.dv.n x.dv.c] 82))
       go_wp2_with fail
       refine LG.out.mono ?_
       obtain ⟨wn, hwn⟩ : ∃ y9, y9 = (wr.alloc (.cells #[.string x.name, .int .i64 x.ty, .slice x.dv.a x.dv.n x.dv.c] 82)).alloc (.cells #[.string x.name] 9) := ⟨_, rfl⟩
       rw [← hwn] at gd hb1 ⊢
       have G2 := jac (jaa G.out gd)
       have HB := jac hb1
       have HX2 := jac (jax.more HX.out gd)
       clear hwn LG G gd hb1 e0 e1 e2 y0 y1 y2
       rintro e wq ⟨rfl, rfl⟩
       obtain ⟨⟨y0, y1, y2⟩, -⟩ := jbd HB.out
       have E := E1
       clear E1
       cases hl : jaL [x.name] with
       | true =>
        have E2 : Hid (R0 = false) := by show _ = _; rw [E.out]; simp [jfK, hl]
        clear E
        have E := E2
        clear E2 hl
        go_wp2
        go_ret
        exact ⟨congrArg (fun b => Ending.returned (Value.bool b)) E.out.symm, G2.out⟩
       | false =>
        go_wp2_with fail
        refine (jeR x.ty wn).mono ?_
        rintro e wq ⟨rfl, rfl⟩
        cases hc : chk x.ty 0 with
        | false =>
         have E2 : Hid (R0 = false) := by show _ = _; rw [E.out]; simp [jfK, hc]
         clear E
         have E := E2
         clear E2 hl hc
         go_wp2
         go_ret
         exact ⟨congrArg (fun b => Ending.returned (Value.bool b)) E.out.symm, G2.out⟩
        | true =>
         have CN := jac (jfq (.slice x.dv.a x.dv.n x.dv.c) cx wq HX2.out)
         go_wp2_with fail
         refine CN.out.mono ?_
         rintro e wz ⟨rfl, rfl⟩
         obtain ⟨X, hX⟩ : ∃ X, X = jcW cx := ⟨_, rfl⟩
         obtain ⟨Y, hY⟩ : ∃ Y, Y = cnt cx := ⟨_, rfl⟩
         rw [← hX, ← hY]
         by_cases hx : X = 0
         ·have E2 : Hid (R0 = ((vs.drop (k + 1)).all jfK && true)) := by show _ = _; rw [E.out]; simp [jfK, hl, hc, ← hX, hx]
          clear E hX hY hl hc CN
          have E := E2
          subst hx
          clear E2
          go_wp2_with fail
          go_roundg (vs.length - (k + 1))
          case measure => omega
          case rel => exact ⟨k + 1, rfl, by omega, by go_num, G2.out, E.out⟩
         ·have hx2 : (X == 0) = false := by simpa using hx
          have E2 : Hid (R0 = false) := by show _ = _; rw [E.out]; simp [jfK, hl, hc, ← hX, hx]
          clear E
          have E := E2
          clear E2 hl hc hX hY CN hx
          go_wp2
          go_ret
          exact ⟨congrArg (fun b => Ending.returned (Value.bool b)) E.out.symm, G2.out⟩
      ·obtain hkN : k = vs.length := by omega
       have E2 : Hid (R0 = true) := by show _ = _; rw [E.out, List.drop_eq_nil_of_le (by omega)]; rfl
       clear E
       have E := E2
       clear E2
       subst hkN
       go_wp2
       go_ret
       exact ⟨congrArg (fun b => Ending.returned (Value.bool b)) E.out.symm, G.out⟩
end Go.Proofs.YtbgbpfbjeleooaaGreat.Pd
namespace Go.Proofs.YtbgbpfbjeleooaaGreat.Pd
open Go.RowKit
open Wr (Fld)
def je6 (p : Atr × Cont) : Bool := jb1 p.1 p.2
def jhO (n : Nod) (q : Ni) : Bool := decide (q.ins.length ≤ 20) && decide (q.xs.length ≤ 20) && !jaL q.ins && !jaL [n.out, n.name, n.op] && (q.xs.zip q.cs).all je6
theorem jjS {xs : List Atr} {cs : List Cont} {k : Nat} {x : Atr} {c : Cont} (hx : xs[k]? = some x) (hc : cs[k]? = some c) : (xs.zip cs).drop k = (x, c) :: (xs.zip cs).drop (k + 1) := by
 have h1 := (List.getElem?_eq_some_iff.1 hx)
 have h2 := (List.getElem?_eq_some_iff.1 hc)
 obtain ⟨l1, r1⟩ := h1
 obtain ⟨l2, r2⟩ := h2
 have hl : k < (xs.zip cs).length := by rw [List.length_zip]; omega
 rw [List.drop_eq_getElem_cons hl, List.getElem_zip, r1, r2]
theorem jhP (n : Nod) (q : Ni) (w : World) (hq : NodeIn0 w n q.ins q.xs q.cs) :
    Calls Tryz.prog 67 #[jiz n] w fun e w' => e = .returned (.bool (jhO n q)) ∧ w.grownBy w' none := by
     obtain ⟨hi, ha, hh⟩ := hq
     obtain ⟨ins, xs, cs⟩ := q
     obtain ⟨op, nm, iv, out, av⟩ := n
     simp only at hi ha hh
     obtain ⟨ia, ic, e1, i1, i2, -⟩ := hi.form
     obtain ⟨aa, ac, e2, n1, n2, -⟩ := ha.form
     have hNI : ins.length ≤ 9223372036854775807 := by omega
     have hNL : xs.length ≤ 9223372036854775807 := by omega
     have HI := jac hi
     have HA := jac ha
     have HH := jac hh
     unfold jiz
     simp only [Sl.v, Value.slice.injEq] at e1 e2
     obtain ⟨e1a, e1b, e1c⟩ := e1
     obtain ⟨e2a, e2b, e2c⟩ := e2
     simp only [Sl.v] at HI HA ⊢
     rw [e1a, e1b, e1c] at HI ⊢
     rw [e2a, e2b, e2c] at HA ⊢
     clear e1a e1b e1c e2a e2b e2c hi ha hh i1 i2 n1 n2
     obtain ⟨R0, hR0⟩ : ∃ r, r = jhO ⟨op, nm, iv, out, av⟩ ⟨ins, xs, cs⟩ := ⟨_, rfl⟩
     rw [← hR0]
     have E : Hid (R0 = (decide (ins.length ≤ 20) && decide (xs.length ≤ 20) && !jaL ins && !jaL [out, nm, op] && (xs.zip cs).all je6)) := hR0
     clear hR0
     have hb := heap_alloc_new w (.cells #[.string op, .string nm, .slice ia ins.length ic, .string out, .slice aa xs.length ac] 35)
     obtain ⟨⟨x0, x1, x2, x3, x4⟩, -⟩ := jaz hb
     have g0 := jab w (.cells #[.string op, .string nm, .slice ia ins.length ic, .string out, .slice aa xs.length ac] 35)
     by_cases c1 : 20 < ins.length
     ·have d1 : decide ((20 : Int) < (ins.length : Int)) = true := by simp; omega
      have G2 := jac g0
      have E2 : Hid (R0 = false) := by show _ = _; rw [E.out, decide_eq_false (by omega : ¬ ins.length ≤ 20)]; rfl
      clear E c1 hb g0
      have E := E2
      go_enter Tryz.func67, Tryz.ntmps67
      go_wp2
      go_ret
      exact ⟨congrArg (fun b => Ending.returned (Value.bool b)) E.out.symm, G2.out⟩
     have d1 : decide ((20 : Int) < (ins.length : Int)) = false := by simp; omega
     by_cases c2 : 20 < xs.length
     ·have d2 : decide ((20 : Int) < (xs.length : Int)) = true := by simp; omega
      have G2 := jac g0
      have E2 : Hid (R0 = false) := by show _ = _; rw [E.out, decide_eq_false (by omega : ¬ xs.length ≤ 20), Bool.and_false]; rfl
      clear E c2 hb g0
      have E := E2
      go_enter Tryz.func67, Tryz.ntmps67
      go_wp2
      go_ret
      exact ⟨congrArg (fun b => Ending.returned (Value.bool b)) E.out.symm, G2.out⟩
     have d2 : decide ((20 : Int) < (xs.length : Int)) = false := by simp; omega
     have E2 : Hid (R0 = (!jaL ins && !jaL [out, nm, op] && (xs.zip cs).all je6)) := by show _ = _; rw [E.out, decide_eq_true (by omega : ins.length ≤ 20), decide_eq_true (by omega : xs.length ≤ 20)]; rfl
     clear E c1 c2
     have E := E2
     clear E2
     go_enter Tryz.func67, Tryz.ntmps67
     go_wp2_with fail
     obtain ⟨wa, hwa⟩ : ∃ y9, y9 = w.alloc (.cells #[.string op, .string nm, .slice ia ins.length ic, .string out, .slice aa xs.length ac] 35) := ⟨_, rfl⟩
     rw [← hwa] at hb g0 ⊢
     have G := jac g0
     have HB := jac hb
     have LI := jac (jaQ (.slice ia ins.length ic) ins wa (HI.out.more g0))
     clear hwa hb g0 d1 d2 x0 x1 x2 x3 x4
     refine LI.out.mono ?_
     rintro e wq ⟨rfl, rfl⟩
     obtain ⟨⟨x0, x1, x2, x3, x4⟩, -⟩ := jaz HB.out
     clear LI
     cases hl : jaL ins with
     | true =>
      have G2 := G
      clear G
      have E2 : Hid (R0 = false) := by show _ = _; rw [E.out, hl]; simp
      clear E
      have E := E2
      clear E2 hl
      go_wp2
      go_ret
      exact ⟨congrArg (fun b => Ending.returned (Value.bool b)) E.out.symm, G2.out⟩
     | false =>
      have E2 : Hid (R0 = (!jaL [out, nm, op] && (xs.zip cs).all je6)) := by show _ = _; rw [E.out, hl]; simp
      clear E hl
      have E := E2
      clear E2
      have LO3 := jac (jaQ (.slice (some ⟨wa.heap.size, 0, none⟩) 3 3) [out, nm, op] (wa.alloc (.cells #[.string out, .string nm, .string op] 9)) (jeX (heap_alloc_new wa _)))
      have gd := jab wa (.cells #[.string out, .string nm, .string op] 9)
      go_wp2_with fail
      refine LO3.out.mono ?_
      obtain ⟨wn, hwn⟩ : ∃ y9, y9 = wa.alloc (.cells #[.string out, .string nm, .string op] 9) := ⟨_, rfl⟩
      rw [← hwn] at gd ⊢
      have G2 := jac (jaa G.out gd)
      have HB2 := jac ((gd.block w.heap.size (Array.getElem?_eq_some_iff.1 HB.out).1 (by simp)).trans HB.out)
      clear hwn gd G HB LO3 x0 x1 x2 x3 x4
      rintro e wq ⟨rfl, rfl⟩
      obtain ⟨⟨x0, x1, x2, x3, x4⟩, -⟩ := jaz HB2.out
      cases hl3 : jaL [out, nm, op] with
      | true =>
       have E2 : Hid (R0 = false) := by show _ = _; rw [E.out, hl3]; simp
       clear E
       have E := E2
       clear E2 hl3
       go_wp2
       go_ret
       exact ⟨congrArg (fun b => Ending.returned (Value.bool b)) E.out.symm, G2.out⟩
      | false =>
       have E2 : Hid (R0 = ((xs.zip cs).all je6 && true)) := by show _ = _; rw [E.out, hl3]; simp
       clear E hl3
       have E := E2
       have G := G2
       clear E2 G2
       go_wp2
       clear x0 x1 x2 x3 x4
       go_loopg [31] xs.length (fun gh iv wr => ∃ k : Nat, gh = xs.length - k ∧ k ≤ xs.length ∧ iv = .int .i64 k ∧ w.grownBy wr none ∧ R0 = (((xs.zip cs).drop k).all je6 && true))
       case atStart => exact ⟨0, rfl, Nat.zero_le _, rfl, G.out, by rw [List.drop_zero]; exact E.out⟩
       case round =>
        clear G E
        obtain ⟨k, rfl, hk, rfl, hg, he⟩ := hrel
        have G := jac hg
        have E := jac he
        clear hg he
        by_cases hlt : k < xs.length
        ·skip
         obtain ⟨xb, xo, rfl⟩ := (HA.out.more G.out).addr hlt
         obtain ⟨e0, e1, e2, e3, e4, e5, e6, e7, e8⟩ := jjQ (HA.out.more G.out) k hlt
         obtain ⟨cx, hcx, hasx⟩ := HH.out k xs[k] (List.getElem?_eq_getElem hlt)
         have DS := jjS (List.getElem?_eq_getElem hlt) hcx
         obtain ⟨x, hx⟩ : ∃ y9, y9 = xs[k] := ⟨_, rfl⟩
         rw [← hx] at e0 e1 e2 e3 e4 e5 e6 e7 e8 hasx DS
         have E1 : Hid (R0 = ((jb1 x cx && ((xs.zip cs).drop (k + 1)).all je6) && true)) := by show _ = _; rw [E.out, DS]; rfl
         clear E DS hx hcx
         have E := E1
         clear E1
         have gd := jab wr (.cells #[.string x.name, .int .i64 x.kind, .int .i64 x.f, .int .i64 x.i, .string x.s, .int .i64 x.ty, .slice x.dv.a x.dv.n x.dv.c, .slice x.tv.a x.tv.n x.tv.c, .slice x.iv.a x.iv.n x.iv.c] 78)
         obtain ⟨⟨y0, y1, y2, y3, y4, y5, y6, y7, y8⟩, -⟩ := jaF (heap_alloc_new wr (.cells #[.string x.name, .int .i64 x.kind, .int .i64 x.f, .int .i64 x.i, .string x.s, .int .i64 x.ty, .slice x.dv.a x.dv.n x.dv.c, .slice x.tv.a x.tv.n x.tv.c, .slice x.iv.a x.iv.n x.iv.c] 78))
         go_wp2_with fail
         obtain ⟨wn, hwn⟩ : ∃ y9, y9 = wr.alloc (.cells #[.string x.name, .int .i64 x.kind, .int .i64 x.f, .int .i64 x.i, .string x.s, .int .i64 x.ty, .slice x.dv.a x.dv.n x.dv.c, .slice x.tv.a x.tv.n x.tv.c, .slice x.iv.a x.iv.n x.iv.c] 78) := ⟨_, rfl⟩
         rw [← hwn] at gd ⊢
         have AT := jac (jhb x cx wn (hasx.more (jaa G.out gd)))
         unfold jcu at AT
         have G1 := jac (jaa G.out gd)
         clear hwn gd G e0 e1 e2 e3 e4 e5 e6 e7 e8 y0 y1 y2 y3 y4 y5 y6 y7 y8 hasx
         refine AT.out.mono ?_
         rintro e wz ⟨rfl, hg⟩
         have G2 := jac (jaa G1.out hg)
         clear hg AT G1
         cases ht : jb1 x cx with
         | false =>
          have E2 : Hid (R0 = false) := by show _ = _; rw [E.out, ht]; rfl
          clear E
          have E := E2
          clear E2 ht
          go_wp2
          go_ret
          exact ⟨congrArg (fun b => Ending.returned (Value.bool b)) E.out.symm, G2.out⟩
         | true =>
          have E2 : Hid (R0 = (((xs.zip cs).drop (k + 1)).all je6 && true)) := by show _ = _; rw [E.out, ht]; rfl
          clear E ht
          have E := E2
          clear E2
          go_wp2_with fail
          go_roundg (xs.length - (k + 1))
          case measure => omega
          case rel => exact ⟨k + 1, rfl, by omega, by go_num, G2.out, E.out⟩
        ·obtain hkN : k = xs.length := by omega
         have E2 : Hid (R0 = true) := by show _ = _; rw [E.out, List.drop_eq_nil_of_le (by rw [List.length_zip]; omega)]; rfl
         clear E
         have E := E2
         clear E2
         subst hkN
         go_wp2
         go_ret
         exact ⟨congrArg (fun b => Ending.returned (Value.bool b)) E.out.symm, G.out⟩
end Go.Proofs.YtbgbpfbjeleooaaGreat.Pd
