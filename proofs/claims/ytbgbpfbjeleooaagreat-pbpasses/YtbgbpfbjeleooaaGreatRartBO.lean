/- A part. -/
import Derived.Test.YtbgbpfbjeleooaaGreatRartBN
import Derived.Test.YtbgbpfbjeleooaaGreatRartAH
set_option maxHeartbeats 25600000
set_option maxRecDepth 100000
namespace Go.Proofs.YtbgbpfbjeleooaaGreat.Pd
open Go.RowKit
open Wr (Fld)
def jaB (N : NNod) : R ByteArray := (jaO (fun s => .ok s) 1 ([], 0) N.ins).bind fun m => (ja5 m (ja3 2 N.out)).bind fun m => (jaW m 3 N.name).bind fun m => (jaW m 4 N.op).bind fun m => (jaO jan 5 m N.attrs).bind fun m => wrP m.1
theorem jl1 (N : NNod) : Sh (jaB N) := jaZ fun _ => jaZ fun _ => jaZ fun _ => jaZ fun _ => jaZ fun _ => jjy _
theorem jjA {w : World} {b off len cap : Nat} {xs : List Atr} (h : IsL 136 9 jbJ w (.slice (some ⟨b, off, none⟩) len cap) xs) (k : Nat) (hk : k < xs.length) :
    w.cell? ⟨b, off + k * 9, none⟩ = some (.string xs[k].name) ∧ w.cell? ⟨b, off + k * 9 + 1, none⟩ = some (.int .i64 xs[k].kind) ∧ w.cell? ⟨b, off + k * 9 + 2, none⟩ = some (.int .i64 xs[k].f) ∧ w.cell? ⟨b, off + k * 9 + 3, none⟩ = some (.int .i64 xs[k].i) ∧ w.cell? ⟨b, off + k * 9 + 4, none⟩ = some (.string xs[k].s) ∧ w.cell? ⟨b, off + k * 9 + 5, none⟩ = some (.int .i64 xs[k].ty) ∧ w.cell? ⟨b, off + k * 9 + 6, none⟩ = some (.slice xs[k].dv.a xs[k].dv.n xs[k].dv.c) ∧ w.cell? ⟨b, off + k * 9 + 7, none⟩ = some (.slice xs[k].tv.a xs[k].tv.n xs[k].tv.c) ∧ w.cell? ⟨b, off + k * 9 + 8, none⟩ = some (.slice xs[k].iv.a xs[k].iv.n xs[k].iv.c) :=
     ⟨h.at k hk 0 (by omega), h.at k hk 1 (by omega), h.at k hk 2 (by omega), h.at k hk 3 (by omega), h.at k hk 4 (by omega), h.at k hk 5 (by omega), h.at k hk 6 (by omega), h.at k hk 7 (by omega), h.at k hk 8 (by omega)⟩
theorem jkI {xs : List Atr} {cs : List Cont} {k : Nat} {x : Atr} {c : Cont} (hx : xs[k]? = some x) (hc : cs[k]? = some c) : (List.zipWith jbT xs cs).drop k = jbT x c :: (List.zipWith jbT xs cs).drop (k + 1) := by
 have h1 := (List.getElem?_eq_some_iff.1 hx)
 have h2 := (List.getElem?_eq_some_iff.1 hc)
 obtain ⟨l1, r1⟩ := h1
 obtain ⟨l2, r2⟩ := h2
 have hl : k < (List.zipWith jbT xs cs).length := by rw [List.length_zipWith]; omega
 rw [List.drop_eq_getElem_cons hl, List.getElem_zipWith, r1, r2]
structure SmallN (n : Nod) (q : Ni) : Prop where
 ins : ∀ s ∈ q.ins, s.size ≤ 1000000000
 out : n.out.size ≤ 1000000000
 name : n.name.size ≤ 1000000000
 op : n.op.size ≤ 1000000000
 xs : ∀ a ∈ q.xs, a.name.size ≤ 1000000000 ∧ a.s.size ≤ 1000000000
 cs : ∀ c ∈ q.cs, c.d.length ≤ 10000000 ∧ c.t.length ≤ 10000000 ∧ c.i.length ≤ 10000000
 li : q.ins.length ≤ 1000000
 lx : q.xs.length ≤ 1000000
theorem jgi (n : Nod) (q : Ni) (w : World) (hq : NodeIn0 w n q.ins q.xs q.cs) (hsm : SmallN n q) :
    Calls Tryz.prog 99 #[jh4 n] w (jbA w (jaB (jd1 n q)) fun s v _ => v = .string s) := by
     obtain ⟨hi, ha, hh⟩ := hq
     obtain ⟨hsi, so, sn, sp, hsa, hsc, li, lx⟩ := hsm
     obtain ⟨ia, ic, e1, -⟩ := hi.form
     obtain ⟨aa, ac, e2, -⟩ := ha.form
     have HI := jac hi
     have HA := jac ha
     have HH := jac hh
     unfold jh4
     simp only [Sl.v, Value.slice.injEq] at e1 e2
     obtain ⟨e1a, e1b, e1c⟩ := e1
     obtain ⟨e2a, e2b, e2c⟩ := e2
     simp only [Sl.v] at HI HA
     rw [e1a, e1b, e1c] at HI ⊢
     rw [e2a, e2b, e2c] at HA ⊢
     clear e1a e1b e1c e2a e2b e2c hi ha hh
     obtain ⟨wb, hwb⟩ : ∃ wb, wb = w.alloc (.cells #[.string n.op, .string n.name, .slice ia q.ins.length ic, .string n.out, .slice aa q.xs.length ac] 35) := ⟨_, rfl⟩
     have GB : Hid (w.grownBy wb none) := by show w.grownBy wb none; rw [hwb]; exact jab _ _
     have hb : wb.heap[w.heap.size]? = some (.cells #[.string n.op, .string n.name, .slice ia q.ins.length ic, .string n.out, .slice aa q.xs.length ac] 35 (0, 0)) := by rw [hwb]; exact heap_alloc_new w _
     have BX : Hid (∀ wx, wb.grownBy wx none → wx.heap[w.heap.size]? = some (.cells #[.string n.op, .string n.name, .slice ia q.ins.length ic, .string n.out, .slice aa q.xs.length ac] 35 (0, 0))) := fun wx hg => jag hb hg
     have pm := jcr wb
     have g1 := jab wb (.cells #[.slice none 0 0, .int .i64 0] 114)
     obtain ⟨w1, hw1⟩ : ∃ w1, w1 = wb.alloc (.cells #[.slice none 0 0, .int .i64 0] 114) := ⟨_, rfl⟩
     have sB : wb.heap.size = w.heap.size + 1 := by rw [hwb, jar]
     obtain ⟨B, hB⟩ : ∃ B, B = w.heap.size + 1 := ⟨_, rfl⟩
     obtain ⟨lo, hlo⟩ : ∃ lo, lo = B := ⟨_, rfl⟩
     rw [← hw1, sB, ← hB] at pm
     have PM : Hid (jcJ w1 lo B [] 0) := by show jcJ w1 lo B [] 0; rw [hlo]; exact pm
     rw [← hw1] at g1
     have G := jac g1
     have LO : Hid (wb.heap.size ≤ lo) := by show _ ≤ _; omega
     obtain ⟨ll, hll⟩ : ∃ x : List Fld, x = [] := ⟨_, rfl⟩
     obtain ⟨sz, hsz⟩ : ∃ x : Nat, x = 0 := ⟨_, rfl⟩
     have GD : Hid (Gd (ll, sz) 0) := by rw [hll, hsz]; exact Gd.nil
     rw [← hll, ← hsz] at PM
     have E : Hid (jaB (jd1 n q) = (jaO (fun s => .ok s) 1 (ll, sz) q.ins).bind fun m => (ja5 m (ja3 2 n.out)).bind fun m => (jaW m 3 n.name).bind fun m => (jaW m 4 n.op).bind fun m => (jaO jan 5 m (List.zipWith jbT q.xs q.cs)).bind fun m => wrP m.1) := by show _ = _; rw [hll, hsz]; rfl
     clear hll hsz hb pm g1 sB hlo
     go_enter Tryz.func99, Tryz.ntmps99
     go_upto_region 2 with fail
     rw [← hwb, ← hw1, ← hB]
     clear hwb hw1 hB
     obtain ⟨⟨x0, x1, x2, x3, x4⟩, -⟩ := jay (BX.out w1 G.out)
     go_wp2
     clear x0 x1 x2 x3 x4
     go_loopg [11] q.ins.length (fun gh iv wr => ∃ (k : Nat) (ll : List Fld) (sz : Nat), gh = q.ins.length - k ∧ k ≤ q.ins.length ∧ iv = .int .i64 k ∧ jcJ wr lo B ll sz ∧ wb.grownBy wr none ∧ jaB (jd1 n q) = ((jaO (fun s => .ok s) 1 (ll, sz) (q.ins.drop k)).bind fun m => (ja5 m (ja3 2 n.out)).bind fun m => (jaW m 3 n.name).bind fun m => (jaW m 4 n.op).bind fun m => (jaO jan 5 m (List.zipWith jbT q.xs q.cs)).bind fun m => wrP m.1) ∧ Gd (ll, sz) k)
     case atStart => exact ⟨0, ll, sz, rfl, Nat.zero_le _, rfl, PM.out, G.out, by rw [List.drop_zero]; exact E.out, GD.out⟩
     case round =>
      clear PM G E GD
      obtain ⟨k, ll, sz, rfl, hk, rfl, hpm, hg, he, hgd⟩ := hrel
      have PM := jac hpm
      have G := jac hg
      have E := jac he
      have GD := jac hgd
      clear hpm hg he hgd
      by_cases hlt : k < q.ins.length
      ·skip
       obtain ⟨xb, xo, rfl⟩ := (HI.out.more (jaa GB.out G.out)).addr hlt
       have e0 := jiN (HI.out.more (jaa GB.out G.out)) k hlt
       have XS2 := jac (hsi q.ins[k] (List.getElem_mem hlt))
       have XS : Hid (q.ins[k].size ≤ 4611686018427387904) := by have := XS2.out; show _ ≤ _; omega
       obtain ⟨x, hx⟩ : ∃ x, x = q.ins[k] := ⟨_, rfl⟩
       have E1 : Hid (jaB (jd1 n q) = ((ja5 (ll, sz) (ja3 1 x)).bind fun m => jaO (fun s => .ok s) 1 m (q.ins.drop (k + 1))).bind fun m => (ja5 m (ja3 2 n.out)).bind fun m => (jaW m 3 n.name).bind fun m => (jaW m 4 n.op).bind fun m => (jaO jan 5 m (List.zipWith jbT q.xs q.cs)).bind fun m => wrP m.1) := by show _ = _; rw [E.out, List.drop_eq_getElem_cons hlt, hx]; rfl
       rw [← hx] at e0 XS XS2
       clear E hx
       have E := E1
       clear E1
       have C := jac (jbc lo B ll sz 1 x wr PM.out GD.out.1 (by have h := GD.out.2.1; simp only at h; omega) XS.out)
       go_wp2_with fail
       cases hp : ja5 (ll, sz) (ja3 1 x) with
       | error er =>
        have E2 : Hid (jaB (jd1 n q) = .error er) := by show _ = _; rw [E.out, hp]; rfl
        rw [hp] at C
        clear hp
        refine C.out.mono ?_
        rintro e w3 ⟨ha, rfl⟩
        exact ⟨rfl, jad E2.out (jaa GB.out (Abv.grown G.out LO.out ha))⟩
       | ok m' =>
        obtain ⟨l2, s2⟩ := m'
        have E2 : Hid (jaB (jd1 n q) = (jaO (fun s => .ok s) 1 (l2, s2) (q.ins.drop (k + 1))).bind fun m => (ja5 m (ja3 2 n.out)).bind fun m => (jaW m 3 n.name).bind fun m => (jaW m 4 n.op).bind fun m => (jaO jan 5 m (List.zipWith jbT q.xs q.cs)).bind fun m => wrP m.1) := by show _ = _; rw [E.out, hp]; rfl
        have GD2 := jac (jch hp GD.out (jbx _ _ (by decide) XS2.out))
        rw [hp] at C
        clear hp
        refine C.out.mono ?_
        rintro e w3 ⟨ha, v, rfl, rfl, hq⟩
        have PM2 := jac hq
        have G2 := jac (Abv.grown G.out LO.out ha)
        clear ha hq C PM G E GD
        obtain ⟨ll, hll⟩ : ∃ x, x = l2 := ⟨_, rfl⟩
        obtain ⟨sz, hsz⟩ : ∃ x, x = s2 := ⟨_, rfl⟩
        rw [← hll, ← hsz] at PM2 E2 GD2
        clear hll hsz l2 s2
        have PM := PM2
        have G := G2
        have E := E2
        have GD := GD2
        clear PM2 G2 E2 GD2
        clear e0
        go_wp2_with fail
        go_roundg (q.ins.length - (k + 1))
        case measure => omega
        case rel => exact ⟨k + 1, ll, sz, rfl, by omega, by go_num, PM.out, G.out, E.out, GD.out⟩
      ·obtain hkN : k = q.ins.length := by omega
       have E2 : Hid (jaB (jd1 n q) = (ja5 (ll, sz) (ja3 2 n.out)).bind fun m => (jaW m 3 n.name).bind fun m => (jaW m 4 n.op).bind fun m => (jaO jan 5 m (List.zipWith jbT q.xs q.cs)).bind fun m => wrP m.1) := by show _ = _; rw [E.out, List.drop_eq_nil_of_le (by omega)]; rfl
       clear E
       have E := E2
       clear E2
       obtain ⟨⟨x0, x1, x2, x3, x4⟩, -⟩ := jay (BX.out wr G.out)
       have C := jac (jbc lo B ll sz 2 n.out wr PM.out GD.out.1 (by have h := GD.out.2.1; simp only at h; omega) (by omega))
       go_wp2_with fail
       cases hp : ja5 (ll, sz) (ja3 2 n.out) with
       | error er =>
        have E2 : Hid (jaB (jd1 n q) = .error er) := by show _ = _; rw [E.out, hp]; rfl
        rw [hp] at C
        clear hp
        refine C.out.mono ?_
        rintro e w11 ⟨ha, rfl⟩
        exact ⟨rfl, jad E2.out (jaa GB.out (Abv.grown G.out LO.out ha))⟩
       | ok m' =>
        obtain ⟨l2, s2⟩ := m'
        have E2 : Hid (jaB (jd1 n q) = (jaW (l2, s2) 3 n.name).bind fun m => (jaW m 4 n.op).bind fun m => (jaO jan 5 m (List.zipWith jbT q.xs q.cs)).bind fun m => wrP m.1) := by show _ = _; rw [E.out, hp]; rfl
        have GD2 := jac (jch hp GD.out (jbx _ _ (by decide) (by omega)))
        rw [hp] at C
        clear hp
        refine C.out.mono ?_
        rintro e w11 ⟨ha, v, rfl, rfl, hq⟩
        have PM2 := jac hq
        have G2 := jac (Abv.grown G.out LO.out ha)
        clear ha hq C PM G E GD
        obtain ⟨ll, hll⟩ : ∃ x, x = l2 := ⟨_, rfl⟩
        obtain ⟨sz, hsz⟩ : ∃ x, x = s2 := ⟨_, rfl⟩
        rw [← hll, ← hsz] at PM2 E2 GD2
        clear hll hsz l2 s2
        have PM := PM2
        have G := G2
        have E := E2
        have GD := GD2
        clear PM2 G2 E2 GD2
        clear x0 x1 x2 x3 x4
        obtain ⟨⟨x0, x1, x2, x3, x4⟩, -⟩ := jay (BX.out w11 G.out)
        have C := jac (jcH lo B ll sz 3 n.name w11 PM.out GD.out.1 (by have h := GD.out.2.1; simp only at h; omega) (by omega))
        go_wp2_with fail
        cases hp : jaW (ll, sz) 3 n.name with
        | error er =>
         have E2 : Hid (jaB (jd1 n q) = .error er) := by show _ = _; rw [E.out, hp]; rfl
         rw [hp] at C
         clear hp
         refine C.out.mono ?_
         rintro e w12 ⟨ha, rfl⟩
         exact ⟨rfl, jad E2.out (jaa GB.out (Abv.grown G.out LO.out ha))⟩
        | ok m' =>
         obtain ⟨l2, s2⟩ := m'
         have E2 : Hid (jaB (jd1 n q) = (jaW (l2, s2) 4 n.op).bind fun m => (jaO jan 5 m (List.zipWith jbT q.xs q.cs)).bind fun m => wrP m.1) := by show _ = _; rw [E.out, hp]; rfl
         have GD2 := jac (jdX hp GD.out (by decide) (by omega))
         rw [hp] at C
         clear hp
         refine C.out.mono ?_
         rintro e w12 ⟨ha, v, rfl, rfl, hq⟩
         have PM2 := jac hq
         have G2 := jac (Abv.grown G.out LO.out ha)
         clear ha hq C PM G E GD
         obtain ⟨ll, hll⟩ : ∃ x, x = l2 := ⟨_, rfl⟩
         obtain ⟨sz, hsz⟩ : ∃ x, x = s2 := ⟨_, rfl⟩
         rw [← hll, ← hsz] at PM2 E2 GD2
         clear hll hsz l2 s2
         have PM := PM2
         have G := G2
         have E := E2
         have GD := GD2
         clear PM2 G2 E2 GD2
         clear x0 x1 x2 x3 x4
         obtain ⟨⟨x0, x1, x2, x3, x4⟩, -⟩ := jay (BX.out w12 G.out)
         have C := jac (jcH lo B ll sz 4 n.op w12 PM.out GD.out.1 (by have h := GD.out.2.1; simp only at h; omega) (by omega))
         go_wp2_with fail
         cases hp : jaW (ll, sz) 4 n.op with
         | error er =>
          have E2 : Hid (jaB (jd1 n q) = .error er) := by show _ = _; rw [E.out, hp]; rfl
          rw [hp] at C
          clear hp
          refine C.out.mono ?_
          rintro e w13 ⟨ha, rfl⟩
          exact ⟨rfl, jad E2.out (jaa GB.out (Abv.grown G.out LO.out ha))⟩
         | ok m' =>
          obtain ⟨l2, s2⟩ := m'
          have E2 : Hid (jaB (jd1 n q) = (jaO jan 5 (l2, s2) (List.zipWith jbT q.xs q.cs)).bind fun m => wrP m.1) := by show _ = _; rw [E.out, hp]; rfl
          have GD2 := jac (jdX hp GD.out (by decide) (by omega))
          rw [hp] at C
          clear hp
          refine C.out.mono ?_
          rintro e w13 ⟨ha, v, rfl, rfl, hq⟩
          have PM2 := jac hq
          have G2 := jac (Abv.grown G.out LO.out ha)
          clear ha hq C PM G E GD
          obtain ⟨ll, hll⟩ : ∃ x, x = l2 := ⟨_, rfl⟩
          obtain ⟨sz, hsz⟩ : ∃ x, x = s2 := ⟨_, rfl⟩
          rw [← hll, ← hsz] at PM2 E2 GD2
          clear hll hsz l2 s2
          have PM := PM2
          have G := G2
          have E := E2
          have GD := GD2
          clear PM2 G2 E2 GD2
          clear x0 x1 x2 x3 x4
          obtain ⟨⟨x0, x1, x2, x3, x4⟩, -⟩ := jay (BX.out w13 G.out)
          go_wp2
          clear x0 x1 x2 x3 x4
          go_loopg [30] q.xs.length (fun gh iv wr => ∃ (k : Nat) (ll : List Fld) (sz : Nat), gh = q.xs.length - k ∧ k ≤ q.xs.length ∧ iv = .int .i64 k ∧ jcJ wr lo B ll sz ∧ wb.grownBy wr none ∧ jaB (jd1 n q) = ((jaO jan 5 (ll, sz) ((List.zipWith jbT q.xs q.cs).drop k)).bind fun m => wrP m.1) ∧ Gd (ll, sz) (1000010 + k))
          case atStart => exact ⟨0, ll, sz, rfl, Nat.zero_le _, rfl, PM.out, G.out, by rw [List.drop_zero]; exact E.out, GD.out.le (by omega)⟩
          case round =>
           clear PM G E GD
           obtain ⟨k, ll, sz, rfl, hk, rfl, hpm, hg, he, hgd⟩ := hrel
           have PM := jac hpm
           have G := jac hg
           have E := jac he
           have GD := jac hgd
           clear hpm hg he hgd
           by_cases hlt : k < q.xs.length
           ·skip
            obtain ⟨xb, xo, rfl⟩ := (HA.out.more (jaa GB.out G.out)).addr hlt
            obtain ⟨e0, e1, e2, e3, e4, e5, e6, e7, e8⟩ := jjA (HA.out.more (jaa GB.out G.out)) k hlt
            obtain ⟨cx, hcx, hasx⟩ := HH.out k q.xs[k] (List.getElem?_eq_getElem hlt)
            have BA := jac (hsa q.xs[k] (List.getElem_mem hlt))
            have BC := jac (hsc cx (List.mem_of_getElem? hcx))
            have DS := jkI (List.getElem?_eq_getElem hlt) hcx
            obtain ⟨x, hx⟩ : ∃ x, x = q.xs[k] := ⟨_, rfl⟩
            rw [← hx] at e0 e1 e2 e3 e4 e5 e6 e7 e8 hasx BA DS
            have HX := jac (hasx.more (jaa GB.out G.out))
            clear hx hcx hasx
            have E1 : Hid (jaB (jd1 n q) = ((jan (jbT x cx)).bind fun s => (ja5 (ll, sz) (ja3 5 s)).bind fun m => jaO jan 5 m ((List.zipWith jbT q.xs q.cs).drop (k + 1))).bind fun m => wrP m.1) := by show _ = _; rw [E.out, DS]; rfl
            have gd := jab wr (.cells #[.string x.name, .int .i64 x.kind, .int .i64 x.f, .int .i64 x.i, .string x.s, .int .i64 x.ty, .slice x.dv.a x.dv.n x.dv.c, .slice x.tv.a x.tv.n x.tv.c, .slice x.iv.a x.iv.n x.iv.c] 78)
            obtain ⟨⟨y0, y1, y2, y3, y4, y5, y6, y7, y8⟩, -⟩ := jaD (heap_alloc_new wr (.cells #[.string x.name, .int .i64 x.kind, .int .i64 x.f, .int .i64 x.i, .string x.s, .int .i64 x.ty, .slice x.dv.a x.dv.n x.dv.c, .slice x.tv.a x.tv.n x.tv.c, .slice x.iv.a x.iv.n x.iv.c] 78))
            clear DS E
            have E := E1
            clear E1
            go_wp2_with fail
            obtain ⟨wn, hwn⟩ : ∃ y9, y9 = wr.alloc (.cells #[.string x.name, .int .i64 x.kind, .int .i64 x.f, .int .i64 x.i, .string x.s, .int .i64 x.ty, .slice x.dv.a x.dv.n x.dv.c, .slice x.tv.a x.tv.n x.tv.c, .slice x.iv.a x.iv.n x.iv.c] 78) := ⟨_, rfl⟩
            rw [← hwn] at gd ⊢
            have gd2 := jac gd
            have PM1 := jac (PM.out.more gd)
            have G1 := jac (jaa G.out gd)
            clear hwn gd PM G e0 e1 e2 e3 e4 e5 e6 e7 e8 y0 y1 y2 y3 y4 y5 y6 y7 y8
            have PM := PM1
            have G := G1
            clear PM1 G1
            have C0 := jac (jgh x cx wn (HX.out.more gd2.out) BA.out.1 BA.out.2 BC.out.1 BC.out.2.1 BC.out.2.2)
            cases hf : jan (jbT x cx) with
            | error er =>
             have E2 : Hid (jaB (jd1 n q) = .error er) := by show _ = _; rw [E.out, hf]; rfl
             rw [hf] at C0
             clear hf
             refine C0.out.mono ?_
             rintro e wf ⟨hg, rfl⟩
             exact ⟨rfl, jad E2.out (jaa GB.out (jaa G.out hg))⟩
            | ok tx =>
             have E2 : Hid (jaB (jd1 n q) = ((ja5 (ll, sz) (ja3 5 tx)).bind fun m => jaO jan 5 m ((List.zipWith jbT q.xs q.cs).drop (k + 1))).bind fun m => wrP m.1) := by show _ = _; rw [E.out, hf]; rfl
             have TS := jac (jl0 _ _ hf)
             rw [hf] at C0
             clear hf E
             have E := E2
             clear E2
             refine C0.out.mono ?_
             rintro e wf ⟨hg, v, rfl, rfl⟩
             have PM1 := jac (PM.out.more hg)
             have G1 := jac (jaa G.out hg)
             clear hg C0 PM G
             have PM := PM1
             have G := G1
             clear PM1 G1
             have C := jac (jbc lo B ll sz 5 tx wf PM.out GD.out.1 (by have h := GD.out.2.1; simp only at h; omega) (by have := TS.out; omega))
             go_wp2_with fail
             cases hp : ja5 (ll, sz) (ja3 5 tx) with
             | error er =>
              have E2 : Hid (jaB (jd1 n q) = .error er) := by show _ = _; rw [E.out, hp]; rfl
              rw [hp] at C
              clear hp
              refine C.out.mono ?_
              rintro e w4 ⟨ha, rfl⟩
              exact ⟨rfl, jad E2.out (jaa GB.out (Abv.grown G.out LO.out ha))⟩
             | ok m' =>
              obtain ⟨l2, s2⟩ := m'
              have E2 : Hid (jaB (jd1 n q) = (jaO jan 5 (l2, s2) ((List.zipWith jbT q.xs q.cs).drop (k + 1))).bind fun m => wrP m.1) := by show _ = _; rw [E.out, hp]; rfl
              have GD2 := jac (jch hp GD.out (jbx _ _ (by decide) (by have := TS.out; omega)))
              rw [hp] at C
              clear hp
              refine C.out.mono ?_
              rintro e w4 ⟨ha, v, rfl, rfl, hq⟩
              have PM2 := jac hq
              have G2 := jac (Abv.grown G.out LO.out ha)
              clear ha hq C PM G E GD
              obtain ⟨ll, hll⟩ : ∃ x, x = l2 := ⟨_, rfl⟩
              obtain ⟨sz, hsz⟩ : ∃ x, x = s2 := ⟨_, rfl⟩
              rw [← hll, ← hsz] at PM2 E2 GD2
              clear hll hsz l2 s2
              have PM := PM2
              have G := G2
              have E := E2
              have GD := GD2
              clear PM2 G2 E2 GD2
              go_wp2_with fail
              go_roundg (q.xs.length - (k + 1))
              case measure => omega
              case rel => exact ⟨k + 1, ll, sz, rfl, by omega, by go_num, PM.out, G.out, E.out, GD.out⟩
           ·obtain hkN : k = q.xs.length := by omega
            have E2 : Hid (jaB (jd1 n q) = wrP (ll, sz).1) := by show _ = _; rw [E.out, List.drop_eq_nil_of_le (by have := hkN; simp only [List.length_zipWith]; omega)]; rfl
            clear E
            have E := E2
            clear E2
            have C := jac (jbj lo B ll sz wr PM.out (by have h := GD.out.2.1; simp only at h; omega) GD.out.2.2)
            go_wp2_with fail
            cases hp : wrP ll with
            | error er =>
             have E2 : Hid (jaB (jd1 n q) = .error er) := by show _ = _; rw [E.out, hp]
             rw [hp] at C
             clear hp
             refine C.out.mono ?_
             rintro e wz ⟨hg, rfl⟩
             exact ⟨rfl, jad E2.out (jaa GB.out (jaa G.out hg))⟩
            | ok s =>
             have E2 : Hid (jaB (jd1 n q) = .ok s) := by show _ = _; rw [E.out, hp]
             rw [hp] at C
             clear hp
             refine C.out.mono ?_
             rintro e wz ⟨hg, v, rfl, rfl⟩
             have GZ := jac (jaa GB.out (jaa G.out hg))
             clear hg
             go_wp2
             go_ret
             exact jaE E2.out GZ.out rfl
end Go.Proofs.YtbgbpfbjeleooaaGreat.Pd
namespace Go.Proofs.YtbgbpfbjeleooaaGreat.Pd
open Go.RowKit
open Wr (Fld)
def jiB (T : NTen) : R ByteArray := jaG T.name T.ty T.dims T.data
def jdc (V : NVal) : R ByteArray := jam V.name V.ty V.dims
def jap (G : NGra) : R ByteArray := (jaO jaB 1 ([], 0) G.nodes).bind fun m => (jaW m 2 G.name).bind fun m => (jaO jiB 5 m G.inits).bind fun m => (jaO jdc 11 m G.ins).bind fun m => (jaO jdc 12 m G.outs).bind fun m => wrP m.1
theorem jl2 (G : NGra) : Sh (jap G) := jaZ fun _ => jaZ fun _ => jaZ fun _ => jaZ fun _ => jaZ fun _ => jjy _
def jcg (g : Gra) (ns : List (Nod × Ni)) (is os : List (Val × List Int)) (ts : List (Nam × List Int × List Int)) : NGra := ⟨g.name, ns.map jda, is.map jbg, os.map jbg, ts.map jcP⟩
structure RdG (w : World) (g : Gra) (ns : List (Nod × Ni)) (is os : List (Val × List Int)) (ts : List (Nam × List Int × List Int)) : Prop where
 nodes : jiS w g.nv.v (ns.map (·.1))
 ins : jd9 w g.iv.v (is.map (·.1))
 outs : jd9 w g.ov.v (os.map (·.1))
 inits : jiR w g.tv.v (ts.map (·.1))
 node : ∀ p ∈ ns, NodeIn0 w p.1 p.2.ins p.2.xs p.2.cs
 din : ∀ p ∈ is, jiz w p.1 p.2
 dout : ∀ p ∈ os, jiz w p.1 p.2
 dten : ∀ p ∈ ts, jkY w p.1 p.2
theorem RdG.more {w w' : World} {g : Gra} {ns : List (Nod × Ni)} {is os : List (Val × List Int)} {ts : List (Nam × List Int × List Int)} (h : RdG w g ns is os ts) (hg : w.grownBy w' none) : RdG w' g ns is os ts :=
 ⟨h.nodes.more hg, h.ins.more hg, h.outs.more hg, h.inits.more hg, fun p hp => NodeIn0.more (h.node p hp) hg, fun p hp => jaw.more (h.din p hp) hg, fun p hp => jaw.more (h.dout p hp) hg, fun p hp => ⟨jaw.more (h.dten p hp).1 hg, jaw.more (h.dten p hp).2 hg⟩⟩
structure SmallG (g : Gra) (ns : List (Nod × Ni)) (is os : List (Val × List Int)) (ts : List (Nam × List Int × List Int)) : Prop where
 name : g.name.size ≤ 1000000000
 nn : ∀ p ∈ ns, SmallN p.1 p.2
 ii : ∀ p ∈ is, p.1.name.size ≤ 1000000000 ∧ p.2.length ≤ 10000000
 oo : ∀ p ∈ os, p.1.name.size ≤ 1000000000 ∧ p.2.length ≤ 10000000
 tt : ∀ p ∈ ts, p.1.name.size ≤ 1000000000 ∧ p.2.1.length ≤ 10000000 ∧ p.2.2.length ≤ 10000000
 ln : ns.length ≤ 1000000
 li : is.length ≤ 1000000
 lo : os.length ≤ 1000000
 lt : ts.length ≤ 1000000
theorem jeZ {α β : Type} (f : α → β) (l : List α) (k : Nat) (h : k < l.length) : (l.map f).drop k = f l[k] :: (l.map f).drop (k + 1) := by
 have hl : k < (l.map f).length := by rw [List.length_map]; exact h
 rw [List.drop_eq_getElem_cons hl, List.getElem_map]
theorem jfx (g : Gra) (ns : List (Nod × Ni)) (is os : List (Val × List Int)) (ts : List (Nam × List Int × List Int)) (w : World) (hr : RdG w g ns is os ts) (hsm : SmallG g ns is os ts) :
    Calls Tryz.prog 71 #[jc3 g] w (jbA w (jap (jcg g ns is os ts)) fun s v _ => v = .string s) := by
     obtain ⟨hn, hi, ho, ht, hN, hI, hO, hT⟩ := hr
     obtain ⟨sg, sN, sI, sO, sT, ln, li, lo', lt⟩ := hsm
     obtain ⟨na, nc, e1, -⟩ := hn.form
     obtain ⟨ia, ic, e2, -⟩ := hi.form
     obtain ⟨oa, oc, e3, -⟩ := ho.form
     obtain ⟨ta, tc, e4, -⟩ := ht.form
     have HN := jac hn
     have HI := jac hi
     have HO := jac ho
     have HT := jac ht
     unfold jc3
     simp only [Sl.v, Value.slice.injEq, List.length_map] at e1 e2 e3 e4
     obtain ⟨e1a, e1b, e1c⟩ := e1
     obtain ⟨e2a, e2b, e2c⟩ := e2
     obtain ⟨e3a, e3b, e3c⟩ := e3
     obtain ⟨e4a, e4b, e4c⟩ := e4
     simp only [Sl.v] at HN HI HO HT
     rw [e1a, e1b, e1c] at HN ⊢
     rw [e2a, e2b, e2c] at HI ⊢
     rw [e3a, e3b, e3c] at HO ⊢
     rw [e4a, e4b, e4c] at HT ⊢
     clear e1a e1b e1c e2a e2b e2c e3a e3b e3c e4a e4b e4c hn hi ho ht
     obtain ⟨wb, hwb⟩ : ∃ wb, wb = w.alloc (.cells #[.string g.name, .slice na ns.length nc, .slice ia is.length ic, .slice oa os.length oc, .slice ta ts.length tc] 27) := ⟨_, rfl⟩
     have GB : Hid (w.grownBy wb none) := by show w.grownBy wb none; rw [hwb]; exact jab _ _
     have hb : wb.heap[w.heap.size]? = some (.cells #[.string g.name, .slice na ns.length nc, .slice ia is.length ic, .slice oa os.length oc, .slice ta ts.length tc] 27 (0, 0)) := by rw [hwb]; exact heap_alloc_new w _
     have BX : Hid (∀ wx, wb.grownBy wx none → wx.heap[w.heap.size]? = some (.cells #[.string g.name, .slice na ns.length nc, .slice ia is.length ic, .slice oa os.length oc, .slice ta ts.length tc] 27 (0, 0))) := fun wx hg => jag hb hg
     have pm := jcr wb
     have g1 := jab wb (.cells #[.slice none 0 0, .int .i64 0] 114)
     obtain ⟨w1, hw1⟩ : ∃ w1, w1 = wb.alloc (.cells #[.slice none 0 0, .int .i64 0] 114) := ⟨_, rfl⟩
     have sB : wb.heap.size = w.heap.size + 1 := by rw [hwb, jar]
     obtain ⟨B, hB⟩ : ∃ B, B = w.heap.size + 1 := ⟨_, rfl⟩
     obtain ⟨lo, hlo⟩ : ∃ lo, lo = B := ⟨_, rfl⟩
     rw [← hw1, sB, ← hB] at pm
     have PM : Hid (jcJ w1 lo B [] 0) := by show jcJ w1 lo B [] 0; rw [hlo]; exact pm
     rw [← hw1] at g1
     have G := jac g1
     have LO : Hid (wb.heap.size ≤ lo) := by show _ ≤ _; omega
     obtain ⟨ll, hll⟩ : ∃ x : List Fld, x = [] := ⟨_, rfl⟩
     obtain ⟨sz, hsz⟩ : ∃ x : Nat, x = 0 := ⟨_, rfl⟩
     have GD : Hid (Gd (ll, sz) 0) := by rw [hll, hsz]; exact Gd.nil
     rw [← hll, ← hsz] at PM
     have E : Hid (jap (jcg g ns is os ts) = (jaO jaB 1 (ll, sz) (ns.map jda)).bind fun m => (jaW m 2 g.name).bind fun m => (jaO jiB 5 m (ts.map jcP)).bind fun m => (jaO jdc 11 m (is.map jbg)).bind fun m => (jaO jdc 12 m (os.map jbg)).bind fun m => wrP m.1) := by show _ = _; rw [hll, hsz]; rfl
     clear hll hsz hb pm g1 sB hlo
     go_enter Tryz.func71, Tryz.ntmps71
     go_upto_region 2 with fail
     rw [← hwb, ← hw1, ← hB]
     clear hwb hw1 hB
     obtain ⟨⟨x0, x1, x2, x3, x4⟩, -⟩ := jay (BX.out w1 G.out)
     go_wp2
     clear x0 x1 x2 x3 x4
     go_loopg [15] ns.length (fun gh iv wr => ∃ (k : Nat) (ll : List Fld) (sz : Nat), gh = ns.length - k ∧ k ≤ ns.length ∧ iv = .int .i64 k ∧ jcJ wr lo B ll sz ∧ wb.grownBy wr none ∧ jap (jcg g ns is os ts) = ((jaO jaB 1 (ll, sz) ((ns.map jda).drop k)).bind fun m => (jaW m 2 g.name).bind fun m => (jaO jiB 5 m (ts.map jcP)).bind fun m => (jaO jdc 11 m (is.map jbg)).bind fun m => (jaO jdc 12 m (os.map jbg)).bind fun m => wrP m.1) ∧ Gd (ll, sz) (0 + k))
     case atStart => exact ⟨0, ll, sz, rfl, Nat.zero_le _, rfl, PM.out, G.out, by rw [List.drop_zero]; exact E.out, GD.out.le (by omega)⟩
     case round =>
      clear PM G E GD
      obtain ⟨k, ll, sz, rfl, hk, rfl, hpm, hg, he, hgd⟩ := hrel
      have PM := jac hpm
      have G := jac hg
      have E := jac he
      have GD := jac hgd
      clear hpm hg he hgd
      by_cases hlt : k < ns.length
      ·skip
       obtain ⟨xb, xo, rfl⟩ := (HN.out.more (jaa GB.out G.out)).addr (k := k) (by rw [List.length_map]; exact hlt)
       have NC := IsL.nod (HN.out.more (jaa GB.out G.out)) k (by rw [List.length_map]; exact hlt)
       simp only [List.getElem_map] at NC
       obtain ⟨e0, e1, e2, e3, e4⟩ := NC
       have hx0 := hN ns[k] (List.getElem_mem hlt)
       have sx0 := sN ns[k] (List.getElem_mem hlt)
       have DS := jeZ jda ns k hlt
       obtain ⟨p, hp⟩ : ∃ p, p = ns[k] := ⟨_, rfl⟩
       rw [← hp] at e0 e1 e2 e3 e4 hx0 sx0 DS
       obtain ⟨x, cx⟩ := p
       simp only at e0 e1 e2 e3 e4 hx0 sx0
       have HX := jac (NodeIn0.more hx0 (jaa GB.out G.out))
       have SX := jac sx0
       clear hp hx0 sx0
       have E1 : Hid (jap (jcg g ns is os ts) = ((jaB (jd1 x cx)).bind fun s => (ja5 (ll, sz) (ja3 1 s)).bind fun m => jaO jaB 1 m ((ns.map jda).drop (k + 1))).bind fun m => (jaW m 2 g.name).bind fun m => (jaO jiB 5 m (ts.map jcP)).bind fun m => (jaO jdc 11 m (is.map jbg)).bind fun m => (jaO jdc 12 m (os.map jbg)).bind fun m => wrP m.1) := by show _ = _; rw [E.out, DS]; rfl
       have gd := jab wr (.cells #[.string x.op, .string x.name, .slice x.iv.a x.iv.n x.iv.c, .string x.out, .slice x.av.a x.av.n x.av.c] 35)
       obtain ⟨⟨y0, y1, y2, y3, y4⟩, -⟩ := jay (heap_alloc_new wr (.cells #[.string x.op, .string x.name, .slice x.iv.a x.iv.n x.iv.c, .string x.out, .slice x.av.a x.av.n x.av.c] 35))
       clear DS E
       have E := E1
       clear E1
       go_wp2_with fail
       obtain ⟨wn, hwn⟩ : ∃ y9, y9 = wr.alloc (.cells #[.string x.op, .string x.name, .slice x.iv.a x.iv.n x.iv.c, .string x.out, .slice x.av.a x.av.n x.av.c] 35) := ⟨_, rfl⟩
       rw [← hwn] at gd ⊢
       have gd2 := jac gd
       have PM1 := jac (PM.out.more gd)
       have G1 := jac (jaa G.out gd)
       clear hwn gd PM G e0 e1 e2 e3 e4 y0 y1 y2 y3 y4
       have PM := PM1
       have G := G1
       clear PM1 G1
       have C0 := jac (jgi x cx wn (NodeIn0.more HX.out gd2.out) SX.out)
       cases hf : jaB (jd1 x cx) with
       | error er =>
        have E2 : Hid (jap (jcg g ns is os ts) = .error er) := by show _ = _; rw [E.out, hf]; rfl
        rw [hf] at C0
        clear hf
        refine C0.out.mono ?_
        rintro e wf ⟨hg, rfl⟩
        exact ⟨rfl, jad E2.out (jaa GB.out (jaa G.out hg))⟩
       | ok tx =>
        have E2 : Hid (jap (jcg g ns is os ts) = ((ja5 (ll, sz) (ja3 1 tx)).bind fun m => jaO jaB 1 m ((ns.map jda).drop (k + 1))).bind fun m => (jaW m 2 g.name).bind fun m => (jaO jiB 5 m (ts.map jcP)).bind fun m => (jaO jdc 11 m (is.map jbg)).bind fun m => (jaO jdc 12 m (os.map jbg)).bind fun m => wrP m.1) := by show _ = _; rw [E.out, hf]; rfl
        have TS := jac (jl1 _ _ hf)
        rw [hf] at C0
        clear hf E
        have E := E2
        clear E2
        refine C0.out.mono ?_
        rintro e wf ⟨hg, v, rfl, rfl⟩
        have PM1 := jac (PM.out.more hg)
        have G1 := jac (jaa G.out hg)
        clear hg C0 PM G
        have PM := PM1
        have G := G1
        clear PM1 G1
        have C := jac (jbc lo B ll sz 1 tx wf PM.out GD.out.1 (by have h := GD.out.2.1; simp only at h; omega) (by have := TS.out; omega))
        go_wp2_with fail
        cases hp : ja5 (ll, sz) (ja3 1 tx) with
        | error er =>
         have E2 : Hid (jap (jcg g ns is os ts) = .error er) := by show _ = _; rw [E.out, hp]; rfl
         rw [hp] at C
         clear hp
         refine C.out.mono ?_
         rintro e w4 ⟨ha, rfl⟩
         exact ⟨rfl, jad E2.out (jaa GB.out (Abv.grown G.out LO.out ha))⟩
        | ok m' =>
         obtain ⟨l2, s2⟩ := m'
         have E2 : Hid (jap (jcg g ns is os ts) = (jaO jaB 1 (l2, s2) ((ns.map jda).drop (k + 1))).bind fun m => (jaW m 2 g.name).bind fun m => (jaO jiB 5 m (ts.map jcP)).bind fun m => (jaO jdc 11 m (is.map jbg)).bind fun m => (jaO jdc 12 m (os.map jbg)).bind fun m => wrP m.1) := by show _ = _; rw [E.out, hp]; rfl
         have GD2 := jac (jch hp GD.out (jbx _ _ (by decide) (by have := TS.out; omega)))
         rw [hp] at C
         clear hp
         refine C.out.mono ?_
         rintro e w4 ⟨ha, v, rfl, rfl, hq⟩
         have PM2 := jac hq
         have G2 := jac (Abv.grown G.out LO.out ha)
         clear ha hq C PM G E GD
         obtain ⟨ll, hll⟩ : ∃ x, x = l2 := ⟨_, rfl⟩
         obtain ⟨sz, hsz⟩ : ∃ x, x = s2 := ⟨_, rfl⟩
         rw [← hll, ← hsz] at PM2 E2 GD2
         clear hll hsz l2 s2
         have PM := PM2
         have G := G2
         have E := E2
         have GD := GD2
         clear PM2 G2 E2 GD2
         go_wp2_with fail
         go_roundg (ns.length - (k + 1))
         case measure => omega
         case rel => exact ⟨k + 1, ll, sz, rfl, by omega, by go_num, PM.out, G.out, E.out, GD.out⟩
      ·obtain hkN : k = ns.length := by omega
       have E2 : Hid (jap (jcg g ns is os ts) = (jaW (ll, sz) 2 g.name).bind fun m => (jaO jiB 5 m (ts.map jcP)).bind fun m => (jaO jdc 11 m (is.map jbg)).bind fun m => (jaO jdc 12 m (os.map jbg)).bind fun m => wrP m.1) := by show _ = _; rw [E.out, List.drop_eq_nil_of_le (by have := hkN; simp only [List.length_map]; omega)]; rfl
       clear E
       subst hkN
       have E := E2
       clear E2
       obtain ⟨⟨x0, x1, x2, x3, x4⟩, -⟩ := jay (BX.out wr G.out)
       have C := jac (jcH lo B ll sz 2 g.name wr PM.out GD.out.1 (by have h := GD.out.2.1; simp only at h; omega) (by omega))
       go_wp2_with fail
       cases hp : jaW (ll, sz) 2 g.name with
       | error er =>
        have E2 : Hid (jap (jcg g ns is os ts) = .error er) := by show _ = _; rw [E.out, hp]; rfl
        rw [hp] at C
        clear hp
        refine C.out.mono ?_
        rintro e w11 ⟨ha, rfl⟩
        exact ⟨rfl, jad E2.out (jaa GB.out (Abv.grown G.out LO.out ha))⟩
       | ok m' =>
        obtain ⟨l2, s2⟩ := m'
        have E2 : Hid (jap (jcg g ns is os ts) = (jaO jiB 5 (l2, s2) (ts.map jcP)).bind fun m => (jaO jdc 11 m (is.map jbg)).bind fun m => (jaO jdc 12 m (os.map jbg)).bind fun m => wrP m.1) := by show _ = _; rw [E.out, hp]; rfl
        have GD2 := jac (jdX hp GD.out (by decide) (by omega))
        rw [hp] at C
        clear hp
        refine C.out.mono ?_
        rintro e w11 ⟨ha, v, rfl, rfl, hq⟩
        have PM2 := jac hq
        have G2 := jac (Abv.grown G.out LO.out ha)
        clear ha hq C PM G E GD
        obtain ⟨ll, hll⟩ : ∃ x, x = l2 := ⟨_, rfl⟩
        obtain ⟨sz, hsz⟩ : ∃ x, x = s2 := ⟨_, rfl⟩
        rw [← hll, ← hsz] at PM2 E2 GD2
        clear hll hsz l2 s2
        have PM := PM2
        have G := G2
        have E := E2
        have GD := GD2
        clear PM2 G2 E2 GD2
        clear x0 x1 x2 x3 x4
        obtain ⟨⟨x0, x1, x2, x3, x4⟩, -⟩ := jay (BX.out w11 G.out)
        go_wp2
        clear x0 x1 x2 x3 x4
        go_loopg [29] ts.length (fun gh iv wr => ∃ (k : Nat) (ll : List Fld) (sz : Nat), gh = ts.length - k ∧ k ≤ ts.length ∧ iv = .int .i64 k ∧ jcJ wr lo B ll sz ∧ wb.grownBy wr none ∧ jap (jcg g ns is os ts) = ((jaO jiB 5 (ll, sz) ((ts.map jcP).drop k)).bind fun m => (jaO jdc 11 m (is.map jbg)).bind fun m => (jaO jdc 12 m (os.map jbg)).bind fun m => wrP m.1) ∧ Gd (ll, sz) (2000000 + k))
        case atStart => exact ⟨0, ll, sz, rfl, Nat.zero_le _, rfl, PM.out, G.out, by rw [List.drop_zero]; exact E.out, GD.out.le (by omega)⟩
        case round =>
         clear PM G E GD
         obtain ⟨k, ll, sz, rfl, hk, rfl, hpm, hg, he, hgd⟩ := hrel
         have PM := jac hpm
         have G := jac hg
         have E := jac he
         have GD := jac hgd
         clear hpm hg he hgd
         by_cases hlt : k < ts.length
         ·skip
          obtain ⟨xb, xo, rfl⟩ := (HT.out.more (jaa GB.out G.out)).addr (k := k) (by rw [List.length_map]; exact hlt)
          have NC := IsL.nam (HT.out.more (jaa GB.out G.out)) k (by rw [List.length_map]; exact hlt)
          simp only [List.getElem_map] at NC
          obtain ⟨e0, e1, e2, e3⟩ := NC
          have hx0 := hT ts[k] (List.getElem_mem hlt)
          have sx0 := sT ts[k] (List.getElem_mem hlt)
          have DS := jeZ jcP ts k hlt
          obtain ⟨p, hp⟩ : ∃ p, p = ts[k] := ⟨_, rfl⟩
          rw [← hp] at e0 e1 e2 e3 hx0 sx0 DS
          obtain ⟨x, cx⟩ := p
          simp only at e0 e1 e2 e3 hx0 sx0
          have HX := jac (And.intro (jaw.more hx0.1 (jaa GB.out G.out)) (jaw.more hx0.2 (jaa GB.out G.out)))
          have SX := jac sx0
          clear hp hx0 sx0
          have E1 : Hid (jap (jcg g ns is os ts) = ((jaG x.name x.ty cx.1 cx.2).bind fun s => (ja5 (ll, sz) (ja3 5 s)).bind fun m => jaO jiB 5 m ((ts.map jcP).drop (k + 1))).bind fun m => (jaO jdc 11 m (is.map jbg)).bind fun m => (jaO jdc 12 m (os.map jbg)).bind fun m => wrP m.1) := by show _ = _; rw [E.out, DS]; rfl
          have gd := jab wr (.cells #[.string x.name, .int .i64 x.ty, .slice x.dv.a x.dv.n x.dv.c, .slice x.tv.a x.tv.n x.tv.c] 67)
          obtain ⟨⟨y0, y1, y2, y3⟩, -⟩ := jaS (heap_alloc_new wr (.cells #[.string x.name, .int .i64 x.ty, .slice x.dv.a x.dv.n x.dv.c, .slice x.tv.a x.tv.n x.tv.c] 67))
          clear DS E
          have E := E1
          clear E1
          go_wp2_with fail
          obtain ⟨wn, hwn⟩ : ∃ y9, y9 = wr.alloc (.cells #[.string x.name, .int .i64 x.ty, .slice x.dv.a x.dv.n x.dv.c, .slice x.tv.a x.tv.n x.tv.c] 67) := ⟨_, rfl⟩
          rw [← hwn] at gd ⊢
          have gd2 := jac gd
          have PM1 := jac (PM.out.more gd)
          have G1 := jac (jaa G.out gd)
          clear hwn gd PM G e0 e1 e2 e3 y0 y1 y2 y3
          have PM := PM1
          have G := G1
          clear PM1 G1
          have C0 := jac (jdu x.name x.ty (.slice x.dv.a x.dv.n x.dv.c) (.slice x.tv.a x.tv.n x.tv.c) cx.1 cx.2 wn SX.out.1 (jaw.more HX.out.1 gd2.out) (jaw.more HX.out.2 gd2.out) SX.out.2.1 SX.out.2.2)
          cases hf : jaG x.name x.ty cx.1 cx.2 with
          | error er =>
           have E2 : Hid (jap (jcg g ns is os ts) = .error er) := by show _ = _; rw [E.out, hf]; rfl
           rw [hf] at C0
           clear hf
           refine C0.out.mono ?_
           rintro e wf ⟨hg, rfl⟩
           exact ⟨rfl, jad E2.out (jaa GB.out (jaa G.out hg))⟩
          | ok tx =>
           have E2 : Hid (jap (jcg g ns is os ts) = ((ja5 (ll, sz) (ja3 5 tx)).bind fun m => jaO jiB 5 m ((ts.map jcP).drop (k + 1))).bind fun m => (jaO jdc 11 m (is.map jbg)).bind fun m => (jaO jdc 12 m (os.map jbg)).bind fun m => wrP m.1) := by show _ = _; rw [E.out, hf]; rfl
           have TS := jac (jla _ _ _ _ _ hf)
           rw [hf] at C0
           clear hf E
           have E := E2
           clear E2
           refine C0.out.mono ?_
           rintro e wf ⟨hg, v, rfl, rfl⟩
           have PM1 := jac (PM.out.more hg)
           have G1 := jac (jaa G.out hg)
           clear hg C0 PM G
           have PM := PM1
           have G := G1
           clear PM1 G1
           have C := jac (jbc lo B ll sz 5 tx wf PM.out GD.out.1 (by have h := GD.out.2.1; simp only at h; omega) (by have := TS.out; omega))
           go_wp2_with fail
           cases hp : ja5 (ll, sz) (ja3 5 tx) with
           | error er =>
            have E2 : Hid (jap (jcg g ns is os ts) = .error er) := by show _ = _; rw [E.out, hp]; rfl
            rw [hp] at C
            clear hp
            refine C.out.mono ?_
            rintro e w4 ⟨ha, rfl⟩
            exact ⟨rfl, jad E2.out (jaa GB.out (Abv.grown G.out LO.out ha))⟩
           | ok m' =>
            obtain ⟨l2, s2⟩ := m'
            have E2 : Hid (jap (jcg g ns is os ts) = (jaO jiB 5 (l2, s2) ((ts.map jcP).drop (k + 1))).bind fun m => (jaO jdc 11 m (is.map jbg)).bind fun m => (jaO jdc 12 m (os.map jbg)).bind fun m => wrP m.1) := by show _ = _; rw [E.out, hp]; rfl
            have GD2 := jac (jch hp GD.out (jbx _ _ (by decide) (by have := TS.out; omega)))
            rw [hp] at C
            clear hp
            refine C.out.mono ?_
            rintro e w4 ⟨ha, v, rfl, rfl, hq⟩
            have PM2 := jac hq
            have G2 := jac (Abv.grown G.out LO.out ha)
            clear ha hq C PM G E GD
            obtain ⟨ll, hll⟩ : ∃ x, x = l2 := ⟨_, rfl⟩
            obtain ⟨sz, hsz⟩ : ∃ x, x = s2 := ⟨_, rfl⟩
            rw [← hll, ← hsz] at PM2 E2 GD2
            clear hll hsz l2 s2
            have PM := PM2
            have G := G2
            have E := E2
            have GD := GD2
            clear PM2 G2 E2 GD2
            go_wp2_with fail
            go_roundg (ts.length - (k + 1))
            case measure => omega
            case rel => exact ⟨k + 1, ll, sz, rfl, by omega, by go_num, PM.out, G.out, E.out, GD.out⟩
         ·obtain hkN : k = ts.length := by omega
          have E2 : Hid (jap (jcg g ns is os ts) = (jaO jdc 11 (ll, sz) (is.map jbg)).bind fun m => (jaO jdc 12 m (os.map jbg)).bind fun m => wrP m.1) := by show _ = _; rw [E.out, List.drop_eq_nil_of_le (by have := hkN; simp only [List.length_map]; omega)]; rfl
          clear E
          subst hkN
          have E := E2
          clear E2
          obtain ⟨⟨x0, x1, x2, x3, x4⟩, -⟩ := jay (BX.out wr G.out)
          go_wp2
          clear x0 x1 x2 x3 x4
          go_loopg [43] is.length (fun gh iv wr => ∃ (k : Nat) (ll : List Fld) (sz : Nat), gh = is.length - k ∧ k ≤ is.length ∧ iv = .int .i64 k ∧ jcJ wr lo B ll sz ∧ wb.grownBy wr none ∧ jap (jcg g ns is os ts) = ((jaO jdc 11 (ll, sz) ((is.map jbg).drop k)).bind fun m => (jaO jdc 12 m (os.map jbg)).bind fun m => wrP m.1) ∧ Gd (ll, sz) (4000000 + k))
          case atStart => exact ⟨0, ll, sz, rfl, Nat.zero_le _, rfl, PM.out, G.out, by rw [List.drop_zero]; exact E.out, GD.out.le (by omega)⟩
          case round =>
           clear PM G E GD
           obtain ⟨k, ll, sz, rfl, hk, rfl, hpm, hg, he, hgd⟩ := hrel
           have PM := jac hpm
           have G := jac hg
           have E := jac he
           have GD := jac hgd
           clear hpm hg he hgd
           by_cases hlt : k < is.length
           ·skip
            obtain ⟨xb, xo, rfl⟩ := (HI.out.more (jaa GB.out G.out)).addr (k := k) (by rw [List.length_map]; exact hlt)
            have NC := IsL.val (HI.out.more (jaa GB.out G.out)) k (by rw [List.length_map]; exact hlt)
            simp only [List.getElem_map] at NC
            obtain ⟨e0, e1, e2⟩ := NC
            have hx0 := hI is[k] (List.getElem_mem hlt)
            have sx0 := sI is[k] (List.getElem_mem hlt)
            have DS := jeZ jbg is k hlt
            obtain ⟨p, hp⟩ : ∃ p, p = is[k] := ⟨_, rfl⟩
            rw [← hp] at e0 e1 e2 hx0 sx0 DS
            obtain ⟨x, cx⟩ := p
            simp only at e0 e1 e2 hx0 sx0
            have HX := jac (jaw.more hx0 (jaa GB.out G.out))
            have SX := jac sx0
            clear hp hx0 sx0
            have E1 : Hid (jap (jcg g ns is os ts) = ((jam x.name x.ty cx).bind fun s => (ja5 (ll, sz) (ja3 11 s)).bind fun m => jaO jdc 11 m ((is.map jbg).drop (k + 1))).bind fun m => (jaO jdc 12 m (os.map jbg)).bind fun m => wrP m.1) := by show _ = _; rw [E.out, DS]; rfl
            have gd := jab wr (.cells #[.string x.name, .int .i64 x.ty, .slice x.dv.a x.dv.n x.dv.c] 82)
            obtain ⟨⟨y0, y1, y2⟩, -⟩ := ja9 (heap_alloc_new wr (.cells #[.string x.name, .int .i64 x.ty, .slice x.dv.a x.dv.n x.dv.c] 82))
            clear DS E
            have E := E1
            clear E1
            go_wp2_with fail
            obtain ⟨wn, hwn⟩ : ∃ y9, y9 = wr.alloc (.cells #[.string x.name, .int .i64 x.ty, .slice x.dv.a x.dv.n x.dv.c] 82) := ⟨_, rfl⟩
            rw [← hwn] at gd ⊢
            have gd2 := jac gd
            have PM1 := jac (PM.out.more gd)
            have G1 := jac (jaa G.out gd)
            clear hwn gd PM G e0 e1 e2 y0 y1 y2
            have PM := PM1
            have G := G1
            clear PM1 G1
            have C0 := jac (jdR x.name x.ty (.slice x.dv.a x.dv.n x.dv.c) cx wn SX.out.1 (jaw.more HX.out gd2.out) SX.out.2)
            cases hf : jam x.name x.ty cx with
            | error er =>
             have E2 : Hid (jap (jcg g ns is os ts) = .error er) := by show _ = _; rw [E.out, hf]; rfl
             rw [hf] at C0
             clear hf
             refine C0.out.mono ?_
             rintro e wf ⟨hg, rfl⟩
             exact ⟨rfl, jad E2.out (jaa GB.out (jaa G.out hg))⟩
            | ok tx =>
             have E2 : Hid (jap (jcg g ns is os ts) = ((ja5 (ll, sz) (ja3 11 tx)).bind fun m => jaO jdc 11 m ((is.map jbg).drop (k + 1))).bind fun m => (jaO jdc 12 m (os.map jbg)).bind fun m => wrP m.1) := by show _ = _; rw [E.out, hf]; rfl
             have TS := jac (jlb _ _ _ _ hf)
             rw [hf] at C0
             clear hf E
             have E := E2
             clear E2
             refine C0.out.mono ?_
             rintro e wf ⟨hg, v, rfl, rfl⟩
             have PM1 := jac (PM.out.more hg)
             have G1 := jac (jaa G.out hg)
             clear hg C0 PM G
             have PM := PM1
             have G := G1
             clear PM1 G1
             have C := jac (jbc lo B ll sz 11 tx wf PM.out GD.out.1 (by have h := GD.out.2.1; simp only at h; omega) (by have := TS.out; omega))
             go_wp2_with fail
             cases hp : ja5 (ll, sz) (ja3 11 tx) with
             | error er =>
              have E2 : Hid (jap (jcg g ns is os ts) = .error er) := by show _ = _; rw [E.out, hp]; rfl
              rw [hp] at C
              clear hp
              refine C.out.mono ?_
              rintro e w4 ⟨ha, rfl⟩
              exact ⟨rfl, jad E2.out (jaa GB.out (Abv.grown G.out LO.out ha))⟩
             | ok m' =>
              obtain ⟨l2, s2⟩ := m'
              have E2 : Hid (jap (jcg g ns is os ts) = (jaO jdc 11 (l2, s2) ((is.map jbg).drop (k + 1))).bind fun m => (jaO jdc 12 m (os.map jbg)).bind fun m => wrP m.1) := by show _ = _; rw [E.out, hp]; rfl
              have GD2 := jac (jch hp GD.out (jbx _ _ (by decide) (by have := TS.out; omega)))
              rw [hp] at C
              clear hp
              refine C.out.mono ?_
              rintro e w4 ⟨ha, v, rfl, rfl, hq⟩
              have PM2 := jac hq
              have G2 := jac (Abv.grown G.out LO.out ha)
              clear ha hq C PM G E GD
              obtain ⟨ll, hll⟩ : ∃ x, x = l2 := ⟨_, rfl⟩
              obtain ⟨sz, hsz⟩ : ∃ x, x = s2 := ⟨_, rfl⟩
              rw [← hll, ← hsz] at PM2 E2 GD2
              clear hll hsz l2 s2
              have PM := PM2
              have G := G2
              have E := E2
              have GD := GD2
              clear PM2 G2 E2 GD2
              go_wp2_with fail
              go_roundg (is.length - (k + 1))
              case measure => omega
              case rel => exact ⟨k + 1, ll, sz, rfl, by omega, by go_num, PM.out, G.out, E.out, GD.out⟩
           ·obtain hkN : k = is.length := by omega
            have E2 : Hid (jap (jcg g ns is os ts) = (jaO jdc 12 (ll, sz) (os.map jbg)).bind fun m => wrP m.1) := by show _ = _; rw [E.out, List.drop_eq_nil_of_le (by have := hkN; simp only [List.length_map]; omega)]; rfl
            clear E
            subst hkN
            have E := E2
            clear E2
            obtain ⟨⟨x0, x1, x2, x3, x4⟩, -⟩ := jay (BX.out wr G.out)
            go_wp2
            clear x0 x1 x2 x3 x4
            go_loopg [54] os.length (fun gh iv wr => ∃ (k : Nat) (ll : List Fld) (sz : Nat), gh = os.length - k ∧ k ≤ os.length ∧ iv = .int .i64 k ∧ jcJ wr lo B ll sz ∧ wb.grownBy wr none ∧ jap (jcg g ns is os ts) = ((jaO jdc 12 (ll, sz) ((os.map jbg).drop k)).bind fun m => wrP m.1) ∧ Gd (ll, sz) (6000000 + k))
            case atStart => exact ⟨0, ll, sz, rfl, Nat.zero_le _, rfl, PM.out, G.out, by rw [List.drop_zero]; exact E.out, GD.out.le (by omega)⟩
            case round =>
             clear PM G E GD
             obtain ⟨k, ll, sz, rfl, hk, rfl, hpm, hg, he, hgd⟩ := hrel
             have PM := jac hpm
             have G := jac hg
             have E := jac he
             have GD := jac hgd
             clear hpm hg he hgd
             by_cases hlt : k < os.length
             ·skip
              obtain ⟨xb, xo, rfl⟩ := (HO.out.more (jaa GB.out G.out)).addr (k := k) (by rw [List.length_map]; exact hlt)
              have NC := IsL.val (HO.out.more (jaa GB.out G.out)) k (by rw [List.length_map]; exact hlt)
              simp only [List.getElem_map] at NC
              obtain ⟨e0, e1, e2⟩ := NC
              have hx0 := hO os[k] (List.getElem_mem hlt)
              have sx0 := sO os[k] (List.getElem_mem hlt)
              have DS := jeZ jbg os k hlt
              obtain ⟨p, hp⟩ : ∃ p, p = os[k] := ⟨_, rfl⟩
              rw [← hp] at e0 e1 e2 hx0 sx0 DS
              obtain ⟨x, cx⟩ := p
              simp only at e0 e1 e2 hx0 sx0
              have HX := jac (jaw.more hx0 (jaa GB.out G.out))
              have SX := jac sx0
              clear hp hx0 sx0
              have E1 : Hid (jap (jcg g ns is os ts) = ((jam x.name x.ty cx).bind fun s => (ja5 (ll, sz) (ja3 12 s)).bind fun m => jaO jdc 12 m ((os.map jbg).drop (k + 1))).bind fun m => wrP m.1) := by show _ = _; rw [E.out, DS]; rfl
              have gd := jab wr (.cells #[.string x.name, .int .i64 x.ty, .slice x.dv.a x.dv.n x.dv.c] 82)
              obtain ⟨⟨y0, y1, y2⟩, -⟩ := ja9 (heap_alloc_new wr (.cells #[.string x.name, .int .i64 x.ty, .slice x.dv.a x.dv.n x.dv.c] 82))
              clear DS E
              have E := E1
              clear E1
              go_wp2_with fail
              obtain ⟨wn, hwn⟩ : ∃ y9, y9 = wr.alloc (.cells #[.string x.name, .int .i64 x.ty, .slice x.dv.a x.dv.n x.dv.c] 82) := ⟨_, rfl⟩
              rw [← hwn] at gd ⊢
              have gd2 := jac gd
              have PM1 := jac (PM.out.more gd)
              have G1 := jac (jaa G.out gd)
              clear hwn gd PM G e0 e1 e2 y0 y1 y2
              have PM := PM1
              have G := G1
              clear PM1 G1
              have C0 := jac (jdR x.name x.ty (.slice x.dv.a x.dv.n x.dv.c) cx wn SX.out.1 (jaw.more HX.out gd2.out) SX.out.2)
              cases hf : jam x.name x.ty cx with
              | error er =>
               have E2 : Hid (jap (jcg g ns is os ts) = .error er) := by show _ = _; rw [E.out, hf]; rfl
               rw [hf] at C0
               clear hf
               refine C0.out.mono ?_
               rintro e wf ⟨hg, rfl⟩
               exact ⟨rfl, jad E2.out (jaa GB.out (jaa G.out hg))⟩
              | ok tx =>
               have E2 : Hid (jap (jcg g ns is os ts) = ((ja5 (ll, sz) (ja3 12 tx)).bind fun m => jaO jdc 12 m ((os.map jbg).drop (k + 1))).bind fun m => wrP m.1) := by show _ = _; rw [E.out, hf]; rfl
               have TS := jac (jlb _ _ _ _ hf)
               rw [hf] at C0
               clear hf E
               have E := E2
               clear E2
               refine C0.out.mono ?_
               rintro e wf ⟨hg, v, rfl, rfl⟩
               have PM1 := jac (PM.out.more hg)
               have G1 := jac (jaa G.out hg)
               clear hg C0 PM G
               have PM := PM1
               have G := G1
               clear PM1 G1
               have C := jac (jbc lo B ll sz 12 tx wf PM.out GD.out.1 (by have h := GD.out.2.1; simp only at h; omega) (by have := TS.out; omega))
               go_wp2_with fail
               cases hp : ja5 (ll, sz) (ja3 12 tx) with
               | error er =>
                have E2 : Hid (jap (jcg g ns is os ts) = .error er) := by show _ = _; rw [E.out, hp]; rfl
                rw [hp] at C
                clear hp
                refine C.out.mono ?_
                rintro e w4 ⟨ha, rfl⟩
                exact ⟨rfl, jad E2.out (jaa GB.out (Abv.grown G.out LO.out ha))⟩
               | ok m' =>
                obtain ⟨l2, s2⟩ := m'
                have E2 : Hid (jap (jcg g ns is os ts) = (jaO jdc 12 (l2, s2) ((os.map jbg).drop (k + 1))).bind fun m => wrP m.1) := by show _ = _; rw [E.out, hp]; rfl
                have GD2 := jac (jch hp GD.out (jbx _ _ (by decide) (by have := TS.out; omega)))
                rw [hp] at C
                clear hp
                refine C.out.mono ?_
                rintro e w4 ⟨ha, v, rfl, rfl, hq⟩
                have PM2 := jac hq
                have G2 := jac (Abv.grown G.out LO.out ha)
                clear ha hq C PM G E GD
                obtain ⟨ll, hll⟩ : ∃ x, x = l2 := ⟨_, rfl⟩
                obtain ⟨sz, hsz⟩ : ∃ x, x = s2 := ⟨_, rfl⟩
                rw [← hll, ← hsz] at PM2 E2 GD2
                clear hll hsz l2 s2
                have PM := PM2
                have G := G2
                have E := E2
                have GD := GD2
                clear PM2 G2 E2 GD2
                go_wp2_with fail
                go_roundg (os.length - (k + 1))
                case measure => omega
                case rel => exact ⟨k + 1, ll, sz, rfl, by omega, by go_num, PM.out, G.out, E.out, GD.out⟩
             ·obtain hkN : k = os.length := by omega
              have E2 : Hid (jap (jcg g ns is os ts) = wrP (ll, sz).1) := by show _ = _; rw [E.out, List.drop_eq_nil_of_le (by have := hkN; simp only [List.length_map]; omega)]; rfl
              clear E
              subst hkN
              have E := E2
              clear E2
              have C := jac (jbj lo B ll sz wr PM.out (by have h := GD.out.2.1; simp only at h; omega) GD.out.2.2)
              go_wp2_with fail
              cases hp : wrP ll with
              | error er =>
               have E2 : Hid (jap (jcg g ns is os ts) = .error er) := by show _ = _; rw [E.out, hp]
               rw [hp] at C
               clear hp
               refine C.out.mono ?_
               rintro e wz ⟨hg, rfl⟩
               exact ⟨rfl, jad E2.out (jaa GB.out (jaa G.out hg))⟩
              | ok s =>
               have E2 : Hid (jap (jcg g ns is os ts) = .ok s) := by show _ = _; rw [E.out, hp]
               rw [hp] at C
               clear hp
               refine C.out.mono ?_
               rintro e wz ⟨hg, v, rfl, rfl⟩
               have GZ := jac (jaa GB.out (jaa G.out hg))
               clear hg
               go_wp2
               go_ret
               exact jaE E2.out GZ.out rfl
end Go.Proofs.YtbgbpfbjeleooaaGreat.Pd
