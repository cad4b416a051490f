/- A part. -/
import Derived.Test.YtbgbpfbjeleooaaGreatRartBM
set_option maxHeartbeats 12800000
set_option maxRecDepth 100000
namespace Go.Proofs.YtbgbpfbjeleooaaGreat.Pd
open Go.RowKit
open Wr (Fld)
def jk9 (m : List Fld × Nat) (k ty : Int) (ds dat : List Int) : R (List Fld × Nat) := if k = 4 then (jaG ⟨#[]⟩ ty ds dat).bind fun s => ja5 m (ja3 5 s) else .ok m
def jan (A : NAtr) : R ByteArray := (jaW ([], 0) 1 A.name).bind fun m => (jjr m 2 A.f).bind fun m => (jcR m 3 A.i).bind fun m => (jaW m 4 A.s).bind fun m => (jk9 m A.kind A.ty A.dims A.data).bind fun m => (nsM m 8 A.ints).bind fun m => (jcR m 20 A.kind).bind fun m => wrP m.1
def Sh (r : R ByteArray) : Prop := ∀ s, r = .ok s → s.size ≤ 16777216
theorem jjy (m : List Fld) : Sh (wrP m) := fun _ h => jeo h
theorem jaZ {α : Type} {r : R α} {f : α → R ByteArray} (h : ∀ a, Sh (f a)) : Sh (r.bind f) := fun s e => by
 obtain ⟨a, -, e2⟩ := jai e
 exact h a s e2
theorem jla (n : ByteArray) (ty : Int) (ds dat : List Int) : Sh (jaG n ty ds dat) := jaZ fun _ => jaZ fun _ => jaZ fun _ => jaZ fun _ => jaZ fun _ => jjy _
theorem jl0 (A : NAtr) : Sh (jan A) := jaZ fun _ => jaZ fun _ => jaZ fun _ => jaZ fun _ => jaZ fun _ => jaZ fun _ => jaZ fun _ => jjy _
theorem jgh (a : Atr) (c : Cont) (w : World) (ha : Has w a c) (hn : a.name.size ≤ 1000000000) (hs : a.s.size ≤ 1000000000) (hd : c.d.length ≤ 10000000) (ht : c.t.length ≤ 10000000) (hi : c.i.length ≤ 10000000) :
    Calls Tryz.prog 123 #[jcn a] w (jbA w (jan (jbT a c)) fun s v _ => v = .string s) := by
     have HA := jac ha
     unfold jcn
     obtain ⟨wb, hwb⟩ : ∃ wb, wb = w.alloc (.cells #[.string a.name, .int .i64 a.kind, .int .i64 a.f, .int .i64 a.i, .string a.s, .int .i64 a.ty, .slice a.dv.a a.dv.n a.dv.c, .slice a.tv.a a.tv.n a.tv.c, .slice a.iv.a a.iv.n a.iv.c] 78) := ⟨_, rfl⟩
     have GB : Hid (w.grownBy wb none) := by show w.grownBy wb none; rw [hwb]; exact jab _ _
     have hb : wb.heap[w.heap.size]? = some (.cells #[.string a.name, .int .i64 a.kind, .int .i64 a.f, .int .i64 a.i, .string a.s, .int .i64 a.ty, .slice a.dv.a a.dv.n a.dv.c, .slice a.tv.a a.tv.n a.tv.c, .slice a.iv.a a.iv.n a.iv.c] 78 (0, 0)) := by rw [hwb]; exact heap_alloc_new w _
     have BX : Hid (∀ wx, wb.grownBy wx none → wx.heap[w.heap.size]? = some (.cells #[.string a.name, .int .i64 a.kind, .int .i64 a.f, .int .i64 a.i, .string a.s, .int .i64 a.ty, .slice a.dv.a a.dv.n a.dv.c, .slice a.tv.a a.tv.n a.tv.c, .slice a.iv.a a.iv.n a.iv.c] 78 (0, 0))) := fun wx hg => jag hb hg
     have pm := jcr wb
     have g1 := jab wb (.cells #[.slice none 0 0, .int .i64 0] 114)
     obtain ⟨w1, hw1⟩ : ∃ w1, w1 = wb.alloc (.cells #[.slice none 0 0, .int .i64 0] 114) := ⟨_, rfl⟩
     have sB : wb.heap.size = w.heap.size + 1 := by rw [hwb, jar]
     obtain ⟨B, hB⟩ : ∃ B, B = w.heap.size + 1 := ⟨_, rfl⟩
     obtain ⟨lo, hlo⟩ : ∃ lo, lo = B := ⟨_, rfl⟩
     rw [← hw1, sB, ← hB] at pm
     have PM : Hid (jcJ w1 lo B [] 0) := by show jcJ w1 lo B [] 0; rw [hlo]; exact pm
     rw [← hw1] at g1
     have G := jac g1
     have LO : Hid (wb.heap.size ≤ lo) := by show _ ≤ _; omega
     have E : Hid (jan (jbT a c) = (jaW (([] : List Fld), (0 : Nat)) 1 a.name).bind fun m => (jjr m 2 a.f).bind fun m => (jcR m 3 a.i).bind fun m => (jaW m 4 a.s).bind fun m => (jk9 m a.kind a.ty c.d c.t).bind fun m => (nsM m 8 c.i).bind fun m => (jcR m 20 a.kind).bind fun m => wrP m.1) := rfl
     obtain ⟨ll, hll⟩ : ∃ x : List Fld, x = [] := ⟨_, rfl⟩
     obtain ⟨sz, hsz⟩ : ∃ x : Nat, x = 0 := ⟨_, rfl⟩
     have GD : Hid (Gd (ll, sz) 0) := by rw [hll, hsz]; exact Gd.nil
     rw [← hll, ← hsz] at PM E
     clear hll hsz hb pm g1 sB hlo ha
     go_enter Tryz.func123, Tryz.ntmps123
     go_upto_region 2 with fail
     rw [← hwb, ← hw1, ← hB]
     clear hwb hw1 hB
     obtain ⟨⟨x0, x1, x2, x3, x4, x5, x6, x7, x8⟩, -⟩ := jaD (BX.out w1 G.out)
     have C := jac (jcH lo B ll sz 1 a.name w1 PM.out GD.out.1 (by have h := GD.out.2.1; simp only at h; omega) (by omega))
     go_wp2_with fail
     cases hp : jaW (ll, sz) 1 a.name with
     | error er =>
      have E2 : Hid (jan (jbT a c) = .error er) := by show _ = _; rw [E.out, hp]; rfl
      rw [hp] at C
      clear hp
      refine C.out.mono ?_
      rintro e w2 ⟨ha, rfl⟩
      exact ⟨rfl, jad E2.out (jaa GB.out (Abv.grown G.out LO.out ha))⟩
     | ok m' =>
      obtain ⟨l2, s2⟩ := m'
      have E2 : Hid (jan (jbT a c) = (jjr (l2, s2) 2 a.f).bind fun m => (jcR m 3 a.i).bind fun m => (jaW m 4 a.s).bind fun m => (jk9 m a.kind a.ty c.d c.t).bind fun m => (nsM m 8 c.i).bind fun m => (jcR m 20 a.kind).bind fun m => wrP m.1) := by show _ = _; rw [E.out, hp]; rfl
      have GD2 := jac (jdX hp GD.out (by decide) (by omega))
      rw [hp] at C
      clear hp
      refine C.out.mono ?_
      rintro e w2 ⟨ha, v, rfl, rfl, hq⟩
      have PM2 := jac hq
      have G2 := jac (Abv.grown G.out LO.out ha)
      clear ha hq C PM G E GD
      obtain ⟨ll, hll⟩ : ∃ x, x = l2 := ⟨_, rfl⟩
      obtain ⟨sz, hsz⟩ : ∃ x, x = s2 := ⟨_, rfl⟩
      rw [← hll, ← hsz] at PM2 E2 GD2
      clear hll hsz l2 s2
      have PM := PM2
      have G := G2
      have E := E2
      have GD := GD2
      clear PM2 G2 E2 GD2
      clear x0 x1 x2 x3 x4 x5 x6 x7 x8
      obtain ⟨⟨x0, x1, x2, x3, x4, x5, x6, x7, x8⟩, -⟩ := jaD (BX.out w2 G.out)
      have C := jac (jil lo B ll sz 2 a.f w2 PM.out GD.out.1 (by have h := GD.out.2.1; simp only at h; omega))
      go_wp2_with fail
      cases hp : jjr (ll, sz) 2 a.f with
      | error er =>
       have E2 : Hid (jan (jbT a c) = .error er) := by show _ = _; rw [E.out, hp]; rfl
       rw [hp] at C
       clear hp
       refine C.out.mono ?_
       rintro e w3 ⟨ha, rfl⟩
       exact ⟨rfl, jad E2.out (jaa GB.out (Abv.grown G.out LO.out ha))⟩
      | ok m' =>
       obtain ⟨l2, s2⟩ := m'
       have E2 : Hid (jan (jbT a c) = (jcR (l2, s2) 3 a.i).bind fun m => (jaW m 4 a.s).bind fun m => (jk9 m a.kind a.ty c.d c.t).bind fun m => (nsM m 8 c.i).bind fun m => (jcR m 20 a.kind).bind fun m => wrP m.1) := by show _ = _; rw [E.out, hp]; rfl
       have GD2 := jac (jlZ hp GD.out (by decide))
       rw [hp] at C
       clear hp
       refine C.out.mono ?_
       rintro e w3 ⟨ha, v, rfl, rfl, hq⟩
       have PM2 := jac hq
       have G2 := jac (Abv.grown G.out LO.out ha)
       clear ha hq C PM G E GD
       obtain ⟨ll, hll⟩ : ∃ x, x = l2 := ⟨_, rfl⟩
       obtain ⟨sz, hsz⟩ : ∃ x, x = s2 := ⟨_, rfl⟩
       rw [← hll, ← hsz] at PM2 E2 GD2
       clear hll hsz l2 s2
       have PM := PM2
       have G := G2
       have E := E2
       have GD := GD2
       clear PM2 G2 E2 GD2
       clear x0 x1 x2 x3 x4 x5 x6 x7 x8
       obtain ⟨⟨x0, x1, x2, x3, x4, x5, x6, x7, x8⟩, -⟩ := jaD (BX.out w3 G.out)
       have C := jac (jcl lo B ll sz 3 a.i w3 PM.out GD.out.1 (by have h := GD.out.2.1; simp only at h; omega))
       go_wp2_with fail
       cases hp : jcR (ll, sz) 3 a.i with
       | error er =>
        have E2 : Hid (jan (jbT a c) = .error er) := by show _ = _; rw [E.out, hp]; rfl
        rw [hp] at C
        clear hp
        refine C.out.mono ?_
        rintro e w4 ⟨ha, rfl⟩
        exact ⟨rfl, jad E2.out (jaa GB.out (Abv.grown G.out LO.out ha))⟩
       | ok m' =>
        obtain ⟨l2, s2⟩ := m'
        have E2 : Hid (jan (jbT a c) = (jaW (l2, s2) 4 a.s).bind fun m => (jk9 m a.kind a.ty c.d c.t).bind fun m => (nsM m 8 c.i).bind fun m => (jcR m 20 a.kind).bind fun m => wrP m.1) := by show _ = _; rw [E.out, hp]; rfl
        have GD2 := jac (jfN hp GD.out (by decide))
        rw [hp] at C
        clear hp
        refine C.out.mono ?_
        rintro e w4 ⟨ha, v, rfl, rfl, hq⟩
        have PM2 := jac hq
        have G2 := jac (Abv.grown G.out LO.out ha)
        clear ha hq C PM G E GD
        obtain ⟨ll, hll⟩ : ∃ x, x = l2 := ⟨_, rfl⟩
        obtain ⟨sz, hsz⟩ : ∃ x, x = s2 := ⟨_, rfl⟩
        rw [← hll, ← hsz] at PM2 E2 GD2
        clear hll hsz l2 s2
        have PM := PM2
        have G := G2
        have E := E2
        have GD := GD2
        clear PM2 G2 E2 GD2
        clear x0 x1 x2 x3 x4 x5 x6 x7 x8
        obtain ⟨⟨x0, x1, x2, x3, x4, x5, x6, x7, x8⟩, -⟩ := jaD (BX.out w4 G.out)
        have C := jac (jcH lo B ll sz 4 a.s w4 PM.out GD.out.1 (by have h := GD.out.2.1; simp only at h; omega) (by omega))
        go_wp2_with fail
        cases hp : jaW (ll, sz) 4 a.s with
        | error er =>
         have E2 : Hid (jan (jbT a c) = .error er) := by show _ = _; rw [E.out, hp]; rfl
         rw [hp] at C
         clear hp
         refine C.out.mono ?_
         rintro e w5 ⟨ha, rfl⟩
         exact ⟨rfl, jad E2.out (jaa GB.out (Abv.grown G.out LO.out ha))⟩
        | ok m' =>
         obtain ⟨l2, s2⟩ := m'
         have E2 : Hid (jan (jbT a c) = (jk9 (l2, s2) a.kind a.ty c.d c.t).bind fun m => (nsM m 8 c.i).bind fun m => (jcR m 20 a.kind).bind fun m => wrP m.1) := by show _ = _; rw [E.out, hp]; rfl
         have GD2 := jac (jdX hp GD.out (by decide) (by omega))
         rw [hp] at C
         clear hp
         refine C.out.mono ?_
         rintro e w5 ⟨ha, v, rfl, rfl, hq⟩
         have PM2 := jac hq
         have G2 := jac (Abv.grown G.out LO.out ha)
         clear ha hq C PM G E GD
         obtain ⟨ll, hll⟩ : ∃ x, x = l2 := ⟨_, rfl⟩
         obtain ⟨sz, hsz⟩ : ∃ x, x = s2 := ⟨_, rfl⟩
         rw [← hll, ← hsz] at PM2 E2 GD2
         clear hll hsz l2 s2
         have PM := PM2
         have G := G2
         have E := E2
         have GD := GD2
         clear PM2 G2 E2 GD2
         clear x0 x1 x2 x3 x4 x5 x6 x7 x8
         by_cases hk : a.kind = 4
         ·have E2 : Hid (jan (jbT a c) = ((jaG ⟨#[]⟩ a.ty c.d c.t).bind fun s => ja5 (ll, sz) (ja3 5 s)).bind fun m => (nsM m 8 c.i).bind fun m => (jcR m 20 a.kind).bind fun m => wrP m.1) := by show _ = _; rw [E.out]; unfold jk9; rw [if_pos hk]
          have bk : (a.kind == 4) = true := by simp [hk]
          clear E hk
          have E := E2
          clear E2
          obtain ⟨⟨x0, x1, x2, x3, x4, x5, x6, x7, x8⟩, -⟩ := jaD (BX.out w5 G.out)
          go_wp2_with fail
          have C0 := jac (jdu ⟨#[]⟩ a.ty (.slice a.dv.a a.dv.n a.dv.c) (.slice a.tv.a a.tv.n a.tv.c) c.d c.t w5 (by decide) (HA.out.d.more (jaa GB.out G.out)) (HA.out.t.more (jaa GB.out G.out)) (by omega) (by omega))
          cases hf : jaG ⟨#[]⟩ a.ty c.d c.t with
          | error er =>
           have E2 : Hid (jan (jbT a c) = .error er) := by show _ = _; rw [E.out, hf]; rfl
           rw [hf] at C0
           clear hf
           refine C0.out.mono ?_
           rintro e wf ⟨hg, rfl⟩
           exact ⟨rfl, jad E2.out (jaa GB.out (jaa G.out hg))⟩
          | ok tx =>
           have E2 : Hid (jan (jbT a c) = (ja5 (ll, sz) (ja3 5 tx)).bind fun m => (nsM m 8 c.i).bind fun m => (jcR m 20 a.kind).bind fun m => wrP m.1) := by show _ = _; rw [E.out, hf]; rfl
           have TS := jac (jla _ _ _ _ _ hf)
           rw [hf] at C0
           clear hf E
           have E := E2
           clear E2
           refine C0.out.mono ?_
           rintro e wf ⟨hg, v, rfl, rfl⟩
           have PM1 := jac (PM.out.more hg)
           have G1 := jac (jaa G.out hg)
           clear hg C0 PM G x0 x1 x2 x3 x4 x5 x6 x7 x8
           have PM := PM1
           have G := G1
           clear PM1 G1
           have C := jac (jbc lo B ll sz 5 tx wf PM.out GD.out.1 (by have h := GD.out.2.1; simp only at h; omega) (by have := TS.out; omega))
           go_wp2_with fail
           cases hp : ja5 (ll, sz) (ja3 5 tx) with
           | error er =>
            have E2 : Hid (jan (jbT a c) = .error er) := by show _ = _; rw [E.out, hp]; rfl
            rw [hp] at C
            clear hp
            refine C.out.mono ?_
            rintro e w6 ⟨ha, rfl⟩
            exact ⟨rfl, jad E2.out (jaa GB.out (Abv.grown G.out LO.out ha))⟩
           | ok m' =>
            obtain ⟨l2, s2⟩ := m'
            have E2 : Hid (jan (jbT a c) = (nsM (l2, s2) 8 c.i).bind fun m => (jcR m 20 a.kind).bind fun m => wrP m.1) := by show _ = _; rw [E.out, hp]; rfl
            have GD2 := jac (jch hp GD.out (jbx _ _ (by decide) (by have := TS.out; omega)))
            rw [hp] at C
            clear hp
            refine C.out.mono ?_
            rintro e w6 ⟨ha, v, rfl, rfl, hq⟩
            have PM2 := jac hq
            have G2 := jac (Abv.grown G.out LO.out ha)
            clear ha hq C PM G E GD
            obtain ⟨ll, hll⟩ : ∃ x, x = l2 := ⟨_, rfl⟩
            obtain ⟨sz, hsz⟩ : ∃ x, x = s2 := ⟨_, rfl⟩
            rw [← hll, ← hsz] at PM2 E2 GD2
            clear hll hsz l2 s2
            have PM := PM2
            have G := G2
            have E := E2
            have GD := GD2
            clear PM2 G2 E2 GD2
            obtain ⟨⟨x0, x1, x2, x3, x4, x5, x6, x7, x8⟩, -⟩ := jaD (BX.out w6 G.out)
            have C := jac (jdt lo B ll sz 8 (.slice a.iv.a a.iv.n a.iv.c) c.i w6 PM.out GD.out.1 (by have h := GD.out.2.1; simp only at h; omega) (HA.out.i.more (jaa GB.out G.out)) (by omega))
            go_wp2_with fail
            cases hp : nsM (ll, sz) 8 c.i with
            | error er =>
             have E2 : Hid (jan (jbT a c) = .error er) := by show _ = _; rw [E.out, hp]; rfl
             rw [hp] at C
             clear hp
             refine C.out.mono ?_
             rintro e w7 ⟨ha, rfl⟩
             exact ⟨rfl, jad E2.out (jaa GB.out (Abv.grown G.out LO.out ha))⟩
            | ok m' =>
             obtain ⟨l2, s2⟩ := m'
             have E2 : Hid (jan (jbT a c) = (jcR (l2, s2) 20 a.kind).bind fun m => wrP m.1) := by show _ = _; rw [E.out, hp]; rfl
             have GD2 := jac (jlA hp GD.out (by decide) (by omega))
             rw [hp] at C
             clear hp
             refine C.out.mono ?_
             rintro e w7 ⟨ha, v, rfl, rfl, hq⟩
             have PM2 := jac hq
             have G2 := jac (Abv.grown G.out LO.out ha)
             clear ha hq C PM G E GD
             obtain ⟨ll, hll⟩ : ∃ x, x = l2 := ⟨_, rfl⟩
             obtain ⟨sz, hsz⟩ : ∃ x, x = s2 := ⟨_, rfl⟩
             rw [← hll, ← hsz] at PM2 E2 GD2
             clear hll hsz l2 s2
             have PM := PM2
             have G := G2
             have E := E2
             have GD := GD2
             clear PM2 G2 E2 GD2
             clear x0 x1 x2 x3 x4 x5 x6 x7 x8
             obtain ⟨⟨x0, x1, x2, x3, x4, x5, x6, x7, x8⟩, -⟩ := jaD (BX.out w7 G.out)
             have C := jac (jcl lo B ll sz 20 a.kind w7 PM.out GD.out.1 (by have h := GD.out.2.1; simp only at h; omega))
             go_wp2_with fail
             cases hp : jcR (ll, sz) 20 a.kind with
             | error er =>
              have E2 : Hid (jan (jbT a c) = .error er) := by show _ = _; rw [E.out, hp]; rfl
              rw [hp] at C
              clear hp
              refine C.out.mono ?_
              rintro e w8 ⟨ha, rfl⟩
              exact ⟨rfl, jad E2.out (jaa GB.out (Abv.grown G.out LO.out ha))⟩
             | ok m' =>
              obtain ⟨l2, s2⟩ := m'
              have E2 : Hid (jan (jbT a c) = wrP (l2, s2).1) := by show _ = _; rw [E.out, hp]; rfl
              have GD2 := jac (jfN hp GD.out (by decide))
              rw [hp] at C
              clear hp
              refine C.out.mono ?_
              rintro e w8 ⟨ha, v, rfl, rfl, hq⟩
              have PM2 := jac hq
              have G2 := jac (Abv.grown G.out LO.out ha)
              clear ha hq C PM G E GD
              obtain ⟨ll, hll⟩ : ∃ x, x = l2 := ⟨_, rfl⟩
              obtain ⟨sz, hsz⟩ : ∃ x, x = s2 := ⟨_, rfl⟩
              rw [← hll, ← hsz] at PM2 E2 GD2
              clear hll hsz l2 s2
              have PM := PM2
              have G := G2
              have E := E2
              have GD := GD2
              clear PM2 G2 E2 GD2
              clear x0 x1 x2 x3 x4 x5 x6 x7 x8
              have C := jac (jbj lo B ll sz w8 PM.out (by have h := GD.out.2.1; simp only at h; omega) GD.out.2.2)
              go_wp2_with fail
              cases hp : wrP ll with
              | error er =>
               have E2 : Hid (jan (jbT a c) = .error er) := by show _ = _; rw [E.out, hp]
               rw [hp] at C
               clear hp
               refine C.out.mono ?_
               rintro e wz ⟨hg, rfl⟩
               exact ⟨rfl, jad E2.out (jaa GB.out (jaa G.out hg))⟩
              | ok s =>
               have E2 : Hid (jan (jbT a c) = .ok s) := by show _ = _; rw [E.out, hp]
               rw [hp] at C
               clear hp
               refine C.out.mono ?_
               rintro e wz ⟨hg, v, rfl, rfl⟩
               have GZ := jac (jaa GB.out (jaa G.out hg))
               clear hg
               go_wp2
               go_ret
               exact jaE E2.out GZ.out rfl
         ·have E2 : Hid (jan (jbT a c) = (nsM (ll, sz) 8 c.i).bind fun m => (jcR m 20 a.kind).bind fun m => wrP m.1) := by show _ = _; rw [E.out]; unfold jk9; rw [if_neg hk]; rfl
          have bk : (a.kind == 4) = false := by simpa using hk
          clear E hk
          have E := E2
          clear E2
          obtain ⟨⟨x0, x1, x2, x3, x4, x5, x6, x7, x8⟩, -⟩ := jaD (BX.out w5 G.out)
          have C := jac (jdt lo B ll sz 8 (.slice a.iv.a a.iv.n a.iv.c) c.i w5 PM.out GD.out.1 (by have h := GD.out.2.1; simp only at h; omega) (HA.out.i.more (jaa GB.out G.out)) (by omega))
          go_wp2_with fail
          cases hp : nsM (ll, sz) 8 c.i with
          | error er =>
           have E2 : Hid (jan (jbT a c) = .error er) := by show _ = _; rw [E.out, hp]; rfl
           rw [hp] at C
           clear hp
           refine C.out.mono ?_
           rintro e w6 ⟨ha, rfl⟩
           exact ⟨rfl, jad E2.out (jaa GB.out (Abv.grown G.out LO.out ha))⟩
          | ok m' =>
           obtain ⟨l2, s2⟩ := m'
           have E2 : Hid (jan (jbT a c) = (jcR (l2, s2) 20 a.kind).bind fun m => wrP m.1) := by show _ = _; rw [E.out, hp]; rfl
           have GD2 := jac (jlA hp GD.out (by decide) (by omega))
           rw [hp] at C
           clear hp
           refine C.out.mono ?_
           rintro e w6 ⟨ha, v, rfl, rfl, hq⟩
           have PM2 := jac hq
           have G2 := jac (Abv.grown G.out LO.out ha)
           clear ha hq C PM G E GD
           obtain ⟨ll, hll⟩ : ∃ x, x = l2 := ⟨_, rfl⟩
           obtain ⟨sz, hsz⟩ : ∃ x, x = s2 := ⟨_, rfl⟩
           rw [← hll, ← hsz] at PM2 E2 GD2
           clear hll hsz l2 s2
           have PM := PM2
           have G := G2
           have E := E2
           have GD := GD2
           clear PM2 G2 E2 GD2
           clear x0 x1 x2 x3 x4 x5 x6 x7 x8
           obtain ⟨⟨x0, x1, x2, x3, x4, x5, x6, x7, x8⟩, -⟩ := jaD (BX.out w6 G.out)
           have C := jac (jcl lo B ll sz 20 a.kind w6 PM.out GD.out.1 (by have h := GD.out.2.1; simp only at h; omega))
           go_wp2_with fail
           cases hp : jcR (ll, sz) 20 a.kind with
           | error er =>
            have E2 : Hid (jan (jbT a c) = .error er) := by show _ = _; rw [E.out, hp]; rfl
            rw [hp] at C
            clear hp
            refine C.out.mono ?_
            rintro e w7 ⟨ha, rfl⟩
            exact ⟨rfl, jad E2.out (jaa GB.out (Abv.grown G.out LO.out ha))⟩
           | ok m' =>
            obtain ⟨l2, s2⟩ := m'
            have E2 : Hid (jan (jbT a c) = wrP (l2, s2).1) := by show _ = _; rw [E.out, hp]; rfl
            have GD2 := jac (jfN hp GD.out (by decide))
            rw [hp] at C
            clear hp
            refine C.out.mono ?_
            rintro e w7 ⟨ha, v, rfl, rfl, hq⟩
            have PM2 := jac hq
            have G2 := jac (Abv.grown G.out LO.out ha)
            clear ha hq C PM G E GD
            obtain ⟨ll, hll⟩ : ∃ x, x = l2 := ⟨_, rfl⟩
            obtain ⟨sz, hsz⟩ : ∃ x, x = s2 := ⟨_, rfl⟩
            rw [← hll, ← hsz] at PM2 E2 GD2
            clear hll hsz l2 s2
            have PM := PM2
            have G := G2
            have E := E2
            have GD := GD2
            clear PM2 G2 E2 GD2
            clear x0 x1 x2 x3 x4 x5 x6 x7 x8
            have C := jac (jbj lo B ll sz w7 PM.out (by have h := GD.out.2.1; simp only at h; omega) GD.out.2.2)
            go_wp2_with fail
            cases hp : wrP ll with
            | error er =>
             have E2 : Hid (jan (jbT a c) = .error er) := by show _ = _; rw [E.out, hp]
             rw [hp] at C
             clear hp
             refine C.out.mono ?_
             rintro e wz ⟨hg, rfl⟩
             exact ⟨rfl, jad E2.out (jaa GB.out (jaa G.out hg))⟩
            | ok s =>
             have E2 : Hid (jan (jbT a c) = .ok s) := by show _ = _; rw [E.out, hp]
             rw [hp] at C
             clear hp
             refine C.out.mono ?_
             rintro e wz ⟨hg, v, rfl, rfl⟩
             have GZ := jac (jaa GB.out (jaa G.out hg))
             clear hg
             go_wp2
             go_ret
             exact jaE E2.out GZ.out rfl
end Go.Proofs.YtbgbpfbjeleooaaGreat.Pd
namespace Go.Proofs.YtbgbpfbjeleooaaGreat.Pd
open Go.RowKit
open Wr (Fld)
def jaO {α : Type} (f : α → R ByteArray) (num : Int) : List Fld × Nat → List α → R (List Fld × Nat)
 | m, [] => .ok m
 | m, x :: r => (f x).bind fun s => (ja5 m (ja3 num s)).bind fun m => jaO f num m r
def jlB (d : Int) : R ByteArray := (jcR ([], 0) 1 d).bind fun m => wrP m.1
def jam (name : ByteArray) (ty : Int) (ds : List Int) : R ByteArray := (jaO jlB 1 ([], 0) ds).bind fun D => (jcR ([], 0) 1 ty).bind fun m => (wrP D.1).bind fun s => (ja5 m (ja3 2 s)).bind fun m => (wrP m.1).bind fun s2 => (ja5 ([], 0) (ja3 1 s2)).bind fun y => (jaW ([], 0) 1 name).bind fun m => (wrP y.1).bind fun s3 => (ja5 m (ja3 2 s3)).bind fun m => wrP m.1
theorem jlb (name : ByteArray) (ty : Int) (ds : List Int) : Sh (jam name ty ds) := jaZ fun _ => jaZ fun _ => jaZ fun _ => jaZ fun _ => jaZ fun _ => jaZ fun _ => jaZ fun _ => jaZ fun _ => jaZ fun _ => jjy _
theorem jjz (l : List Int) (k : Nat) (h : k < l.length) : l.drop k = l.getD k 0 :: l.drop (k + 1) := by
 rw [List.drop_eq_getElem_cons h, List.getD, List.getElem?_eq_getElem h]
 rfl
theorem jdR (name : ByteArray) (ty : Int) (d : Value) (ds : List Int) (w : World) (hn : name.size ≤ 1000000000) (hd : jaw w d ds) (hdl : ds.length ≤ 10000000) :
    Calls Tryz.prog 102 #[.agg #[.string name, .int .i64 ty, d]] w (jbA w (jam name ty ds) fun s v _ => v = .string s) := by
     obtain ⟨da, dc, rfl, -⟩ := jen hd
     have HD := jac hd
     obtain ⟨wb, hwb⟩ : ∃ wb, wb = w.alloc (.cells #[.string name, .int .i64 ty, .slice da ds.length dc] 82) := ⟨_, rfl⟩
     have GB : Hid (w.grownBy wb none) := by show w.grownBy wb none; rw [hwb]; exact jab _ _
     have hb : wb.heap[w.heap.size]? = some (.cells #[.string name, .int .i64 ty, .slice da ds.length dc] 82 (0, 0)) := by rw [hwb]; exact heap_alloc_new w _
     have BX : Hid (∀ wx, wb.grownBy wx none → wx.heap[w.heap.size]? = some (.cells #[.string name, .int .i64 ty, .slice da ds.length dc] 82 (0, 0))) := fun wx hg => jag hb hg
     have pm := jcr wb
     have g1 := jab wb (.cells #[.slice none 0 0, .int .i64 0] 114)
     obtain ⟨w1, hw1⟩ : ∃ w1, w1 = wb.alloc (.cells #[.slice none 0 0, .int .i64 0] 114) := ⟨_, rfl⟩
     have sB : wb.heap.size = w.heap.size + 1 := by rw [hwb, jar]
     obtain ⟨B, hB⟩ : ∃ B, B = w.heap.size + 1 := ⟨_, rfl⟩
     obtain ⟨lo, hlo⟩ : ∃ lo, lo = B := ⟨_, rfl⟩
     rw [← hw1, sB, ← hB] at pm
     have PM : Hid (jcJ w1 lo B [] 0) := by show jcJ w1 lo B [] 0; rw [hlo]; exact pm
     rw [← hw1] at g1
     have G := jac g1
     have LO : Hid (wb.heap.size ≤ lo) := by show _ ≤ _; omega
     obtain ⟨ll, hll⟩ : ∃ x : List Fld, x = [] := ⟨_, rfl⟩
     obtain ⟨sz, hsz⟩ : ∃ x : Nat, x = 0 := ⟨_, rfl⟩
     have GD : Hid (Gd (ll, sz) 0) := by rw [hll, hsz]; exact Gd.nil
     rw [← hll, ← hsz] at PM
     have E : Hid (jam name ty ds = (jaO jlB 1 (ll, sz) ds).bind fun D => (jcR ([], 0) 1 ty).bind fun m => (wrP D.1).bind fun s => (ja5 m (ja3 2 s)).bind fun m => (wrP m.1).bind fun s2 => (ja5 ([], 0) (ja3 1 s2)).bind fun y => (jaW ([], 0) 1 name).bind fun m => (wrP y.1).bind fun s3 => (ja5 m (ja3 2 s3)).bind fun m => wrP m.1) := by show _ = _; rw [hll, hsz]; rfl
     clear hll hsz hb pm g1 sB hlo hd
     go_enter Tryz.func102, Tryz.ntmps102
     go_upto_region 2 with fail
     rw [← hwb, ← hw1, ← hB]
     clear hwb hw1 hB
     obtain ⟨⟨x0, x1, x2⟩, -⟩ := ja9 (BX.out w1 G.out)
     go_wp2
     clear x0 x1 x2
     go_loopg [13] ds.length (fun gh iv wr => ∃ (k : Nat) (ll : List Fld) (sz : Nat), gh = ds.length - k ∧ k ≤ ds.length ∧ iv = .int .i64 k ∧ jcJ wr lo B ll sz ∧ wb.grownBy wr none ∧ jam name ty ds = ((jaO jlB 1 (ll, sz) (ds.drop k)).bind fun D => (jcR ([], 0) 1 ty).bind fun m => (wrP D.1).bind fun s => (ja5 m (ja3 2 s)).bind fun m => (wrP m.1).bind fun s2 => (ja5 ([], 0) (ja3 1 s2)).bind fun y => (jaW ([], 0) 1 name).bind fun m => (wrP y.1).bind fun s3 => (ja5 m (ja3 2 s3)).bind fun m => wrP m.1) ∧ Gd (ll, sz) k)
     case atStart => exact ⟨0, ll, sz, rfl, Nat.zero_le _, rfl, PM.out, G.out, by rw [List.drop_zero]; exact E.out, GD.out⟩
     case round =>
      clear PM G E GD
      obtain ⟨k, ll, sz, rfl, hk, rfl, hpm, hg, he, hgd⟩ := hrel
      have PM := jac hpm
      have G := jac hg
      have E := jac he
      have GD := jac hgd
      clear hpm hg he hgd
      by_cases hlt : k < ds.length
      ·skip
       have hk2 : k < ds.length := hlt
       obtain ⟨xb, xo, rfl, hc⟩ := jgS (k := k) (HD.out.more (jaa GB.out G.out)) hk2
       have a0 := hc k hk2
       have DS := jjz ds k hk2
       obtain ⟨x, hx⟩ : ∃ x, x = ds.getD k 0 := ⟨_, rfl⟩
       rw [← hx] at a0 DS
       have E1 : Hid (jam name ty ds = (((jcR ([], 0) 1 x).bind fun m => wrP m.1).bind fun s => (ja5 (ll, sz) (ja3 1 s)).bind fun m => jaO jlB 1 m (ds.drop (k + 1))).bind fun D => (jcR ([], 0) 1 ty).bind fun m => (wrP D.1).bind fun s => (ja5 m (ja3 2 s)).bind fun m => (wrP m.1).bind fun s2 => (ja5 ([], 0) (ja3 1 s2)).bind fun y => (jaW ([], 0) 1 name).bind fun m => (wrP y.1).bind fun s3 => (ja5 m (ja3 2 s3)).bind fun m => wrP m.1) := by show _ = _; rw [E.out, DS]; rfl
       have pmd := jcr wr
       have gd := jab wr (.cells #[.slice none 0 0, .int .i64 0] 114)
       clear hc hx DS E
       go_wp2_with fail
       obtain ⟨wn, hwn⟩ : ∃ x, x = wr.alloc (.cells #[.slice none 0 0, .int .i64 0] 114) := ⟨_, rfl⟩
       obtain ⟨Bd, hBd⟩ : ∃ x, x = wr.heap.size := ⟨_, rfl⟩
       rw [← hwn, ← hBd] at pmd
       rw [← hwn] at gd ⊢
       rw [← hBd]
       have LD : Hid (wr.heap.size ≤ Bd) := Nat.le_of_eq hBd.symm
       have GDN := jac gd
       have C := jac (jcl Bd Bd [] 0 1 x wn pmd (by decide) (by simp))
       clear hwn hBd a0 gd pmd
       cases hp : jcR ([], 0) 1 x with
       | error er =>
        have E2 : Hid (jam name ty ds = .error er) := by show _ = _; rw [E1.out, hp]; rfl
        rw [hp] at C
        clear hp
        refine C.out.mono ?_
        rintro e w2 ⟨ha, rfl⟩
        exact ⟨rfl, jad E2.out (jaa GB.out (jaa G.out (Abv.grown GDN.out LD.out ha)))⟩
       | ok m' =>
        obtain ⟨ld, sd⟩ := m'
        have GDd := jac (jfN hp Gd.nil (by decide))
        have E2 : Hid (jam name ty ds = ((wrP ld).bind fun s => (ja5 (ll, sz) (ja3 1 s)).bind fun m => jaO jlB 1 m (ds.drop (k + 1))).bind fun D => (jcR ([], 0) 1 ty).bind fun m => (wrP D.1).bind fun s => (ja5 m (ja3 2 s)).bind fun m => (wrP m.1).bind fun s2 => (ja5 ([], 0) (ja3 1 s2)).bind fun y => (jaW ([], 0) 1 name).bind fun m => (wrP y.1).bind fun s3 => (ja5 m (ja3 2 s3)).bind fun m => wrP m.1) := by show _ = _; rw [E1.out, hp]; rfl
        rw [hp] at C
        clear hp E1
        refine C.out.mono ?_
        rintro e w2 ⟨ha, v, rfl, rfl, hq⟩
        have GW := jac (Abv.grown GDN.out LD.out ha)
        have C2 := jac (jbj Bd Bd ld sd w2 hq (by have h := GDd.out.2.1; simp only at h; omega) GDd.out.2.2)
        clear ha hq C
        go_wp2_with fail
        cases hw : wrP ld with
        | error er =>
         have E3 : Hid (jam name ty ds = .error er) := by show _ = _; rw [E2.out, hw]; rfl
         rw [hw] at C2
         clear hw
         refine C2.out.mono ?_
         rintro e w3 ⟨hg, rfl⟩
         exact ⟨rfl, jad E3.out (jaa GB.out (jaa G.out (jaa GW.out hg)))⟩
        | ok tx =>
         have E : Hid (jam name ty ds = ((ja5 (ll, sz) (ja3 1 tx)).bind fun m => jaO jlB 1 m (ds.drop (k + 1))).bind fun D => (jcR ([], 0) 1 ty).bind fun m => (wrP D.1).bind fun s => (ja5 m (ja3 2 s)).bind fun m => (wrP m.1).bind fun s2 => (ja5 ([], 0) (ja3 1 s2)).bind fun y => (jaW ([], 0) 1 name).bind fun m => (wrP y.1).bind fun s3 => (ja5 m (ja3 2 s3)).bind fun m => wrP m.1) := by show _ = _; rw [E2.out, hw]; rfl
         have TS := jac (jeo hw)
         rw [hw] at C2
         clear hw E2
         refine C2.out.mono ?_
         rintro e w3 ⟨hg, v, rfl, rfl⟩
         have PM1 := jac (PM.out.more (jaa GW.out hg))
         have G1 := jac (jaa G.out (jaa GW.out hg))
         clear hg C2 PM G GW GDN LD
         have PM := PM1
         have G := G1
         clear PM1 G1
         have C := jac (jbc lo B ll sz 1 tx w3 PM.out GD.out.1 (by have h := GD.out.2.1; simp only at h; omega) (by have := TS.out; omega))
         go_wp2_with fail
         cases hp : ja5 (ll, sz) (ja3 1 tx) with
         | error er =>
          have E2 : Hid (jam name ty ds = .error er) := by show _ = _; rw [E.out, hp]; rfl
          rw [hp] at C
          clear hp
          refine C.out.mono ?_
          rintro e w4 ⟨ha, rfl⟩
          exact ⟨rfl, jad E2.out (jaa GB.out (Abv.grown G.out LO.out ha))⟩
         | ok m' =>
          obtain ⟨l2, s2⟩ := m'
          have E2 : Hid (jam name ty ds = (jaO jlB 1 (l2, s2) (ds.drop (k + 1))).bind fun D => (jcR ([], 0) 1 ty).bind fun m => (wrP D.1).bind fun s => (ja5 m (ja3 2 s)).bind fun m => (wrP m.1).bind fun s2 => (ja5 ([], 0) (ja3 1 s2)).bind fun y => (jaW ([], 0) 1 name).bind fun m => (wrP y.1).bind fun s3 => (ja5 m (ja3 2 s3)).bind fun m => wrP m.1) := by show _ = _; rw [E.out, hp]; rfl
          have GD2 := jac (jch hp GD.out (jbx _ _ (by decide) (by have := TS.out; omega)))
          rw [hp] at C
          clear hp
          refine C.out.mono ?_
          rintro e w4 ⟨ha, v, rfl, rfl, hq⟩
          have PM2 := jac hq
          have G2 := jac (Abv.grown G.out LO.out ha)
          clear ha hq C PM G E GD
          obtain ⟨ll, hll⟩ : ∃ x, x = l2 := ⟨_, rfl⟩
          obtain ⟨sz, hsz⟩ : ∃ x, x = s2 := ⟨_, rfl⟩
          rw [← hll, ← hsz] at PM2 E2 GD2
          clear hll hsz l2 s2
          have PM := PM2
          have G := G2
          have E := E2
          have GD := GD2
          clear PM2 G2 E2 GD2
          go_wp2_with fail
          go_roundg (ds.length - (k + 1))
          case measure => omega
          case rel => exact ⟨k + 1, ll, sz, rfl, by omega, by go_num, PM.out, G.out, E.out, GD.out⟩
      ·obtain rfl : k = ds.length := by omega
       have E2 : Hid (jam name ty ds = (jcR ([], 0) 1 ty).bind fun m => (wrP ll).bind fun s => (ja5 m (ja3 2 s)).bind fun m => (wrP m.1).bind fun s2 => (ja5 ([], 0) (ja3 1 s2)).bind fun y => (jaW ([], 0) 1 name).bind fun m => (wrP y.1).bind fun s3 => (ja5 m (ja3 2 s3)).bind fun m => wrP m.1) := by show _ = _; rw [E.out, List.drop_length]; rfl
       clear E
       have E := E2
       clear E2
       have pm := jcr wr
       have g1 := jab wr (.cells #[.slice none 0 0, .int .i64 0] 114)
       have pS := Nat.le_refl wr.heap.size
       obtain ⟨⟨x0, x1, x2⟩, -⟩ := ja9 (BX.out (wr.alloc (.cells #[.slice none 0 0, .int .i64 0] 114)) (jaa G.out g1))
       go_wp2_with fail
       obtain ⟨wn2, hwn⟩ : ∃ x, x = wr.alloc (.cells #[.slice none 0 0, .int .i64 0] 114) := ⟨_, rfl⟩
       obtain ⟨B2, hBn⟩ : ∃ x, x = wr.heap.size := ⟨_, rfl⟩
       rw [← hwn, ← hBn] at pm
       rw [← hwn] at g1 ⊢
       rw [← hBn] at ⊢
       have BX2 := jac (fun wx (hg : wr.grownBy wx none) => BX.out wx (jaa G.out hg))
       have DM := jac (fun wx (hg : wr.grownBy wx none) => PM.out.more hg)
       have DG := GD
       obtain ⟨Dl, hDl⟩ : ∃ x, x = ll := ⟨_, rfl⟩
       obtain ⟨Ds, hDs⟩ : ∃ x, x = sz := ⟨_, rfl⟩
       rw [← hDl, ← hDs] at DM DG
       rw [← hDl] at E
       clear hDl hDs x0 x1 x2
       have GB2 := jac (jaa GB.out G.out)
       have LO2 : Hid (wr.heap.size ≤ B2) := Nat.le_of_eq hBn.symm
       obtain ⟨ll, hll⟩ : ∃ x : List Fld, x = [] := ⟨_, rfl⟩
       obtain ⟨sz, hsz⟩ : ∃ x : Nat, x = 0 := ⟨_, rfl⟩
       have PM2 : Hid (jcJ wn2 B2 B2 ll sz) := by show jcJ _ _ _ _ _; rw [hll, hsz]; exact pm
       have GD2 : Hid (Gd (ll, sz) 0) := by rw [hll, hsz]; exact Gd.nil
       have G2 := jac g1
       clear PM GD G GB BX LO pm g1 hwn hBn pS
       have PM := PM2
       have GD := GD2
       have G := G2
       have GB := GB2
       have BX := BX2
       have LO := LO2
       clear PM2 GD2 G2 GB2 BX2 LO2
       have E2 : Hid (jam name ty ds = (jcR (ll, sz) 1 ty).bind fun m => (wrP Dl).bind fun s => (ja5 m (ja3 2 s)).bind fun m => (wrP m.1).bind fun s2 => (ja5 ([], 0) (ja3 1 s2)).bind fun y => (jaW ([], 0) 1 name).bind fun m => (wrP y.1).bind fun s3 => (ja5 m (ja3 2 s3)).bind fun m => wrP m.1) := by show _ = _; rw [E.out, hll, hsz]
       clear E hll hsz
       have E := E2
       clear E2
       have C := jac (jcl B2 B2 ll sz 1 ty wn2 PM.out GD.out.1 (by have h := GD.out.2.1; simp only at h; omega))
       cases hp : jcR (ll, sz) 1 ty with
       | error er =>
        have E2 : Hid (jam name ty ds = .error er) := by show _ = _; rw [E.out, hp]; rfl
        rw [hp] at C
        clear hp
        refine C.out.mono ?_
        rintro e w11 ⟨ha, rfl⟩
        exact ⟨rfl, jad E2.out (jaa GB.out (Abv.grown G.out LO.out ha))⟩
       | ok m' =>
        obtain ⟨l2, s2⟩ := m'
        have E2 : Hid (jam name ty ds = (wrP Dl).bind fun s => (ja5 (l2, s2) (ja3 2 s)).bind fun m => (wrP m.1).bind fun s2 => (ja5 ([], 0) (ja3 1 s2)).bind fun y => (jaW ([], 0) 1 name).bind fun m => (wrP y.1).bind fun s3 => (ja5 m (ja3 2 s3)).bind fun m => wrP m.1) := by show _ = _; rw [E.out, hp]; rfl
        have GD2 := jac (jfN hp GD.out (by decide))
        rw [hp] at C
        clear hp
        refine C.out.mono ?_
        rintro e w11 ⟨ha, v, rfl, rfl, hq⟩
        have PM2 := jac hq
        have G2 := jac (Abv.grown G.out LO.out ha)
        clear ha hq C PM G E GD
        obtain ⟨ll, hll⟩ : ∃ x, x = l2 := ⟨_, rfl⟩
        obtain ⟨sz, hsz⟩ : ∃ x, x = s2 := ⟨_, rfl⟩
        rw [← hll, ← hsz] at PM2 E2 GD2
        clear hll hsz l2 s2
        have PM := PM2
        have G := G2
        have E := E2
        have GD := GD2
        clear PM2 G2 E2 GD2
        go_wp2_with fail
        have C0 := jac (jbj lo B Dl Ds w11 (DM.out _ G.out) (by have h := DG.out.2.1; simp only at h; omega) DG.out.2.2)
        cases hf : wrP Dl with
        | error er =>
         have E2 : Hid (jam name ty ds = .error er) := by show _ = _; rw [E.out, hf]; rfl
         rw [hf] at C0
         clear hf
         refine C0.out.mono ?_
         rintro e wf1 ⟨hg, rfl⟩
         exact ⟨rfl, jad E2.out (jaa GB.out (jaa G.out hg))⟩
        | ok tx =>
         have E2 : Hid (jam name ty ds = (ja5 (ll, sz) (ja3 2 tx)).bind fun m => (wrP m.1).bind fun s2 => (ja5 ([], 0) (ja3 1 s2)).bind fun y => (jaW ([], 0) 1 name).bind fun m => (wrP y.1).bind fun s3 => (ja5 m (ja3 2 s3)).bind fun m => wrP m.1) := by show _ = _; rw [E.out, hf]; rfl
         have TS := jac (jeo hf)
         rw [hf] at C0
         clear hf E
         have E := E2
         clear E2
         refine C0.out.mono ?_
         rintro e wf1 ⟨hg, v, rfl, rfl⟩
         have PM1 := jac (PM.out.more hg)
         have G1 := jac (jaa G.out hg)
         clear hg C0 PM G
         have PM := PM1
         have G := G1
         clear PM1 G1
         have C := jac (jbc B2 B2 ll sz 2 tx wf1 PM.out GD.out.1 (by have h := GD.out.2.1; simp only at h; omega) (by have := TS.out; omega))
         go_wp2_with fail
         cases hp : ja5 (ll, sz) (ja3 2 tx) with
         | error er =>
          have E2 : Hid (jam name ty ds = .error er) := by show _ = _; rw [E.out, hp]; rfl
          rw [hp] at C
          clear hp
          refine C.out.mono ?_
          rintro e w12 ⟨ha, rfl⟩
          exact ⟨rfl, jad E2.out (jaa GB.out (Abv.grown G.out LO.out ha))⟩
         | ok m' =>
          obtain ⟨l2, s2⟩ := m'
          have E2 : Hid (jam name ty ds = (wrP (l2, s2).1).bind fun s2 => (ja5 ([], 0) (ja3 1 s2)).bind fun y => (jaW ([], 0) 1 name).bind fun m => (wrP y.1).bind fun s3 => (ja5 m (ja3 2 s3)).bind fun m => wrP m.1) := by show _ = _; rw [E.out, hp]; rfl
          have GD2 := jac (jch hp GD.out (jbx _ _ (by decide) (by have := TS.out; omega)))
          rw [hp] at C
          clear hp
          refine C.out.mono ?_
          rintro e w12 ⟨ha, v, rfl, rfl, hq⟩
          have PM2 := jac hq
          have G2 := jac (Abv.grown G.out LO.out ha)
          clear ha hq C PM G E GD
          obtain ⟨ll, hll⟩ : ∃ x, x = l2 := ⟨_, rfl⟩
          obtain ⟨sz, hsz⟩ : ∃ x, x = s2 := ⟨_, rfl⟩
          rw [← hll, ← hsz] at PM2 E2 GD2
          clear hll hsz l2 s2
          have PM := PM2
          have G := G2
          have E := E2
          have GD := GD2
          clear PM2 G2 E2 GD2
          have pm := jcr w12
          have g1 := jab w12 (.cells #[.slice none 0 0, .int .i64 0] 114)
          have pS := Nat.le_refl w12.heap.size
          go_wp2_with fail
          obtain ⟨wn3, hwn⟩ : ∃ x, x = w12.alloc (.cells #[.slice none 0 0, .int .i64 0] 114) := ⟨_, rfl⟩
          obtain ⟨B3, hBn⟩ : ∃ x, x = w12.heap.size := ⟨_, rfl⟩
          rw [← hwn, ← hBn] at pm
          rw [← hwn] at g1 ⊢
          rw [← hBn] at ⊢
          have BX2 := jac (fun wx (hg : w12.grownBy wx none) => BX.out wx (jaa G.out hg))
          have TM := jac (fun wx (hg : w12.grownBy wx none) => PM.out.more hg)
          have TG := GD
          obtain ⟨Tl, hTl⟩ : ∃ x, x = ll := ⟨_, rfl⟩
          obtain ⟨Ts, hTs⟩ : ∃ x, x = sz := ⟨_, rfl⟩
          rw [← hTl, ← hTs] at TM TG
          rw [← hTl] at E
          clear hTl hTs DM DG TS
          have GB2 := jac (jaa GB.out G.out)
          have LO2 : Hid (w12.heap.size ≤ B3) := Nat.le_of_eq hBn.symm
          obtain ⟨ll, hll⟩ : ∃ x : List Fld, x = [] := ⟨_, rfl⟩
          obtain ⟨sz, hsz⟩ : ∃ x : Nat, x = 0 := ⟨_, rfl⟩
          have PM2 : Hid (jcJ wn3 B3 B3 ll sz) := by show jcJ _ _ _ _ _; rw [hll, hsz]; exact pm
          have GD2 : Hid (Gd (ll, sz) 0) := by rw [hll, hsz]; exact Gd.nil
          have G2 := jac g1
          clear PM GD G GB BX LO pm g1 hwn hBn pS
          have PM := PM2
          have GD := GD2
          have G := G2
          have GB := GB2
          have BX := BX2
          have LO := LO2
          clear PM2 GD2 G2 GB2 BX2 LO2
          have E2 : Hid (jam name ty ds = (wrP Tl).bind fun s2 => (ja5 (ll, sz) (ja3 1 s2)).bind fun y => (jaW ([], 0) 1 name).bind fun m => (wrP y.1).bind fun s3 => (ja5 m (ja3 2 s3)).bind fun m => wrP m.1) := by show _ = _; rw [E.out, hll, hsz]
          clear E hll hsz
          have E := E2
          clear E2
          have C0 := jac (jbj B2 B2 Tl Ts wn3 (TM.out _ G.out) (by have h := TG.out.2.1; simp only at h; omega) TG.out.2.2)
          cases hf : wrP Tl with
          | error er =>
           have E2 : Hid (jam name ty ds = .error er) := by show _ = _; rw [E.out, hf]; rfl
           rw [hf] at C0
           clear hf
           refine C0.out.mono ?_
           rintro e wf2 ⟨hg, rfl⟩
           exact ⟨rfl, jad E2.out (jaa GB.out (jaa G.out hg))⟩
          | ok tx =>
           have E2 : Hid (jam name ty ds = (ja5 (ll, sz) (ja3 1 tx)).bind fun y => (jaW ([], 0) 1 name).bind fun m => (wrP y.1).bind fun s3 => (ja5 m (ja3 2 s3)).bind fun m => wrP m.1) := by show _ = _; rw [E.out, hf]; rfl
           have TS := jac (jeo hf)
           rw [hf] at C0
           clear hf E
           have E := E2
           clear E2
           refine C0.out.mono ?_
           rintro e wf2 ⟨hg, v, rfl, rfl⟩
           have PM1 := jac (PM.out.more hg)
           have G1 := jac (jaa G.out hg)
           clear hg C0 PM G
           have PM := PM1
           have G := G1
           clear PM1 G1
           have C := jac (jbc B3 B3 ll sz 1 tx wf2 PM.out GD.out.1 (by have h := GD.out.2.1; simp only at h; omega) (by have := TS.out; omega))
           go_wp2_with fail
           cases hp : ja5 (ll, sz) (ja3 1 tx) with
           | error er =>
            have E2 : Hid (jam name ty ds = .error er) := by show _ = _; rw [E.out, hp]; rfl
            rw [hp] at C
            clear hp
            refine C.out.mono ?_
            rintro e w21 ⟨ha, rfl⟩
            exact ⟨rfl, jad E2.out (jaa GB.out (Abv.grown G.out LO.out ha))⟩
           | ok m' =>
            obtain ⟨l2, s2⟩ := m'
            have E2 : Hid (jam name ty ds = (jaW ([], 0) 1 name).bind fun m => (wrP (l2, s2).1).bind fun s3 => (ja5 m (ja3 2 s3)).bind fun m => wrP m.1) := by show _ = _; rw [E.out, hp]; rfl
            have GD2 := jac (jch hp GD.out (jbx _ _ (by decide) (by have := TS.out; omega)))
            rw [hp] at C
            clear hp
            refine C.out.mono ?_
            rintro e w21 ⟨ha, v, rfl, rfl, hq⟩
            have PM2 := jac hq
            have G2 := jac (Abv.grown G.out LO.out ha)
            clear ha hq C PM G E GD
            obtain ⟨ll, hll⟩ : ∃ x, x = l2 := ⟨_, rfl⟩
            obtain ⟨sz, hsz⟩ : ∃ x, x = s2 := ⟨_, rfl⟩
            rw [← hll, ← hsz] at PM2 E2 GD2
            clear hll hsz l2 s2
            have PM := PM2
            have G := G2
            have E := E2
            have GD := GD2
            clear PM2 G2 E2 GD2
            have pm := jcr w21
            have g1 := jab w21 (.cells #[.slice none 0 0, .int .i64 0] 114)
            have pS := Nat.le_refl w21.heap.size
            obtain ⟨⟨x0, x1, x2⟩, -⟩ := ja9 (BX.out (w21.alloc (.cells #[.slice none 0 0, .int .i64 0] 114)) (jaa G.out g1))
            go_wp2_with fail
            obtain ⟨wn4, hwn⟩ : ∃ x, x = w21.alloc (.cells #[.slice none 0 0, .int .i64 0] 114) := ⟨_, rfl⟩
            obtain ⟨B4, hBn⟩ : ∃ x, x = w21.heap.size := ⟨_, rfl⟩
            rw [← hwn, ← hBn] at pm
            rw [← hwn] at g1 ⊢
            rw [← hBn] at ⊢
            have BX2 := jac (fun wx (hg : w21.grownBy wx none) => BX.out wx (jaa G.out hg))
            have YM := jac (fun wx (hg : w21.grownBy wx none) => PM.out.more hg)
            have YG := GD
            obtain ⟨Yl, hYl⟩ : ∃ x, x = ll := ⟨_, rfl⟩
            obtain ⟨Ys, hYs⟩ : ∃ x, x = sz := ⟨_, rfl⟩
            rw [← hYl, ← hYs] at YM YG
            have E3 : Hid (jam name ty ds = (jaW ([], 0) 1 name).bind fun m => (wrP Yl).bind fun s3 => (ja5 m (ja3 2 s3)).bind fun m => wrP m.1) := by show _ = _; rw [E.out, hYl]
            clear hYl hYs TM TG TS x0 x1 x2 E
            have E := E3
            clear E3
            have GB2 := jac (jaa GB.out G.out)
            have LO2 : Hid (w21.heap.size ≤ B4) := Nat.le_of_eq hBn.symm
            obtain ⟨ll, hll⟩ : ∃ x : List Fld, x = [] := ⟨_, rfl⟩
            obtain ⟨sz, hsz⟩ : ∃ x : Nat, x = 0 := ⟨_, rfl⟩
            have PM2 : Hid (jcJ wn4 B4 B4 ll sz) := by show jcJ _ _ _ _ _; rw [hll, hsz]; exact pm
            have GD2 : Hid (Gd (ll, sz) 0) := by rw [hll, hsz]; exact Gd.nil
            have G2 := jac g1
            clear PM GD G GB BX LO pm g1 hwn hBn pS
            have PM := PM2
            have GD := GD2
            have G := G2
            have GB := GB2
            have BX := BX2
            have LO := LO2
            clear PM2 GD2 G2 GB2 BX2 LO2
            have E2 : Hid (jam name ty ds = (jaW (ll, sz) 1 name).bind fun m => (wrP Yl).bind fun s3 => (ja5 m (ja3 2 s3)).bind fun m => wrP m.1) := by show _ = _; rw [E.out, hll, hsz]
            clear E hll hsz
            have E := E2
            clear E2
            have C := jac (jcH B4 B4 ll sz 1 name wn4 PM.out GD.out.1 (by have h := GD.out.2.1; simp only at h; omega) (by omega))
            cases hp : jaW (ll, sz) 1 name with
            | error er =>
             have E2 : Hid (jam name ty ds = .error er) := by show _ = _; rw [E.out, hp]; rfl
             rw [hp] at C
             clear hp
             refine C.out.mono ?_
             rintro e w31 ⟨ha, rfl⟩
             exact ⟨rfl, jad E2.out (jaa GB.out (Abv.grown G.out LO.out ha))⟩
            | ok m' =>
             obtain ⟨l2, s2⟩ := m'
             have E2 : Hid (jam name ty ds = (wrP Yl).bind fun s3 => (ja5 (l2, s2) (ja3 2 s3)).bind fun m => wrP m.1) := by show _ = _; rw [E.out, hp]; rfl
             have GD2 := jac (jdX hp GD.out (by decide) (by omega))
             rw [hp] at C
             clear hp
             refine C.out.mono ?_
             rintro e w31 ⟨ha, v, rfl, rfl, hq⟩
             have PM2 := jac hq
             have G2 := jac (Abv.grown G.out LO.out ha)
             clear ha hq C PM G E GD
             obtain ⟨ll, hll⟩ : ∃ x, x = l2 := ⟨_, rfl⟩
             obtain ⟨sz, hsz⟩ : ∃ x, x = s2 := ⟨_, rfl⟩
             rw [← hll, ← hsz] at PM2 E2 GD2
             clear hll hsz l2 s2
             have PM := PM2
             have G := G2
             have E := E2
             have GD := GD2
             clear PM2 G2 E2 GD2
             go_wp2_with fail
             have C0 := jac (jbj B3 B3 Yl Ys w31 (YM.out _ G.out) (by have h := YG.out.2.1; simp only at h; omega) YG.out.2.2)
             cases hf : wrP Yl with
             | error er =>
              have E2 : Hid (jam name ty ds = .error er) := by show _ = _; rw [E.out, hf]; rfl
              rw [hf] at C0
              clear hf
              refine C0.out.mono ?_
              rintro e wf3 ⟨hg, rfl⟩
              exact ⟨rfl, jad E2.out (jaa GB.out (jaa G.out hg))⟩
             | ok tx =>
              have E2 : Hid (jam name ty ds = (ja5 (ll, sz) (ja3 2 tx)).bind fun m => wrP m.1) := by show _ = _; rw [E.out, hf]; rfl
              have TS := jac (jeo hf)
              rw [hf] at C0
              clear hf E
              have E := E2
              clear E2
              refine C0.out.mono ?_
              rintro e wf3 ⟨hg, v, rfl, rfl⟩
              have PM1 := jac (PM.out.more hg)
              have G1 := jac (jaa G.out hg)
              clear hg C0 PM G
              have PM := PM1
              have G := G1
              clear PM1 G1
              have C := jac (jbc B4 B4 ll sz 2 tx wf3 PM.out GD.out.1 (by have h := GD.out.2.1; simp only at h; omega) (by have := TS.out; omega))
              go_wp2_with fail
              cases hp : ja5 (ll, sz) (ja3 2 tx) with
              | error er =>
               have E2 : Hid (jam name ty ds = .error er) := by show _ = _; rw [E.out, hp]; rfl
               rw [hp] at C
               clear hp
               refine C.out.mono ?_
               rintro e w32 ⟨ha, rfl⟩
               exact ⟨rfl, jad E2.out (jaa GB.out (Abv.grown G.out LO.out ha))⟩
              | ok m' =>
               obtain ⟨l2, s2⟩ := m'
               have E2 : Hid (jam name ty ds = wrP (l2, s2).1) := by show _ = _; rw [E.out, hp]; rfl
               have GD2 := jac (jch hp GD.out (jbx _ _ (by decide) (by have := TS.out; omega)))
               rw [hp] at C
               clear hp
               refine C.out.mono ?_
               rintro e w32 ⟨ha, v, rfl, rfl, hq⟩
               have PM2 := jac hq
               have G2 := jac (Abv.grown G.out LO.out ha)
               clear ha hq C PM G E GD
               obtain ⟨ll, hll⟩ : ∃ x, x = l2 := ⟨_, rfl⟩
               obtain ⟨sz, hsz⟩ : ∃ x, x = s2 := ⟨_, rfl⟩
               rw [← hll, ← hsz] at PM2 E2 GD2
               clear hll hsz l2 s2
               have PM := PM2
               have G := G2
               have E := E2
               have GD := GD2
               clear PM2 G2 E2 GD2
               have C := jac (jbj B4 B4 ll sz w32 PM.out (by have h := GD.out.2.1; simp only at h; omega) GD.out.2.2)
               go_wp2_with fail
               cases hp : wrP ll with
               | error er =>
                have E2 : Hid (jam name ty ds = .error er) := by show _ = _; rw [E.out, hp]
                rw [hp] at C
                clear hp
                refine C.out.mono ?_
                rintro e wz ⟨hg, rfl⟩
                exact ⟨rfl, jad E2.out (jaa GB.out (jaa G.out hg))⟩
               | ok s =>
                have E2 : Hid (jam name ty ds = .ok s) := by show _ = _; rw [E.out, hp]
                rw [hp] at C
                clear hp
                refine C.out.mono ?_
                rintro e wz ⟨hg, v, rfl, rfl⟩
                have GZ := jac (jaa GB.out (jaa G.out hg))
                clear hg
                go_wp2
                go_ret
                exact jaE E2.out GZ.out rfl
end Go.Proofs.YtbgbpfbjeleooaaGreat.Pd
