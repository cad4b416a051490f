/- A part. -/
import Derived.Test.YtkefdkboejimeaaGreatDoorMini
import Derived.Test.YtkefdkboejimeaaGreatDoorMini2
import Derived.Test.YtkefdkboejimeaaGreatDoorPartBD
import Derived.Test.YtkefdkboejimeaaGreatDoorPartBE
import Derived.Test.YtkefdkboejimeaaGreatDoorPartAX
import Derived.Test.YtkefdkboejimeaaGreatDoorPartAR
import Derived.Deep.RegionHeld3
set_option maxHeartbeats 8000000
set_option maxRecDepth 100000
namespace Go.Proofs.YtkefdkboejimeaaGreatDoor
open Go.RowKit
def AstQ (w : World) (ds ts p : List Int) (e : Ending) (w' : World) : Prop := ∃ u : Sl, e = .returned (.tuple #[.slice u.a u.n u.c, .int .i64 (Vw.rdE 0 (Vw.pickL ds p) (Vw.pickL (jbs ds) p) ts)]) ∧ Vw.Owns64 w' w.heap.size u.v (Vw.rdL 0 (Vw.pickL ds p) (Vw.pickL (jbs ds) p) ts) ∧ w.grownBy w' none
theorem jls {ds p : List Int} {E off' : Int} {ds' ss' : List Int} (h : Vw.Turned 0 ds (jbs ds) p E off' ds' ss') (hc : ja3 ds = 0) (hp : Vw.IsPerm p ds.length) : E = 0 ∧ off' = 0 ∧ ds' = Vw.pickL ds p ∧ ss' = Vw.pickL (jbs ds) p := by
 rcases h with ⟨h, -⟩ | ⟨-, h, -⟩ | ⟨-, -, h1, h2, h3, h4⟩
 ·exact absurd (Vw.may_whole (jaH hc)) h
 ·exact absurd hp h
 ·exact ⟨h1, h2, h3, h4⟩
theorem jlt (t : Ten) (ds ts l : List Int) (lv : Sl) (w : World) (hcd : ja3 ds = 0) (hpm : Vw.IsPerm l ds.length) (hd : IsInts w t.dv.v ds) (ht : IsInts w t.tv.v ts) (hl : IsInts w lv.v l) :
    Calls Tryz.prog 29 #[jdL t, .func (.func 33) #[] #[], .slice lv.a lv.n lv.c] w (AstQ w ds ts l) := by
     have HD := jae hd
     have HT := jae ht
     have HL := jae hl
     clear hd ht hl
     obtain ⟨ty, ⟨da, dn, dc⟩, ⟨ta, tn, tc⟩⟩ := t
     obtain ⟨la, ln, lc⟩ := lv
     unfold jdL
     simp only [Sl.v] at HD HT HL ⊢
     obtain ⟨w0, hw0⟩ : ∃ w0, w0 = w.alloc (.cells #[.int .i64 ty, .slice da dn dc, .slice ta tn tc] 25) := ⟨_, rfl⟩
     have g0 : Hid (w.grownBy w0 none) := by show w.grownBy w0 none; rw [hw0]; exact jab _ _
     have B0 := heap_alloc_new w (.cells #[.int .i64 ty, .slice da dn dc, .slice ta tn tc] 25)
     have c0 := (cell_of_row _ _ 0 _ _ (0, 0) B0).trans rfl
     have c1 := (cell_of_row _ _ 1 _ _ (0, 0) B0).trans rfl
     have c2 := (cell_of_row _ _ 2 _ _ (0, 0) B0).trans rfl
     rw [← hw0] at B0
     have BX : Hid (∀ wx, w0.grownBy wx none → wx.heap[w.heap.size]? = some (.cells #[.int .i64 ty, .slice da dn dc, .slice ta tn tc] 25 (0, 0))) := fun wx hg => jad B0 hg
     have WH := jae (Vw.whole_any (.slice da dn dc) ds w0 (HD.out.more g0.out))
     clear B0
     go_enter Tryz.func29, Tryz.ntmps29
     go_wp2_with fail
     rw [← hw0]
     clear hw0 c0 c1 c2
     refine WH.out.mono ?_
     rintro e w1 ⟨v, rfl, hov, hg1⟩
     obtain ⟨vd, vs, rfl, od, os, -⟩ := hov
     obtain ⟨vda, vdc, rfl, -⟩ := od.ints.sl
     obtain ⟨vsa, vsc, rfl, -⟩ := os.ints.sl
     have VD := jae od
     have VS := jae os
     clear od os
     obtain ⟨wA, hwA⟩ : ∃ wA, wA = w1.alloc (.cells #[.int .i64 0, .slice vda (Vw.rowDs ds).length vdc, .slice vsa (jcu ds).length vsc] 105) := ⟨_, rfl⟩
     have hX := heap_alloc_new w1 (.cells #[.int .i64 0, .slice vda (Vw.rowDs ds).length vdc, .slice vsa (jcu ds).length vsc] 105)
     rw [← hwA] at hX
     have gX : w1.grownBy wA none := by rw [hwA]; exact jab _ _
     have hs1 : w1.heap.size < wA.heap.size := by rw [hwA]; simp
     have g1 := jae (jaa g0.out hg1)
     have GX := jae gX
     have HX := jae hX
     have hE := hcd
     have HPM := jae hpm
     clear hcd hpm
     have hE' : (ja3 ds != 0) = false := by simp [hE]
     have VI : Vw.IsView w1 (.agg #[.int .i64 0, .slice vda (Vw.rowDs ds).length vdc, .slice vsa (jcu ds).length vsc]) 0 ds (jbs ds) := by
      have h1 := VD.out.ints
      have h2 := VS.out.ints
      rw [show Vw.rowDs ds = ds from if_pos hE] at h1
      rw [show jcu ds = jbs ds from if_pos hE] at h2
      rw [show Vw.rowDs ds = ds from if_pos hE, show jcu ds = jbs ds from if_pos hE]
      exact ⟨_, _, rfl, h1, h2, by omega, by omega⟩
     have SP := jae (Vw.transpose_any _ _ 0 ds (jbs ds) l _ (VI.more GX.out) (HL.out.more (jaa g1.out GX.out)))
     have HE := jae hE
     clear VI hE hX gX
     go_wp2_with fail
     rw [← hwA]
     clear hwA
     refine SP.out.mono ?_
     rintro e w2 ⟨u, E, off', ds', ss', rfl, hsp, hou, hg2⟩
     obtain ⟨ud, us, rfl, od, os, ho1, ho2, -⟩ := hou
     obtain ⟨uda, udc, rfl, -⟩ := od.ints.sl
     obtain ⟨usa, usc, rfl, -⟩ := os.ints.sl
     have hb := jad HX.out hg2
     obtain ⟨k0, k1, k2, f0, f1, f2⟩ := Vw.box_cells hb
     obtain ⟨hY, gY, gB⟩ := Vw.store3 (.int .i64 off') (.slice uda ds'.length udc) (.slice usa ss'.length usc) (jaa GX.out hg2) (Nat.le_refl _) hb
     have OD := jae (od.box gB (by omega))
     have OS := jae (os.box gB (by omega))
     have GY := jae (jaa g1.out gY)
     have HSP := jae hsp
     obtain ⟨y0, y1, y2, -, -, -⟩ := Vw.box_cells hY
     clear od os hb hY gB hsp hg2
     obtain ⟨rfl, rfl, e3, e4⟩ := jls HSP.out HE.out HPM.out
     have E3 := jae e3
     have E4 := jae e4
     clear e3 e4 HSP
     obtain ⟨w3, hw3⟩ : ∃ w3, w3 = ((w2.setCell ⟨w1.heap.size, 0, none⟩ (.int .i64 0)).setCell ⟨w1.heap.size, 1, none⟩ (.slice uda ds'.length udc)).setCell ⟨w1.heap.size, 2, none⟩ (.slice usa ss'.length usc) := ⟨_, rfl⟩
     rw [← hw3] at OD OS GY gY
     have BT := BX.out _ (jaa hg1 gY)
     have t2 : w3.cell? ⟨w.heap.size, 2, none⟩ = some (.slice ta tn tc) := (cell_of_row _ _ 2 _ _ (0, 0) BT).trans rfl
     rw [hw3] at t2
     have RD := jae (Vw.read_any 0 ds' ss' ts _ _ w3 ⟨_, _, rfl, OD.out.ints, OS.out.ints, by omega, by omega⟩ (HT.out.more GY.out))
     have LT : Hid (w.heap.size ≤ w3.heap.size) := GY.out.size
     clear BT gY
     go_wp2_with fail
     rw [← hw3]
     clear hw3 t2 y0 y1 y2
     refine RD.out.mono ?_
     rintro e w4 ⟨u, rfl, ou, hg4⟩
     obtain ⟨ua, un, uc, rfl⟩ := jgU ou
     have OU := jae (jcc ou LT.out)
     have G4 := jae (jaa GY.out hg4)
     clear ou hg4
     go_wp2
     go_ret2
     have e3 := E3.out
     have e4 := E4.out
     subst e3 e4
     exact ⟨⟨ua, un, uc⟩, rfl, OU.out, G4.out⟩
end Go.Proofs.YtkefdkboejimeaaGreatDoor
namespace Go.Proofs.YtkefdkboejimeaaGreatDoor
open Go.RowKit
theorem jiF (l : List Int) : ∀ k, k ≤ l.length → bcL l l k = l.drop (l.length - k)
 | 0, _ => by simp [bcL]
 | k + 1, h => by
  have ih := jiF l k (by omega)
  rw [bcL, ih]
  have e : bh l k = l[l.length - (k + 1)] := by
   simp only [bh]
   rw [List.getD, List.getElem?_eq_getElem (by omega)]
   simp [show l.length - 1 - k = l.length - (k + 1) by omega]
   intro h'
   omega
  rw [e, List.drop_eq_getElem_cons (by omega : l.length - (k + 1) < l.length), show l.length - (k + 1) + 1 = l.length - k by omega]
  simp
theorem jiG (l : List Int) : ∀ k, jcF l l k = false
 | 0 => rfl
 | k + 1 => by simp [jcF, jb4, jiG l k]
theorem jlu {l : List Int} (h : ja3 l = 0) : bcE l l = 0 ∧ bcR l l = l := by
 have e : bcL l l (jaS l l) = l := by
  rw [jaS, Nat.max_self, jiF l _ (Nat.le_refl _)]
  simp
 have h1 : bcE l l = 0 := by
  unfold bcE
  rw [if_neg (by simp [h]), if_neg (by simp [h]), jiG, if_neg (by simp), e, h]
 exact ⟨h1, by rw [bcR, if_pos h1, e]⟩
theorem jpe {l zs : List Int} (h : ja3 l = 0) (hl : (zs.length : Int) = jaF l) : asE l zs l = 0 ∧ asL l zs l = zs := by
 obtain ⟨b1, b2⟩ := jlu h
 obtain ⟨r1, r2⟩ := Vw.rd_all (jaH h) hl
 have e : Vw.spr l (jbs l) l = jbs l := Vw.spr_same (jct l)
 have h1 : asE l zs l = 0 := by
  unfold asE
  rw [if_neg (by simp [h]), if_neg (by simp [b1]), if_pos b2, e, r1]
 exact ⟨h1, by rw [asL, if_pos h1, e, r2]⟩
theorem jgV (t : Ten) (ds ts l : List Int) (lv : Sl) (w : World) (hd : IsInts w t.dv.v ds) (ht : IsInts w t.tv.v ts) (hl : IsInts w lv.v l) : Calls Tryz.prog 90 #[jdL t, .func (.func 32) #[] #[], .slice lv.a lv.n lv.c] w fun e w' => ∃ u : Sl, e = .returned u.v ∧ Vw.Owns64 w' w.heap.size u.v (asL ds ts l) ∧ w.grownBy w' none := by
 obtain ⟨ty, ⟨da, dn, dc⟩, ⟨ta, tn, tc⟩⟩ := t
 obtain ⟨la, ln, lc⟩ := lv
 obtain ⟨w0, hw0⟩ : ∃ w0, w0 = w.alloc (.cells #[.int .i64 ty, .slice da dn dc, .slice ta tn tc] 25) := ⟨_, rfl⟩
 have g0 : Hid (w.grownBy w0 none) := by show w.grownBy w0 none; rw [hw0]; exact jab _ _
 have B0 := heap_alloc_new w (.cells #[.int .i64 ty, .slice da dn dc, .slice ta tn tc] 25)
 obtain ⟨c0, c1, c2⟩ := jal B0
 have AS := jae (jp7 ⟨ty, ⟨da, dn, dc⟩, ⟨ta, tn, tc⟩⟩ ds ts l ⟨la, ln, lc⟩ w0 (hd.more g0.out) (ht.more g0.out) (hl.more g0.out))
 unfold jdL at AS ⊢
 simp only at AS ⊢
 clear hd ht hl B0
 go_enter Tryz.func90, Tryz.ntmps90
 go_wp2_with fail
 rw [← hw0]
 clear hw0 c0 c1 c2
 refine AS.out.mono ?_
 rintro e w1 ⟨⟨ua, un, uc⟩, rfl, ho, hg⟩
 have HO := jae (jcc ho g0.out.size)
 have HG := jae (jaa g0.out hg)
 clear ho hg
 go_wp2
 go_ret
 exact ⟨⟨ua, un, uc⟩, rfl, HO.out, HG.out⟩
theorem jgW (t : Ten) (ds ts l : List Int) (lv : Sl) (w : World) (hcd : ja3 ds = 0) (hpm : Vw.IsPerm l ds.length) (hd : IsInts w t.dv.v ds) (ht : IsInts w t.tv.v ts) (hl : IsInts w lv.v l) : Calls Tryz.prog 90 #[jdL t, .func (.func 33) #[] #[], .slice lv.a lv.n lv.c] w fun e w' => ∃ u : Sl, e = .returned u.v ∧ Vw.Owns64 w' w.heap.size u.v (Vw.rdL 0 (Vw.pickL ds l) (Vw.pickL (jbs ds) l) ts) ∧ w.grownBy w' none := by
 obtain ⟨ty, ⟨da, dn, dc⟩, ⟨ta, tn, tc⟩⟩ := t
 obtain ⟨la, ln, lc⟩ := lv
 obtain ⟨w0, hw0⟩ : ∃ w0, w0 = w.alloc (.cells #[.int .i64 ty, .slice da dn dc, .slice ta tn tc] 25) := ⟨_, rfl⟩
 have g0 : Hid (w.grownBy w0 none) := by show w.grownBy w0 none; rw [hw0]; exact jab _ _
 have B0 := heap_alloc_new w (.cells #[.int .i64 ty, .slice da dn dc, .slice ta tn tc] 25)
 obtain ⟨c0, c1, c2⟩ := jal B0
 have AS := jae (jlt ⟨ty, ⟨da, dn, dc⟩, ⟨ta, tn, tc⟩⟩ ds ts l ⟨la, ln, lc⟩ w0 hcd hpm (hd.more g0.out) (ht.more g0.out) (hl.more g0.out))
 unfold jdL at AS ⊢
 simp only at AS ⊢
 clear hd ht hl B0 hcd hpm
 go_enter Tryz.func90, Tryz.ntmps90
 go_wp2_with fail
 rw [← hw0]
 clear hw0 c0 c1 c2
 refine AS.out.mono ?_
 rintro e w1 ⟨⟨ua, un, uc⟩, rfl, ho, hg⟩
 have HO := jae (jcc ho g0.out.size)
 have HG := jae (jaa g0.out hg)
 clear ho hg
 go_wp2
 go_ret
 exact ⟨⟨ua, un, uc⟩, rfl, HO.out, HG.out⟩
theorem jeW (ah d lv : Sl) (h k : Int) (A : List Int) (w : World) (hc : ja3 A = 0) (ha : IsInts w ah.v A) (hl : IsInts w lv.v A) : Calls Tryz.prog 87 #[jpB ah h k d, .slice lv.a lv.n lv.c] w fun e w' => ∃ u : Sl, e = .returned u.v ∧ Vw.Owns64 w' w.heap.size u.v (jbh (jaF A).toNat) ∧ w.grownBy w' none := by
 have HF := jaH hc
 have hp1 := HF.prod_pos
 have hp2 := HF.le
 obtain ⟨aa, an, ac⟩ := ah
 obtain ⟨da, dn, dc⟩ := d
 obtain ⟨la, ln, lc⟩ := lv
 unfold jpB
 simp only
 obtain ⟨N, hN⟩ : ∃ N, N = (jaF A).toNat := ⟨_, rfl⟩
 have hN1 : (jaF A) = (N : Int) := by omega
 have hN2 : N * 8 ≤ 140737488351232 := by omega
 obtain ⟨w0, hw0⟩ : ∃ w0, w0 = w.alloc (.cells #[.slice aa an ac, .int .i64 h, .int .i64 k, .slice da dn dc] 128) := ⟨_, rfl⟩
 have g0 : Hid (w.grownBy w0 none) := by show w.grownBy w0 none; rw [hw0]; exact jab _ _
 have B0 := heap_alloc_new w (.cells #[.slice aa an ac, .int .i64 h, .int .i64 k, .slice da dn dc] 128)
 obtain ⟨c0, c1, c2, c3, -⟩ := jaB B0
 rw [← hw0] at B0
 have BX : Hid (∀ wx, w0.grownBy wx none → wx.heap[w.heap.size]? = some (.cells #[.slice aa an ac, .int .i64 h, .int .i64 k, .slice da dn dc] 128 (0, 0))) := fun wx hg => jad B0 hg
 have CT := jae (jbu (.slice aa an ac) A w0 (ha.more g0.out))
 have HA := jae ha
 have HL := jae hl
 have UP := jae (fun (wx : World) => jfW N wx hN2)
 have EA : Hid (asL A (jbh N) A = jbh N) := (jpe hc (by rw [jaO, hN1])).2
 have EC : ja3 A = 0 := hc
 have EP : cnt A = (N : Int) := by rw [HF.cnt, hN1]
 rw [EC, EP] at CT
 rw [← hN]
 clear ha hl B0 hc HF hp1 hp2 hN hN1 EC EP
 go_enter Tryz.func87, Tryz.ntmps87
 go_wp2_with fail
 rw [← hw0]
 clear hw0 c0 c1 c2 c3
 refine CT.out.mono ?_
 rintro e w1 ⟨rfl, rfl⟩
 obtain ⟨c0, -⟩ := jaB (BX.out w0 (jaf _))
 have SH : Hid (∀ (wx : World) (B : Nat), w0.grownBy wx none → IsInts wx (.slice (some ⟨B, 0, none⟩) N N) (jbh N) → Calls Tryz.prog 90 #[.agg #[.int .i64 0, .slice aa an ac, .slice (some ⟨B, 0, none⟩) N N], .func (.func 32) #[] #[], .slice la ln lc] wx fun e w' => ∃ u : Sl, e = .returned u.v ∧ Vw.Owns64 w' wx.heap.size u.v (jbh N) ∧ wx.grownBy w' none) := fun wx B hx hB => by
  have h := jgV ⟨0, ⟨aa, an, ac⟩, ⟨some ⟨B, 0, none⟩, N, N⟩⟩ A (jbh N) A ⟨la, ln, lc⟩ wx (HA.out.more (jaa g0.out hx)) hB (HL.out.more (jaa g0.out hx))
  rw [EA.out] at h
  exact h
 have hN3 : N * 8 ≤ 140737488351232 := hN2
 clear CT hN2
 go_wp2_with fail
 go_region_held3 (fun w' => w'.cell? ⟨w.heap.size, 0, none⟩ = some (.slice aa an ac)) (go_keep) (first | (go_at_call 75; refine (UP.out _).mono ?_; rintro e w3 ⟨rfl, ho3, hg3⟩; have g3 : w0.grownBy w3 none := jaa (jag (jaf _)) hg3; obtain ⟨c0, -⟩ := jaB (BX.out w3 g3)) | (go_at_call 90; refine (SH.out _ _ g3 (by have h := ho3.ints (by rw [jaO]; exact hN3) (fun z hz => by have := jeN hz; omega); rw [jaO] at h; exact h)).mono ?_; rintro e w4 ⟨⟨ua, un, uc⟩, rfl, ho4, hg4⟩; have g4 : w0.grownBy w4 none := jaa g3 hg4; obtain ⟨c0, -⟩ := jaB (BX.out w4 g4)) | fail)
 have HO := jae (jcc ho4 (jaa g0.out g3).size)
 have HG := jae (jaa g0.out g4)
 clear ho3 hg3 ho4 hg4 g3 g4
 go_wp2
 go_ret
 exact ⟨⟨ua, un, uc⟩, rfl, HO.out, HG.out⟩
end Go.Proofs.YtkefdkboejimeaaGreatDoor
namespace Go.Proofs.YtkefdkboejimeaaGreatDoor
open Go.RowKit
def ja8 (n : Nat) : List Int := ((jbh (n + 2)).set n ((n : Int) + 1)).set (n + 1) (n : Int)
theorem jcU (n : Nat) : (ja8 n).length = n + 2 := by simp [ja8, jaO]
theorem jeX : ∀ n, n ≤ 4 → Vw.IsPerm (ja8 n) (n + 2)
 | 0, _ => ⟨rfl, by decide, by decide⟩
 | 1, _ => ⟨rfl, by decide, by decide⟩
 | 2, _ => ⟨rfl, by decide, by decide⟩
 | 3, _ => ⟨rfl, by decide, by decide⟩
 | 4, _ => ⟨rfl, by decide, by decide⟩
 | n + 5, h => by omega
theorem jnt {n : Nat} (h : n ≤ 4) {k : Nat} (hk : k < n + 2) : 0 ≤ (ja8 n).getD k 0 ∧ (ja8 n).getD k 0 < (n : Int) + 2 := by
 have hp := jeX n h
 have hm := jp1 (l := ja8 n) (k := k) (by rw [jcU]; exact hk)
 have := hp.rng _ hm
 omega
theorem jpf {w : World} {base te sz n : Nat} {v : Value} {cs : List Value} (h : w.ownsRow base te sz v n cs) {B : Nat} (hB : B < base) : v.ownBlock = none ∨ v.ownBlock ≠ some B := by
 rcases h.2 with ⟨e, -⟩ | ⟨g, cap, cur, e, hg, -⟩
 ·exact .inl (by rw [e]; rfl)
 ·exact .inr (by rw [e]; simp [Value.ownBlock]; omega)
def jp8 (w : World) (ty : Int) (ds ts : List Int) (n : Nat) (e : Ending) (w' : World) : Prop := ∃ d t : Sl, e = .returned (jdL ⟨ty, d, t⟩) ∧ Owns w' w.heap.size d.v (Vw.pickL ds (ja8 n)) ∧ Vw.Owns64 w' w.heap.size t.v (Vw.rdL 0 (Vw.pickL ds (ja8 n)) (Vw.pickL (jbs ds) (ja8 n)) ts) ∧ w.grownBy w' none
theorem jnu (r k : Nat) (hk : k < r) : (jbh k ++ List.replicate (r - k) (0 : Int)).set k (k : Int) = jbh (k + 1) ++ List.replicate (r - (k + 1)) 0 := by
 have hl := jaO k
 rw [List.set_append_right _ _ (by omega), hl, Nat.sub_self, show r - k = (r - (k + 1)) + 1 from by omega, List.replicate_succ, List.set_cons_zero]
 have e : jbh (k + 1) = jbh k ++ [(k : Int)] := by simp [jbh, List.range_succ]
 rw [e, List.append_assoc]
 rfl
theorem jd0 {w : World} {base n : Nat} {v : Value} (hn : n ≤ 1000) (h : w.ownsRow base 3 1 v n ((List.replicate n (0 : Int)).map (Value.int .i64))) : Owns w base v (List.replicate n 0) := by
 refine ⟨by rw [List.length_replicate]; exact h, by rw [List.length_replicate]; omega, fun z hz => ?_⟩
 rw [(List.mem_replicate.1 hz).2]
 omega
theorem jc4 {w : World} {base g n c : Nat} {zs : List Int} (h : Owns w base (.slice (some ⟨g, 0, none⟩) n c) zs) (hn : zs.length = n) {k : Nat} (hk : k < n) (z : Int) (hz : -9223372036854775808 ≤ z ∧ z ≤ 9223372036854775807) :
    w.cell? ⟨g, k, none⟩ = some (.int .i64 (zs.getD k 0)) ∧ w.frozen? ⟨g, k, none⟩ = false ∧ Owns (w.setCell ⟨g, k, none⟩ (.int .i64 z)) base (.slice (some ⟨g, 0, none⟩) n c) (zs.set k z) ∧ w.grownBy (w.setCell ⟨g, k, none⟩ (.int .i64 z)) (some g) := by
     subst hn
     have hr := h.1
     obtain ⟨s1, s2⟩ := hr.stored k (.int .i64 z)
     refine ⟨?_, hr.frozenAt k, ⟨?_, by rw [List.length_set]; exact h.2.1, fun y hy => ?_⟩, s2⟩
     ·rw [hr.cellAt k (by omega)]
      simp [List.getD, hk]
     ·rw [List.length_set, List.map_set]
      exact s1
     ·rcases List.mem_or_eq_of_mem_set hy with hy | rfl
      ·exact h.2.2 y hy
      ·exact hz
theorem jnv (ds : List Int) (n k : Nat) (hk : k < n + 2) (z : Int) (hz : z = ds.getD ((ja8 n).getD k 0).toNat 0) : ((Vw.pickL ds (ja8 n)).take k ++ List.replicate (n + 2 - k) (0 : Int)).set k z = (Vw.pickL ds (ja8 n)).take (k + 1) ++ List.replicate (n + 2 - (k + 1)) 0 := by
 have hl : (Vw.pickL ds (ja8 n)).length = n + 2 := by unfold Vw.pickL; rw [List.length_map, jcU]
 rw [List.set_append_right _ _ (by rw [List.length_take]; omega), List.length_take, Nat.min_eq_left (by omega), Nat.sub_self, show n + 2 - k = (n + 2 - (k + 1)) + 1 from by omega, List.replicate_succ, List.set_cons_zero, List.take_add_one, List.getElem?_eq_getElem (by omega), Option.toList_some, List.append_assoc]
 have e : (Vw.pickL ds (ja8 n))[k] = z := by
  rw [hz]
  simp [Vw.pickL, List.getD, show k < (ja8 n).length from by rw [jcU]; exact hk]
 rw [e]
 rfl
theorem jh0 (t : Ten) (ds ts : List Int) (n : Nat) (w : World) (hcd : ja3 ds = 0) (hn : ds.length = n + 2) (hd : IsInts w t.dv.v ds) (ht : IsInts w t.tv.v ts) : Calls Tryz.prog 86 #[jdL t] w (jp8 w t.ty ds ts n) := by
 obtain ⟨i0, hi0, hz0, hz1, hz2⟩ := info_parts jcK
 obtain ⟨ty, ⟨da, dn, dc⟩, ⟨ta, tn, tc⟩⟩ := t
 obtain ⟨ux, uc, eu, c1, c2, c3⟩ := hd.sl
 simp only [Sl.v, Value.slice.injEq] at eu
 obtain ⟨rfl, rfl, rfl⟩ := eu
 obtain ⟨b, off, rfl, hc⟩ := hd.get (k := 0) (by omega)
 have hfew := (jaH hcd).few
 have n4 : n ≤ 4 := by omega
 have HC := jae hc
 have HD := jae hd
 have HT := jae ht
 have HP : Hid (Vw.IsPerm (ja8 n) ds.length) := by show Vw.IsPerm _ _; rw [hn]; exact jeX n n4
 have HCD := jae hcd
 have HN := jae hn
 unfold jdL
 simp only
 obtain ⟨w0, hw0⟩ : ∃ w0, w0 = (w.alloc (.cells #[.int .i64 ty, .slice (some ⟨b, off, none⟩) ds.length dc, .slice ta tn tc] 25)).alloc (.cells #[.int .i64 0, .slice none 0 0, .slice none 0 0] 25) := ⟨_, rfl⟩
 have g0 : w.grownBy w0 none := by rw [hw0]; exact jaa (jab _ _) (jab _ _)
 have hbx := jax w (.cells #[.int .i64 ty, .slice (some ⟨b, off, none⟩) ds.length dc, .slice ta tn tc] 25) (.cells #[.int .i64 0, .slice none 0 0, .slice none 0 0] 25)
 rw [← hw0] at hbx
 have Z0 : w0.heap.size = w.heap.size + 1 + 1 := by rw [hw0]; simp
 rw [hn] at hbx hw0 c1 ⊢
 have BX : Hid (∀ wx, w0.grownBy wx none → wx.heap[w.heap.size]? = some (.cells #[.int .i64 ty, .slice (some ⟨b, off, none⟩) (n + 2) dc, .slice ta tn tc] 25 (0, 0)) ∧ wx.heap[w.heap.size + 1]? = some (.cells #[.int .i64 0, .slice none 0 0, .slice none 0 0] 25 (0, 0))) := fun wx hg => ⟨jad hbx.1 hg, jad hbx.2 hg⟩
 obtain ⟨e0, e1, e2⟩ := jal hbx.1
 have hb4 : i0.bytes * (n + 2) ≤ 281474976710656 := by rw [hz2]; omega
 have hb5 : n + 2 ≤ maxLen := by simp only [maxLen]; omega
 have G0 := jae g0
 clear hd ht hc hcd hn hfew c3 hbx
 rw [hw0] at e0 e1 e2
 have Z1 : w0.heap.size ≤ ((w.alloc (.cells #[.int .i64 ty, .slice (some ⟨b, off, none⟩) (n + 2) dc, .slice ta tn tc] 25)).alloc (.cells #[.int .i64 0, .slice none 0 0, .slice none 0 0] 25)).heap.size := by rw [hw0]; exact Nat.le_refl _
 go_enter Tryz.func86, Tryz.ntmps86
 go_wp2_with (first | (refine wpList_make_full _ rfl (.tmp 12) (.tmp 12) 22 rfl w0.heap.size 3 i0 (.int .i64 0) 1 Tryz.underlying22 hi0 hz0 hz1 .i64 .i64 _ _ (n + 2) rfl rfl (by omega) (by omega) hb4 hb5 Z1 ?_; intro w1 hown1 hg1) | (refine wpList_make_full _ rfl (.tmp 14) (.tmp 14) 22 rfl w0.heap.size 3 i0 (.int .i64 0) 1 Tryz.underlying22 hi0 hz0 hz1 .i64 .i64 _ _ (n + 2) rfl rfl (by omega) (by omega) hb4 hb5 (Nat.le_trans Z1 hg1.size) ?_; intro w2 hown2 hg2))
 rw [← hw0] at hown1 hg1
 rw [jbK] at hown1 hown2
 rw [Z0] at hown1
 obtain ⟨Q, hQ⟩ : ∃ Q, Q = w1.heap.size := ⟨_, rfl⟩
 have hQ1 : w.heap.size + 1 + 1 < Q := by rw [hQ]; exact (World.ownsRow.lt hown1 (w.heap.size + 1 + 1) rfl).2
 rw [← hQ] at hown2 ⊢
 have O1 := jae ((jd0 (by omega) hown1).more hg2 (.inr (by simp [Value.ownBlock])))
 have O2 := jae (jd0 (by omega) hown2)
 rw [Z0] at O2
 have G2 := jae (jaa hg1 hg2)
 have HQ := jae hQ1
 have HZ := jae Z0
 clear hown1 hown2 hg1 hg2 hQ hQ1 Z0 Z1 hw0 e0 e1 e2 hb4 hb5 g0
 go_loopw [18] (fun x wr => w0.grownBy wr none ∧ ∃ k : Nat, k ≤ n + 2 ∧ x = .int .i64 k ∧ Owns wr (w.heap.size + 1 + 1) (.slice (some ⟨w.heap.size + 1 + 1, 0, none⟩) (n + 2) (n + 2)) (jbh k ++ List.replicate (n + 2 - k) 0) ∧ Owns wr (w.heap.size + 1 + 1) (.slice (some ⟨Q, 0, none⟩) (n + 2) (n + 2)) (List.replicate (n + 2) 0)) (fun x _ => n + 2 - (intOf x).toNat)
 case atStart => exact ⟨G2.out, 0, Nat.zero_le _, rfl, by simpa [jbh] using O1.out, O2.out⟩
 case round =>
  obtain ⟨hg, k, hk, rfl, o1, o2⟩ := hrel
  have HG := jae hg
  have P1 := jae o1
  have P2 := jae o2
  have hq1 := HQ.out
  have hq2 := HZ.out
  clear o1 o2
  by_cases hlt : k < n + 2
  ·obtain ⟨a1, a2, a3, a4⟩ := jc4 P1.out (by rw [List.length_append, jaO, List.length_replicate]; omega) hlt (k : Int) (by omega)
   rw [jnu (n + 2) k hlt] at a3
   have N1 := jae a3
   have N2 := jae (P2.out.more a4 (.inr (by simp [Value.ownBlock]; omega)))
   have NG := jae (jas hg a4 (by omega))
   obtain ⟨ov, hov⟩ : ∃ q, q = (jbh k ++ List.replicate (n + 2 - k) (0 : Int)).getD k 0 := ⟨_, rfl⟩
   rw [← hov] at a1
   have l1 : (k : Int) < (n : Int) + 2 := by omega
   clear a3 a4 hg hov hq1 hq2
   go_wp2_with fail
   go_roundw
   case rel => exact ⟨NG.out, k + 1, hlt, by go_num, N1.out, N2.out⟩
   case measure => simp [intOf]; omega
  ·obtain rfl : k = n + 2 := by omega
   have E1 : jbh (n + 2) ++ List.replicate (n + 2 - (n + 2)) (0 : Int) = jbh (n + 2) := by rw [Nat.sub_self, List.replicate_zero, List.append_nil]
   have P1' := P1.out
   rw [E1] at P1'
   obtain ⟨a1, a2, a3, a4⟩ := jc4 P1' (jaO _) (k := n) (by omega) ((n : Int) + 1) (by omega)
   obtain ⟨b1, b2, b3, b4⟩ := jc4 a3 (by rw [List.length_set, jaO]) (k := n + 1) (by omega) (n : Int) (by omega)
   have M1 : Hid (Owns _ (w.heap.size + 1 + 1) (.slice (some ⟨w.heap.size + 1 + 1, 0, none⟩) (n + 2) (n + 2)) (ja8 n)) := b3
   have M2 := jae ((P2.out.more a4 (.inr (by simp [Value.ownBlock]; omega))).more b4 (.inr (by simp [Value.ownBlock]; omega)))
   have MG := jae (jas (jas hg a4 (by omega)) b4 (by omega))
   obtain ⟨ov, hov⟩ : ∃ q, q = (jbh (n + 2)).getD n 0 := ⟨_, rfl⟩
   obtain ⟨pv, hpv⟩ : ∃ q, q = ((jbh (n + 2)).set n ((n : Int) + 1)).getD (n + 1) 0 := ⟨_, rfl⟩
   rw [← hov] at a1
   rw [← hpv] at b1
   have i1 : (n : Int) + 2 - 2 = n := by omega
   have i2 : (n : Int) + 2 - 1 = (n : Int) + 1 := by omega
   have i3 : (n : Int) < (n : Int) + 2 := by omega
   have i4 : (n : Int) + 1 < (n : Int) + 2 := by omega
   have i5 : (0 : Int) ≤ (n : Int) + 1 := by omega
   have i6 : ((n : Int) + 1).toNat = n + 1 := by omega
   obtain ⟨wp, hwp⟩ : ∃ wp, wp = (wr.setCell ⟨w.heap.size + 1 + 1, n, none⟩ (.int .i64 ((n : Int) + 1))).setCell ⟨w.heap.size + 1 + 1, n + 1, none⟩ (.int .i64 (n : Int)) := ⟨_, rfl⟩
   rw [← hwp] at M1 M2 MG
   clear a3 a4 b3 b4 hg hov hpv E1 P1' hq1 hq2
   go_wp2_with fail
   rw [← hwp]
   clear hwp a1 a2 b1 b2 i1 i2 i3 i4 i5 i6
   have MG0 := jae MG.out
   go_loopw [40] (fun x wr => w0.grownBy wr none ∧ ∃ k : Nat, k ≤ n + 2 ∧ x = .int .i64 k ∧ Owns wr (w.heap.size + 1 + 1) (.slice (some ⟨w.heap.size + 1 + 1, 0, none⟩) (n + 2) (n + 2)) (ja8 n) ∧ Owns wr (w.heap.size + 1 + 1) (.slice (some ⟨Q, 0, none⟩) (n + 2) (n + 2)) ((Vw.pickL ds (ja8 n)).take k ++ List.replicate (n + 2 - k) 0)) (fun x _ => n + 2 - (intOf x).toNat)
   case atStart => exact ⟨MG0.out, 0, Nat.zero_le _, rfl, M1.out, by simpa using M2.out⟩
   case round =>
    obtain ⟨hg, k, hk, rfl, o1, o2⟩ := hrel
    have HG2 := jae hg
    have P3 := jae o1
    have P4 := jae o2
    have hq1 := HQ.out
    have hq2 := HZ.out
    have hplen : (Vw.pickL ds (ja8 n)).length = n + 2 := by unfold Vw.pickL; rw [List.length_map, jcU]
    clear o1 o2
    by_cases hlt : k < n + 2
    ·obtain ⟨p0, hp0⟩ := jnt n4 hlt
     obtain ⟨a1, -, -, -⟩ := jc4 P3.out (jcU n) hlt 0 (by omega)
     obtain ⟨p, hp⟩ : ∃ p : Nat, (ja8 n).getD k 0 = (p : Int) := ⟨((ja8 n).getD k 0).toNat, by omega⟩
     have hpl : p < ds.length := by rw [HN.out]; omega
     have d1 := jac (HC.out p hpl) (jaa G0.out hg)
     have dwf := HD.out.wf (ds.getD p 0) (jp1 hpl)
     obtain ⟨z, hz⟩ : ∃ z, z = ds.getD p 0 := ⟨_, rfl⟩
     rw [← hz] at d1 dwf
     obtain ⟨b1, b2, b3, b4⟩ := jc4 P4.out (by rw [List.length_append, List.length_take, List.length_replicate]; omega) hlt z dwf
     rw [jnv ds n k hlt z (by rw [hp, Int.toNat_natCast]; exact hz)] at b3
     have N4 := jae b3
     have N3 := jae (P3.out.more b4 (.inr (by simp [Value.ownBlock]; omega)))
     have NG := jae (jas hg b4 (by omega))
     rw [hp] at a1
     obtain ⟨ov, hov⟩ : ∃ q, q = ((Vw.pickL ds (ja8 n)).take k ++ List.replicate (n + 2 - k) (0 : Int)).getD k 0 := ⟨_, rfl⟩
     rw [← hov] at b1
     obtain ⟨e0, e1, e2⟩ := jal (BX.out wr hg).1
     have l1 : (k : Int) < (n : Int) + 2 := by omega
     have l2 : (p : Int) < (n : Int) + 2 := by omega
     have l3 : p < n + 2 := by omega
     clear b3 b4 hg hov hq1 hq2 hplen p0 hp0 hp hz dwf hpl
     go_wp2_with fail
     go_roundw
     case rel => exact ⟨NG.out, k + 1, hlt, by go_num, N3.out, N4.out⟩
     case measure => simp [intOf]; omega
    ·obtain rfl : k = n + 2 := by omega
     have EL : (Vw.pickL ds (ja8 n)).take (n + 2) ++ List.replicate (n + 2 - (n + 2)) (0 : Int) = Vw.pickL ds (ja8 n) := by rw [Nat.sub_self, List.replicate_zero, List.append_nil, List.take_of_length_le (by omega)]
     have P4' := P4.out
     rw [EL] at P4'
     have D4 := jae P4'
     have SH : Hid (∀ wx, wr.grownBy wx none → Calls Tryz.prog 90 #[.agg #[.int .i64 ty, .slice (some ⟨b, off, none⟩) (n + 2) dc, .slice ta tn tc], .func (.func 33) #[] #[], .slice (some ⟨w.heap.size + 1 + 1, 0, none⟩) (n + 2) (n + 2)] wx fun e w' => ∃ u : Sl, e = .returned u.v ∧ Vw.Owns64 w' wx.heap.size u.v (Vw.rdL 0 (Vw.pickL ds (ja8 n)) (Vw.pickL (jbs ds) (ja8 n)) ts) ∧ wx.grownBy w' none) := fun wx hx => by
      have h := jgW ⟨ty, ⟨some ⟨b, off, none⟩, ds.length, dc⟩, ⟨ta, tn, tc⟩⟩ ds ts (ja8 n) ⟨some ⟨w.heap.size + 1 + 1, 0, none⟩, n + 2, n + 2⟩ wx HCD.out HP.out (HD.out.more (jaa G0.out (jaa hg hx))) (HT.out.more (jaa G0.out (jaa hg hx))) (P3.out.ints.more hx)
      unfold jdL at h
      rw [HN.out] at h
      exact h
     obtain ⟨⟨x0, x1, x2⟩, HB2⟩ : (wr.cell? ⟨w.heap.size, 0, none⟩ = some (.int .i64 ty) ∧ wr.cell? ⟨w.heap.size, 1, none⟩ = some (.slice (some ⟨b, off, none⟩) (n + 2) dc) ∧ wr.cell? ⟨w.heap.size, 2, none⟩ = some (.slice ta tn tc)) ∧ True := ⟨jal (BX.out wr hg).1, trivial⟩
     have y1 : w.heap.size ≠ w.heap.size + 1 := by omega
     have y1' := y1.symm
     have gd : wr.grownBy wr.drew none := jag (jaf _)
     clear EL P4' hq1 hq2 hplen HB2
     go_wp2_with fail
     go_region_held3 (fun w' => w'.cell? ⟨w.heap.size, 0, none⟩ = some (.int .i64 ty) ∧ w'.cell? ⟨w.heap.size, 1, none⟩ = some (.slice (some ⟨b, off, none⟩) (n + 2) dc) ∧ w'.cell? ⟨w.heap.size, 2, none⟩ = some (.slice ta tn tc)) (go_keep) (first | (go_at_call 90; refine (SH.out _ gd).mono ?_; rintro e w4 ⟨⟨ua, un, uc⟩, rfl, ho4, hg4⟩; have g4 : wr.grownBy w4 none := jaa gd hg4; obtain ⟨x0, x1, x2⟩ := jal (BX.out w4 (jaa hg g4)).1; obtain ⟨z0, z1, z2⟩ := jal (BX.out w4 (jaa hg g4)).2; obtain ⟨f0, f1, f2⟩ := jaJ (BX.out w4 (jaa hg g4)).2) | fail)
     obtain ⟨hX, gX⟩ := ja5 (.int .i64 ty) (.slice (some ⟨Q, 0, none⟩) (n + 2) (n + 2)) (.slice ua un uc) (BX.out w4 (jaa hg g4)).2
     have HX := jae hX
     have hq1 := HQ.out
     have hq2 := HZ.out
     have GX := jae (jas (jaa G0.out (jaa hg g4)) gX (by omega))
     have OD := jae (((D4.out.more g4 (by simp [Value.ownBlock])).more gX (.inr (by simp [Value.ownBlock]; omega))).base_le (b' := w.heap.size) (by omega))
     have zr : w.heap.size + 1 < wr.heap.size := by have := hg.size; omega
     have OT : Hid (Vw.Owns64 _ w.heap.size (.slice ua un uc) (Vw.rdL 0 (Vw.pickL ds (ja8 n)) (Vw.pickL (jbs ds) (ja8 n)) ts)) := ⟨ja6 (ho4.1.kept gX (jpf ho4.1 (B := w.heap.size + 1) (by show w.heap.size + 1 < wr.heap.size; exact zr))) (by show w.heap.size ≤ wr.heap.size; omega), ho4.2⟩
     clear hX gX ho4 hg4 g4 hg hq1 hq2 zr
     go_wp2
     refine bodyPost_ret (jos rfl _ _ (w.heap.size + 1) rfl HX.out) rfl ?_
     exact ⟨⟨_, _, _⟩, ⟨_, _, _⟩, rfl, OD.out, OT.out, GX.out⟩
end Go.Proofs.YtkefdkboejimeaaGreatDoor
namespace Go.Proofs.YtkefdkboejimeaaGreatDoor
open Go.RowKit
theorem jnw (l : List Int) (k : Nat) (hk : k < l.length) : (l.take k ++ List.replicate (l.length - k) (0 : Int)).set k (l.getD k 0) = l.take (k + 1) ++ List.replicate (l.length - (k + 1)) 0 := by
 rw [List.set_append_right _ _ (by rw [List.length_take]; omega), List.length_take, Nat.min_eq_left (by omega), Nat.sub_self, show l.length - k = (l.length - (k + 1)) + 1 from by omega, List.replicate_succ, List.set_cons_zero, List.take_add_one, List.getElem?_eq_getElem (by omega), Option.toList_some, List.append_assoc]
 have e : l.getD k 0 = l[k] := by simp [List.getD, hk]
 rw [e]
 rfl
theorem jjC (u : Sl) (l : List Int) (w : World) (hv : IsInts w u.v l) (hl : l.length ≤ 1000) : Calls Tryz.prog 34 #[.slice u.a u.n u.c] w fun e w' => ∃ v : Sl, e = .returned v.v ∧ IsInts w' v.v l ∧ w.grownBy w' none := by
 obtain ⟨i0, hi0, hz0, hz1, hz2⟩ := info_parts jcK
 obtain ⟨ua, un, uc⟩ := u
 obtain ⟨ux, c, eu, c1, c2, c3⟩ := hv.sl
 simp only [Sl.v, Value.slice.injEq] at eu
 obtain ⟨rfl, rfl, rfl⟩ := eu
 have HV := jae hv
 have hb4 : i0.bytes * l.length ≤ 281474976710656 := by rw [hz2]; omega
 have hb5 : l.length ≤ maxLen := by simp only [maxLen]; omega
 clear hv
 go_enter Tryz.func34, Tryz.ntmps34
 go_wp2_with (first | (refine wpList_make_full _ rfl (.tmp 7) (.tmp 7) 22 rfl w.heap.size 3 i0 (.int .i64 0) 1 Tryz.underlying22 hi0 hz0 hz1 .i64 .i64 _ _ l.length rfl rfl (by omega) (by omega) hb4 hb5 (Nat.le_refl _) ?_; intro w1 hown1 hg1))
 rw [jbK] at hown1
 have O1 := jae (jd0 (by omega) hown1)
 have G1 := jae hg1
 clear hown1 hg1 hb4 hb5
 go_wp2
 go_loopw [11] (fun x wr => w.grownBy wr none ∧ ∃ k : Nat, k ≤ l.length ∧ x = .int .i64 k ∧ Owns wr w.heap.size (.slice (some ⟨w.heap.size, 0, none⟩) l.length l.length) (l.take k ++ List.replicate (l.length - k) 0)) (fun x _ => l.length - (intOf x).toNat)
 case atStart => exact ⟨G1.out, 0, Nat.zero_le _, rfl, by simpa using O1.out⟩
 case round =>
  obtain ⟨hg, k, hk, rfl, o1⟩ := hrel
  have HG := jae hg
  have P1 := jae o1
  clear o1
  by_cases hlt : k < l.length
  ·obtain ⟨b, off, rfl, hc⟩ := HV.out.get hlt
   have hcell := jac (hc k hlt) hg
   obtain ⟨a1, a2, a3, a4⟩ := jc4 P1.out (by rw [List.length_append, List.length_take, List.length_replicate]; omega) hlt (l.getD k 0) (HV.out.wf _ (by rw [List.getD, List.getElem?_eq_getElem hlt]; simp))
   rw [jnw l k hlt] at a3
   have N1 := jae a3
   have NG := jae (jas hg a4 (Nat.le_refl _))
   obtain ⟨ov, hov⟩ : ∃ q, q = (l.take k ++ List.replicate (l.length - k) (0 : Int)).getD k 0 := ⟨_, rfl⟩
   rw [← hov] at a1
   obtain ⟨z, hz⟩ : ∃ z, z = l.getD k 0 := ⟨_, rfl⟩
   rw [← hz] at hcell N1 NG
   have l1 : (k : Int) < (l.length : Int) := by omega
   clear a3 a4 hg hov hz hc
   go_wp2_with fail
   go_roundw
   case rel => exact ⟨NG.out, k + 1, hlt, by go_num, N1.out⟩
   case measure => simp [intOf]; omega
  ·obtain rfl : k = l.length := by omega
   have E1 : l.take l.length ++ List.replicate (l.length - l.length) (0 : Int) = l := by simp
   have P1' := P1.out
   rw [E1] at P1'
   have F := jae P1'.ints
   clear P1' E1 P1 hg
   go_wp2
   go_ret
   exact ⟨⟨some ⟨w.heap.size, 0, none⟩, l.length, l.length⟩, rfl, F.out, HG.out⟩
end Go.Proofs.YtkefdkboejimeaaGreatDoor
namespace Go.Proofs.YtkefdkboejimeaaGreatDoor
open Go.RowKit
def doR (r : R (Int × List Int)) (M : List Int → R (List Int)) : R (Int × List Int × List Int) := match r with
 | .ok (ty, l) => (M l).map fun zs => (ty, l, zs)
 | .error c => .error c
def DoQ (w : World) (r : R (Int × List Int × List Int)) (e : Ending) (w' : World) : Prop := w.grownBy w' none ∧ match r with
 | .ok (ty, l, zs) => ∃ t : Ten, t.ty = ty ∧ e = .returned (.tuple #[jdL t, .int .i64 0]) ∧ Owns w' w.heap.size t.dv.v l ∧ jaI w' w.heap.size t.tv.v zs
 | .error c => e = .returned (.tuple #[.agg #[.int .i64 0, .slice none 0 0, .slice none 0 0], .int .i64 c])
theorem jdB {w w' : World} {r : R (Int × List Int × List Int)} {c : Int} (h : r = .error c) (hg : w.grownBy w' none) : DoQ w r (.returned (.tuple #[.agg #[.int .i64 0, .slice none 0 0, .slice none 0 0], .int .i64 c])) w' := by rw [h]; exact ⟨hg, rfl⟩
theorem jjD {w w' : World} {r : R (Int × List Int × List Int)} {ty : Int} {l zs : List Int} {d t : Sl} (h : r = .ok (ty, l, zs)) (hg : w.grownBy w' none) (hd : Owns w' w.heap.size d.v l) (ht : jaI w' w.heap.size t.v zs) : DoQ w r (.returned (.tuple #[.agg #[.int .i64 ty, .slice d.a d.n d.c, .slice t.a t.n t.c], .int .i64 0])) w' := by rw [h]; exact ⟨hg, ⟨ty, d, t⟩, rfl, rfl, hd, ht⟩
theorem jbk {fn : Func} {p u : Tmp} (h : fn.results = #[.cell p 25, .tmp u]) (tmps : Array Value) (w : World) (B : Nat) (hp : tmps.getD p undef = .pointer (some ⟨B, 0, none⟩)) {a0 a1 a2 : Value}
    (hb : w.heap[B]? = some (.cells #[a0, a1, a2] 25 (0, 0))) : (results fn tmps).run Tryz.prog w = .ok (.tuple #[.agg #[a0, a1, a2], tmps.getD u undef]) w := by
     have hl := run_loadVar_row (P := Tryz.prog) w B _ 25 #[a0, a1, a2] (0, 0) _ hb Tryz.underlying25 rfl (by rw [jj5]; rfl)
     rw [results_cell_tmp h, hp]
     simp [asAddr, hl, Result.andThen]
theorem jcE {w : World} {base te sz n : Nat} {v : Value} {cs : List Value} (h : w.ownsRow base te sz v n cs) {B : Nat} (hB : B < base) : v.ownBlock = none ∨ v.ownBlock ≠ some B := by
 rcases h.2 with ⟨e, -⟩ | ⟨g, cap, cur, e, hg, -⟩
 ·exact .inl (by rw [e]; rfl)
 ·exact .inr (by rw [e]; simp [Value.ownBlock]; omega)
theorem jnx (n : Nod) (u : Sl) (R0 : R (Int × List Int)) (M : List Int → R (List Int)) (w : World) (h1 : ∀ c, R0 = .error c → c ≠ 0) (h2 : ∀ l c, M l = .error c → c ≠ 0)
    (NC : ∀ wx, w.grownBy wx none → Calls Tryz.prog 24 #[jaL n, .slice u.a u.n u.c] wx (jju n.out wx R0))
    (MC : ∀ (wx : World) (ty : Int) (dv : Sl) (l : List Int), w.grownBy wx none → R0 = .ok (ty, l) → IsInts wx dv.v l → Calls Tryz.prog 17 #[jaL n, .slice u.a u.n u.c, .agg #[.string n.out, .int .i64 ty, .slice dv.a dv.n dv.c]] wx (EvQ wx (M l))) :
    Calls Tryz.prog 14 #[jaL n, .slice u.a u.n u.c, .func (.func 17) #[] #[]] w (DoQ w (doR R0 M)) := by
     have H1 := jae h1
     have H2 := jae h2
     have HMC := jae MC
     clear h1 h2 MC
     obtain ⟨w0, hw0⟩ : ∃ w0, w0 = (w.alloc (.cells #[.string n.op, .string n.name, .slice n.iv.a n.iv.n n.iv.c, .string n.out, .slice n.av.a n.av.n n.av.c] 35)).alloc (.cells #[.int .i64 0, .slice none 0 0, .slice none 0 0] 25) := ⟨_, rfl⟩
     have g0 : Hid (w.grownBy w0 none) := by show w.grownBy w0 none; rw [hw0]; exact jaa (jab _ _) (jab _ _)
     have hbx := jax w (.cells #[.string n.op, .string n.name, .slice n.iv.a n.iv.n n.iv.c, .string n.out, .slice n.av.a n.av.n n.av.c] 35) (.cells #[.int .i64 0, .slice none 0 0, .slice none 0 0] 25)
     rw [← hw0] at hbx
     have BN : Hid (∀ wx, w0.grownBy wx none → wx.heap[w.heap.size]? = some (.cells #[.string n.op, .string n.name, .slice n.iv.a n.iv.n n.iv.c, .string n.out, .slice n.av.a n.av.n n.av.c] 35 (0, 0))) := fun wx hg => jad hbx.1 hg
     have BX : Hid (∀ wx, w0.grownBy wx none → wx.heap[w.heap.size + 1]? = some (.cells #[.int .i64 0, .slice none 0 0, .slice none 0 0] 25 (0, 0))) := fun wx hg => jad hbx.2 hg
     have Z0 : Hid (w.heap.size + 1 < w0.heap.size) := (Array.getElem?_eq_some_iff.1 hbx.2).1
     have N1 := jae (NC w0 g0.out)
     clear hbx NC
     obtain ⟨op, nam, ⟨ia, il, ic⟩, out, ⟨ao, al, cap⟩⟩ := n
     obtain ⟨ua, un, uc⟩ := u
     unfold jaL at HMC N1 ⊢
     simp only at HMC N1 BN hw0 ⊢
     go_enter Tryz.func14, Tryz.ntmps14
     go_wp2_with fail
     rw [← hw0]
     clear hw0
     refine N1.out.mono ?_
     rintro e w1 ⟨hg1, hq⟩
     have G1 := jae hg1
     cases R0 with
     | error c =>
      obtain rfl := hq
      have hc := H1.out c rfl
      have bc : (c != 0) = true := by simpa using hc
      obtain ⟨w2, hw2⟩ : ∃ w2, w2 = w1.alloc (.cells #[.string ⟨#[]⟩, .int .i64 0, .slice none 0 0] 53) := ⟨_, rfl⟩
      have g2 : w1.grownBy w2 none := by rw [hw2]; exact jab _ _
      have B1 := BX.out w2 (jaa hg1 g2)
      obtain ⟨f0, f1, f2⟩ := jaJ B1
      have c0 : w2.cell? ⟨w.heap.size + 1, 0, none⟩ = some (.int .i64 0) := (cell_of_row _ _ 0 _ _ (0, 0) B1).trans rfl
      have c1 : w2.cell? ⟨w.heap.size + 1, 1, none⟩ = some (.slice none 0 0) := (cell_of_row _ _ 1 _ _ (0, 0) B1).trans rfl
      have c2 : w2.cell? ⟨w.heap.size + 1, 2, none⟩ = some (.slice none 0 0) := (cell_of_row _ _ 2 _ _ (0, 0) B1).trans rfl
      obtain ⟨hX, gX⟩ := ja5 (.int .i64 0) (.slice none 0 0) (.slice none 0 0) B1
      have HX := jae hX
      have GX := jae (jas (jaa g0.out (jaa hg1 g2)) gX (by omega))
      rw [hw2] at f0 f1 f2 c0 c1 c2 HX GX
      clear hX gX B1 hc hg1 g2 hw2
      go_wp2
      refine bodyPost_ret (jbk rfl _ _ (w.heap.size + 1) rfl HX.out) rfl ?_
      exact jdB rfl GX.out
     | ok rr =>
      obtain ⟨ty, l⟩ := rr
      obtain ⟨⟨s1, s2, s3⟩, rfl, ho⟩ := hq
      obtain ⟨w2, hw2⟩ : ∃ w2, w2 = w1.alloc (.cells #[.string out, .int .i64 ty, .slice s1 s2 s3] 53) := ⟨_, rfl⟩
      have g2 : w1.grownBy w2 none := by rw [hw2]; exact jab _ _
      have hB2 := heap_alloc_new w1 (.cells #[.string out, .int .i64 ty, .slice s1 s2 s3] 53)
      rw [← hw2] at hB2
      have BV : Hid (∀ wx, w2.grownBy wx none → wx.heap[w1.heap.size]? = some (.cells #[.string out, .int .i64 ty, .slice s1 s2 s3] 53 (0, 0))) := fun wx hg => jad hB2 hg
      have HO := jae ho
      obtain ⟨n0, n1, n2, n3, n4⟩ := jai (n := ⟨op, nam, ⟨ia, il, ic⟩, out, ⟨ao, al, cap⟩⟩) (BN.out w2 (jaa hg1 g2))
      have M1 := jae (HMC.out w2 ty ⟨s1, s2, s3⟩ l (jaa g0.out (jaa hg1 g2)) rfl (ho.ints.more g2))
      have G2 := jae (jaa hg1 g2)
      have G12 := jae g2
      simp only at n0 n1 n2 n3 n4 M1
      rw [hw2] at n0 n1 n2 n3 n4
      clear ho hg1 g2 hB2
      go_wp2_with fail
      rw [← hw2]
      clear hw2 n0 n1 n2 n3 n4
      refine M1.out.mono ?_
      rintro e w3 ⟨hg3, hq⟩
      have B3 := BX.out w3 (jaa G2.out hg3)
      have G3 := jae (jaa g0.out (jaa G2.out hg3))
      obtain ⟨f0, f1, f2⟩ := jaJ B3
      have c0 : w3.cell? ⟨w.heap.size + 1, 0, none⟩ = some (.int .i64 0) := (cell_of_row _ _ 0 _ _ (0, 0) B3).trans rfl
      have c1 : w3.cell? ⟨w.heap.size + 1, 1, none⟩ = some (.slice none 0 0) := (cell_of_row _ _ 1 _ _ (0, 0) B3).trans rfl
      have c2 : w3.cell? ⟨w.heap.size + 1, 2, none⟩ = some (.slice none 0 0) := (cell_of_row _ _ 2 _ _ (0, 0) B3).trans rfl
      obtain ⟨mr, hmr⟩ : ∃ mr, mr = M l := ⟨_, rfl⟩
      rw [← hmr] at hq
      have ED : Hid (doR (.ok (ty, l)) M = mr.map fun zs => (ty, l, zs)) := by rw [hmr]; rfl
      cases mr with
      | error c =>
       obtain rfl := hq
       have hc := H2.out l c hmr.symm
       have bc : (c != 0) = true := by simpa using hc
       obtain ⟨hX, gX⟩ := ja5 (.int .i64 0) (.slice none 0 0) (.slice none 0 0) B3
       have HX := jae hX
       have GX := jae (jas G3.out gX (by omega))
       clear hX gX B3 hc hg3 hmr
       go_wp2
       refine bodyPost_ret (jbk rfl _ _ (w.heap.size + 1) rfl HX.out) rfl ?_
       exact jdB ED.out GX.out
      | ok zs =>
       obtain ⟨⟨t1, t2, t3⟩, rfl, ht⟩ := hq
       have bv := BV.out w3 hg3
       have v1 : w3.cell? ⟨w1.heap.size, 1, none⟩ = some (.int .i64 ty) := (cell_of_row _ _ 1 _ _ (0, 0) bv).trans rfl
       have v2 : w3.cell? ⟨w1.heap.size, 2, none⟩ = some (.slice s1 s2 s3) := (cell_of_row _ _ 2 _ _ (0, 0) bv).trans rfl
       obtain ⟨hX, gX⟩ := ja5 (.int .i64 ty) (.slice s1 s2 s3) (.slice t1 t2 t3) B3
       have HX := jae hX
       have GX := jae (jas G3.out gX (by omega))
       have z0 := Z0.out
       have z1 := g0.out.size
       have z2 := G2.out.size
       have OD := jae (((HO.out.more (jaa G12.out hg3) (by cases (Sl.v ⟨s1, s2, s3⟩).ownBlock <;> simp)).base_le (b' := w0.heap.size) (Nat.le_refl _)).more gX (jcE HO.out.1 (by omega)))
       have OT : Hid (jaI _ w2.heap.size (Sl.v ⟨t1, t2, t3⟩) zs) := ht.more gX (jcE ht.1 (by omega))
       clear hX gX B3 hg3 hmr bv ht z0 z1 z2
       go_wp2
       refine bodyPost_ret (jbk rfl _ _ (w.heap.size + 1) rfl HX.out) rfl ?_
       exact jjD (d := ⟨s1, s2, s3⟩) (t := ⟨t1, t2, t3⟩) ED.out GX.out (OD.out.base_le (by have := g0.out.size; omega)) ⟨ja6 OT.out.1 (by have := g0.out.size; have := G2.out.size; omega), OT.out.2⟩
theorem jpg (n : Nod) (u : Sl) (r : R (Int × List Int × List Int)) (w : World) (BC : ∀ wx, w.grownBy wx none → Calls Tryz.prog 14 #[jaL n, .slice u.a u.n u.c, .func (.func 17) #[] #[]] wx (DoQ wx r)) :
    Calls Tryz.prog 11 #[jaL n, .slice u.a u.n u.c] w (DoQ w r) := by
     obtain ⟨w0, hw0⟩ : ∃ w0, w0 = (w.alloc (.cells #[.string n.op, .string n.name, .slice n.iv.a n.iv.n n.iv.c, .string n.out, .slice n.av.a n.av.n n.av.c] 35)).alloc (.cells #[.int .i64 0, .slice none 0 0, .slice none 0 0] 25) := ⟨_, rfl⟩
     have g0 : Hid (w.grownBy w0 none) := by show w.grownBy w0 none; rw [hw0]; exact jaa (jab _ _) (jab _ _)
     have hbx := jax w (.cells #[.string n.op, .string n.name, .slice n.iv.a n.iv.n n.iv.c, .string n.out, .slice n.av.a n.av.n n.av.c] 35) (.cells #[.int .i64 0, .slice none 0 0, .slice none 0 0] 25)
     rw [← hw0] at hbx
     have BX : Hid (∀ wx, w0.grownBy wx none → wx.heap[w.heap.size + 1]? = some (.cells #[.int .i64 0, .slice none 0 0, .slice none 0 0] 25 (0, 0))) := fun wx hg => jad hbx.2 hg
     have Z0 : Hid (w.heap.size + 1 < w0.heap.size) := (Array.getElem?_eq_some_iff.1 hbx.2).1
     have N1 := jae (BC w0 g0.out)
     clear hbx BC
     obtain ⟨op, nam, ⟨ia, il, ic⟩, out, ⟨ao, al, cap⟩⟩ := n
     obtain ⟨ua, un, uc⟩ := u
     unfold jaL at N1 ⊢
     simp only at N1 hw0 ⊢
     go_enter Tryz.func11, Tryz.ntmps11
     go_wp2_with fail
     rw [← hw0]
     clear hw0
     refine N1.out.mono ?_
     rintro e w3 ⟨hg3, hq⟩
     have B3 := BX.out w3 hg3
     have G3 := jae (jaa g0.out hg3)
     obtain ⟨f0, f1, f2⟩ := jaJ B3
     have c0 : w3.cell? ⟨w.heap.size + 1, 0, none⟩ = some (.int .i64 0) := (cell_of_row _ _ 0 _ _ (0, 0) B3).trans rfl
     have c1 : w3.cell? ⟨w.heap.size + 1, 1, none⟩ = some (.slice none 0 0) := (cell_of_row _ _ 1 _ _ (0, 0) B3).trans rfl
     have c2 : w3.cell? ⟨w.heap.size + 1, 2, none⟩ = some (.slice none 0 0) := (cell_of_row _ _ 2 _ _ (0, 0) B3).trans rfl
     cases r with
     | error c =>
      obtain rfl := hq
      obtain ⟨hX, gX⟩ := ja5 (.int .i64 0) (.slice none 0 0) (.slice none 0 0) B3
      have HX := jae hX
      have GX := jae (jas G3.out gX (by omega))
      clear hX gX B3 hg3
      go_wp2
      refine bodyPost_ret (jbk rfl _ _ (w.heap.size + 1) rfl HX.out) rfl ?_
      exact jdB rfl GX.out
     | ok rr =>
      obtain ⟨ty, l, zs⟩ := rr
      obtain ⟨⟨ty', ⟨s1, s2, s3⟩, ⟨t1, t2, t3⟩⟩, e1, rfl, hd, ht⟩ := hq
      simp only at e1
      subst e1
      obtain ⟨hX, gX⟩ := ja5 (.int .i64 ty') (.slice s1 s2 s3) (.slice t1 t2 t3) B3
      have HX := jae hX
      have GX := jae (jas G3.out gX (by omega))
      have OD := jae (hd.more gX (jcE hd.1 Z0.out))
      have OT := jae (ht.more gX (jcE ht.1 Z0.out))
      clear hX gX B3 hg3 hd ht
      unfold jdL
      go_wp2
      refine bodyPost_ret (jbk rfl _ _ (w.heap.size + 1) rfl HX.out) rfl ?_
      exact jjD (d := ⟨s1, s2, s3⟩) (t := ⟨t1, t2, t3⟩) rfl GX.out (OD.out.base_le (by have := g0.out.size; omega)) ⟨ja6 OT.out.1 (by have := g0.out.size; omega), OT.out.2⟩
end Go.Proofs.YtkefdkboejimeaaGreatDoor
namespace Go.Proofs.YtkefdkboejimeaaGreatDoor
open Go.RowKit
theorem jny (n : Nod) (u : Sl) (R0 : R (Int × List Int)) (M : List Int → R (List Int)) (w : World) (h1 : ∀ c, R0 = .error c → c ≠ 0) (h2 : ∀ l c, M l = .error c → c ≠ 0)
    (NC : ∀ wx, w.grownBy wx none → Calls Tryz.prog 24 #[jaL n, .slice u.a u.n u.c] wx (jju n.out wx R0))
    (MC : ∀ (wx : World) (ty : Int) (dv : Sl) (l : List Int), w.grownBy wx none → R0 = .ok (ty, l) → IsInts wx dv.v l → Calls Tryz.prog 16 #[jaL n, .slice u.a u.n u.c, .agg #[.string n.out, .int .i64 ty, .slice dv.a dv.n dv.c]] wx (EvQ wx (M l))) :
    Calls Tryz.prog 14 #[jaL n, .slice u.a u.n u.c, .func (.func 16) #[] #[]] w (DoQ w (doR R0 M)) := by
     have H1 := jae h1
     have H2 := jae h2
     have HMC := jae MC
     clear h1 h2 MC
     obtain ⟨w0, hw0⟩ : ∃ w0, w0 = (w.alloc (.cells #[.string n.op, .string n.name, .slice n.iv.a n.iv.n n.iv.c, .string n.out, .slice n.av.a n.av.n n.av.c] 35)).alloc (.cells #[.int .i64 0, .slice none 0 0, .slice none 0 0] 25) := ⟨_, rfl⟩
     have g0 : Hid (w.grownBy w0 none) := by show w.grownBy w0 none; rw [hw0]; exact jaa (jab _ _) (jab _ _)
     have hbx := jax w (.cells #[.string n.op, .string n.name, .slice n.iv.a n.iv.n n.iv.c, .string n.out, .slice n.av.a n.av.n n.av.c] 35) (.cells #[.int .i64 0, .slice none 0 0, .slice none 0 0] 25)
     rw [← hw0] at hbx
     have BN : Hid (∀ wx, w0.grownBy wx none → wx.heap[w.heap.size]? = some (.cells #[.string n.op, .string n.name, .slice n.iv.a n.iv.n n.iv.c, .string n.out, .slice n.av.a n.av.n n.av.c] 35 (0, 0))) := fun wx hg => jad hbx.1 hg
     have BX : Hid (∀ wx, w0.grownBy wx none → wx.heap[w.heap.size + 1]? = some (.cells #[.int .i64 0, .slice none 0 0, .slice none 0 0] 25 (0, 0))) := fun wx hg => jad hbx.2 hg
     have Z0 : Hid (w.heap.size + 1 < w0.heap.size) := (Array.getElem?_eq_some_iff.1 hbx.2).1
     have N1 := jae (NC w0 g0.out)
     clear hbx NC
     obtain ⟨op, nam, ⟨ia, il, ic⟩, out, ⟨ao, al, cap⟩⟩ := n
     obtain ⟨ua, un, uc⟩ := u
     unfold jaL at HMC N1 ⊢
     simp only at HMC N1 BN hw0 ⊢
     go_enter Tryz.func14, Tryz.ntmps14
     go_wp2_with fail
     rw [← hw0]
     clear hw0
     refine N1.out.mono ?_
     rintro e w1 ⟨hg1, hq⟩
     have G1 := jae hg1
     cases R0 with
     | error c =>
      obtain rfl := hq
      have hc := H1.out c rfl
      have bc : (c != 0) = true := by simpa using hc
      obtain ⟨w2, hw2⟩ : ∃ w2, w2 = w1.alloc (.cells #[.string ⟨#[]⟩, .int .i64 0, .slice none 0 0] 53) := ⟨_, rfl⟩
      have g2 : w1.grownBy w2 none := by rw [hw2]; exact jab _ _
      have B1 := BX.out w2 (jaa hg1 g2)
      obtain ⟨f0, f1, f2⟩ := jaJ B1
      have c0 : w2.cell? ⟨w.heap.size + 1, 0, none⟩ = some (.int .i64 0) := (cell_of_row _ _ 0 _ _ (0, 0) B1).trans rfl
      have c1 : w2.cell? ⟨w.heap.size + 1, 1, none⟩ = some (.slice none 0 0) := (cell_of_row _ _ 1 _ _ (0, 0) B1).trans rfl
      have c2 : w2.cell? ⟨w.heap.size + 1, 2, none⟩ = some (.slice none 0 0) := (cell_of_row _ _ 2 _ _ (0, 0) B1).trans rfl
      obtain ⟨hX, gX⟩ := ja5 (.int .i64 0) (.slice none 0 0) (.slice none 0 0) B1
      have HX := jae hX
      have GX := jae (jas (jaa g0.out (jaa hg1 g2)) gX (by omega))
      rw [hw2] at f0 f1 f2 c0 c1 c2 HX GX
      clear hX gX B1 hc hg1 g2 hw2
      go_wp2
      refine bodyPost_ret (jbk rfl _ _ (w.heap.size + 1) rfl HX.out) rfl ?_
      exact jdB rfl GX.out
     | ok rr =>
      obtain ⟨ty, l⟩ := rr
      obtain ⟨⟨s1, s2, s3⟩, rfl, ho⟩ := hq
      obtain ⟨w2, hw2⟩ : ∃ w2, w2 = w1.alloc (.cells #[.string out, .int .i64 ty, .slice s1 s2 s3] 53) := ⟨_, rfl⟩
      have g2 : w1.grownBy w2 none := by rw [hw2]; exact jab _ _
      have hB2 := heap_alloc_new w1 (.cells #[.string out, .int .i64 ty, .slice s1 s2 s3] 53)
      rw [← hw2] at hB2
      have BV : Hid (∀ wx, w2.grownBy wx none → wx.heap[w1.heap.size]? = some (.cells #[.string out, .int .i64 ty, .slice s1 s2 s3] 53 (0, 0))) := fun wx hg => jad hB2 hg
      have HO := jae ho
      obtain ⟨n0, n1, n2, n3, n4⟩ := jai (n := ⟨op, nam, ⟨ia, il, ic⟩, out, ⟨ao, al, cap⟩⟩) (BN.out w2 (jaa hg1 g2))
      have M1 := jae (HMC.out w2 ty ⟨s1, s2, s3⟩ l (jaa g0.out (jaa hg1 g2)) rfl (ho.ints.more g2))
      have G2 := jae (jaa hg1 g2)
      have G12 := jae g2
      simp only at n0 n1 n2 n3 n4 M1
      rw [hw2] at n0 n1 n2 n3 n4
      clear ho hg1 g2 hB2
      go_wp2_with fail
      rw [← hw2]
      clear hw2 n0 n1 n2 n3 n4
      refine M1.out.mono ?_
      rintro e w3 ⟨hg3, hq⟩
      have B3 := BX.out w3 (jaa G2.out hg3)
      have G3 := jae (jaa g0.out (jaa G2.out hg3))
      obtain ⟨f0, f1, f2⟩ := jaJ B3
      have c0 : w3.cell? ⟨w.heap.size + 1, 0, none⟩ = some (.int .i64 0) := (cell_of_row _ _ 0 _ _ (0, 0) B3).trans rfl
      have c1 : w3.cell? ⟨w.heap.size + 1, 1, none⟩ = some (.slice none 0 0) := (cell_of_row _ _ 1 _ _ (0, 0) B3).trans rfl
      have c2 : w3.cell? ⟨w.heap.size + 1, 2, none⟩ = some (.slice none 0 0) := (cell_of_row _ _ 2 _ _ (0, 0) B3).trans rfl
      obtain ⟨mr, hmr⟩ : ∃ mr, mr = M l := ⟨_, rfl⟩
      rw [← hmr] at hq
      have ED : Hid (doR (.ok (ty, l)) M = mr.map fun zs => (ty, l, zs)) := by rw [hmr]; rfl
      cases mr with
      | error c =>
       obtain rfl := hq
       have hc := H2.out l c hmr.symm
       have bc : (c != 0) = true := by simpa using hc
       obtain ⟨hX, gX⟩ := ja5 (.int .i64 0) (.slice none 0 0) (.slice none 0 0) B3
       have HX := jae hX
       have GX := jae (jas G3.out gX (by omega))
       clear hX gX B3 hc hg3 hmr
       go_wp2
       refine bodyPost_ret (jbk rfl _ _ (w.heap.size + 1) rfl HX.out) rfl ?_
       exact jdB ED.out GX.out
      | ok zs =>
       obtain ⟨⟨t1, t2, t3⟩, rfl, ht⟩ := hq
       have bv := BV.out w3 hg3
       have v1 : w3.cell? ⟨w1.heap.size, 1, none⟩ = some (.int .i64 ty) := (cell_of_row _ _ 1 _ _ (0, 0) bv).trans rfl
       have v2 : w3.cell? ⟨w1.heap.size, 2, none⟩ = some (.slice s1 s2 s3) := (cell_of_row _ _ 2 _ _ (0, 0) bv).trans rfl
       obtain ⟨hX, gX⟩ := ja5 (.int .i64 ty) (.slice s1 s2 s3) (.slice t1 t2 t3) B3
       have HX := jae hX
       have GX := jae (jas G3.out gX (by omega))
       have z0 := Z0.out
       have z1 := g0.out.size
       have z2 := G2.out.size
       have OD := jae (((HO.out.more (jaa G12.out hg3) (by cases (Sl.v ⟨s1, s2, s3⟩).ownBlock <;> simp)).base_le (b' := w0.heap.size) (Nat.le_refl _)).more gX (jcE HO.out.1 (by omega)))
       have OT : Hid (jaI _ w2.heap.size (Sl.v ⟨t1, t2, t3⟩) zs) := ht.more gX (jcE ht.1 (by omega))
       clear hX gX B3 hg3 hmr bv ht z0 z1 z2
       go_wp2
       refine bodyPost_ret (jbk rfl _ _ (w.heap.size + 1) rfl HX.out) rfl ?_
       exact jjD (d := ⟨s1, s2, s3⟩) (t := ⟨t1, t2, t3⟩) ED.out GX.out (OD.out.base_le (by have := g0.out.size; omega)) ⟨ja6 OT.out.1 (by have := g0.out.size; have := G2.out.size; omega), OT.out.2⟩
theorem jph (n : Nod) (u : Sl) (r : R (Int × List Int × List Int)) (w : World) (BC : ∀ wx, w.grownBy wx none → Calls Tryz.prog 14 #[jaL n, .slice u.a u.n u.c, .func (.func 16) #[] #[]] wx (DoQ wx r)) :
    Calls Tryz.prog 10 #[jaL n, .slice u.a u.n u.c] w (DoQ w r) := by
     obtain ⟨w0, hw0⟩ : ∃ w0, w0 = (w.alloc (.cells #[.string n.op, .string n.name, .slice n.iv.a n.iv.n n.iv.c, .string n.out, .slice n.av.a n.av.n n.av.c] 35)).alloc (.cells #[.int .i64 0, .slice none 0 0, .slice none 0 0] 25) := ⟨_, rfl⟩
     have g0 : Hid (w.grownBy w0 none) := by show w.grownBy w0 none; rw [hw0]; exact jaa (jab _ _) (jab _ _)
     have hbx := jax w (.cells #[.string n.op, .string n.name, .slice n.iv.a n.iv.n n.iv.c, .string n.out, .slice n.av.a n.av.n n.av.c] 35) (.cells #[.int .i64 0, .slice none 0 0, .slice none 0 0] 25)
     rw [← hw0] at hbx
     have BX : Hid (∀ wx, w0.grownBy wx none → wx.heap[w.heap.size + 1]? = some (.cells #[.int .i64 0, .slice none 0 0, .slice none 0 0] 25 (0, 0))) := fun wx hg => jad hbx.2 hg
     have Z0 : Hid (w.heap.size + 1 < w0.heap.size) := (Array.getElem?_eq_some_iff.1 hbx.2).1
     have N1 := jae (BC w0 g0.out)
     clear hbx BC
     obtain ⟨op, nam, ⟨ia, il, ic⟩, out, ⟨ao, al, cap⟩⟩ := n
     obtain ⟨ua, un, uc⟩ := u
     unfold jaL at N1 ⊢
     simp only at N1 hw0 ⊢
     go_enter Tryz.func10, Tryz.ntmps10
     go_wp2_with fail
     rw [← hw0]
     clear hw0
     refine N1.out.mono ?_
     rintro e w3 ⟨hg3, hq⟩
     have B3 := BX.out w3 hg3
     have G3 := jae (jaa g0.out hg3)
     obtain ⟨f0, f1, f2⟩ := jaJ B3
     have c0 : w3.cell? ⟨w.heap.size + 1, 0, none⟩ = some (.int .i64 0) := (cell_of_row _ _ 0 _ _ (0, 0) B3).trans rfl
     have c1 : w3.cell? ⟨w.heap.size + 1, 1, none⟩ = some (.slice none 0 0) := (cell_of_row _ _ 1 _ _ (0, 0) B3).trans rfl
     have c2 : w3.cell? ⟨w.heap.size + 1, 2, none⟩ = some (.slice none 0 0) := (cell_of_row _ _ 2 _ _ (0, 0) B3).trans rfl
     cases r with
     | error c =>
      obtain rfl := hq
      obtain ⟨hX, gX⟩ := ja5 (.int .i64 0) (.slice none 0 0) (.slice none 0 0) B3
      have HX := jae hX
      have GX := jae (jas G3.out gX (by omega))
      clear hX gX B3 hg3
      go_wp2
      refine bodyPost_ret (jbk rfl _ _ (w.heap.size + 1) rfl HX.out) rfl ?_
      exact jdB rfl GX.out
     | ok rr =>
      obtain ⟨ty, l, zs⟩ := rr
      obtain ⟨⟨ty', ⟨s1, s2, s3⟩, ⟨t1, t2, t3⟩⟩, e1, rfl, hd, ht⟩ := hq
      simp only at e1
      subst e1
      obtain ⟨hX, gX⟩ := ja5 (.int .i64 ty') (.slice s1 s2 s3) (.slice t1 t2 t3) B3
      have HX := jae hX
      have GX := jae (jas G3.out gX (by omega))
      have OD := jae (hd.more gX (jcE hd.1 Z0.out))
      have OT := jae (ht.more gX (jcE ht.1 Z0.out))
      clear hX gX B3 hg3 hd ht
      unfold jdL
      go_wp2
      refine bodyPost_ret (jbk rfl _ _ (w.heap.size + 1) rfl HX.out) rfl ?_
      exact jjD (d := ⟨s1, s2, s3⟩) (t := ⟨t1, t2, t3⟩) rfl GX.out (OD.out.base_le (by have := g0.out.size; omega)) ⟨ja6 OT.out.1 (by have := g0.out.size; omega), OT.out.2⟩
end Go.Proofs.YtkefdkboejimeaaGreatDoor
namespace Go.Proofs.YtkefdkboejimeaaGreatDoor
open Go.RowKit
theorem jh1 (n : Nod) (A : At) (hop : n.op = ⟨#[84, 114, 97, 110, 115, 112, 111, 115, 101]⟩) (u : Sl) (T0 : Ten) (x xs : List Int) (nam0 : ByteArray) (vty : Int) (dv : Sl) (l : List Int) (w : World) (hno : NodeOk w n A) (hv : TensIn w u.v [(T0, (x, xs))]) (hd : IsInts w dv.v l) (hl : l.length = x.length) (hc : ja3 x = 0) (hp : Vw.IsPerm (jeL A x.length) x.length) (hr : Vw.rdOk 0 (Vw.pickL x (jeL A x.length)) (Vw.pickL (jbs x) (jeL A x.length)) xs = true) :
    Calls Tryz.prog 16 #[jaL n, .slice u.a u.n u.c, .agg #[.string nam0, .int .i64 vty, .slice dv.a dv.n dv.c]] w (EvQ w (.ok (Vw.rdL 0 (Vw.pickL x (jeL A x.length)) (Vw.pickL (jbs x) (jeL A x.length)) xs))) := by
     have hfew := (jaH hc).few
     obtain ⟨P, hP⟩ : ∃ P, P = jeL A x.length := ⟨_, rfl⟩
     rw [← hP] at hp hr ⊢
     have hPl : P.length = x.length := hp.1
     have PM : Hid (∀ wx, w.grownBy wx none → Calls Tryz.prog 35 #[jaL n, .int .i64 x.length] wx fun e w' => ∃ u : Sl, e = .returned u.v ∧ IsInts w' u.v P ∧ wx.grownBy w' none) := fun wx hx => by rw [hP]; exact jiw n A x.length wx (hno.more hx) (by omega)
     obtain ⟨za, zn, zc⟩ := dv
     obtain ⟨zx, zc', ez, -⟩ := hd.sl
     simp only [Sl.v, Value.slice.injEq] at ez
     obtain ⟨rfl, rfl, rfl⟩ := ez
     rw [hl]
     obtain ⟨xa, xc, e1, p1, p2, p3⟩ := hv.vals.form
     obtain ⟨ua, un, uc⟩ := u
     simp only [Sl.v, List.map_cons, List.map_nil, List.length_cons, List.length_nil, Value.slice.injEq] at e1
     obtain ⟨rfl, rfl, rfl⟩ := e1
     obtain ⟨ub, uo, rfl⟩ := hv.vals.addr (k := 0) (by simp)
     obtain ⟨t0, t1, t2⟩ := hv.at 0 (by simp)
     have HH0 := jae (hv.has (T0, (x, xs)) (by simp))
     obtain ⟨tx, ⟨xda, xdn, xdc⟩, ⟨xta, xtn, xtc⟩⟩ := T0
     simp only [List.getElem_cons_zero, Nat.zero_mul, Nat.add_zero] at t0 t1 t2 HH0
     have AS : Hid (∀ (wx : World) (lv : Sl), w.grownBy wx none → IsInts wx lv.v P → Calls Tryz.prog 29 #[.agg #[.int .i64 tx, .slice xda xdn xdc, .slice xta xtn xtc], .func (.func 33) #[] #[], .slice lv.a lv.n lv.c] wx (AstQ wx x xs P)) := fun wx lv hx hlv => jlt ⟨tx, ⟨xda, xdn, xdc⟩, ⟨xta, xtn, xtc⟩⟩ x xs P lv wx hc hp (HH0.out.1.more hx) (HH0.out.2.more hx) hlv
     have RE : Hid (Vw.rdE 0 (Vw.pickL x P) (Vw.pickL (jbs x) P) xs = 0) := if_pos hr
     obtain ⟨op, nam, ⟨ia, il, ic⟩, out, ⟨ao, al, cap⟩⟩ := n
     simp only at hop
     subst hop
     unfold jaL at PM ⊢
     simp only at PM ⊢
     obtain ⟨w0, hw0⟩ : ∃ w0, w0 = (w.alloc (.cells #[.string ⟨#[84, 114, 97, 110, 115, 112, 111, 115, 101]⟩, .string nam, .slice ia il ic, .string out, .slice ao al cap] 35)).alloc (.cells #[.string nam0, .int .i64 vty, .slice za x.length zc] 53) := ⟨_, rfl⟩
     have g0 : w.grownBy w0 none := by rw [hw0]; exact jaa (jab _ _) (jab _ _)
     have hbx := jax w (.cells #[.string ⟨#[84, 114, 97, 110, 115, 112, 111, 115, 101]⟩, .string nam, .slice ia il ic, .string out, .slice ao al cap] 35) (.cells #[.string nam0, .int .i64 vty, .slice za x.length zc] 53)
     rw [← hw0] at hbx
     obtain ⟨n0, n1, n2, n3, n4⟩ := jai (n := ⟨⟨#[84, 114, 97, 110, 115, 112, 111, 115, 101]⟩, nam, ⟨ia, il, ic⟩, out, ⟨ao, al, cap⟩⟩) hbx.1
     obtain ⟨v0, v1, v2⟩ := jal hbx.2
     have t0 := jac t0 g0
     have t1 := jac t1 g0
     have t2 := jac t2 g0
     have G0 := jae g0
     have i0' : (0 : Int) < 1 := by decide
     have HPL : Hid (P.length ≤ 1000) := by show P.length ≤ 1000; omega
     clear hbx hv hd hno hc hp hr hfew hP hPl g0 p1 p2 p3
     rw [hw0] at n0
     go_enter Tryz.func16, Tryz.ntmps16
     go_wp2_with fail
     rw [← hw0]
     rw [← hw0] at n0
     clear hw0
     refine wp_region_held_drew (S := fun w' => w0.grownBy w' none) (by kernel_rfl) (jag (jaf _)) (fun hHeld => ?_)
     refine tkE 0 ?_ (hv := by intro wS hSw; go_simp; (try with_reducible rfl))
     try simp only [Act.put]
     refine tkE 1 ?_ (hv := by intro wS hSw; go_simp; (try with_reducible rfl))
     try simp only [Act.put]
     refine tkE 2 ?_ (hv := by intro wS hSw; have c0 := jac t0 hSw; have c1 := jac t1 hSw; have c2 := jac t2 hSw; go_simp; (try with_reducible rfl))
     try simp only [Act.put]
     refine tkE 3 ?_ (hv := by intro wS hSw; have c0 := jac n0 hSw; have c1 := jac n1 hSw; have c2 := jac n2 hSw; have c3 := jac n3 hSw; have c4 := jac n4 hSw; go_simp; (try with_reducible rfl))
     try simp only [Act.put]
     refine tkE 4 ?_ (hv := by intro wS hSw; go_simp; (try with_reducible rfl))
     try simp only [Act.put]
     refine tkE 5 ?_ (hv := by intro wS hSw; have c0 := jac v2 hSw; go_simp; (try with_reducible rfl))
     try simp only [Act.put]
     refine tkE 6 ?_ (hv := by intro wS hSw; go_simp; (try with_reducible rfl))
     try simp only [Act.put]
     refine rdA 7 fun K hK => ?_
     go_simp
     refine (PM.out w0.drew (jag G0.out)).mono ?_
     rintro e w1 ⟨⟨pa, pn, pc⟩, rfl, ip, hg1⟩
     have g1 : w0.grownBy w1 none := jaa (jag (jaf _)) hg1
     refine hK.out _ _ g1 (fun hHeld => ?_)
     clear hK K
     try simp only [Act.put]
     refine rdA 8 fun K hK => ?_
     go_simp
     refine (jjC ⟨pa, pn, pc⟩ P w1 ip HPL.out).mono ?_
     rintro e w2 ⟨⟨qa, qn, qc⟩, rfl, iq, hg2⟩
     have g2 : w0.grownBy w2 none := jaa g1 hg2
     refine hK.out _ _ g2 (fun hHeld => ?_)
     clear hK K
     try simp only [Act.put]
     refine rdA 9 fun K hK => ?_
     go_simp
     refine (AS.out w2 ⟨qa, qn, qc⟩ (jaa G0.out g2) iq).mono ?_
     rintro e w3 ⟨⟨ra, rn, rc⟩, rfl, ho3, hg3⟩
     have g3 : w0.grownBy w3 none := jaa g2 hg3
     rw [RE.out]
     refine hK.out _ _ g3 (fun hHeld => ?_)
     clear hK K
     refine tkE 10 ?_ (hv := by intro wS hSw; go_simp; (try with_reducible rfl))
     try simp only [Act.put]
     refine tkE 11 ?_ (hv := by intro wS hSw; go_simp; (try with_reducible rfl))
     try simp only [Act.put]
     refine tkE 12 ?_ (hv := by intro wS hSw; go_simp; (try with_reducible rfl))
     try simp only [Act.put]
     refine tkE 13 ?_ (hv := by intro wS hSw; go_simp; (try with_reducible rfl))
     try simp only [Act.put]
     refine wpAnyH_done (by kernel_rfl) ?_ _
     have HO : Hid (jaI w3 w.heap.size (.slice ra rn rc) (Vw.rdL 0 (Vw.pickL x P) (Vw.pickL (jbs x) P) xs)) := ⟨ja6 ho3.1 (Nat.le_trans G0.out.size g2.size), ho3.2⟩
     have HG := jae (jaa G0.out g3)
     clear ho3 hg3 g3 hg2 g2 hg1 g1 ip iq t0 t1 t2 n0 n1 n2 n3 n4 v0 v1 v2 hHeld
     go_simp
     go_wp2
     go_ret2
     exact jp0 rfl HG.out ⟨⟨ra, rn, rc⟩, rfl, HO.out⟩
end Go.Proofs.YtkefdkboejimeaaGreatDoor
