/- Joined texts: MvPart, MvStart. -/
import Derived.Test.YtaoplfpigjkgpaaGreatDoorPartBP
import Derived.Test.YtaoplfpigjkgpaaGreatDoorPartBI
import Derived.Test.YtaoplfpigjkgpaaGreatDoorPartBD
import Derived.Deep.RegionWith
import Derived.Deep.RegionHeld3
import Derived.Test.YtaoplfpigjkgpaaGreatDoorPartAY
namespace Go.Proofs.YtaoplfpigjkgpaaGreatDoor

open Go.RowKit

def VB (B C : Nat) (wr : World) (off : Int) (ds ss : List Int) : Prop :=
  ∃ d s : Sl, wr.heap[B]? = some (.cells #[.int .i64 off, .slice d.a d.n d.c, .slice s.a s.n s.c] 72 (0, 0)) ∧ ∀ wm wx wy, wr.grownBy wm (some B) → wm.grownBy wx (some (B + 1)) → wx.grownBy wy (some C) → IsInts wy d.v ds ∧ IsInts wy s.v ss

theorem sub_part {a b : World} {B : Nat} (h : a.grownBy b none) : a.grownBy b (some B) := ⟨h.1, h.2, h.3, h.4, fun i hi _ => h.5 i hi (by simp)⟩

set_option maxRecDepth 100000 in
set_option maxHeartbeats 16000000 in
theorem part_any (vda vsa : Option Addr) (vdn vdc vsn vsc : Nat) (off : Int) (ds ss dims st : List Int) (dv sv : Sl) (p C : Nat) (w : World) (hC : C < w.heap.size) (hV1 : ∀ wx, w.grownBy wx (some C) → IsInts wx (.slice vda vdn vdc) ds) (hV2 : ∀ wx, w.grownBy wx (some C) → IsInts wx (.slice vsa vsn vsc) ss) (hm : Vw.MayV off ds ss) (hd : IsInts w dv.v dims) (hs : IsInts w sv.v st) (hp : w.heap[p]? = some (.cells #[.slice sv.a sv.n sv.c] 29 (0, 0))) (hP : Parts ds st dims) (hmax : off + Vw.lst ds ss ≤ 65535) :
    Calls Tryz.prog 52 #[.agg #[.int .i64 off, .slice vda vdn vdc, .slice vsa vsn vsc], .slice dv.a dv.n dv.c, .pointer (some ⟨p, 0, none⟩)] w fun e w' => ∃ u : Value, e = .returned (.tuple #[u, .int .i64 0]) ∧ (∀ wy, w'.grownBy wy (some C) → Vw.IsView wy u (offK off ss st ds.length) dims ss) ∧ w.grownBy w' none := by
  have HP := hide hP
  have HM := hide hm
  have HMX := hide hmax
  have HV1 := hide hV1
  have HV2 := hide hV2
  have HD := hide hd
  have HS := hide hs
  obtain ⟨da, dn, dc⟩ := dv
  obtain ⟨sa, sn, sc⟩ := sv
  obtain ⟨_, _, ed, -⟩ := hd.sl
  obtain ⟨_, _, es, -⟩ := hs.sl
  simp only [Sl.v, Value.slice.injEq] at ed es HD HS
  obtain ⟨-, rfl, -⟩ := ed
  obtain ⟨-, rfl, -⟩ := es
  simp only at hp ⊢
  have hfew := hm.fine.few
  have l1 : st.length = ds.length := hP.l1
  have l2 : dims.length = ds.length := hP.l2
  obtain ⟨n, hn⟩ : ∃ n, n = ds.length := ⟨_, rfl⟩
  rw [← hn] at l1 l2 hfew ⊢
  have HN := hide hn
  have L1 := hide l1
  have L2 := hide l2
  rw [l1] at hp HS
  rw [l2] at HD ⊢
  clear hn l1 l2 hV1 hV2 hm hd hs hP hmax
  obtain ⟨w0, hw0⟩ : ∃ w0, w0 = (w.alloc (.cells #[.int .i64 off, .slice vda vdn vdc, .slice vsa vsn vsc] 72)).alloc (.cells #[.int .i64 0, .slice none 0 0, .slice none 0 0] 72) := ⟨_, rfl⟩
  have hbx := two_boxes w (.cells #[.int .i64 off, .slice vda vdn vdc, .slice vsa vsn vsc] 72) (.cells #[.int .i64 0, .slice none 0 0, .slice none 0 0] 72)
  rw [← hw0] at hbx
  have g0 : w.grownBy w0 none := by rw [hw0]; exact grown_trans (grown_new _ _) (grown_new _ _)
  have G0 := hide g0
  have BX := hide hbx.1
  have BZ := hide hbx.2
  have pl : p < w.heap.size := (Array.getElem?_eq_some_iff.1 hp).1
  have q0 : w0.cell? ⟨p, 0, none⟩ = some (.slice sa n sc) := (cell_of_row _ _ 0 _ _ (0, 0) (box_kept hp g0)).trans rfl
  rw [hw0] at q0
  clear hbx hp
  go_enter Tryz.func52, Tryz.ntmps52
  go_wp2_with fail
  rw [← hw0]
  clear hw0 q0
  go_loopw [12] (fun x wr => w.grownBy wr none ∧ ∃ k : Nat, k ≤ n ∧ x = .int .i64 k ∧ VB w.heap.size C wr (offK off ss st k) (cutD ds dims k) ss ∧ wr.heap[w.heap.size + 1]? = some (.cells #[.int .i64 0, .slice none 0 0, .slice none 0 0] 72 (0, 0))) (fun x _ => n - (intOf x).toNat)
  case atStart =>
    refine ⟨G0.out, 0, Nat.zero_le _, rfl, ⟨⟨vda, vdn, vdc⟩, ⟨vsa, vsn, vsc⟩, ?_, fun wm wx wy hm hx hy => ?_⟩, BZ.out⟩
    · rw [show offK off ss st 0 = off from by simp [offK, Vw.dot]]
      exact BX.out
    · rw [show cutD ds dims 0 = ds from by simp [cutD]]
      have g := grown_drop (grown_drop G0.out hm (Nat.le_refl _)) hx (by omega)
      exact ⟨HV1.out wy (grown_same (sub_part g) hy), HV2.out wy (grown_same (sub_part g) hy)⟩
  case round =>
    obtain ⟨hg, k, hk, rfl, ⟨⟨ea, en, ec⟩, ⟨fa, fn, fc⟩, hb, hI⟩, hz⟩ := hrel
    simp only at hb hI
    have HG := hide hg
    have HB := hide hb
    have HI := hide hI
    have HZ := hide hz
    clear hI hz
    by_cases hlt : k < n
    · obtain ⟨sb, so, rfl, hcs⟩ := HS.out.get (k := k) (by rw [L1.out]; exact hlt)
      obtain ⟨db, dof, rfl, hcd⟩ := HD.out.get (k := k) (by rw [L2.out]; exact hlt)
      have q1 := cell_still (hcs k (by rw [L1.out]; exact hlt)) hg
      have q2 := hcd k (by rw [L2.out]; exact hlt)
      have hok := HP.out.ok k (by rw [← HN.out]; exact hlt)
      have hdk := HM.out.fine.at k (by rw [← HN.out]; exact hlt)
      have hdk2 : ds.getD k 0 ≤ 65536 := HM.out.fine.le_each (by rw [List.getD, List.getElem?_eq_getElem (by rw [← HN.out]; exact hlt)]; exact List.getElem_mem _)
      have STEP := hide (fun (E off' : Int) (ds' ss' : List Int) => part_step HM.out HP.out HMX.out k (by rw [← HN.out]; exact hlt) (E := E) (off' := off') (ds' := ds') (ss' := ss'))
      obtain ⟨sk, hsk⟩ : ∃ z, z = st.getD k 0 := ⟨_, rfl⟩
      obtain ⟨dk, hdk'⟩ : ∃ z, z = dims.getD k 0 := ⟨_, rfl⟩
      rw [← hsk] at q1 hok STEP
      rw [← hdk'] at q2 hok STEP
      have hw : IntKind.i64.wrap (sk + dk) = sk + dk := by rw [wrap_i64_eq]; unfold wrap64; omega
      have MV := part_may HM.out HP.out HMX.out k
      have mlo := MV.lo
      have mhi := MV.hi
      obtain ⟨O, hO⟩ : ∃ z, z = offK off ss st k := ⟨_, rfl⟩
      rw [← hO] at HB STEP mlo mhi
      have SL : Hid (∀ wx, wr.grownBy wx none → Calls Tryz.prog 53 #[.agg #[.int .i64 O, .slice ea en ec, .slice fa fn fc], .int .i64 k, .int .i64 sk, .int .i64 (sk + dk)] wx fun e w' => ∃ u off' ds' ss', e = .returned (.tuple #[u, .int .i64 0]) ∧ (off' = offK off ss st (k + 1) ∧ ds' = cutD ds dims (k + 1) ∧ ss' = ss) ∧ Vw.OwnView w' wx.heap.size u off' ds' ss' ∧ wx.grownBy w' none) := fun wx hx => by
        obtain ⟨i1, i2⟩ := HI.out wx wx wx (sub_part hx) (World.grownBy.refl _ _) (World.grownBy.refl _ _)
        refine (Vw.slice_any (.agg #[.int .i64 O, .slice ea en ec, .slice fa fn fc]) k sk (sk + dk) O (cutD ds dims k) ss wx ⟨_, _, rfl, i1, i2, by omega, by omega⟩ (by omega) (by omega) (by omega) (by omega) (by omega) (by omega)).mono ?_
        rintro e w' ⟨u, E, off', ds', ss', rfl, hsl, hov, hg'⟩
        obtain ⟨rfl, e1, e2, e3⟩ := STEP.out E off' ds' ss' hsl
        exact ⟨u, off', ds', ss', rfl, ⟨e1, e2, e3⟩, hov, hg'⟩
      have l1' : (k : Int) < (n : Int) := by omega
      have BL : w.heap.size < wr.heap.size := (Array.getElem?_eq_some_iff.1 hb).1
      clear hok hdk hdk2 hsk hdk' MV mlo mhi hO STEP hcs hcd hb
      have Q2 : Hid (∀ wx, w.grownBy wx none → wx.cell? ⟨db, dof + k, none⟩ = some (.int .i64 dk)) := fun wx hx => cell_still q2 hx
      clear q2
      go_wp2_with fail
      refine wp_region_held_drew (S := fun w' => wr.grownBy w' (some w.heap.size)) (by kernel_rfl) (by first | exact World.grownBy.refl _ _ | exact sub_part (grown_drew (grown_refl _))) (fun hHeld => ?_)
      refine wpAnyH_take (i := 1) (v := ?_) rfl (by kernel_rfl) (by kernel_rfl) (by kernel_rfl) (fun _ _ _ h => h) (Or.inl ⟨by kernel_rfl, ?_⟩) (by assumption) ?_
      rotate_left 1
      · (intro wS hSw; go_simp; (try with_reducible rfl))
      try simp only [Act.put]
      refine wpAnyH_take (i := 2) (v := ?_) rfl (by kernel_rfl) (by kernel_rfl) (by kernel_rfl) (fun _ _ _ h => h) (Or.inl ⟨by kernel_rfl, ?_⟩) (by assumption) ?_
      rotate_left 1
      · (intro wS hSw; go_simp; (try with_reducible rfl))
      try simp only [Act.put]
      refine wpAnyH_take (i := 3) (v := ?_) rfl (by kernel_rfl) (by kernel_rfl) (by kernel_rfl) (fun _ _ _ h => h) (Or.inl ⟨by kernel_rfl, ?_⟩) (by assumption) ?_
      rotate_left 1
      · (intro wS hSw; go_simp; (try with_reducible rfl))
      try simp only [Act.put]
      refine wpAnyH_take (i := 4) (v := ?_) rfl (by kernel_rfl) (by kernel_rfl) (by kernel_rfl) (fun _ _ _ h => h) (Or.inl ⟨by kernel_rfl, ?_⟩) (by assumption) ?_
      rotate_left 1
      · (intro wS hSw; go_simp; (try with_reducible rfl))
      try simp only [Act.put]
      refine wpAnyH_take (i := 5) (v := ?_) rfl (by kernel_rfl) (by kernel_rfl) (by kernel_rfl) (fun _ _ _ h => h) (Or.inl ⟨by kernel_rfl, ?_⟩) (by assumption) ?_
      rotate_left 1
      · (intro wS hSw; go_simp; (try with_reducible rfl))
      try simp only [Act.put]
      refine wpAnyH_take (i := 6) (v := ?_) rfl (by kernel_rfl) (by kernel_rfl) (by kernel_rfl) (fun _ _ _ h => h) (Or.inl ⟨by kernel_rfl, ?_⟩) (by assumption) ?_
      rotate_left 1
      · (intro wS hSw; go_simp; (try with_reducible rfl))
      try simp only [Act.put]
      refine wpAnyH_take (i := 7) (v := ?_) rfl (by kernel_rfl) (by kernel_rfl) (by kernel_rfl) (fun _ _ _ h => h) (Or.inl ⟨by kernel_rfl, ?_⟩) (by assumption) ?_
      rotate_left 1
      · (intro wS hSw; have c0 := Q2.out _ (grown_drop HG.out hSw (Nat.le_refl _)); go_simp; (try with_reducible rfl))
      try simp only [Act.put]
      refine wpAnyH_take (i := 8) (v := .int .i64 (sk + dk)) rfl (by kernel_rfl) (by kernel_rfl) (by kernel_rfl) (fun _ _ _ h => h) (Or.inl ⟨by kernel_rfl, ?_⟩) (by assumption) ?_
      · (intro wS hSw; go_simp; (try simp only [hw]))
      try simp only [Act.put]
      obtain ⟨k0, k1, k2, f0, f1, f2⟩ := Vw.box_cells HB.out
      refine wpAnyH_ready (rs := [0]) (by kernel_rfl) (by simp) ?_
      refine AllReadyH.cons rfl (fun K hK => ?_) AllReadyH.nil
      go_simp
      refine hK.out _ _ (by first | assumption | exact World.grownBy.refl _ _ | exact sub_part (grown_drew (grown_refl _))) (fun hHeld => ?_)
      clear hK K
      try simp only [Act.put]
      refine wpAnyH_ready (rs := [9]) (by kernel_rfl) (by simp) ?_
      refine AllReadyH.cons rfl (fun K hK => ?_) AllReadyH.nil
      go_simp
      refine (SL.out _ (by repeat (first | exact grown_refl _ | refine grown_drew ?_))).mono ?_
      rintro e v2 ⟨u, off', ds', ss', rfl, hE, ⟨ud, us, rfl, od, os, ho1, ho2, -⟩, hg2⟩
      refine hK.out _ _ (sub_part (by first | exact hg2 | exact grown_trans (grown_drew (grown_refl _)) hg2)) (fun hHeld => ?_)
      clear hK K
      try simp only [Act.put]
      have G2 : wr.grownBy v2 none := by first | exact hg2 | exact grown_trans (grown_drew (grown_refl _)) hg2
      obtain ⟨rfl, rfl, rfl⟩ := hE
      obtain ⟨uda, udc, rfl, -⟩ := od.ints.sl
      obtain ⟨usa, usc, rfl, -⟩ := os.ints.sl
      have hb2 := box_kept HB.out G2
      have hz2 := box_kept HZ.out G2
      obtain ⟨n1, hn1⟩ : ∃ z, z = (cutD ds dims (k + 1)).length := ⟨_, rfl⟩
      obtain ⟨n2, hn2⟩ : ∃ z, z = ss'.length := ⟨_, rfl⟩
      obtain ⟨O1, hO1⟩ : ∃ z, z = offK off ss' st (k + 1) := ⟨_, rfl⟩
      rw [← hn1] at od
      rw [← hn2] at os
      rw [← hO1] at ho1 ho2
      rw [← hn1, ← hn2, ← hO1]
      obtain ⟨k0, k1, k2, f0, f1, f2⟩ := Vw.box_cells hb2
      obtain ⟨hY, gY, gB⟩ := Vw.store3 (.int .i64 O1) (.slice uda n1 udc) (.slice usa n2 usc) (grown_trans HG.out G2) (Nat.le_refl _) hb2
      have BS : w.heap.size < wr.drew.heap.size := BL
      have BS3 : C < wr.drew.heap.size := Nat.lt_of_lt_of_le hC HG.out.size
      have BS2 : w.heap.size + 1 < wr.drew.heap.size := (Array.getElem?_eq_some_iff.1 HZ.out).1
      have VBn : Hid (VB w.heap.size C (((v2.setCell ⟨w.heap.size, 0, none⟩ (.int .i64 O1)).setCell ⟨w.heap.size, 1, none⟩ (.slice uda n1 udc)).setCell ⟨w.heap.size, 2, none⟩ (.slice usa n2 usc)) (offK off ss' st (k + 1)) (cutD ds dims (k + 1)) ss') := by rw [← hO1]; exact ⟨⟨uda, n1, udc⟩, ⟨usa, n2, usc⟩, hY, fun wm wx wy hm hx hy => ⟨(((od.box (grown_same gB hm) BS).box hx BS2).box hy BS3).ints, (((os.box (grown_same gB hm) BS).box hx BS2).box hy BS3).ints⟩⟩
      have ZN : Hid ((((v2.setCell ⟨w.heap.size, 0, none⟩ (.int .i64 O1)).setCell ⟨w.heap.size, 1, none⟩ (.slice uda n1 udc)).setCell ⟨w.heap.size, 2, none⟩ (.slice usa n2 usc)).heap[w.heap.size + 1]? = some (.cells #[.int .i64 0, .slice none 0 0, .slice none 0 0] 72 (0, 0))) := (gB.block _ (Array.getElem?_eq_some_iff.1 hz2).1 (by simp)).trans hz2
      have GY := hide gY
      have GB : Hid (wr.grownBy (((v2.setCell ⟨w.heap.size, 0, none⟩ (.int .i64 O1)).setCell ⟨w.heap.size, 1, none⟩ (.slice uda n1 udc)).setCell ⟨w.heap.size, 2, none⟩ (.slice usa n2 usc)) (some w.heap.size)) := grown_same (sub_part G2) gB
      clear od os hb2 hz2 hY gY gB hg2 G2 hn1 hn2 hO1 ho1 ho2 BS BS2 BS3
      refine wpAnyH_take (i := 10) (v := ?_) rfl (by kernel_rfl) (by kernel_rfl) (by kernel_rfl) (fun _ _ _ h => h) (Or.inl ⟨by kernel_rfl, ?_⟩) (by assumption) ?_
      rotate_left 1
      · (intro wS hSw; go_simp; (try with_reducible rfl))
      try simp only [Act.put]
      refine wpAnyH_take (i := 11) (v := ?_) rfl (by kernel_rfl) (by kernel_rfl) (by kernel_rfl) (fun _ _ _ h => h) (Or.inl ⟨by kernel_rfl, ?_⟩) (by assumption) ?_
      rotate_left 1
      · (intro wS hSw; go_simp; (try with_reducible rfl))
      try simp only [Act.put]
      refine wpAnyH_take (i := 12) (v := ?_) rfl (by kernel_rfl) (by kernel_rfl) (by kernel_rfl) (fun _ _ _ h => h) (Or.inl ⟨by kernel_rfl, ?_⟩) (by assumption) ?_
      rotate_left 1
      · (intro wS hSw; go_simp; (try with_reducible rfl))
      try simp only [Act.put]
      refine wpAnyH_ready (rs := [13]) (by kernel_rfl) (by simp) ?_
      refine AllReadyH.cons rfl (fun K hK => ?_) AllReadyH.nil
      go_simp
      refine hK.out _ _ (by first | exact GB.out | assumption) (fun hHeld => ?_)
      clear hK K
      try simp only [Act.put]
      refine wpAnyH_take (i := 14) (v := ?_) rfl (by kernel_rfl) (by kernel_rfl) (by kernel_rfl) (fun _ _ _ h => h) (Or.inl ⟨by kernel_rfl, ?_⟩) (by assumption) ?_
      rotate_left 1
      · (intro wS hSw; go_simp; (try with_reducible rfl))
      try simp only [Act.put]
      refine wpAnyH_done (by kernel_rfl) ?_ _
      go_simp
      go_wp2_with fail
      go_roundw
      case rel => exact ⟨GY.out, k + 1, hlt, by go_num, VBn.out, ZN.out⟩
      case measure => simp [intOf]; omega
    · obtain rfl : n = k := by omega
      obtain ⟨k0, k1, k2, f0, f1, f2⟩ := Vw.box_cells HB.out
      obtain ⟨z0, z1, z2, e0, e1, e2⟩ := Vw.box_cells HZ.out
      obtain ⟨hY, gY, gB⟩ := Vw.store3 (.int .i64 (offK off ss st n)) (.slice ea en ec) (.slice fa fn fc) HG.out (Nat.le_succ _) HZ.out
      obtain ⟨y0, y1, y2, -, -, -⟩ := Vw.box_cells hY
      have mv := part_may HM.out HP.out HMX.out n
      have FIN : Hid (∀ wy, World.grownBy (((wr.setCell ⟨w.heap.size + 1, 0, none⟩ (.int .i64 (offK off ss st n))).setCell ⟨w.heap.size + 1, 1, none⟩ (.slice ea en ec)).setCell ⟨w.heap.size + 1, 2, none⟩ (.slice fa fn fc)) wy (some C) → Vw.IsView wy (.agg #[.int .i64 (offK off ss st n), .slice ea en ec, .slice fa fn fc]) (offK off ss st n) (cutD ds dims n) ss) := fun wy hy => by
        have h1 := HI.out wr _ wy (World.grownBy.refl _ _) gB hy
        exact ⟨_, _, rfl, h1.1, h1.2, by have := mv.lo; omega, by have := mv.hi; omega⟩
      have GY := hide gY
      have HY := hide hY
      clear hb hY gY gB mv
      go_wp2
      refine bodyPost_ret (Vw.ret_view rfl _ _ (w.heap.size + 1) rfl HY.out) rfl ?_
      rw [show cutD ds dims n = dims from by rw [HN.out]; exact cutD_all HP.out.l2] at FIN
      exact ⟨_, rfl, FIN.out, GY.out⟩

def AspQ (w : World) (ds ts st l : List Int) (e : Ending) (w' : World) : Prop := ∃ u : Sl, e = .returned (.tuple #[.slice u.a u.n u.c, .int .i64 (Vw.rdE (Vw.dot st (strd ds)) l (strd ds) ts)]) ∧ Vw.Owns64 w' w.heap.size u.v (Vw.rdL (Vw.dot st (strd ds)) l (strd ds) ts) ∧ w.grownBy w' none

theorem own_past {a b c : World} {base : Nat} {v : Value} {zs : List Int} (h : Owns a base v zs) (hb : a.grownBy b none) (hc : b.grownBy c (some a.heap.size)) : IsInts c v zs := by
  refine Owns.ints ⟨(h.1.kept hb (by cases v.ownBlock <;> simp)).kept hc ?_, h.2⟩
  cases e : v.ownBlock with
  | none => exact .inl rfl
  | some k => exact .inr (fun e2 => by have := (h.1.lt k e).2; cases e2; omega)

set_option maxRecDepth 100000 in
set_option maxHeartbeats 4000000 in
theorem asp_any (t : Ten) (ds ts l st : List Int) (lv sv : Sl) (p : Nat) (w : World) (hcd : cntE ds = 0) (hpm : Parts ds st l) (hd : IsInts w t.dv.v ds) (ht : IsInts w t.tv.v ts) (hl : IsInts w lv.v l) (hs : IsInts w sv.v st) (hp : w.heap[p]? = some (.cells #[.slice sv.a sv.n sv.c] 29 (0, 0))) :
    Calls Tryz.prog 22 #[tval t, .func (.func 52) #[] #[.pointer (some ⟨p, 0, none⟩)], .slice lv.a lv.n lv.c] w (AspQ w ds ts st l) := by
  have HD := hide hd
  have HT := hide ht
  have HL := hide hl
  have HS := hide hs
  have HPB := hide hp
  clear hd ht hl hs hp
  obtain ⟨ty, ⟨da, dn, dc⟩, ⟨ta, tn, tc⟩⟩ := t
  obtain ⟨la, ln, lc⟩ := lv
  unfold tval
  simp only [Sl.v] at HD HT HL ⊢
  obtain ⟨w0, hw0⟩ : ∃ w0, w0 = w.alloc (.cells #[.int .i64 ty, .slice da dn dc, .slice ta tn tc] 32) := ⟨_, rfl⟩
  have g0 : Hid (w.grownBy w0 none) := by show w.grownBy w0 none; rw [hw0]; exact grown_new _ _
  have B0 := heap_alloc_new w (.cells #[.int .i64 ty, .slice da dn dc, .slice ta tn tc] 32)
  have c0 := (cell_of_row _ _ 0 _ _ (0, 0) B0).trans rfl
  have c1 := (cell_of_row _ _ 1 _ _ (0, 0) B0).trans rfl
  have c2 := (cell_of_row _ _ 2 _ _ (0, 0) B0).trans rfl
  rw [← hw0] at B0
  have BX : Hid (∀ wx, w0.grownBy wx none → wx.heap[w.heap.size]? = some (.cells #[.int .i64 ty, .slice da dn dc, .slice ta tn tc] 32 (0, 0))) := fun wx hg => box_kept B0 hg
  have WH := hide (Vw.whole_any (.slice da dn dc) ds w0 (HD.out.more g0.out))
  clear B0
  go_enter Tryz.func22, Tryz.ntmps22
  go_wp2_with fail
  rw [← hw0]
  clear hw0 c0 c1 c2
  refine WH.out.mono ?_
  rintro e w1 ⟨v, rfl, hov, hg1⟩
  obtain ⟨vd, vs, rfl, od, os, -⟩ := hov
  obtain ⟨vda, vdc, rfl, -⟩ := od.ints.sl
  obtain ⟨vsa, vsc, rfl, -⟩ := os.ints.sl
  have VD := hide od
  have VS := hide os
  clear od os
  obtain ⟨wA, hwA⟩ : ∃ wA, wA = w1.alloc (.cells #[.int .i64 0, .slice vda (Vw.rowDs ds).length vdc, .slice vsa (strdE ds).length vsc] 72) := ⟨_, rfl⟩
  have hX := heap_alloc_new w1 (.cells #[.int .i64 0, .slice vda (Vw.rowDs ds).length vdc, .slice vsa (strdE ds).length vsc] 72)
  rw [← hwA] at hX
  have gX : w1.grownBy wA none := by rw [hwA]; exact grown_new _ _
  have hs1 : w1.heap.size < wA.heap.size := by rw [hwA]; simp
  have g1 := hide (grown_trans g0.out hg1)
  have GX := hide gX
  have HX := hide hX
  have hE := hcd
  have HPM := hide hpm
  clear hcd hpm
  have hE' : (cntE ds != 0) = false := by simp [hE]
  have VI : Vw.IsView w1 (.agg #[.int .i64 0, .slice vda (Vw.rowDs ds).length vdc, .slice vsa (strdE ds).length vsc]) 0 ds (strd ds) := by
    have h1 := VD.out.ints
    have h2 := VS.out.ints
    rw [show Vw.rowDs ds = ds from if_pos hE] at h1
    rw [show strdE ds = strd ds from if_pos hE] at h2
    rw [show Vw.rowDs ds = ds from if_pos hE, show strdE ds = strd ds from if_pos hE]
    exact ⟨_, _, rfl, h1, h2, by omega, by omega⟩
  have SP := hide (part_any vda vsa ds.length vdc ds.length vsc 0 ds (strd ds) l st ⟨la, ln, lc⟩ sv p w1.heap.size wA hs1 (fun wx hx => by have h1 := (own_past VD.out GX.out hx); rw [show Vw.rowDs ds = ds from if_pos hE] at h1; exact h1) (fun wx hx => by have h2 := (own_past VS.out GX.out hx); rw [show strdE ds = strd ds from if_pos hE, strd_length] at h2; exact h2) (Vw.may_whole (fine_of hE)) (HL.out.more (grown_trans g1.out GX.out)) (HS.out.more (grown_trans g1.out GX.out)) (box_kept HPB.out (grown_trans g1.out GX.out)) HPM.out (by rw [Vw.lst_whole ds (fine_of hE).pos]; have := (fine_of hE).le; omega))
  simp only at SP
  rw [show (Vw.rowDs ds).length = ds.length from by rw [Vw.rowDs, if_pos hE]] at HX hwA ⊢
  rw [show (strdE ds).length = ds.length from by rw [strdE, if_pos hE, strd_length]] at HX hwA ⊢
  have HE := hide hE
  clear VI hE hX gX
  go_wp2_with fail
  rw [← hwA]
  clear hwA
  refine SP.out.mono ?_
  rintro e w2 ⟨u, rfl, hvw, hg2⟩
  obtain ⟨ud, us, rfl, i1, i2, ho1, ho2⟩ := hvw w2 (World.grownBy.refl _ _)
  obtain ⟨uda, udc, rfl, -⟩ := i1.sl
  obtain ⟨usa, usc, rfl, -⟩ := i2.sl
  have hb := box_kept HX.out hg2
  obtain ⟨OF, hOF⟩ : ∃ z, z = offK 0 (strd ds) st ds.length := ⟨_, rfl⟩
  rw [← hOF] at hvw ho1 ho2 ⊢
  obtain ⟨k0, k1, k2, f0, f1, f2⟩ := Vw.box_cells hb
  obtain ⟨hY, gY, gB⟩ := Vw.store3 (.int .i64 OF) (.slice uda l.length udc) (.slice usa (strd ds).length usc) (grown_trans GX.out hg2) (Nat.le_refl _) hb
  have VW := hide (hvw _ gB)
  have GY := hide (grown_trans g1.out gY)
  obtain ⟨y0, y1, y2, -, -, -⟩ := Vw.box_cells hY
  have HOF := hide hOF
  clear i1 i2 hb hY gB hvw hg2 hOF
  obtain ⟨w3, hw3⟩ : ∃ w3, w3 = ((w2.setCell ⟨w1.heap.size, 0, none⟩ (.int .i64 OF)).setCell ⟨w1.heap.size, 1, none⟩ (.slice uda l.length udc)).setCell ⟨w1.heap.size, 2, none⟩ (.slice usa (strd ds).length usc) := ⟨_, rfl⟩
  rw [← hw3] at VW GY gY
  have BT := BX.out _ (grown_trans hg1 gY)
  have t2 : w3.cell? ⟨w.heap.size, 2, none⟩ = some (.slice ta tn tc) := (cell_of_row _ _ 2 _ _ (0, 0) BT).trans rfl
  rw [hw3] at t2
  have RD := hide (Vw.read_any OF l (strd ds) ts _ _ w3 VW.out (HT.out.more GY.out))
  have LT : Hid (w.heap.size ≤ w3.heap.size) := GY.out.size
  clear BT gY
  go_wp2_with fail
  rw [← hw3]
  clear hw3 t2 y0 y1 y2
  refine RD.out.mono ?_
  rintro e w4 ⟨u, rfl, ou, hg4⟩
  obtain ⟨ua, un, uc, rfl⟩ := owns64_sl ou
  have OU := hide (owns64_base ou LT.out)
  have G4 := hide (grown_trans GY.out hg4)
  clear ou hg4
  go_wp2
  go_ret2
  have e3 := HOF.out
  have e4 : OF = Vw.dot st (strd ds) := by
    rw [e3]
    unfold offK
    rw [← HPM.out.l1, List.take_length, Int.zero_add]
  subst e4
  exact ⟨⟨ua, un, uc⟩, rfl, OU.out, G4.out⟩

end Go.Proofs.YtaoplfpigjkgpaaGreatDoor

namespace Go.Proofs.YtaoplfpigjkgpaaGreatDoor

open Go.RowKit

def stL (x : List Int) : List Int → List Int → List Int → List Int
  | a :: al, s :: ss, acc => stL x al ss (acc.set ((axisO a x.length).getD 0) (boundedP s (x.getD ((axisO a x.length).getD 0) 0).toNat))
  | _, _, acc => acc
def startsP (A : At) (x : List Int) : List Int := stL x (A.ints ⟨#[97, 120, 101, 115]⟩ (upToP (A.ints ⟨#[115, 116, 97, 114, 116, 115]⟩ []).length)) (A.ints ⟨#[115, 116, 97, 114, 116, 115]⟩ []) (List.replicate x.length 0)

theorem stL_step {x L S acc : List Int} {k : Nat} (h1 : k < L.length) (h2 : k < S.length) : stL x (L.drop k) (S.drop k) acc = stL x (L.drop (k + 1)) (S.drop (k + 1)) (acc.set ((axisO (L.getD k 0) x.length).getD 0) (boundedP (S.getD k 0) (x.getD ((axisO (L.getD k 0) x.length).getD 0) 0).toNat)) := by
  rw [drop_step L k h1, drop_step S k h2]
  rfl

theorem bounded_rng (s : Int) (d : Nat) (hd : d ≤ 65536) : 0 ≤ boundedP s d ∧ boundedP s d ≤ 65536 := by
  unfold boundedP
  split <;> (split <;> omega)

theorem getD_mem3 {l : List Int} {k : Nat} (hk : k < l.length) : l.getD k 0 ∈ l := by
  rw [List.getD, List.getElem?_eq_getElem hk]
  exact List.getElem_mem hk

theorem nints_past (n : Nod) (A : At) (nm : ByteArray) (other : Sl) (zs : List Int) (w : World) (hn : NodeOk w n A) (ho : IsInts w other.v zs) :
    Calls Tryz.prog 51 #[nval n, .string nm, .slice other.a other.n other.c] w fun e w' => ∃ u : Sl, e = .returned u.v ∧ (∀ C wy, C < w.heap.size → w'.grownBy wy (some C) → IsInts wy u.v (A.ints nm zs)) ∧ w.grownBy w' none := by
  refine (sints_any n A.xs A.cs nm other zs w hn.attrs hn.has ho).mono ?_
  rintro e w' ⟨u, rfl, hu, hg⟩
  refine ⟨u, rfl, fun C wy hC hy => ?_, hg⟩
  have hb : ∃ v, IsInts w v (A.ints nm zs) := by
    unfold At.ints intsV
    rcases find_zip (P := isA nm 7) hn.has with ⟨e1, e2⟩ | ⟨a, c, e1, e2, e3⟩
    · rw [e2]; exact ⟨_, ho⟩
    · rw [e2]; exact ⟨_, e3.i⟩
  obtain ⟨v, hb⟩ := hb
  exact ownsL_ints (hu.kept hy (fun g e => by cases e; exact hC)) hb.le hb.wf

set_option maxRecDepth 100000 in
set_option maxHeartbeats 16000000 in
theorem starts_any (n : Nod) (A : At) (u : Sl) (x : List Int) (w : World) (hn : NodeOk w n A) (hx : IsInts w u.v x) (hf : Fine x) (hLS : (A.ints ⟨#[97, 120, 101, 115]⟩ (upToP (A.ints ⟨#[115, 116, 97, 114, 116, 115]⟩ []).length)).length = (A.ints ⟨#[115, 116, 97, 114, 116, 115]⟩ []).length) (hax0 : ∀ a ∈ A.ints ⟨#[97, 120, 101, 115]⟩ (upToP (A.ints ⟨#[115, 116, 97, 114, 116, 115]⟩ []).length), ∃ i, axisO a x.length = some i) : Calls Tryz.prog 30 #[nval n, .slice u.a u.n u.c] w fun e w' => ∃ v : Sl, e = .returned v.v ∧ IsInts w' v.v (startsP A x) ∧ w.grownBy w' none := by
  obtain ⟨i0, hi0, hz0, hz1, hz2⟩ := info_parts infoInt
  obtain ⟨ux, uc, eu, c1, c2, c3⟩ := hx.sl
  obtain ⟨ua, un, uu⟩ := u
  simp only [Sl.v, Value.slice.injEq] at eu
  obtain ⟨rfl, rfl, rfl⟩ := eu
  have HX := hide hx
  have FEW := hf.few
  have PB : Hid (∀ z ∈ x, 1 ≤ z ∧ z ≤ 65536) := fun z hz => ⟨hf.pos z hz, hf.le_each hz⟩
  obtain ⟨S, hS⟩ : ∃ S, S = A.ints ⟨#[115, 116, 97, 114, 116, 115]⟩ [] := ⟨_, rfl⟩
  obtain ⟨L, hL⟩ : ∃ L, L = A.ints ⟨#[97, 120, 101, 115]⟩ (upToP S.length) := ⟨_, rfl⟩
  have hres : startsP A x = stL x L S (List.replicate x.length 0) := by rw [hL, hS]; rfl
  rw [hres]
  rw [← hS, ← hL] at hLS hax0
  have HSx := hide hS
  have HLx := hide hL
  have LS := hide hLS
  have AX := hide hax0
  clear hx hf hres hS hL hLS hax0
  have NK := hide hn
  obtain ⟨op, nam, ⟨ia, il, ic⟩, out, ⟨ao, al, cap⟩⟩ := n
  unfold nval
  simp only
  obtain ⟨w0, hw0⟩ : ∃ w0, w0 = w.alloc (.cells #[.string op, .string nam, .slice ia il ic, .string out, .slice ao al cap] 25) := ⟨_, rfl⟩
  have g0 : Hid (w.grownBy w0 none) := by show w.grownBy w0 none; rw [hw0]; exact grown_new _ _
  have hb0 := heap_alloc_new w (.cells #[.string op, .string nam, .slice ia il ic, .string out, .slice ao al cap] 25)
  rw [← hw0] at hb0
  have BX : Hid (∀ wx, w0.grownBy wx none → wx.heap[w.heap.size]? = some (.cells #[.string op, .string nam, .slice ia il ic, .string out, .slice ao al cap] 25 (0, 0))) := fun wx hg => box_kept hb0 hg
  clear hb0 hn
  have NI := hide (fun (wx : World) (hg : w.grownBy wx none) => nints_any ⟨op, nam, ⟨ia, il, ic⟩, out, ⟨ao, al, cap⟩⟩ A ⟨#[115, 116, 97, 114, 116, 115]⟩ ⟨none, 0, 0⟩ [] wx (NK.out.more hg) (ints_nil wx))
  have NU := hide (fun (wx : World) (B r : Nat) (hg : w.grownBy wx none) (hB : IsInts wx (.slice (some ⟨B, 0, none⟩) r r) (upToP r)) => nints_past ⟨op, nam, ⟨ia, il, ic⟩, out, ⟨ao, al, cap⟩⟩ A ⟨#[97, 120, 101, 115]⟩ ⟨some ⟨B, 0, none⟩, r, r⟩ _ wx (NK.out.more hg) hB)
  unfold nval at NI NU
  simp only at NI NU
  rw [← HSx.out] at NI
  have hb4 : i0.bytes * x.length ≤ 281474976710656 := by rw [hz2]; omega
  have hb5 : x.length ≤ maxLen := by simp only [maxLen]; omega
  obtain ⟨n0, n1, n2, n3, n4⟩ := nod_cells (n := ⟨op, nam, ⟨ia, il, ic⟩, out, ⟨ao, al, cap⟩⟩) (BX.out w0 (grown_refl _))
  have N0 := hide (NI.out w0 g0.out)
  rw [hw0] at n0 n1 n2 n3 n4
  go_enter Tryz.func30, Tryz.ntmps30
  go_wp2_with fail
  rw [← hw0]
  clear hw0 n0 n1 n2 n3 n4
  refine N0.out.mono ?_
  rintro e w2 ⟨⟨sa, sn, sv⟩, rfl, hss, hg2⟩
  obtain ⟨sx, sc, es1, s1, s2, s3⟩ := hss.sl
  simp only [Sl.v, Value.slice.injEq] at es1
  obtain ⟨rfl, rfl, rfl⟩ := es1
  simp only [Sl.v] at hss ⊢
  have HSS := hide hss
  have G2 := hide hg2
  clear hss hg2 N0 NI
  go_wp2_with (first | (refine wpList_make_full _ rfl (.tmp 14) (.tmp 14) 29 rfl w2.heap.size 3 i0 (.int .i64 0) 1 Tryz.underlying29 hi0 hz0 hz1 .i64 .i64 _ _ x.length rfl rfl rfl rfl hb4 hb5 (Nat.le_refl _) ?_; intro w3 hown3 hg3) | fail)
  rw [made_zeros] at hown3
  have O3 := hide (owns_zeros (by omega) hown3)
  have G3 := hide hg3
  have G03 := hide (grown_trans G2.out hg3)
  clear hown3 hg3 hb4 hb5
  obtain ⟨n0, n1, n2, n3, n4⟩ := nod_cells (n := ⟨op, nam, ⟨ia, il, ic⟩, out, ⟨ao, al, cap⟩⟩) (BX.out w3 (G03.out))
  go_region_held3 (fun w' => w'.cell? ⟨w.heap.size, 0, none⟩ = some (.string op) ∧ w'.cell? ⟨w.heap.size, 1, none⟩ = some (.string nam) ∧ w'.cell? ⟨w.heap.size, 2, none⟩ = some (.slice ia il ic) ∧ w'.cell? ⟨w.heap.size, 3, none⟩ = some (.string out) ∧ w'.cell? ⟨w.heap.size, 4, none⟩ = some (.slice ao al cap)) (go_keep) (first | (go_at_call 49; refine (upto_any S.length _ s3).mono ?_; rintro e w4 ⟨rfl, ho4, hg4⟩; have g4 : w0.grownBy w4 none := grown_trans (grown_drew G03.out) hg4; obtain ⟨n0, n1, n2, n3, n4⟩ := nod_cells (n := ⟨op, nam, ⟨ia, il, ic⟩, out, ⟨ao, al, cap⟩⟩) (BX.out w4 (g4))) | (go_at_call 51; refine (NU.out _ _ S.length (grown_trans g0.out g4) (by have h := ho4.ints (by rw [upToP_len]; omega) (fun z hz => by have := upToP_mem hz; omega); rw [upToP_len] at h; exact h)).mono ?_; rintro e w5 ⟨axl, rfl, hax, hg5⟩; have g5 : w0.grownBy w5 none := grown_trans g4 hg5; obtain ⟨n0, n1, n2, n3, n4⟩ := nod_cells (n := ⟨op, nam, ⟨ia, il, ic⟩, out, ⟨ao, al, cap⟩⟩) (BX.out w5 (g5))) | fail)
  rw [← HLx.out] at hax
  have HG3 : w2.heap.size < w4.heap.size := by
    have h1 := (World.ownsRow.lt O3.out.1 w2.heap.size rfl).2
    have h2 := hg4.size
    have h3 : w3.heap.size = w3.drew.heap.size := rfl
    omega
  have hax5 := hax _ w5 HG3 (World.grownBy.refl _ _)
  obtain ⟨ax, ac, ae1, a1, a2, a3⟩ := hax5.sl
  obtain ⟨aa, an, av⟩ := axl
  simp only [Sl.v, Value.slice.injEq] at ae1
  obtain ⟨rfl, rfl, rfl⟩ := ae1
  simp only [Sl.v] at hax ⊢
  have HAX : Hid (∀ wy, w5.grownBy wy (some w2.heap.size) → IsInts wy (.slice aa L.length av) L) := fun wy hy => hax _ wy HG3 hy
  have G35 : Hid (w3.grownBy w5 none) := grown_trans (grown_drew (grown_refl _)) (grown_trans hg4 hg5)
  have G25 := hide (grown_trans G3.out G35.out)
  have G5 := hide (grown_trans (grown_trans g0.out G2.out) G25.out)
  have O5 := hide (O3.out.new G35.out)
  clear hax hax5 HG3 ho4 hg4 hg5 g4 g5 n0 n1 n2 n3 n4 NU
  go_wp2_with fail
  go_loopw [22] (fun i wr => w5.grownBy wr (some w2.heap.size) ∧ ∃ (k : Nat) (acc : List Int), k ≤ L.length ∧ i = .int .i64 k ∧ Owns wr w2.heap.size (.slice (some ⟨w2.heap.size, 0, none⟩) x.length x.length) acc ∧ acc.length = x.length ∧ stL x (L.drop k) (S.drop k) acc = stL x L S (List.replicate x.length 0)) (fun i _ => L.length - (intOf i).toNat)
  case atStart => exact ⟨World.grownBy.refl _ _, 0, _, Nat.zero_le _, rfl, O5.out, by simp, by simp⟩
  case round =>
    obtain ⟨hg, k, acc, hk, rfl, ho, hal, hst⟩ := hrel
    have HG := hide hg
    have HO := hide ho
    have HAL := hide hal
    have HST := hide hst
    have g2r := grown_drop G25.out hg (Nat.le_refl _)
    clear ho hal hst
    by_cases hlt : k < L.length
    · obtain ⟨ab, aof, rfl, hca⟩ := (HAX.out wr hg).get hlt
      have q1 := hca k hlt
      have hwa := (HAX.out wr hg).wf (L.getD k 0) (getD_mem3 hlt)
      have hsl : k < S.length := by rw [← LS.out]; exact hlt
      obtain ⟨sb, so, rfl, hcs⟩ := HSS.out.get hsl
      have q2 := hcs k hsl
      have hws := HSS.out.wf (S.getD k 0) (getD_mem3 hsl)
      obtain ⟨i, hi⟩ := AX.out (L.getD k 0) (getD_mem3 hlt)
      have hil := axisO_lt hi
      obtain ⟨xb, xo, rfl, hcx⟩ := HX.out.get hil
      have q3 := hcx i hil
      have hbx := PB.out (x.getD i 0) (getD_mem3 hil)
      obtain ⟨d, hd0⟩ : ∃ d : Nat, x.getD i 0 = d := ⟨(x.getD i 0).toNat, by omega⟩
      have hst2 := HST.out
      rw [stL_step hlt hsl, hi] at hst2
      simp only [Option.getD_some] at hst2
      rw [hd0] at q3 hbx hst2
      rw [Int.toNat_natCast] at hst2
      obtain ⟨s, hs0⟩ : ∃ s, s = S.getD k 0 := ⟨_, rfl⟩
      obtain ⟨a, ha0⟩ : ∃ a, a = L.getD k 0 := ⟨_, rfl⟩
      rw [← hs0] at q2 hws hst2
      rw [← ha0] at q1 hwa hi
      have AO := hide (fun wx => axis_any a x.length wx (by omega) hwa.1)
      rw [hi] at AO
      simp only [Option.getD_some, Option.isSome_some] at AO
      have bd := bounded_rng s d (by omega)
      obtain ⟨b, hb0⟩ : ∃ b, b = boundedP s d := ⟨_, rfl⟩
      rw [← hb0] at bd hst2
      have BO := hide (fun wx => bounded_any s d wx (by omega) hws.1)
      rw [← hb0] at BO
      obtain ⟨a1', a2', a3', a4'⟩ := owns_put HO.out HAL.out hil b ⟨by omega, by omega⟩
      have Q2 : Hid (∀ wx, w2.grownBy wx none → wx.cell? ⟨sb, so + k, none⟩ = some (.int .i64 s)) := fun wx hx => cell_still q2 hx
      have Q3 : Hid (∀ wx, w2.grownBy wx none → wx.cell? ⟨xb, xo + i, none⟩ = some (.int .i64 d)) := fun wx hx => cell_still q3 (grown_trans (grown_trans g0.out G2.out) hx)
      have G2R := hide g2r
      have HS2 := hide hst2
      have OP : Hid (∀ wx, wr.grownBy wx none → wx.cell? ⟨w2.heap.size, i, none⟩ = some (.int .i64 (acc.getD i 0)) ∧ wx.frozen? ⟨w2.heap.size, i, none⟩ = false ∧ Owns (wx.setCell ⟨w2.heap.size, i, none⟩ (.int .i64 b)) w2.heap.size (.slice (some ⟨w2.heap.size, 0, none⟩) x.length x.length) (acc.set i b) ∧ wx.grownBy (wx.setCell ⟨w2.heap.size, i, none⟩ (.int .i64 b)) (some w2.heap.size)) := fun wx hx => owns_put (HO.out.new hx) HAL.out hil b ⟨by omega, by omega⟩
      have l1 : (k : Int) < (L.length : Int) := by omega
      have l2 : (k : Int) < (S.length : Int) := by omega
      have l3 : (i : Int) < (x.length : Int) := by omega
      clear a1' a2' a3' a4' q2 q3 hca hcs hcx hs0 ha0 hb0 hi hd0 hst2 hwa hws bd hbx g2r hg
      go_wp2_with (first | (go_at_call 54; refine (AO.out _).mono ?_; rintro e w' ⟨rfl, rfl⟩) | fail)
      refine wp_region_held_drew (S := fun w' => wr.grownBy w' (some w2.heap.size)) (by kernel_rfl) (by first | exact World.grownBy.refl _ _ | exact sub_part (grown_drew (grown_refl _))) (fun hHeld => ?_)
      refine wpAnyH_take (i := 0) (v := ?_) rfl (by kernel_rfl) (by kernel_rfl) (by kernel_rfl) (fun _ _ _ h => h) (Or.inl ⟨by kernel_rfl, ?_⟩) (by assumption) ?_
      rotate_left 1
      · (intro wS hSw; go_simp; (try with_reducible rfl))
      try simp only [Act.put]
      refine wpAnyH_take (i := 1) (v := ?_) rfl (by kernel_rfl) (by kernel_rfl) (by kernel_rfl) (fun _ _ _ h => h) (Or.inl ⟨by kernel_rfl, ?_⟩) (by assumption) ?_
      rotate_left 1
      · (intro wS hSw; go_simp; (try with_reducible rfl))
      try simp only [Act.put]
      refine wpAnyH_take (i := 2) (v := ?_) rfl (by kernel_rfl) (by kernel_rfl) (by kernel_rfl) (fun _ _ _ h => h) (Or.inl ⟨by kernel_rfl, ?_⟩) (by assumption) ?_
      rotate_left 1
      · (intro wS hSw; go_simp; (try with_reducible rfl))
      try simp only [Act.put]
      refine wpAnyH_take (i := 3) (v := ?_) rfl (by kernel_rfl) (by kernel_rfl) (by kernel_rfl) (fun _ _ _ h => h) (Or.inl ⟨by kernel_rfl, ?_⟩) (by assumption) ?_
      rotate_left 1
      · (intro wS hSw; go_simp; (try with_reducible rfl))
      try simp only [Act.put]
      refine wpAnyH_take (i := 4) (v := ?_) rfl (by kernel_rfl) (by kernel_rfl) (by kernel_rfl) (fun _ _ _ h => h) (Or.inl ⟨by kernel_rfl, ?_⟩) (by assumption) ?_
      rotate_left 1
      · (intro wS hSw; go_simp; (try with_reducible rfl))
      try simp only [Act.put]
      refine wpAnyH_take (i := 5) (v := ?_) rfl (by kernel_rfl) (by kernel_rfl) (by kernel_rfl) (fun _ _ _ h => h) (Or.inl ⟨by kernel_rfl, ?_⟩) (by assumption) ?_
      rotate_left 1
      · (intro wS hSw; have c0 := Q2.out _ (grown_drop G2R.out hSw (Nat.le_refl _)); go_simp; (try with_reducible rfl))
      try simp only [Act.put]
      refine wpAnyH_take (i := 6) (v := ?_) rfl (by kernel_rfl) (by kernel_rfl) (by kernel_rfl) (fun _ _ _ h => h) (Or.inl ⟨by kernel_rfl, ?_⟩) (by assumption) ?_
      rotate_left 1
      · (intro wS hSw; go_simp; (try with_reducible rfl))
      try simp only [Act.put]
      refine wpAnyH_take (i := 7) (v := ?_) rfl (by kernel_rfl) (by kernel_rfl) (by kernel_rfl) (fun _ _ _ h => h) (Or.inl ⟨by kernel_rfl, ?_⟩) (by assumption) ?_
      rotate_left 1
      · (intro wS hSw; go_simp; (try with_reducible rfl))
      try simp only [Act.put]
      refine wpAnyH_take (i := 8) (v := ?_) rfl (by kernel_rfl) (by kernel_rfl) (by kernel_rfl) (fun _ _ _ h => h) (Or.inl ⟨by kernel_rfl, ?_⟩) (by assumption) ?_
      rotate_left 1
      · (intro wS hSw; go_simp; (try with_reducible rfl))
      try simp only [Act.put]
      refine wpAnyH_take (i := 9) (v := ?_) rfl (by kernel_rfl) (by kernel_rfl) (by kernel_rfl) (fun _ _ _ h => h) (Or.inl ⟨by kernel_rfl, ?_⟩) (by assumption) ?_
      rotate_left 1
      · (intro wS hSw; have c0 := Q3.out _ (grown_drop G2R.out hSw (Nat.le_refl _)); go_simp; (try with_reducible rfl))
      try simp only [Act.put]
      refine wpAnyH_ready (rs := [10]) (by kernel_rfl) (by simp) ?_
      refine AllReadyH.cons rfl (fun K hK => ?_) AllReadyH.nil
      go_simp
      refine (BO.out _).mono ?_
      rintro e v2 ⟨rfl, rfl⟩
      refine hK.out _ _ (by first | assumption | exact World.grownBy.refl _ _ | exact sub_part (grown_drew (grown_refl _))) (fun hHeld => ?_)
      clear hK K
      try simp only [Act.put]
      obtain ⟨m1, m2, m3, m4⟩ := OP.out wr.drew (grown_drew (grown_refl _))
      have NO := hide m3
      have NG : Hid (w5.grownBy (wr.drew.setCell ⟨w2.heap.size, i, none⟩ (.int .i64 b)) (some w2.heap.size)) := grown_same HG.out (grown_same (sub_part (grown_drew (grown_refl _))) m4)
      have NS : Hid (wr.grownBy (wr.drew.setCell ⟨w2.heap.size, i, none⟩ (.int .i64 b)) (some w2.heap.size)) := grown_same (sub_part (grown_drew (grown_refl _))) m4
      clear m3 m4
      refine wpAnyH_take (i := 11) (v := ?_) rfl (by kernel_rfl) (by kernel_rfl) (by kernel_rfl) (fun _ _ _ h => h) (Or.inl ⟨by kernel_rfl, ?_⟩) (by assumption) ?_
      rotate_left 1
      · (intro wS hSw; go_simp; (try with_reducible rfl))
      try simp only [Act.put]
      refine wpAnyH_ready (rs := [12]) (by kernel_rfl) (by simp) ?_
      refine AllReadyH.cons rfl (fun K hK => ?_) AllReadyH.nil
      go_simp
      refine hK.out _ _ (by first | exact NS.out | assumption) (fun hHeld => ?_)
      clear hK K
      try simp only [Act.put]
      refine wpAnyH_done (by kernel_rfl) ?_ _
      go_simp
      clear m1 m2
      go_wp2_with fail
      go_roundw
      case rel => exact ⟨NG.out, k + 1, _, hlt, by go_num, NO.out, by rw [List.length_set]; exact HAL.out, HS2.out⟩
      case measure => simp [intOf]; omega
    · obtain rfl : L.length = k := by omega
      have FIN : Hid (IsInts wr (.slice (some ⟨w2.heap.size, 0, none⟩) x.length x.length) (stL x L S (List.replicate x.length 0))) := by
        have h1 := HST.out
        rw [List.drop_length] at h1
        show IsInts _ _ _
        rw [← h1]
        have h2 := HO.out.ints
        cases S.drop L.length <;> exact h2
      have GF := hide (grown_trans (grown_trans g0.out G2.out) g2r)
      clear g2r hg
      go_wp2
      go_ret
      exact ⟨⟨_, _, _⟩, rfl, FIN.out, GF.out⟩

end Go.Proofs.YtaoplfpigjkgpaaGreatDoor
