/- Joined texts: IDim5, IType, IWin. -/
import Derived.Test.YtaoplfpigjkgpaaGreatDoorPartAW
import Derived.BigQuiet
import Derived.Deep.RegionWith
namespace Go.Proofs.YtaoplfpigjkgpaaGreatDoor

open Go.RowKit

theorem grown_drewQ {a b : World} (h : a.grownBy b none) (n : Nat) : a.grownBy (b.drewN n) none := ⟨h.os, h.tape, h.output, h.size, h.block⟩

theorem sliceL_step {x al ss es : List Int} {k : Nat} (h1 : k < al.length) (h2 : k < ss.length) (h3 : k < es.length) (dims : List Int) : sliceL x (al.drop k) (ss.drop k) (es.drop k) dims = (axisP (al.getD k 0) x.length).bind (fun axis => (mustP (decide (boundedP (ss.getD k 0) (x.getD axis 0).toNat < boundedP (es.getD k 0) (x.getD axis 0).toNat))).bind (fun _ => sliceL x (al.drop (k + 1)) (ss.drop (k + 1)) (es.drop (k + 1)) (dims.set axis (boundedP (es.getD k 0) (x.getD axis 0).toNat - boundedP (ss.getD k 0) (x.getD axis 0).toNat)))) := by
  rw [drop_step al k h1, drop_step ss k h2, drop_step es k h3]
  rfl

theorem boundedP_le (x : Int) (d : Nat) : 0 ≤ boundedP x d ∧ boundedP x d ≤ d := by
  unfold boundedP
  split <;> split at * <;> omega

set_option maxRecDepth 100000 in
set_option maxHeartbeats 1000000 in
theorem sliced_any (n : Nod) (A : At) (u : Sl) (x : List Int) (w : World) (hn : NodeOk w n A) (hx : IsInts w u.v x) (hf : Fine x) : Calls Tryz.prog 120 #[nval n, .slice u.a u.n u.c] w (Ended w (slicedP A x) DimsQ) := by
  obtain ⟨ux, uc, eu, c1, c2, c3⟩ := hx.sl
  obtain ⟨ua, un, uu⟩ := u
  simp only [Sl.v, Value.slice.injEq] at eu
  obtain ⟨rfl, rfl, rfl⟩ := eu
  have HX := hide hx
  have FEW := hf.few
  have PB : Hid (∀ z ∈ x, 1 ≤ z ∧ z ≤ 65536) := fun z hz => ⟨hf.pos z hz, hf.le_each hz⟩
  clear hx hf
  have NK := hide hn
  obtain ⟨op, nam, ⟨ia, il, ic⟩, out, ⟨ao, al, cap⟩⟩ := n
  unfold nval
  simp only
  obtain ⟨w0, hw0⟩ : ∃ w0, w0 = w.alloc (.cells #[.string op, .string nam, .slice ia il ic, .string out, .slice ao al cap] 25) := ⟨_, rfl⟩
  have g0 : Hid (w.grownBy w0 none) := by show w.grownBy w0 none; rw [hw0]; exact grown_new _ _
  have hb0 := heap_alloc_new w (.cells #[.string op, .string nam, .slice ia il ic, .string out, .slice ao al cap] 25)
  rw [← hw0] at hb0
  have BX : Hid (∀ wx, w0.grownBy wx none → wx.heap[w.heap.size]? = some (.cells #[.string op, .string nam, .slice ia il ic, .string out, .slice ao al cap] 25 (0, 0))) := fun wx hg => box_kept hb0 hg
  clear hb0 hn
  have NI := hide (fun (wx : World) (nm : ByteArray) (hg : w.grownBy wx none) => nints_any ⟨op, nam, ⟨ia, il, ic⟩, out, ⟨ao, al, cap⟩⟩ A nm ⟨none, 0, 0⟩ [] wx (NK.out.more hg) ⟨none, 0, rfl, Nat.le_refl _, by decide, by simp, fun _ => ⟨rfl, rfl⟩, fun h => (by simp at h), fun z hz => (by simp at hz)⟩)
  have NU := hide (fun (wx : World) (B r : Nat) (hg : w.grownBy wx none) (hB : IsInts wx (.slice (some ⟨B, 0, none⟩) r r) (upToP r)) => nints_any ⟨op, nam, ⟨ia, il, ic⟩, out, ⟨ao, al, cap⟩⟩ A ⟨#[97, 120, 101, 115]⟩ ⟨some ⟨B, 0, none⟩, r, r⟩ _ wx (NK.out.more hg) hB)
  have CL := hide (fun (wx : World) (hg : w.grownBy wx none) => cloneI_any ⟨ua, x.length, uu⟩ x wx (HX.out.more hg))
  unfold nval at NI NU
  simp only at NI NU CL
  obtain ⟨n0, n1, n2, n3, n4⟩ := nod_cells (n := ⟨op, nam, ⟨ia, il, ic⟩, out, ⟨ao, al, cap⟩⟩) (BX.out w0 (grown_refl _))
  go_enter Tryz.func120, Tryz.ntmps120
  go_wp2_with fail
  rw [← hw0]
  clear hw0
  go_region_held3 (fun w' => w'.cell? ⟨w.heap.size, 0, none⟩ = some (.string op) ∧ w'.cell? ⟨w.heap.size, 1, none⟩ = some (.string nam) ∧ w'.cell? ⟨w.heap.size, 2, none⟩ = some (.slice ia il ic) ∧ w'.cell? ⟨w.heap.size, 3, none⟩ = some (.string out) ∧ w'.cell? ⟨w.heap.size, 4, none⟩ = some (.slice ao al cap)) (go_keep) (first | (go_at_call 51; have hh := done1; refine (NI.out _ _ (grown_trans g0.out g1)).mono ?_; rintro e w2 ⟨es, rfl, hes, hg2⟩; have g2 : w0.grownBy w2 none := grown_trans g1 hg2; obtain ⟨n0, n1, n2, n3, n4⟩ := nod_cells (n := ⟨op, nam, ⟨ia, il, ic⟩, out, ⟨ao, al, cap⟩⟩) (BX.out w2 (g2))) | (go_at_call 51; refine (NI.out _ _ (grown_trans g0.out (grown_drew (grown_refl _)))).mono ?_; rintro e w1 ⟨ss, rfl, hss, hg1⟩; have g1 : w0.grownBy w1 none := grown_trans (grown_drew (grown_refl _)) hg1; obtain ⟨n0, n1, n2, n3, n4⟩ := nod_cells (n := ⟨op, nam, ⟨ia, il, ic⟩, out, ⟨ao, al, cap⟩⟩) (BX.out w1 (g1)); have done1 : True := trivial) | fail)
  obtain ⟨S, hS⟩ : ∃ S, S = A.ints ⟨#[115, 116, 97, 114, 116, 115]⟩ [] := ⟨_, rfl⟩
  obtain ⟨E, hE⟩ : ∃ E, E = A.ints ⟨#[101, 110, 100, 115]⟩ [] := ⟨_, rfl⟩
  rw [← hS] at hss
  rw [← hE] at hes
  have HSx := hide hS
  have HEx := hide hE
  clear hS hE
  obtain ⟨sx, sc, es1, s1, s2, s3⟩ := hss.sl
  obtain ⟨sa, sn, sv⟩ := ss
  simp only [Sl.v, Value.slice.injEq] at es1
  obtain ⟨rfl, rfl, rfl⟩ := es1
  obtain ⟨ex, ec, ee1, e1, e2, e3⟩ := hes.sl
  obtain ⟨ea, en, ev⟩ := es
  simp only [Sl.v, Value.slice.injEq] at ee1
  obtain ⟨rfl, rfl, rfl⟩ := ee1
  simp only [Sl.v] at hss hes ⊢
  have HSS := hide (hss.more hg2)
  have HES := hide hes
  have G2 := hide g2
  clear hss hes hg1 hg2 g1 g2 NI done1
  go_wp2_with fail
  go_region_held3 (fun w' => w'.cell? ⟨w.heap.size, 0, none⟩ = some (.string op) ∧ w'.cell? ⟨w.heap.size, 1, none⟩ = some (.string nam) ∧ w'.cell? ⟨w.heap.size, 2, none⟩ = some (.slice ia il ic) ∧ w'.cell? ⟨w.heap.size, 3, none⟩ = some (.string out) ∧ w'.cell? ⟨w.heap.size, 4, none⟩ = some (.slice ao al cap)) (go_keep) (first | (go_at_call 49; refine (upto_any S.length _ s3).mono ?_; rintro e w3 ⟨rfl, ho3, hg3⟩; have g3 : w0.grownBy w3 none := grown_trans (grown_drew G2.out) hg3; obtain ⟨n0, n1, n2, n3, n4⟩ := nod_cells (n := ⟨op, nam, ⟨ia, il, ic⟩, out, ⟨ao, al, cap⟩⟩) (BX.out w3 (g3))) | (go_at_call 51; refine (NU.out _ _ S.length (grown_trans g0.out g3) (by have h := ho3.ints (by rw [upToP_len]; omega) (fun z hz => by have := upToP_mem hz; omega); rw [upToP_len] at h; exact h)).mono ?_; rintro e w4 ⟨axl, rfl, hax, hg4⟩; have g4 : w0.grownBy w4 none := grown_trans g3 hg4; obtain ⟨n0, n1, n2, n3, n4⟩ := nod_cells (n := ⟨op, nam, ⟨ia, il, ic⟩, out, ⟨ao, al, cap⟩⟩) (BX.out w4 (g4))) | fail)
  obtain ⟨L, hL⟩ : ∃ L, L = A.ints ⟨#[97, 120, 101, 115]⟩ (upToP S.length) := ⟨_, rfl⟩
  rw [← hL] at hax
  obtain ⟨ax, ac, ae1, a1, a2, a3⟩ := hax.sl
  obtain ⟨aa, an, av⟩ := axl
  simp only [Sl.v, Value.slice.injEq] at ae1
  obtain ⟨rfl, rfl, rfl⟩ := ae1
  simp only [Sl.v] at hax ⊢
  have HAX := hide hax
  have G4 := hide (grown_trans g0.out g4)
  have G24 : Hid (w2.grownBy w4 none) := grown_trans (grown_drew (grown_refl _)) (grown_trans hg3 hg4)
  have AX := hide (axesof_any ⟨aa, L.length, av⟩ L x.length w4 hax (by omega))
  simp only at AX
  have E0 : Hid (slicedP A x = (mustP (decide (S.length = E.length ∧ S.length = L.length))).bind (fun _ => (axesP L x.length).bind (fun _ => sliceL x L S E x))) := by show _ = _; rw [hL, HSx.out, HEx.out]; rfl
  clear hax ho3 hg3 hg4 g3 g4 n0 n1 n2 n3 n4 NU HSx HEx hL
  by_cases l1 : S.length = E.length
  · have b1 : ((S.length : Int) == (E.length : Int)) = true := by simp [l1]
    by_cases l2 : S.length = L.length
    · have b2 : ((S.length : Int) == (L.length : Int)) = true := by simp [l2]
      have E1 : Hid (slicedP A x = (axesP L x.length).bind (fun _ => sliceL x L S E x)) := by show _ = _; rw [E0.out]; simp [mustP, l1, l2.symm.trans l1]; rfl
      have L1 := hide l1
      have L2 := hide l2
      clear l1 l2
      cases hk : axesP L x.length with
      | error c =>
        rw [hk] at AX
        have E2 : Hid (slicedP A x = .error c) := by show _ = _; rw [E1.out, hk]; rfl
        clear hk
        go_wp2_with (first | (go_at_call 89; refine (must_yes _).mono ?_; rintro e w' ⟨rfl, rfl⟩) | (go_at_call 113; refine AX.out.mono ?_; rintro e w' ⟨hg, rfl⟩) | fail)
        exact ⟨rfl, ended_err E2.out (grown_trans G4.out hg)⟩
      | ok gone =>
        rw [hk] at AX
        have ALL := hide (axesP_all hk)
        have E2 : Hid (slicedP A x = sliceL x L S E x) := by show _ = _; rw [E1.out, hk]; rfl
        clear hk
        go_wp2_with (first | (go_at_call 89; refine (must_yes _).mono ?_; rintro e w' ⟨rfl, rfl⟩) | (go_at_call 113; refine AX.out.mono ?_; rintro e w5 ⟨hg5, v, rfl, B, rfl, -, -⟩) | (go_at_call 77; refine (CL.out w5 (grown_trans G4.out hg5)).mono ?_; rintro e w6 ⟨⟨qa, qn, qc⟩, rfl, ho, hg6⟩; simp only) | fail)
        have G5 := hide (grown_trans G4.out hg5)
        have G6 := hide (grown_trans (grown_trans G4.out hg5) hg6)
        have G46 := hide (grown_trans hg5 hg6)
        have HO := hide (ho.base_le hg5.size)
        clear ho hg5 hg6 b1 b2 CL AX
        go_loopw [44] (fun i wr => ∃ (k : Nat) (D : List Int), k ≤ L.length ∧ i = .int .i64 k ∧ Owns wr w4.heap.size (.slice qa qn qc) D ∧ D.length = x.length ∧ sliceL x (L.drop k) (S.drop k) (E.drop k) D = sliceL x L S E x ∧ (∀ z ∈ D, 0 ≤ z ∧ z ≤ 65536) ∧ w4.grownBy wr none) (fun i _ => L.length - (intOf i).toNat)
        case atStart => exact ⟨0, x, Nat.zero_le _, rfl, HO.out, rfl, by simp, fun z hz => by have := PB.out z hz; omega, G46.out⟩
        case round =>
          obtain ⟨k, D, hk, rfl, ho, hD, hst, hbd, hg⟩ := hrel
          have HG := hide hg
          have HO1 := hide ho
          by_cases hkl : k < L.length
          · obtain ⟨b, off, rfl, hc⟩ := HAX.out.get hkl
            have hcell : wr.cell? ⟨b, off + k, none⟩ = some (.int .i64 (L.getD k 0)) := cell_still (hc k hkl) hg
            have hwfa := HAX.out.wf (L.getD k 0) (by simp [List.getD, hkl])
            have hsl : k < S.length := by have := L2.out; omega
            have hel : k < E.length := by have := L1.out; have := L2.out; omega
            obtain ⟨b', off', rfl, hcs⟩ := HSS.out.get hsl
            have hcs2 : wr.cell? ⟨b', off' + k, none⟩ = some (.int .i64 (S.getD k 0)) := cell_still (hcs k hsl) (grown_trans G24.out hg)
            have hwfs := HSS.out.wf (S.getD k 0) (by simp [List.getD, hsl])
            obtain ⟨b'', off'', rfl, hce⟩ := HES.out.get hel
            have hce2 : wr.cell? ⟨b'', off'' + k, none⟩ = some (.int .i64 (E.getD k 0)) := cell_still (hce k hel) (grown_trans G24.out hg)
            have hwfe := HES.out.wf (E.getD k 0) (by simp [List.getD, hel])
            obtain ⟨i, hi⟩ := ALL.out (L.getD k 0) (by simp [List.getD, hkl])
            have hil := axisO_lt hi
            obtain ⟨b3, off3, rfl, hcx⟩ := HX.out.get hil
            have hcx2 : wr.cell? ⟨b3, off3 + i, none⟩ = some (.int .i64 (x.getD i 0)) := cell_still (hcx i hil) (grown_trans G4.out hg)
            have hbx := PB.out (x.getD i 0) (by simp [List.getD, hil])
            rw [sliceL_step hkl hsl hel] at hst
            obtain ⟨a, ha0⟩ : ∃ a, a = L.getD k 0 := ⟨_, rfl⟩
            obtain ⟨s, hs0⟩ : ∃ s, s = S.getD k 0 := ⟨_, rfl⟩
            obtain ⟨t, ht0⟩ : ∃ t, t = E.getD k 0 := ⟨_, rfl⟩
            obtain ⟨d, hd0⟩ := Int.eq_ofNat_of_zero_le (show 0 ≤ x.getD i 0 by omega)
            have hax : axisP a x.length = .ok i := by unfold axisP; rw [ha0, hi]
            rw [← ha0] at hcell hwfa hst
            rw [← hs0] at hcs2 hwfs hst
            rw [← ht0] at hce2 hwfe hst
            rw [hax] at hst
            rw [hd0] at hcx2 hbx
            have hst2 : (mustP (decide (boundedP s d < boundedP t d))).bind (fun _ => sliceL x (L.drop (k + 1)) (S.drop (k + 1)) (E.drop (k + 1)) (D.set i (boundedP t d - boundedP s d))) = sliceL x L S E x := by
              rw [← hst]
              show _ = (mustP _).bind _
              rw [hd0, Int.toNat_natCast]
            have AO := hide (fun wx => axisof_any a x.length wx (by omega) hwfa.1)
            rw [hax] at AO
            have l1 := boundedP_le s d
            have l2 := boundedP_le t d
            obtain ⟨g, gcap, eo, hbg, hgl, hlc, hcm⟩ := ho.shape (by rw [hD]; omega)
            simp only [Value.slice.injEq] at eo
            obtain ⟨rfl, rfl, rfl⟩ := eo
            have HDD := hide hD
            rw [hD] at hlc ⊢
            clear hD
            clear hc hcs hce hcx ha0 hs0 ht0 hd0 hst hi hax
            go_wp2_with (first | (go_at_call 121; refine (AO.out _).mono ?_; rintro e w' ⟨-, v, rfl, rfl, rfl⟩) | fail)
            go_quiet (first | (go_at_call 55; refine (bounded_any _ _ _ (by omega) (by omega)).mono ?_; rintro e w' ⟨rfl, rfl⟩; exact ⟨rfl, _, rfl⟩) | fail)
            have gq := grown_drewQ (grown_refl wr) nq
            have hoq := ho.new gq
            obtain ⟨cc, fc⟩ := hoq.cells (k := i) (by rw [HDD.out]; exact hil)
            have hq := grown_trans hg gq
            obtain ⟨wq, hwq⟩ : ∃ wq, wq = wr.drewN nq := ⟨_, rfl⟩
            rw [← hwq] at hoq cc fc hq ⊢
            clear hwq gq hcell hcs2 hce2 hcx2
            obtain ⟨p, hp0⟩ : ∃ p, p = boundedP s d := ⟨_, rfl⟩
            obtain ⟨q, hq0⟩ : ∃ q, q = boundedP t d := ⟨_, rfl⟩
            rw [← hp0] at hst2 l1 ⊢
            rw [← hq0] at hst2 l2 ⊢
            clear hp0 hq0
            by_cases hpq : p < q
            · obtain ⟨so, sg⟩ := hoq.put i (q - p) (by omega)
              have SO := hide so
              have SG := hide (grown_drop hq sg hbg)
              have HST : Hid (sliceL x (L.drop (k + 1)) (S.drop (k + 1)) (E.drop (k + 1)) (D.set i (q - p)) = sliceL x L S E x) := by show _ = _; rw [← hst2]; simp [mustP, hpq]; rfl
              have HB : Hid (∀ z ∈ D.set i (q - p), 0 ≤ z ∧ z ≤ 65536) := fun z hz => by
                rcases List.mem_or_eq_of_mem_set hz with h1 | rfl
                · exact hbd z h1
                · omega
              clear hst2 hbd ho hoq hg hq so sg
              go_wp2_with (first | (go_at_call 89; refine (must_yes _).mono ?_; rintro e w' ⟨rfl, rfl⟩) | fail)
              go_roundw
              case rel => exact ⟨k + 1, _, by omega, by go_num, by have h := SO.out; rw [HDD.out] at h; exact h, by rw [List.length_set]; exact HDD.out, HST.out, HB.out, SG.out⟩
              case measure => simp [intOf]; omega
            · have E3 : Hid (slicedP A x = .error 4) := by show _ = _; rw [E2.out, ← hst2]; simp [mustP, hpq]; rfl
              have HQ := hide hq
              clear hst2 hbd ho hoq hg hq
              go_wp2_with (first | (go_at_call 89; refine (must_no _).mono ?_; rintro e w' ⟨rfl, rfl⟩) | fail)
              exact ⟨rfl, ended_err E3.out (grown_trans G4.out HQ.out)⟩
          · have E3 : Hid (slicedP A x = .ok D) := by
              show _ = _
              rw [E2.out, ← hst, List.drop_of_length_le (l := L) (by omega)]
              simp [sliceL]
            clear hst hbd ho hg
            go_wp2
            go_ret
            exact ended_ok E3.out (grown_trans G4.out HG.out) ⟨⟨qa, qn, qc⟩, rfl, HO1.out.ints⟩
    · have b2 : ((S.length : Int) == (L.length : Int)) = false := by simpa using (fun h => l2 (by omega) : ¬ (S.length : Int) = L.length)
      have E1 : Hid (slicedP A x = .error 4) := by show _ = _; rw [E0.out]; simp [mustP, l2]; rfl
      clear l1 l2
      go_wp2_with (first | (go_at_call 89; refine (must_no _).mono ?_; rintro e w' ⟨rfl, rfl⟩) | fail)
      exact ⟨rfl, ended_err E1.out G4.out⟩
  · have b1 : ((S.length : Int) == (E.length : Int)) = false := by simpa using (fun h => l1 (by omega) : ¬ (S.length : Int) = E.length)
    have E1 : Hid (slicedP A x = .error 4) := by show _ = _; rw [E0.out]; simp [mustP, l1]; rfl
    clear l1
    go_wp2_with (first | (go_at_call 89; refine (must_no _).mono ?_; rintro e w' ⟨rfl, rfl⟩) | fail)
    exact ⟨rfl, ended_err E1.out G4.out⟩

end Go.Proofs.YtaoplfpigjkgpaaGreatDoor

namespace Go.Proofs.YtaoplfpigjkgpaaGreatDoor

open Go.RowKit

structure ValsIn (w : World) (v : Value) (vs : List (Val × List Int)) : Prop where
  vals : IsVals w v (vs.map (·.1))
  dims : ∀ p ∈ vs, IsInts w p.1.dv.v p.2

theorem ValsIn.more {w w' : World} {v : Value} {vs : List (Val × List Int)} (h : ValsIn w v vs) (hg : w.grownBy w' none) : ValsIn w' v vs := ⟨h.vals.more hg, fun p hp => (h.dims p hp).more hg⟩

def sameP : List Int → R Int
  | [] => .ok 0
  | t :: l => if l.all (fun s => s == t) = true then .ok t else .error 4

set_option maxRecDepth 100000 in
set_option maxHeartbeats 1000000 in
theorem sametype_any (u : Sl) (vs : List (Val × List Int)) (w : World) (hv : ValsIn w u.v vs) (hp : 0 < vs.length) (hf : vs.length ≤ 1000000) : Calls Tryz.prog 110 #[.slice u.a u.n u.c] w (Ended w (sameP (vs.map (·.1.ty))) fun t v _ => v = .int .i64 t) := by
  obtain ⟨xa, xc, e1, p1, p2, p3⟩ := hv.vals.form
  rw [List.length_map] at e1 p1 p3
  obtain ⟨ua, un, uc⟩ := u
  simp only [Sl.v, Value.slice.injEq] at e1
  obtain ⟨rfl, rfl, rfl⟩ := e1
  have HV := hide hv.vals
  have hl : (vs.map (·.1)).length = vs.length := by simp
  obtain ⟨b, off, rfl⟩ := hv.vals.addr (k := 0) (by rw [hl]; exact hp)
  obtain ⟨z0, z1, z2⟩ := hv.vals.val 0 (by rw [hl]; exact hp)
  rw [Nat.zero_mul, Nat.add_zero, List.getElem_map] at z1
  obtain ⟨T, hT⟩ : ∃ T, T = vs[0].1.ty := ⟨_, rfl⟩
  rw [← hT] at z1
  have Z1 := hide z1
  have HT := hide hT
  clear hv z0 z1 z2 hT
  go_enter Tryz.func110, Tryz.ntmps110
  go_wp2
  go_loopw [7] (fun i wr => ∃ k : Nat, k ≤ vs.length ∧ i = .int .i64 k ∧ (∀ j (hj : j < vs.length), j < k → vs[j].1.ty = T) ∧ w.grownBy wr none) (fun i _ => vs.length - (intOf i).toNat)
  case atStart => exact ⟨0, Nat.zero_le _, rfl, fun j hj h => absurd h (by omega), grown_refl _⟩
  case round =>
    obtain ⟨k, hk, rfl, hall, hg⟩ := hrel
    have HA := hide hall
    have HG := hide hg
    by_cases hkl : k < vs.length
    · have h2 := HV.out.more hg
      obtain ⟨y0, y1, y2⟩ := h2.val k (by rw [hl]; exact hkl)
      rw [List.getElem_map] at y0 y1 y2
      have z1 : wr.cell? ⟨b, off + 1, none⟩ = some (.int .i64 T) := cell_still Z1.out hg
      have HK : Hid (vs[k].1.ty = vs[k].1.ty) := rfl
      obtain ⟨v, hvv⟩ : ∃ v, v = vs[k].1 := ⟨_, rfl⟩
      rw [← hvv] at y0 y1 y2 HK
      obtain ⟨vn, vt, ⟨da, dn, dc⟩⟩ := v
      simp only at y0 y1 y2
      have HVV := hide hvv
      obtain ⟨w1, hw1⟩ : ∃ w1, w1 = wr.alloc (.cells #[.string vn, .int .i64 vt, .slice da dn dc] 50) := ⟨_, rfl⟩
      have g1 : Hid (w.grownBy w1 none) := by show w.grownBy w1 none; rw [hw1]; exact grown_trans hg (grown_new _ _)
      have hb1 := heap_alloc_new wr (.cells #[.string vn, .int .i64 vt, .slice da dn dc] 50)
      rw [← hw1] at hb1
      have q1 : w1.cell? ⟨wr.heap.size, 1, none⟩ = some (.int .i64 vt) := (cell_of_row _ _ 1 _ _ (0, 0) hb1).trans rfl
      have z1' : w1.cell? ⟨b, off + 1, none⟩ = some (.int .i64 T) := cell_still Z1.out g1.out
      clear hb1 hvv hall hg h2
      go_wp2_with fail
      rw [← hw1]
      clear hw1 y0 y1 y2 z1
      have hp' : (0 : Int) < (vs.length : Int) := by omega
      by_cases hd : vt = T
      · have bd : (vt == T) = true := by simp [hd]
        go_quiet (first | (go_at_call 89; refine (must_yes _).mono ?_; rintro e w' ⟨rfl, rfl⟩; exact ⟨rfl, _, rfl⟩) | fail)
        have HKT : Hid (∀ j (hj : j < vs.length), j < k + 1 → vs[j].1.ty = T) := fun j hj h => by
          rcases lt_succ_cases h with h | rfl
          · exact HA.out j hj h
          · rw [← HVV.out]; exact hd
        clear hd bd
        go_wp2_with fail
        go_roundw
        case rel => exact ⟨k + 1, by omega, by go_num, HKT.out, ⟨g1.out.os, g1.out.tape, g1.out.output, g1.out.size, g1.out.block⟩⟩
        case measure => simp [intOf]; omega
      · have bd : (vt == T) = false := by simpa using hd
        have E : Hid (sameP (vs.map (·.1.ty)) = .error 4) := by
          show _ = _
          cases vs with
          | nil => simp at hp
          | cons p l =>
            have hT2 : T = p.1.ty := HT.out
            simp only [List.map_cons, sameP]
            rw [if_neg]
            intro h
            rw [List.all_eq_true] at h
            cases k with
            | zero => exact hd (by have := HVV.out; simp at this; rw [hT2, ← this])
            | succ k =>
              have h3 : k < l.length := by simpa using hkl
              have := h (l[k].1.ty) (List.mem_map.2 ⟨l[k], List.getElem_mem h3, rfl⟩)
              refine hd ?_
              have h4 := HVV.out
              simp only [List.getElem_cons_succ] at h4
              rw [hT2, ← beq_iff_eq.1 this, ← h4]
        clear hd
        refine wp_region_held_drew (S := (fun w' => w'.cell? ⟨wr.heap.size, 1, none⟩ = some (.int .i64 vt) ∧ w'.cell? ⟨b, off + 1, none⟩ = some (.int .i64 T))) (by kernel_rfl) (by go_keep) (fun hHeld => ?_)
        refine wpAnyH_take (i := 0) (v := ?_) rfl (by kernel_rfl) (by kernel_rfl) (by kernel_rfl) (fun _ _ _ h => h) (Or.inl ⟨by rfl, ?_⟩) (by assumption) ?_
        rotate_left 1
        · (intro w hSw; (try dsimp only at hSw); go_simp; (try with_reducible rfl))
        try simp only [Act.put]
        refine wpAnyH_take (i := 1) (v := ?_) rfl (by kernel_rfl) (by kernel_rfl) (by kernel_rfl) (fun _ _ _ h => h) (Or.inl ⟨by rfl, ?_⟩) (by assumption) ?_
        rotate_left 1
        · (intro w hSw; (try dsimp only at hSw); go_simp; (try with_reducible rfl))
        try simp only [Act.put]
        refine wpAnyH_take (i := 2) (v := ?_) rfl (by kernel_rfl) (by kernel_rfl) (by kernel_rfl) (fun _ _ _ h => h) (Or.inl ⟨by rfl, ?_⟩) (by assumption) ?_
        rotate_left 1
        · (intro w hSw; (try dsimp only at hSw); go_simp; (try with_reducible rfl))
        try simp only [Act.put]
        refine wpAnyH_take (i := 3) (v := ?_) rfl (by kernel_rfl) (by kernel_rfl) (by kernel_rfl) (fun _ _ _ h => h) (Or.inl ⟨by rfl, ?_⟩) (by assumption) ?_
        rotate_left 1
        · (intro w hSw; (try dsimp only at hSw); go_simp; (try with_reducible rfl))
        try simp only [Act.put]
        refine wpAnyH_take (i := 4) (v := ?_) rfl (by kernel_rfl) (by kernel_rfl) (by kernel_rfl) (fun _ _ _ h => h) (Or.inl ⟨by rfl, ?_⟩) (by assumption) ?_
        rotate_left 1
        · (intro w hSw; (try dsimp only at hSw); go_simp; (try with_reducible rfl))
        try simp only [Act.put]
        refine wpAnyH_take (i := 5) (v := ?_) rfl (by kernel_rfl) (by kernel_rfl) (by kernel_rfl) (fun _ _ _ h => h) (Or.inl ⟨by rfl, ?_⟩) (by assumption) ?_
        rotate_left 1
        · (intro w hSw; (try dsimp only at hSw); go_simp; (try with_reducible rfl))
        try simp only [Act.put]
        refine wpAnyH_take (i := 6) (v := ?_) rfl (by kernel_rfl) (by kernel_rfl) (by kernel_rfl) (fun _ _ _ h => h) (Or.inl ⟨by rfl, ?_⟩) (by assumption) ?_
        rotate_left 1
        · (intro w hSw; (try dsimp only at hSw); go_simp; (try with_reducible rfl))
        try simp only [Act.put]
        refine wpAnyH_ready (rs := [7]) (by kernel_rfl) (by simp) ?_
        refine AllReadyH.cons rfl (fun K hK => ?_) AllReadyH.nil
        go_simp
        refine (must_no _).mono ?_
        rintro e wy ⟨rfl, rfl⟩; exact ⟨rfl, ended_err E.out (grown_drew g1.out)⟩
    · have E : Hid (sameP (vs.map (·.1.ty)) = .ok T) := by
        show _ = _
        cases vs with
        | nil => simp at hp
        | cons p l =>
          have hT2 : T = p.1.ty := HT.out
          simp only [List.map_cons, sameP]
          rw [if_pos, hT2]
          rw [List.all_eq_true]
          intro s hs
          obtain ⟨q, hq, rfl⟩ := List.mem_map.1 hs
          obtain ⟨j, hj, rfl⟩ := List.mem_iff_getElem.1 hq
          have := HA.out (j + 1) (by simpa using hj) (by simp at hkl ⊢; omega)
          simp only [List.getElem_cons_succ] at this
          simp [this, hT2]
      have z1 : wr.cell? ⟨b, off + 1, none⟩ = some (.int .i64 T) := cell_still Z1.out hg
      have hp' : (0 : Int) < (vs.length : Int) := by omega
      clear hall hg
      go_wp2
      go_ret
      exact ended_ok E.out HG.out rfl

end Go.Proofs.YtaoplfpigjkgpaaGreatDoor

namespace Go.Proofs.YtaoplfpigjkgpaaGreatDoor

open Go.RowKit

theorem getD_mem {l : List Int} {k : Nat} (hk : k < l.length) : l.getD k 0 ∈ l := by
  rw [List.getD, List.getElem?_eq_getElem hk]
  exact List.getElem_mem hk

def tailP (X Y T : Int) (along : Nat) (di pa : List Int) : R Int := (mustP (decide (0 ≤ X + pa.getD along 0 + pa.getD (2 + along) 0 - di.getD along 0 * (Y - 1) - 1))).bind (fun _ => .ok ((X + pa.getD along 0 + pa.getD (2 + along) 0 - di.getD along 0 * (Y - 1) - 1) / T + 1))

set_option maxRecDepth 100000 in
set_option maxHeartbeats 2000000 in
theorem places_any (n : Nod) (A : At) (u v : Sl) (x K : List Int) (along : Nat) (w : World) (hn : NodeOk w n A) (hx : IsInts w u.v x) (hK : IsInts w v.v K) (hlx : x.length = 4) (hlK : K.length = 2) (bx : ∀ z ∈ x, 1 ≤ z ∧ z ≤ 65536) (bK : ∀ z ∈ K, 1 ≤ z ∧ z ≤ 65536) (ha : along < 2) :
    Calls Tryz.prog 156 #[nval n, .slice u.a u.n u.c, .slice v.a v.n v.c, .int .i64 along] w (Ended w (placesP A x K along) fun z v _ => v = .int .i64 z ∧ 1 ≤ z ∧ z ≤ 1000000) := by
  obtain ⟨ux, uc, eu, c1, c2, c3⟩ := hx.sl
  obtain ⟨ua, un, uu⟩ := u
  simp only [Sl.v, Value.slice.injEq] at eu
  obtain ⟨rfl, rfl, rfl⟩ := eu
  obtain ⟨vx, vc, ev, d1, d2, d3⟩ := hK.sl
  obtain ⟨va, vn, vv⟩ := v
  simp only [Sl.v, Value.slice.injEq] at ev
  obtain ⟨rfl, rfl, rfl⟩ := ev
  obtain ⟨xb, xo, rfl, hcx⟩ := hx.get (k := 0) (by omega)
  obtain ⟨kb, ko, rfl, hck⟩ := hK.get (k := 0) (by omega)
  have XC := hide (hcx (2 + along) (by omega))
  have KC := hide (hck along (by omega))
  have BX := bx _ (getD_mem (l := x) (k := 2 + along) (by omega))
  have BK := bK _ (getD_mem (l := K) (k := along) (by omega))
  rw [hlx, hlK]
  rw [hlx] at c1
  rw [hlK] at d1
  have E0 : Hid (placesP A x K along = (withinP (A.ints ⟨#[115, 116, 114, 105, 100, 101, 115]⟩ [1, 1]) 2 1).bind (fun st => (withinP (A.ints ⟨#[100, 105, 108, 97, 116, 105, 111, 110, 115]⟩ [1, 1]) 2 1).bind (fun di => (padsP A).bind (fun pa => tailP (x.getD (2 + along) 0) (K.getD along 0) (st.getD along 0) along di pa)))) := rfl
  obtain ⟨X, hX⟩ : ∃ X, X = x.getD (2 + along) 0 := ⟨_, rfl⟩
  obtain ⟨Y, hY⟩ : ∃ Y, Y = K.getD along 0 := ⟨_, rfl⟩
  rw [← hX] at XC E0 BX
  rw [← hY] at KC E0 BK
  clear hx hK hcx hck bx bK hlx hlK hX hY c3 d3
  have NK := hide hn
  obtain ⟨op, nam, ⟨ia, il, ic⟩, out, ⟨ao, al, cap⟩⟩ := n
  unfold nval
  simp only
  obtain ⟨w0, hw0⟩ : ∃ w0, w0 = w.alloc (.cells #[.string op, .string nam, .slice ia il ic, .string out, .slice ao al cap] 25) := ⟨_, rfl⟩
  have g0 : Hid (w.grownBy w0 none) := by show w.grownBy w0 none; rw [hw0]; exact grown_new _ _
  have hb0 := heap_alloc_new w (.cells #[.string op, .string nam, .slice ia il ic, .string out, .slice ao al cap] 25)
  rw [← hw0] at hb0
  have BX : Hid (∀ wx, w0.grownBy wx none → wx.heap[w.heap.size]? = some (.cells #[.string op, .string nam, .slice ia il ic, .string out, .slice ao al cap] 25 (0, 0))) := fun wx hg => box_kept hb0 hg
  clear hb0 hn
  have ST := hide (astrides_any ⟨op, nam, ⟨ia, il, ic⟩, out, ⟨ao, al, cap⟩⟩ A w0 (NK.out.more g0.out))
  have DI := hide (fun (wx : World) (hg : w.grownBy wx none) => dilations_any ⟨op, nam, ⟨ia, il, ic⟩, out, ⟨ao, al, cap⟩⟩ A wx (NK.out.more hg))
  have PA := hide (fun (wx : World) (hg : w.grownBy wx none) => padsof_any ⟨op, nam, ⟨ia, il, ic⟩, out, ⟨ao, al, cap⟩⟩ A wx (NK.out.more hg))
  unfold nval at ST DI PA
  simp only at ST DI PA
  go_enter Tryz.func156, Tryz.ntmps156
  go_wp2_with fail
  rw [← hw0]
  clear hw0
  refine ST.out.mono ?_
  rintro e w1 ⟨s, rfl, hs, hg1⟩
  have G1 := hide hg1
  have WS := hide (within_any s _ 2 1 w1 hs (by decide))
  have HS := hide hs
  clear hs hg1 ST
  cases hk : withinP (A.ints ⟨#[115, 116, 114, 105, 100, 101, 115]⟩ [1, 1]) 2 1 with
  | error c =>
    rw [hk] at WS
    have E : Hid (placesP A x K along = .error c) := by show _ = _; rw [E0.out, hk]; rfl
    clear hk
    go_wp2_with (first | (go_at_call 157; refine WS.out.mono ?_; rintro e w' ⟨hg, rfl⟩) | fail)
    exact ⟨rfl, ended_err E.out (grown_trans g0.out (grown_trans G1.out hg))⟩
  | ok st =>
    rw [hk] at WS E0
    obtain ⟨e1, stl, stb⟩ := withinP_ok hk
    have BST := hide (stb _ (getD_mem (l := st) (k := along) (by omega)))
    rw [← e1] at HS
    have SC : Hid (∀ wx, w1.grownBy wx none → ∃ b off, s.a = some ⟨b, off, none⟩ ∧ wx.cell? ⟨b, off + along, none⟩ = some (.int .i64 (st.getD along 0))) := fun wx hg => by
      obtain ⟨s1, s2, s3⟩ := s
      obtain ⟨b, off, e, hc⟩ := HS.out.get (k := along) (by omega)
      exact ⟨b, off, e, cell_still (hc along (by omega)) hg⟩
    have SL : s.n = 2 := by
      obtain ⟨a', c', e, -⟩ := HS.out.sl
      have : s.n = st.length := by simp only [Sl.v, Value.slice.injEq] at e; exact e.2.1
      rw [this, stl]
    obtain ⟨b, off, esa, hsc⟩ := SC.out w1 (grown_refl _)
    obtain ⟨sa, sn, sc⟩ := s
    simp only at esa SL
    subst esa SL
    simp only [Sl.v] at WS ⊢
    have E1 : Hid (placesP A x K along = (withinP (A.ints ⟨#[100, 105, 108, 97, 116, 105, 111, 110, 115]⟩ [1, 1]) 2 1).bind (fun di => (padsP A).bind (fun pa => tailP X Y (st.getD along 0) along di pa))) := E0.out
    obtain ⟨T, hT⟩ : ∃ T, T = st.getD along 0 := ⟨_, rfl⟩
    rw [← hT] at hsc E1 BST
    have ha2 : (along : Int) < 2 := by omega
    obtain ⟨n0, n1, n2, n3, n4⟩ := nod_cells (n := ⟨op, nam, ⟨ia, il, ic⟩, out, ⟨ao, al, cap⟩⟩) (BX.out w1 (G1.out))
    clear hk e1 stl stb hT SC E0 HS
    go_wp2_with (first | (go_at_call 157; refine WS.out.mono ?_; rintro e w' ⟨-, v, rfl, rfl, -, rfl⟩) | fail)
    clear hsc WS
    refine (DI.out w1 (grown_trans g0.out G1.out)).mono ?_
    rintro e w2 ⟨s, rfl, hs, hg2⟩
    have G2 := hide (grown_trans G1.out hg2)
    have WD := hide (within_any s _ 2 1 w2 hs (by decide))
    have HS := hide hs
    clear hs hg2 DI n0 n1 n2 n3 n4
    cases hk : withinP (A.ints ⟨#[100, 105, 108, 97, 116, 105, 111, 110, 115]⟩ [1, 1]) 2 1 with
    | error c =>
      rw [hk] at WD
      have E : Hid (placesP A x K along = .error c) := by show _ = _; rw [E1.out, hk]; rfl
      clear hk
      go_wp2_with (first | (go_at_call 157; refine WD.out.mono ?_; rintro e w' ⟨hg, rfl⟩) | fail)
      exact ⟨rfl, ended_err E.out (grown_trans g0.out (grown_trans G2.out hg))⟩
    | ok di =>
      rw [hk] at WD E1
      obtain ⟨e1, dil, dib⟩ := withinP_ok hk
      have BDI := hide (dib _ (getD_mem (l := di) (k := along) (by omega)))
      rw [← e1] at HS
      have SL : s.n = 2 := by
        obtain ⟨a', c', e, -⟩ := HS.out.sl
        have : s.n = di.length := by simp only [Sl.v, Value.slice.injEq] at e; exact e.2.1
        rw [this, dil]
      obtain ⟨sa, sn, sc'⟩ := s
      obtain ⟨b2, off2, esa, hc2⟩ := HS.out.get (k := along) (by omega)
      simp only at esa SL
      subst esa SL
      have hsc := hc2 along (by omega)
      simp only [Sl.v] at WD ⊢
      have E2 : Hid (placesP A x K along = (padsP A).bind (fun pa => tailP X Y T along di pa)) := E1.out
      obtain ⟨D, hD⟩ : ∃ D, D = di.getD along 0 := ⟨_, rfl⟩
      rw [← hD] at hsc BDI
      have HDX := hide hD
      obtain ⟨n0, n1, n2, n3, n4⟩ := nod_cells (n := ⟨op, nam, ⟨ia, il, ic⟩, out, ⟨ao, al, cap⟩⟩) (BX.out w2 (G2.out))
      clear hk e1 dil dib hD E1 HS hc2
      go_wp2_with (first | (go_at_call 157; refine WD.out.mono ?_; rintro e w' ⟨-, v, rfl, rfl, -, rfl⟩) | fail)
      clear hsc WD
      have P3 := hide (PA.out w2 (grown_trans g0.out G2.out))
      clear PA n0 n1 n2 n3 n4
      cases hk : padsP A with
      | error c =>
        rw [hk] at P3
        have E : Hid (placesP A x K along = .error c) := by show _ = _; rw [E2.out, hk]; rfl
        clear hk
        refine P3.out.mono ?_
        rintro e w' ⟨hg, rfl⟩
        exact ⟨rfl, ended_err E.out (grown_trans g0.out (grown_trans G2.out hg))⟩
      | ok pa =>
        rw [hk] at P3 E2
        have E3 : Hid (placesP A x K along = tailP X Y T along di pa) := E2.out
        clear hk E2
        refine P3.out.mono ?_
        rintro e w3 ⟨hg3, v, rfl, ⟨pa1, pn, pc⟩, rfl, hp, hpl, hpb⟩
        have G3 := hide (grown_trans g0.out (grown_trans G2.out hg3))
        obtain ⟨pb, po, epa, hpc⟩ := hp.get (k := 0) (by omega)
        have SL : pn = 4 := by
          obtain ⟨a', c', e, -⟩ := hp.sl
          cases e
          exact hpl
        subst epa SL
        have p1 := hpc along (by omega)
        have p2 := hpc (2 + along) (by omega)
        have q1 := hpb _ (getD_mem (l := pa) (k := along) (by omega))
        have q2 := hpb _ (getD_mem (l := pa) (k := 2 + along) (by omega))
        have xc := cell_still XC.out G3.out
        have kc := cell_still KC.out G3.out
        have pcb : 4 ≤ pc ∧ pc ≤ 9223372036854775807 := by
          obtain ⟨a', c', e, f1, f2, -⟩ := hp.sl
          simp only [Sl.v, Value.slice.injEq] at e
          rw [hpl] at f1
          rw [e.2.2]
          exact ⟨f1, f2⟩
        obtain ⟨pc1, pc2⟩ := pcb
        have E4 : Hid (placesP A x K along = (mustP (decide (0 ≤ X + pa.getD along 0 + pa.getD (2 + along) 0 - D * (Y - 1) - 1))).bind (fun _ => .ok ((X + pa.getD along 0 + pa.getD (2 + along) 0 - D * (Y - 1) - 1) / T + 1))) := by show _ = _; rw [E3.out, HDX.out]; rfl
        obtain ⟨M, hM⟩ : ∃ M, M = D * (Y - 1) := ⟨_, rfl⟩
        have bd := BDI.out
        have bt := BST.out
        have m1 : 0 ≤ M := by rw [hM]; exact Int.mul_nonneg (by omega) (by omega)
        have m2 : M ≤ 100 * 65536 := by rw [hM]; exact Int.mul_le_mul (by omega) (by omega) (by omega) (by omega)
        obtain ⟨U, hU⟩ : ∃ U, U = pa.getD along 0 := ⟨_, rfl⟩
        obtain ⟨V, hV⟩ : ∃ V, V = pa.getD (2 + along) 0 := ⟨_, rfl⟩
        rw [← hM, ← hU, ← hV] at E4
        rw [← hU] at p1 q1
        rw [← hV] at p2 q2
        have hM' : D * (Y - 1) = M := hM.symm
        clear hM hU hV hp hpl hpb hpc E3 P3 HDX hg3
        obtain ⟨N, hN0⟩ : ∃ N, N = X + U + V - M - 1 := ⟨_, rfl⟩
        rw [← hN0] at E4
        have hN1 : X + U + V - M - 1 = N := hN0.symm
        have bN : N ≤ 200000 := by omega
        clear hN0
        rcases (show along = 0 ∨ along = 1 by omega) with rfl | rfl
        · skip
          simp only [Sl.v, Nat.add_zero, Int.natCast_zero] at *
          have hN : 0 ≤ N → N / T + 1 ≤ 1000000 ∧ 1 ≤ N / T + 1 := fun h => by
            have h1 : N / T ≤ N := Int.ediv_le_self _ h
            have h2 : 0 ≤ N / T := Int.ediv_nonneg h (by omega)
            omega
          have hdv : 0 ≤ N → N.tdiv T = N / T := fun h => Int.tdiv_eq_ediv_of_nonneg h
          have ht0 : ¬ T = 0 := by omega
          have wz2 : IntKind.i64.wrap 2 = 2 := by decide
          have wz3 : IntKind.i64.wrap 3 = 3 := by decide
          have cN : Hid (0 ≤ N → 1 ≤ N / T + 1 ∧ N / T + 1 ≤ 1000000) := fun h => ⟨(hN h).2, (hN h).1⟩
          go_wp2_with fail
          go_quiet (fail)
          clear xc kc p1 p2 wz2 wz3
          by_cases h0 : 0 ≤ N
          · have E5 : Hid (placesP A x K 0 = .ok (N / T + 1)) := by show _ = _; rw [E4.out]; simp [mustP, h0]; rfl
            have hdv' := hdv h0
            have hb := hN h0
            clear hN hdv
            go_wp2_with (first | (go_at_call 89; refine (must_yes _).mono ?_; rintro e w' ⟨rfl, rfl⟩) | fail)
            go_ret
            exact ended_ok E5.out (grown_drewQ G3.out _) ⟨rfl, cN.out h0⟩
          · have E5 : Hid (placesP A x K 0 = .error 4) := by show _ = _; rw [E4.out]; simp [mustP, h0]; rfl
            have hd0 : decide (0 ≤ N) = false := by simpa using h0
            clear hN hdv
            go_wp2_with (first | (go_at_call 89; refine (must_no _).mono ?_; rintro e w' ⟨rfl, rfl⟩) | fail)
            exact ⟨rfl, ended_err E5.out (grown_drewQ G3.out _)⟩
        · skip
          simp only [Sl.v, Nat.reduceAdd, Int.natCast_one] at *
          have hN : 0 ≤ N → N / T + 1 ≤ 1000000 ∧ 1 ≤ N / T + 1 := fun h => by
            have h1 : N / T ≤ N := Int.ediv_le_self _ h
            have h2 : 0 ≤ N / T := Int.ediv_nonneg h (by omega)
            omega
          have hdv : 0 ≤ N → N.tdiv T = N / T := fun h => Int.tdiv_eq_ediv_of_nonneg h
          have ht0 : ¬ T = 0 := by omega
          have wz2 : IntKind.i64.wrap 2 = 2 := by decide
          have wz3 : IntKind.i64.wrap 3 = 3 := by decide
          have cN : Hid (0 ≤ N → 1 ≤ N / T + 1 ∧ N / T + 1 ≤ 1000000) := fun h => ⟨(hN h).2, (hN h).1⟩
          go_wp2_with fail
          go_quiet (fail)
          clear xc kc p1 p2 wz2 wz3
          by_cases h0 : 0 ≤ N
          · have E5 : Hid (placesP A x K 1 = .ok (N / T + 1)) := by show _ = _; rw [E4.out]; simp [mustP, h0]; rfl
            have hdv' := hdv h0
            have hb := hN h0
            clear hN hdv
            go_wp2_with (first | (go_at_call 89; refine (must_yes _).mono ?_; rintro e w' ⟨rfl, rfl⟩) | fail)
            go_ret
            exact ended_ok E5.out (grown_drewQ G3.out _) ⟨rfl, cN.out h0⟩
          · have E5 : Hid (placesP A x K 1 = .error 4) := by show _ = _; rw [E4.out]; simp [mustP, h0]; rfl
            have hd0 : decide (0 ≤ N) = false := by simpa using h0
            clear hN hdv
            go_wp2_with (first | (go_at_call 89; refine (must_no _).mono ?_; rintro e w' ⟨rfl, rfl⟩) | fail)
            exact ⟨rfl, ended_err E5.out (grown_drewQ G3.out _)⟩

end Go.Proofs.YtaoplfpigjkgpaaGreatDoor
