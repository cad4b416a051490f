/- What infer makes of dims: sliced, by the walk. -/
import Derived.Test.YteigfipgmghgmaaGreatDoorIDim4
import Derived.BigQuiet
namespace Go.Proofs.YteigfipgmghgmaaGreatDoor
open Go.RowKit

theorem grown_drewQ {a b : World} (h : a.grownBy b none) (n : Nat) : a.grownBy (b.drewN n) none := ⟨h.os, h.tape, h.output, h.size, h.block⟩

theorem sliceL_step {x al ss es : List Int} {k : Nat} (h1 : k < al.length) (h2 : k < ss.length) (h3 : k < es.length) (dims : List Int) : sliceL x (al.drop k) (ss.drop k) (es.drop k) dims = (axisP (al.getD k 0) x.length).bind (fun axis => (mustP (decide (boundedP (ss.getD k 0) (x.getD axis 0).toNat < boundedP (es.getD k 0) (x.getD axis 0).toNat))).bind (fun _ => sliceL x (al.drop (k + 1)) (ss.drop (k + 1)) (es.drop (k + 1)) (dims.set axis (boundedP (es.getD k 0) (x.getD axis 0).toNat - boundedP (ss.getD k 0) (x.getD axis 0).toNat)))) := by
  rw [drop_step al k h1, drop_step ss k h2, drop_step es k h3]
  rfl

theorem boundedP_le (x : Int) (d : Nat) : 0 ≤ boundedP x d ∧ boundedP x d ≤ d := by
  unfold boundedP
  split <;> split at * <;> omega

set_option maxRecDepth 100000 in
set_option maxHeartbeats 1000000 in
theorem sliced_any (n : Nod) (A : At) (u : Sl) (x : List Int) (w : World) (hn : NodeOk w n A) (hx : IsInts w u.v x) (hf : Fine x) : Calls Tryz.prog 116 #[nval n, .slice u.a u.n u.c] w (Ended w (slicedP A x) DimsQ) := by
  obtain ⟨ux, uc, eu, c1, c2, c3⟩ := hx.sl
  obtain ⟨ua, un, uu⟩ := u
  simp only [Sl.v, Value.slice.injEq] at eu
  obtain ⟨rfl, rfl, rfl⟩ := eu
  have HX := hide hx
  have FEW := hf.few
  have PB : Hid (∀ z ∈ x, 1 ≤ z ∧ z ≤ 65536) := fun z hz => ⟨hf.pos z hz, hf.le_each hz⟩
  clear hx hf
  have NK := hide hn
  obtain ⟨op, nam, ⟨ia, il, ic⟩, out, ⟨ao, al, cap⟩⟩ := n
  unfold nval
  simp only
  obtain ⟨w0, hw0⟩ : ∃ w0, w0 = w.alloc (.cells #[.string op, .string nam, .slice ia il ic, .string out, .slice ao al cap] 25) := ⟨_, rfl⟩
  have g0 : Hid (w.grownBy w0 none) := by show w.grownBy w0 none; rw [hw0]; exact grown_new _ _
  have hb0 := heap_alloc_new w (.cells #[.string op, .string nam, .slice ia il ic, .string out, .slice ao al cap] 25)
  rw [← hw0] at hb0
  have BX : Hid (∀ wx, w0.grownBy wx none → wx.heap[w.heap.size]? = some (.cells #[.string op, .string nam, .slice ia il ic, .string out, .slice ao al cap] 25 (0, 0))) := fun wx hg => box_kept hb0 hg
  clear hb0 hn
  have NI := hide (fun (wx : World) (nm : ByteArray) (hg : w.grownBy wx none) => nints_any ⟨op, nam, ⟨ia, il, ic⟩, out, ⟨ao, al, cap⟩⟩ A nm ⟨none, 0, 0⟩ [] wx (NK.out.more hg) ⟨none, 0, rfl, Nat.le_refl _, by decide, by simp, fun _ => ⟨rfl, rfl⟩, fun h => (by simp at h), fun z hz => (by simp at hz)⟩)
  have NU := hide (fun (wx : World) (B r : Nat) (hg : w.grownBy wx none) (hB : IsInts wx (.slice (some ⟨B, 0, none⟩) r r) (upToP r)) => nints_any ⟨op, nam, ⟨ia, il, ic⟩, out, ⟨ao, al, cap⟩⟩ A ⟨#[97, 120, 101, 115]⟩ ⟨some ⟨B, 0, none⟩, r, r⟩ _ wx (NK.out.more hg) hB)
  have CL := hide (fun (wx : World) (hg : w.grownBy wx none) => cloneI_any ⟨ua, x.length, uu⟩ x wx (HX.out.more hg))
  unfold nval at NI NU
  simp only at NI NU CL
  obtain ⟨n0, n1, n2, n3, n4⟩ := nod_cells (n := ⟨op, nam, ⟨ia, il, ic⟩, out, ⟨ao, al, cap⟩⟩) (BX.out w0 (grown_refl _))
  go_enter Tryz.func116, Tryz.ntmps116
  go_wp2_with fail
  rw [← hw0]
  clear hw0
  go_region_held3 (fun w' => w'.cell? ⟨w.heap.size, 0, none⟩ = some (.string op) ∧ w'.cell? ⟨w.heap.size, 1, none⟩ = some (.string nam) ∧ w'.cell? ⟨w.heap.size, 2, none⟩ = some (.slice ia il ic) ∧ w'.cell? ⟨w.heap.size, 3, none⟩ = some (.string out) ∧ w'.cell? ⟨w.heap.size, 4, none⟩ = some (.slice ao al cap)) (go_keep) (first | (go_at_call 112; have hh := done1; refine (NI.out _ _ (grown_trans g0.out g1)).mono ?_; rintro e w2 ⟨es, rfl, hes, hg2⟩; have g2 : w0.grownBy w2 none := grown_trans g1 hg2; obtain ⟨n0, n1, n2, n3, n4⟩ := nod_cells (n := ⟨op, nam, ⟨ia, il, ic⟩, out, ⟨ao, al, cap⟩⟩) (BX.out w2 (g2))) | (go_at_call 112; refine (NI.out _ _ (grown_trans g0.out (grown_drew (grown_refl _)))).mono ?_; rintro e w1 ⟨ss, rfl, hss, hg1⟩; have g1 : w0.grownBy w1 none := grown_trans (grown_drew (grown_refl _)) hg1; obtain ⟨n0, n1, n2, n3, n4⟩ := nod_cells (n := ⟨op, nam, ⟨ia, il, ic⟩, out, ⟨ao, al, cap⟩⟩) (BX.out w1 (g1)); have done1 : True := trivial) | fail)
  obtain ⟨S, hS⟩ : ∃ S, S = A.ints ⟨#[115, 116, 97, 114, 116, 115]⟩ [] := ⟨_, rfl⟩
  obtain ⟨E, hE⟩ : ∃ E, E = A.ints ⟨#[101, 110, 100, 115]⟩ [] := ⟨_, rfl⟩
  rw [← hS] at hss
  rw [← hE] at hes
  have HSx := hide hS
  have HEx := hide hE
  clear hS hE
  obtain ⟨sx, sc, es1, s1, s2, s3⟩ := hss.sl
  obtain ⟨sa, sn, sv⟩ := ss
  simp only [Sl.v, Value.slice.injEq] at es1
  obtain ⟨rfl, rfl, rfl⟩ := es1
  obtain ⟨ex, ec, ee1, e1, e2, e3⟩ := hes.sl
  obtain ⟨ea, en, ev⟩ := es
  simp only [Sl.v, Value.slice.injEq] at ee1
  obtain ⟨rfl, rfl, rfl⟩ := ee1
  simp only [Sl.v] at hss hes ⊢
  have HSS := hide (hss.more hg2)
  have HES := hide hes
  have G2 := hide g2
  clear hss hes hg1 hg2 g1 g2 NI done1
  go_wp2_with fail
  go_region_held3 (fun w' => w'.cell? ⟨w.heap.size, 0, none⟩ = some (.string op) ∧ w'.cell? ⟨w.heap.size, 1, none⟩ = some (.string nam) ∧ w'.cell? ⟨w.heap.size, 2, none⟩ = some (.slice ia il ic) ∧ w'.cell? ⟨w.heap.size, 3, none⟩ = some (.string out) ∧ w'.cell? ⟨w.heap.size, 4, none⟩ = some (.slice ao al cap)) (go_keep) (first | (go_at_call 145; refine (upto_any S.length _ s3).mono ?_; rintro e w3 ⟨rfl, ho3, hg3⟩; have g3 : w0.grownBy w3 none := grown_trans (grown_drew G2.out) hg3; obtain ⟨n0, n1, n2, n3, n4⟩ := nod_cells (n := ⟨op, nam, ⟨ia, il, ic⟩, out, ⟨ao, al, cap⟩⟩) (BX.out w3 (g3))) | (go_at_call 112; refine (NU.out _ _ S.length (grown_trans g0.out g3) (by have h := ho3.ints (by rw [upToP_len]; omega) (fun z hz => by have := upToP_mem hz; omega); rw [upToP_len] at h; exact h)).mono ?_; rintro e w4 ⟨axl, rfl, hax, hg4⟩; have g4 : w0.grownBy w4 none := grown_trans g3 hg4; obtain ⟨n0, n1, n2, n3, n4⟩ := nod_cells (n := ⟨op, nam, ⟨ia, il, ic⟩, out, ⟨ao, al, cap⟩⟩) (BX.out w4 (g4))) | fail)
  obtain ⟨L, hL⟩ : ∃ L, L = A.ints ⟨#[97, 120, 101, 115]⟩ (upToP S.length) := ⟨_, rfl⟩
  rw [← hL] at hax
  obtain ⟨ax, ac, ae1, a1, a2, a3⟩ := hax.sl
  obtain ⟨aa, an, av⟩ := axl
  simp only [Sl.v, Value.slice.injEq] at ae1
  obtain ⟨rfl, rfl, rfl⟩ := ae1
  simp only [Sl.v] at hax ⊢
  have HAX := hide hax
  have G4 := hide (grown_trans g0.out g4)
  have G24 : Hid (w2.grownBy w4 none) := grown_trans (grown_drew (grown_refl _)) (grown_trans hg3 hg4)
  have AX := hide (axesof_any ⟨aa, L.length, av⟩ L x.length w4 hax (by omega))
  simp only at AX
  have E0 : Hid (slicedP A x = (mustP (decide (S.length = E.length ∧ S.length = L.length))).bind (fun _ => (axesP L x.length).bind (fun _ => sliceL x L S E x))) := by show _ = _; rw [hL, HSx.out, HEx.out]; rfl
  clear hax ho3 hg3 hg4 g3 g4 n0 n1 n2 n3 n4 NU HSx HEx hL
  by_cases l1 : S.length = E.length
  · have b1 : ((S.length : Int) == (E.length : Int)) = true := by simp [l1]
    by_cases l2 : S.length = L.length
    · have b2 : ((S.length : Int) == (L.length : Int)) = true := by simp [l2]
      have E1 : Hid (slicedP A x = (axesP L x.length).bind (fun _ => sliceL x L S E x)) := by show _ = _; rw [E0.out]; simp [mustP, l1, l2.symm.trans l1]; rfl
      have L1 := hide l1
      have L2 := hide l2
      clear l1 l2
      cases hk : axesP L x.length with
      | error c =>
        rw [hk] at AX
        have E2 : Hid (slicedP A x = .error c) := by show _ = _; rw [E1.out, hk]; rfl
        clear hk
        go_wp2_with (first | (go_at_call 71; refine (must_yes _).mono ?_; rintro e w' ⟨rfl, rfl⟩) | (go_at_call 108; refine AX.out.mono ?_; rintro e w' ⟨hg, rfl⟩) | fail)
        exact ⟨rfl, ended_err E2.out (grown_trans G4.out hg)⟩
      | ok gone =>
        rw [hk] at AX
        have ALL := hide (axesP_all hk)
        have E2 : Hid (slicedP A x = sliceL x L S E x) := by show _ = _; rw [E1.out, hk]; rfl
        clear hk
        go_wp2_with (first | (go_at_call 71; refine (must_yes _).mono ?_; rintro e w' ⟨rfl, rfl⟩) | (go_at_call 108; refine AX.out.mono ?_; rintro e w5 ⟨hg5, v, rfl, B, rfl, -, -⟩) | (go_at_call 94; refine (CL.out w5 (grown_trans G4.out hg5)).mono ?_; rintro e w6 ⟨⟨qa, qn, qc⟩, rfl, ho, hg6⟩; simp only) | fail)
        have G5 := hide (grown_trans G4.out hg5)
        have G6 := hide (grown_trans (grown_trans G4.out hg5) hg6)
        have G46 := hide (grown_trans hg5 hg6)
        have HO := hide (ho.base_le hg5.size)
        clear ho hg5 hg6 b1 b2 CL AX
        go_loopw [44] (fun i wr => ∃ (k : Nat) (D : List Int), k ≤ L.length ∧ i = .int .i64 k ∧ Owns wr w4.heap.size (.slice qa qn qc) D ∧ D.length = x.length ∧ sliceL x (L.drop k) (S.drop k) (E.drop k) D = sliceL x L S E x ∧ (∀ z ∈ D, 0 ≤ z ∧ z ≤ 65536) ∧ w4.grownBy wr none) (fun i _ => L.length - (intOf i).toNat)
        case atStart => exact ⟨0, x, Nat.zero_le _, rfl, HO.out, rfl, by simp, fun z hz => by have := PB.out z hz; omega, G46.out⟩
        case round =>
          obtain ⟨k, D, hk, rfl, ho, hD, hst, hbd, hg⟩ := hrel
          have HG := hide hg
          have HO1 := hide ho
          by_cases hkl : k < L.length
          · obtain ⟨b, off, rfl, hc⟩ := HAX.out.get hkl
            have hcell : wr.cell? ⟨b, off + k, none⟩ = some (.int .i64 (L.getD k 0)) := cell_still (hc k hkl) hg
            have hwfa := HAX.out.wf (L.getD k 0) (by simp [List.getD, hkl])
            have hsl : k < S.length := by have := L2.out; omega
            have hel : k < E.length := by have := L1.out; have := L2.out; omega
            obtain ⟨b', off', rfl, hcs⟩ := HSS.out.get hsl
            have hcs2 : wr.cell? ⟨b', off' + k, none⟩ = some (.int .i64 (S.getD k 0)) := cell_still (hcs k hsl) (grown_trans G24.out hg)
            have hwfs := HSS.out.wf (S.getD k 0) (by simp [List.getD, hsl])
            obtain ⟨b'', off'', rfl, hce⟩ := HES.out.get hel
            have hce2 : wr.cell? ⟨b'', off'' + k, none⟩ = some (.int .i64 (E.getD k 0)) := cell_still (hce k hel) (grown_trans G24.out hg)
            have hwfe := HES.out.wf (E.getD k 0) (by simp [List.getD, hel])
            obtain ⟨i, hi⟩ := ALL.out (L.getD k 0) (by simp [List.getD, hkl])
            have hil := axisO_lt hi
            obtain ⟨b3, off3, rfl, hcx⟩ := HX.out.get hil
            have hcx2 : wr.cell? ⟨b3, off3 + i, none⟩ = some (.int .i64 (x.getD i 0)) := cell_still (hcx i hil) (grown_trans G4.out hg)
            have hbx := PB.out (x.getD i 0) (by simp [List.getD, hil])
            rw [sliceL_step hkl hsl hel] at hst
            obtain ⟨a, ha0⟩ : ∃ a, a = L.getD k 0 := ⟨_, rfl⟩
            obtain ⟨s, hs0⟩ : ∃ s, s = S.getD k 0 := ⟨_, rfl⟩
            obtain ⟨t, ht0⟩ : ∃ t, t = E.getD k 0 := ⟨_, rfl⟩
            obtain ⟨d, hd0⟩ := Int.eq_ofNat_of_zero_le (show 0 ≤ x.getD i 0 by omega)
            have hax : axisP a x.length = .ok i := by unfold axisP; rw [ha0, hi]
            rw [← ha0] at hcell hwfa hst
            rw [← hs0] at hcs2 hwfs hst
            rw [← ht0] at hce2 hwfe hst
            rw [hax] at hst
            rw [hd0] at hcx2 hbx
            have hst2 : (mustP (decide (boundedP s d < boundedP t d))).bind (fun _ => sliceL x (L.drop (k + 1)) (S.drop (k + 1)) (E.drop (k + 1)) (D.set i (boundedP t d - boundedP s d))) = sliceL x L S E x := by
              rw [← hst]
              show _ = (mustP _).bind _
              rw [hd0, Int.toNat_natCast]
            have AO := hide (fun wx => axisof_any a x.length wx (by omega) hwfa.1)
            rw [hax] at AO
            have l1 := boundedP_le s d
            have l2 := boundedP_le t d
            obtain ⟨g, gcap, eo, hbg, hgl, hlc, hcm⟩ := ho.shape (by rw [hD]; omega)
            simp only [Value.slice.injEq] at eo
            obtain ⟨rfl, rfl, rfl⟩ := eo
            have HDD := hide hD
            rw [hD] at hlc ⊢
            clear hD
            clear hc hcs hce hcx ha0 hs0 ht0 hd0 hst hi hax
            go_wp2_with (first | (go_at_call 117; refine (AO.out _).mono ?_; rintro e w' ⟨-, v, rfl, rfl, rfl⟩) | fail)
            go_quiet (first | (go_at_call 149; refine (bounded_any _ _ _ (by omega) (by omega)).mono ?_; rintro e w' ⟨rfl, rfl⟩; exact ⟨rfl, _, rfl⟩) | fail)
            have gq := grown_drewQ (grown_refl wr) nq
            have hoq := ho.new gq
            obtain ⟨cc, fc⟩ := hoq.cells (k := i) (by rw [HDD.out]; exact hil)
            have hq := grown_trans hg gq
            obtain ⟨wq, hwq⟩ : ∃ wq, wq = wr.drewN nq := ⟨_, rfl⟩
            rw [← hwq] at hoq cc fc hq ⊢
            clear hwq gq hcell hcs2 hce2 hcx2
            obtain ⟨p, hp0⟩ : ∃ p, p = boundedP s d := ⟨_, rfl⟩
            obtain ⟨q, hq0⟩ : ∃ q, q = boundedP t d := ⟨_, rfl⟩
            rw [← hp0] at hst2 l1 ⊢
            rw [← hq0] at hst2 l2 ⊢
            clear hp0 hq0
            by_cases hpq : p < q
            · obtain ⟨so, sg⟩ := hoq.put i (q - p) (by omega)
              have SO := hide so
              have SG := hide (grown_drop hq sg hbg)
              have HST : Hid (sliceL x (L.drop (k + 1)) (S.drop (k + 1)) (E.drop (k + 1)) (D.set i (q - p)) = sliceL x L S E x) := by show _ = _; rw [← hst2]; simp [mustP, hpq]; rfl
              have HB : Hid (∀ z ∈ D.set i (q - p), 0 ≤ z ∧ z ≤ 65536) := fun z hz => by
                rcases List.mem_or_eq_of_mem_set hz with h1 | rfl
                · exact hbd z h1
                · omega
              clear hst2 hbd ho hoq hg hq so sg
              go_wp2_with (first | (go_at_call 71; refine (must_yes _).mono ?_; rintro e w' ⟨rfl, rfl⟩) | fail)
              go_roundw
              case rel => exact ⟨k + 1, _, by omega, by go_num, by have h := SO.out; rw [HDD.out] at h; exact h, by rw [List.length_set]; exact HDD.out, HST.out, HB.out, SG.out⟩
              case measure => simp [intOf]; omega
            · have E3 : Hid (slicedP A x = .error 4) := by show _ = _; rw [E2.out, ← hst2]; simp [mustP, hpq]; rfl
              have HQ := hide hq
              clear hst2 hbd ho hoq hg hq
              go_wp2_with (first | (go_at_call 71; refine (must_no _).mono ?_; rintro e w' ⟨rfl, rfl⟩) | fail)
              exact ⟨rfl, ended_err E3.out (grown_trans G4.out HQ.out)⟩
          · have E3 : Hid (slicedP A x = .ok D) := by
              show _ = _
              rw [E2.out, ← hst, List.drop_of_length_le (l := L) (by omega)]
              simp [sliceL]
            clear hst hbd ho hg
            go_wp2
            go_ret
            exact ended_ok E3.out (grown_trans G4.out HG.out) ⟨⟨qa, qn, qc⟩, rfl, HO1.out.ints⟩
    · have b2 : ((S.length : Int) == (L.length : Int)) = false := by simpa using (fun h => l2 (by omega) : ¬ (S.length : Int) = L.length)
      have E1 : Hid (slicedP A x = .error 4) := by show _ = _; rw [E0.out]; simp [mustP, l2]; rfl
      clear l1 l2
      go_wp2_with (first | (go_at_call 71; refine (must_no _).mono ?_; rintro e w' ⟨rfl, rfl⟩) | fail)
      exact ⟨rfl, ended_err E1.out G4.out⟩
  · have b1 : ((S.length : Int) == (E.length : Int)) = false := by simpa using (fun h => l1 (by omega) : ¬ (S.length : Int) = E.length)
    have E1 : Hid (slicedP A x = .error 4) := by show _ = _; rw [E0.out]; simp [mustP, l1]; rfl
    clear l1
    go_wp2_with (first | (go_at_call 71; refine (must_no _).mono ?_; rintro e w' ⟨rfl, rfl⟩) | fail)
    exact ⟨rfl, ended_err E1.out G4.out⟩
end Go.Proofs.YteigfipgmghgmaaGreatDoor
