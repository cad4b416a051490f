/- valueOf, by the walk: over whatever contracts of typeMade and dimsMade. -/
import Derived.Test.YteigfipgmghgmaaGreatDoorIValue
namespace Go.Proofs.YteigfipgmghgmaaGreatDoor
open Go.RowKit

/-- The type and the dims of what a node makes, or why not. -/
def valueP (ck : Int) (lens : Bool) (vs : List (Val × List Int)) (tS : R Int) (dS : R (List Int)) (os : List ByteArray) : R (Int × List Int) :=
  (stopP ck).bind (fun _ => (mustP lens).bind (fun _ => (vinP vs).bind (fun _ => tS.bind (fun t => dS.bind (fun d => (countP d).bind (fun _ => (thenP t os).bind (fun _ => .ok (t, d))))))))

theorem isOne_names {s : ByteArray} (h : isOne s = true) : s.toList ∈ names1 := by
  unfold isOne at h
  rw [List.any_eq_true] at h
  obtain ⟨n, hn, he⟩ := h
  have e : n = s.toList := by simpa using he
  rw [← e]
  revert n
  unfold ones names1
  intro n hn _ _
  exact hn

theorem thenL_ones (o : Option Atr) : ∀ s ∈ thenL o, isOne s = true := by
  intro s hs
  unfold thenL at hs
  cases o with
  | none => simp at hs
  | some a =>
    simp only at hs
    split at hs
    · rename_i hall
      obtain ⟨p, hp, rfl⟩ := List.mem_map.1 hs
      exact List.all_eq_true.1 hall p hp
    · simp at hs

theorem thenL_len {xs : List Atr} (h : ∀ a ∈ xs, a.s.size ≤ 1048576) (P : Atr → Bool) : (thenL (xs.find? P)).length ≤ 1048577 := by
  unfold thenL
  cases hf : xs.find? P with
  | none => simp
  | some a =>
    have h1 := h a (List.mem_of_find?_eq_some hf)
    have h2 := pcs_len a.s.data.toList
    simp only
    split
    · rw [List.length_map]
      have h3 : a.s.data.toList.length = a.s.size := by rw [Array.length_toList]; rfl
      omega
    · simp

set_option maxRecDepth 100000 in
set_option maxHeartbeats 4000000 in
theorem valueof_any (n : Nod) (A : At) (ins : List ByteArray) (u : Sl) (vs : List (Val × List Int)) (w : World) (hl : Laid w) (hni : NodeIn w n ins A.xs A.cs) (hv : ValsIn w u.v vs) (ho : n.out.size ≤ 281474976710656) (tS : R Int) (dS : R (List Int))
    (TM : checkF (ruleF n.op) n.op ins n.out A.xs A.cs = 0 → vs.length = ins.length → vinP vs = .ok () → ∀ wx, w.grownBy wx none → Calls Tryz.prog 74 #[nval n, .slice u.a u.n u.c] wx (Ended wx tS fun t v _ => v = .int .i64 t ∧ isTypeP t = true))
    (DM : checkF (ruleF n.op) n.op ins n.out A.xs A.cs = 0 → vs.length = ins.length → vinP vs = .ok () → ∀ wx, w.grownBy wx none → Calls Tryz.prog 75 #[nval n, .slice u.a u.n u.c] wx (Ended wx dS DimsQ)) :
    Calls Tryz.prog 48 #[nval n, .slice u.a u.n u.c] w (Ended w (valueP (checkF (ruleF n.op) n.op ins n.out A.xs A.cs) (decide (vs.length = ins.length)) vs tS dS (thenL (A.xs.find? (isA ⟨#[116, 104, 101, 110]⟩ 3)))) fun r v w' => ∃ s : Sl, v = .agg #[.string n.out, .int .i64 r.1, .slice s.a s.n s.c] ∧ Owns w' w.heap.size s.v r.2) := by
  obtain ⟨xa, xc, e1, q1, q2, q3⟩ := hv.vals.form
  rw [List.length_map] at e1 q1 q3
  obtain ⟨ua, un, uc⟩ := u
  simp only [Sl.v, Value.slice.injEq] at e1
  obtain ⟨rfl, rfl, rfl⟩ := e1
  have CK := hide (fun (wx : World) (hg : w.grownBy wx none) => check_in n ins A.xs A.cs wx (hl.more hg) (hni.more hg))
  have TH := hide (fun (wx : World) (hg : w.grownBy wx none) => then_any n A.xs wx (hl.more hg) (hni.more hg).av (fun a ha => by have := hni.short a ha; omega))
  have IL := hide hni.ins
  obtain ⟨ck, hck⟩ : ∃ c, c = checkF (ruleF n.op) n.op ins n.out A.xs A.cs := ⟨_, rfl⟩
  obtain ⟨os, hos⟩ : ∃ os, os = thenL (A.xs.find? (isA ⟨#[116, 104, 101, 110]⟩ 3)) := ⟨_, rfl⟩
  have OS : Hid (∀ s ∈ os, isOne s = true) := by show ∀ s ∈ os, _; rw [hos]; exact thenL_ones _
  have OsB : Hid (os.length ≤ 1048577) := by show os.length ≤ _; rw [hos]; exact thenL_len hni.short _
  rw [← hck] at CK TM DM ⊢
  rw [← hos] at TH ⊢
  have HV := hide hv
  have HTM := hide TM
  have HDM := hide DM
  clear hck hos hl hni hv TM DM
  obtain ⟨op, nam, ⟨ia, il, ic⟩, out, ⟨ao, al, cap⟩⟩ := n
  unfold nval at CK TH HTM HDM ⊢
  simp only at CK TH HTM HDM IL ho ⊢
  obtain ⟨ix, icc, ei, i1, i2, i3⟩ := IL.out.form
  simp only [Sl.v, Value.slice.injEq] at ei
  obtain ⟨rfl, rfl, rfl⟩ := ei
  obtain ⟨w0, hw0⟩ : ∃ w0, w0 = (w.alloc (.cells #[.string op, .string nam, .slice ia ins.length ic, .string out, .slice ao al cap] 25)).alloc (.cells #[.string ⟨#[]⟩, .int .i64 0, .slice none 0 0] 53) := ⟨_, rfl⟩
  have g0 : Hid (w.grownBy w0 none) := by show w.grownBy w0 none; rw [hw0]; exact grown_trans (grown_new _ _) (grown_new _ _)
  have hbx := two_boxes w (.cells #[.string op, .string nam, .slice ia ins.length ic, .string out, .slice ao al cap] 25) (.cells #[.string ⟨#[]⟩, .int .i64 0, .slice none 0 0] 53)
  rw [← hw0] at hbx
  have BX : Hid (∀ wx, w0.grownBy wx none → wx.heap[w.heap.size]? = some (.cells #[.string op, .string nam, .slice ia ins.length ic, .string out, .slice ao al cap] 25 (0, 0)) ∧ wx.heap[w.heap.size + 1]? = some (.cells #[.string ⟨#[]⟩, .int .i64 0, .slice none 0 0] 53 (0, 0))) := fun wx hg => ⟨box_kept hbx.1 hg, box_kept hbx.2 hg⟩
  clear hbx
  go_enter Tryz.func48, Tryz.ntmps48
  go_wp2_with fail
  rw [← hw0]
  clear hw0
  refine (CK.out w0 g0.out).mono ?_
  rintro e w1 ⟨rfl, hg1⟩
  have G1 := hide hg1
  clear hg1 CK
  by_cases hc0 : ck = 0
  · subst hc0
    obtain ⟨n0, n1, n2, n3, n4⟩ := nod_cells (n := ⟨op, nam, ⟨ia, ins.length, ic⟩, out, ⟨ao, al, cap⟩⟩) (BX.out w1 G1.out).1
    by_cases hlen : vs.length = ins.length
    · have bl : ((vs.length : Int) == (ins.length : Int)) = true := by simp [hlen]
      have TM2 := hide (HTM.out rfl hlen)
      have DM2 := hide (HDM.out rfl hlen)
      have E0 : Hid (valueP 0 (decide (vs.length = ins.length)) vs tS dS os = (vinP vs).bind (fun _ => tS.bind (fun t => dS.bind (fun d => (countP d).bind (fun _ => (thenP t os).bind (fun _ => .ok (t, d))))))) := by show _ = _; unfold valueP; simp [stopP, mustP, hlen]; rfl
      clear hlen HTM HDM
      go_wp2_with (first | (go_at_call 69; refine (stop_ok _).mono ?_; rintro e w' ⟨rfl, rfl⟩) | (go_at_call 71; refine (must_yes _).mono ?_; rintro e w' ⟨rfl, rfl⟩) | fail)
      clear n0 n1 n2 n3 n4 bl
      go_loopw [25] (fun i wr => ∃ k : Nat, k ≤ vs.length ∧ i = .int .i64 k ∧ vinP (vs.drop k) = vinP vs ∧ w0.grownBy wr none) (fun i _ => vs.length - (intOf i).toNat)
      case atStart => exact ⟨0, Nat.zero_le _, rfl, by rw [List.drop_zero], G1.out⟩
      case round =>
        obtain ⟨k, hk, rfl, hst, hg⟩ := hrel
        have HG := hide hg
        by_cases hkl : k < vs.length
        · obtain ⟨b, off, rfl⟩ := HV.out.vals.addr (k := k) (by rw [List.length_map]; exact hkl)
          obtain ⟨y0, y1, y2⟩ := (HV.out.more (grown_trans g0.out hg)).vals.val k (by rw [List.length_map]; exact hkl)
          have HY := hide (HV.out.dims vs[k] (List.getElem_mem hkl))
          rw [List.getElem_map] at y0 y1 y2
          rw [vinP_step hkl] at hst
          obtain ⟨p, hp⟩ : ∃ p, p = vs[k] := ⟨_, rfl⟩
          rw [← hp] at y0 y1 y2 HY hst
          obtain ⟨⟨vn, vt, ⟨da, dn, dc⟩⟩, y⟩ := p
          simp only at y0 y1 y2 HY hst
          obtain ⟨w3, hw3⟩ : ∃ w3, w3 = wr.alloc (.cells #[.string vn, .int .i64 vt, .slice da dn dc] 53) := ⟨_, rfl⟩
          have g3 : Hid (w0.grownBy w3 none) := by show w0.grownBy w3 none; rw [hw3]; exact grown_trans hg (grown_new _ _)
          have hb3 := heap_alloc_new wr (.cells #[.string vn, .int .i64 vt, .slice da dn dc] 53)
          rw [← hw3] at hb3
          have v1 : w3.cell? ⟨wr.heap.size, 1, none⟩ = some (.int .i64 vt) := (cell_of_row _ _ 1 _ _ (0, 0) hb3).trans rfl
          have v2 : w3.cell? ⟨wr.heap.size, 2, none⟩ = some (.slice da dn dc) := (cell_of_row _ _ 2 _ _ (0, 0) hb3).trans rfl
          have TY := hide (typ_any vt w3)
          have CO := hide (countof_any _ y w3 (HY.out.more (grown_trans g0.out g3.out)))
          simp only [Sl.v] at CO
          have HST := hide hst
          clear hb3 hp hg hst
          go_wp2_with fail
          rw [← hw3]
          clear hw3 y0 y1 y2
          cases ht : typP vt with
          | error c =>
            rw [ht] at TY
            have E : Hid (valueP 0 (decide (vs.length = ins.length)) vs tS dS os = .error c) := by show _ = _; rw [E0.out, ← HST.out, ht]; rfl
            clear ht
            refine TY.out.mono ?_
            rintro e w' ⟨hg, rfl⟩
            exact ⟨rfl, ended_err E.out (grown_trans (grown_trans g0.out g3.out) hg)⟩
          | ok tu =>
            rw [ht] at TY
            have HST2 : Hid ((countP y).bind (fun _ => vinP (vs.drop (k + 1))) = vinP vs) := by show _ = _; rw [← HST.out, ht]; rfl
            clear ht HST
            cases hc : countP y with
            | error c =>
              rw [hc] at CO
              have E : Hid (valueP 0 (decide (vs.length = ins.length)) vs tS dS os = .error c) := by show _ = _; rw [E0.out, ← HST2.out, hc]; rfl
              clear hc
              refine TY.out.mono ?_
              rintro e w' ⟨-, v, rfl, rfl, rfl⟩
              go_wp2_with (first | (go_at_call 73; refine CO.out.mono ?_; rintro e w' ⟨hg, rfl⟩) | fail)
              exact ⟨rfl, ended_err E.out (grown_trans (grown_trans g0.out g3.out) hg)⟩
            | ok cn =>
              rw [hc] at CO
              have HST3 : Hid (vinP (vs.drop (k + 1)) = vinP vs) := by show _ = _; rw [← HST2.out, hc]; rfl
              clear hc HST2
              refine TY.out.mono ?_
              rintro e w' ⟨-, v, rfl, rfl, rfl⟩
              go_wp2_with (first | (go_at_call 73; refine CO.out.mono ?_; rintro e w' ⟨-, v, rfl, rfl, rfl⟩) | fail)
              go_roundw
              case rel => exact ⟨k + 1, by omega, by go_num, HST3.out, g3.out⟩
              case measure => simp [intOf]; omega
        · have hvin : vinP vs = .ok () := by rw [← hst, List.drop_of_length_le (by omega)]; rfl
          have E1 : Hid (valueP 0 (decide (vs.length = ins.length)) vs tS dS os = tS.bind (fun t => dS.bind (fun d => (countP d).bind (fun _ => (thenP t os).bind (fun _ => .ok (t, d)))))) := by show _ = _; rw [E0.out, hvin]; rfl
          have TM3 := hide (TM2.out hvin wr (grown_trans g0.out hg))
          have DM3 := hide (fun wx hx => DM2.out hvin wx hx)
          obtain ⟨n0, n1, n2, n3, n4⟩ := nod_cells (n := ⟨op, nam, ⟨ia, ins.length, ic⟩, out, ⟨ao, al, cap⟩⟩) (BX.out wr hg).1
          clear hst hg hvin TM2 DM2 E0
          go_wp2_with fail
          cases ht : tS with
          | error c =>
            rw [ht] at TM3
            have E : Hid (valueP 0 (decide (vs.length = ins.length)) vs tS dS os = .error c) := by show _ = _; rw [E1.out, ht]; rfl
            refine TM3.out.mono ?_
            rintro e w' ⟨hg, rfl⟩
            exact ⟨rfl, ended_err E.out (grown_trans (grown_trans g0.out HG.out) hg)⟩
          | ok tt =>
            rw [ht] at TM3
            have E2 : Hid (valueP 0 (decide (vs.length = ins.length)) vs tS dS os = dS.bind (fun d => (countP d).bind (fun _ => (thenP tt os).bind (fun _ => .ok (tt, d))))) := by show _ = _; rw [E1.out, ht]; rfl
            refine TM3.out.mono ?_
            rintro e w4 ⟨hg4, v, rfl, rfl, htt⟩
            have G4 := hide (grown_trans HG.out hg4)
            have D4 := hide (DM3.out w4 (grown_trans g0.out G4.out))
            obtain ⟨n0, n1, n2, n3, n4⟩ := nod_cells (n := ⟨op, nam, ⟨ia, ins.length, ic⟩, out, ⟨ao, al, cap⟩⟩) (BX.out w4 G4.out).1
            clear hg4 TM3 ht
            go_wp2_with fail
            cases hd : dS with
            | error c =>
              rw [hd] at D4
              have E : Hid (valueP 0 (decide (vs.length = ins.length)) vs tS dS os = .error c) := by show _ = _; rw [E2.out, hd]; rfl
              refine D4.out.mono ?_
              rintro e w' ⟨hg, rfl⟩
              exact ⟨rfl, ended_err E.out (grown_trans (grown_trans g0.out G4.out) hg)⟩
            | ok dd =>
              rw [hd] at D4
              have E3 : Hid (valueP 0 (decide (vs.length = ins.length)) vs tS dS os = (countP dd).bind (fun _ => (thenP tt os).bind (fun _ => .ok (tt, dd)))) := by show _ = _; rw [E2.out, hd]; rfl
              refine D4.out.mono ?_
              rintro e w5 ⟨hg5, v, rfl, ⟨s1, s2, s3⟩, rfl, hs⟩
              have G5 := hide (grown_trans G4.out hg5)
              have CO := hide (countof_any _ dd w5 hs)
              have HS := hide hs
              simp only [Sl.v] at CO ⊢
              obtain ⟨n0, n1, n2, n3, n4⟩ := nod_cells (n := ⟨op, nam, ⟨ia, ins.length, ic⟩, out, ⟨ao, al, cap⟩⟩) (BX.out w5 G5.out).1
              clear hg5 D4 hd hs DM3
              have T6 := hide (TH.out w5 (grown_trans g0.out G5.out))
              cases hc : countP dd with
              | error c =>
                rw [hc] at CO
                have E : Hid (valueP 0 (decide (vs.length = ins.length)) vs tS dS os = .error c) := by show _ = _; rw [E3.out, hc]; rfl
                clear hc
                go_wp2_with (first | (go_at_call 73; refine CO.out.mono ?_; rintro e w' ⟨hg, rfl⟩) | fail)
                exact ⟨rfl, ended_err E.out (grown_trans (grown_trans g0.out G5.out) hg)⟩
              | ok cn =>
                rw [hc] at CO
                have E4 : Hid (valueP 0 (decide (vs.length = ins.length)) vs tS dS os = (thenP tt os).bind (fun _ => .ok (tt, dd))) := by show _ = _; rw [E3.out, hc]; rfl
                clear hc
                go_wp2_with (first | (go_at_call 73; refine CO.out.mono ?_; rintro e w' ⟨-, v, rfl, rfl, rfl⟩) | (go_at_call 76; refine T6.out.mono ?_; rintro e w6 ⟨tv, rfl, hown, hg6⟩; obtain ⟨oa, oc, rfl⟩ := OwnsL.form hown) | fail)
                have G6 := hide (grown_trans G5.out hg6)
                have HG56 := hide hg6
                have osb := OsB.out
                have LO := hide (OwnsL.isL (bytes := 16) scell_len hown (by omega))
                clear hown hg6 T6 CO n0 n1 n2 n3 n4
                go_loopw [51] (fun i wr => ∃ k : Nat, k ≤ os.length ∧ i = .int .i64 k ∧ thenP tt (os.drop k) = thenP tt os ∧ w6.grownBy wr none) (fun i _ => os.length - (intOf i).toNat)
                case atStart => exact ⟨0, Nat.zero_le _, rfl, by rw [List.drop_zero], grown_refl _⟩
                case round =>
                  obtain ⟨k, hk, rfl, hst, hg⟩ := hrel
                  have HG2 := hide hg
                  by_cases hkl : k < os.length
                  · obtain ⟨ob, of, rfl⟩ := LO.out.addr hkl
                    have hc := (LO.out.more hg).at k hkl 0 (by omega)
                    rw [Nat.mul_one, Nat.add_zero] at hc
                    rw [thenP_step hkl] at hst
                    have hone := OS.out os[k] (List.getElem_mem hkl)
                    obtain ⟨o, hoo⟩ : ∃ o, o = os[k] := ⟨_, rfl⟩
                    rw [← hoo] at hc hst hone
                    have hc' : wr.cell? ⟨ob, of + k, none⟩ = some (.string o) := hc
                    have MU := hide (mustone_any o tt (isOne_names hone) htt wr)
                    have HST := hide hst
                    clear hc hoo hst hg hone
                    cases h1 : oneOK o.toList tt with
                    | true =>
                      rw [h1] at MU
                      have HST2 : Hid (thenP tt (os.drop (k + 1)) = thenP tt os) := by show _ = _; rw [← HST.out, h1]; rfl
                      clear h1
                      go_wp2_with (first | (go_at_call 77; refine MU.out.mono ?_; rintro e w7 ⟨hg7, v, rfl, rfl⟩) | fail)
                      go_roundw
                      case rel => exact ⟨k + 1, by omega, by go_num, HST2.out, grown_trans HG2.out hg7⟩
                      case measure => simp [intOf]; omega
                    | false =>
                      rw [h1] at MU
                      have E : Hid (valueP 0 (decide (vs.length = ins.length)) vs tS dS os = .error 4) := by show _ = _; rw [E4.out, ← HST.out, h1]; rfl
                      clear h1
                      go_wp2_with (first | (go_at_call 77; refine MU.out.mono ?_; rintro e w7 ⟨hg7, rfl⟩) | fail)
                      exact ⟨rfl, ended_err E.out (grown_trans (grown_trans g0.out G6.out) (grown_trans HG2.out hg7))⟩
                  · have E5 : Hid (valueP 0 (decide (vs.length = ins.length)) vs tS dS os = .ok (tt, dd)) := by show _ = _; rw [E4.out, ← hst, List.drop_of_length_le (by omega)]; rfl
                    have G7 := hide (grown_trans G6.out hg)
                    obtain ⟨n0, n1, n2, n3, n4⟩ := nod_cells (n := ⟨op, nam, ⟨ia, ins.length, ic⟩, out, ⟨ao, al, cap⟩⟩) (BX.out wr G7.out).1
                    have NV := hide (newvalue_any out tt ⟨s1, s2, s3⟩ dd wr (HS.out.more (grown_trans HG56.out hg)) ho)
                    simp only at NV
                    clear hst hg
                    go_wp2_with (first | (go_at_call 78; refine NV.out.mono ?_; rintro e w8 ⟨⟨r1, r2, r3⟩, rfl, hr, hg8⟩; simp only; have G8 := grown_trans G7.out hg8; have B8 := (BX.out w8 G8).2; obtain ⟨f0, f1, f2⟩ := ten_frozen B8; have c0 := (cell_of_row _ _ 0 _ _ (0, 0) B8).trans rfl; have c1 := (cell_of_row _ _ 1 _ _ (0, 0) B8).trans rfl; have c2 := (cell_of_row _ _ 2 _ _ (0, 0) B8).trans rfl) | fail)
                    obtain ⟨hX, gX⟩ := store3t (.string out) (.int .i64 tt) (.slice r1 r2 r3) B8
                    have gf : w.grownBy _ none := grown_drop (grown_trans g0.out G8) gX (by omega)
                    refine bodyPost_ret (ret_val rfl _ _ (w.heap.size + 1) rfl hX) rfl ?_
                    refine ended_ok E5.out gf ⟨⟨r1, r2, r3⟩, rfl, ?_⟩
                    have hb : w.heap.size + 1 < wr.heap.size := (Array.getElem?_eq_some_iff.1 (BX.out wr G7.out).2).1
                    have h := (hr.base_le (b' := w.heap.size + 2) (by omega)).more gX (by
                      rcases hr.1.2 with ⟨e, -⟩ | ⟨gg, cap', cur, e, hgg, -⟩
                      · exact .inl (by rw [e]; rfl)
                      · exact .inr (by rw [e]; simp [Value.ownBlock]; omega))
                    exact h.base_le (by omega)
    · have bl : ((vs.length : Int) == (ins.length : Int)) = false := by simpa using (fun h => hlen (by omega) : ¬ (vs.length : Int) = ins.length)
      have E0 : Hid (valueP 0 (decide (vs.length = ins.length)) vs tS dS os = .error 4) := by show _ = _; unfold valueP; simp [stopP, mustP, hlen]; rfl
      clear hlen
      go_wp2_with (first | (go_at_call 69; refine (stop_ok _).mono ?_; rintro e w' ⟨rfl, rfl⟩) | (go_at_call 71; refine (must_no _).mono ?_; rintro e w' ⟨rfl, rfl⟩) | fail)
      exact ⟨rfl, ended_err E0.out (grown_trans g0.out G1.out)⟩
  · have E0 : Hid (valueP ck (decide (vs.length = ins.length)) vs tS dS os = .error ck) := by show _ = _; unfold valueP; simp [stopP, hc0]; rfl
    have HC := hide hc0
    clear hc0
    go_wp2_with (first | (go_at_call 69; refine (stop_err _ HC.out _).mono ?_; rintro e w' ⟨rfl, rfl⟩) | fail)
    exact ⟨rfl, ended_err E0.out (grown_trans g0.out G1.out)⟩
end Go.Proofs.YteigfipgmghgmaaGreatDoor
