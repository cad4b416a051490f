/- Joined texts: IValueOf, IVal, ITy2. -/
import Derived.Test.YtdcbjikjeicgbaaGreatDoorPartM
import Derived.Test.YtdcbjikjeicgbaaGreatDoorPartI
/- valueOf, by the walk: over whatever contracts of typeMade and dimsMade. -/
namespace Go.Proofs.YtdcbjikjeicgbaaGreatDoor
open Go.RowKit

/-- The type and the dims of what a node makes, or why not. -/
def valueP (ck : Int) (lens : Bool) (vs : List (Val × List Int)) (tS : R Int) (dS : R (List Int)) (os : List ByteArray) : R (Int × List Int) :=
  (stopP ck).bind (fun _ => (mustP lens).bind (fun _ => (vinP vs).bind (fun _ => tS.bind (fun t => dS.bind (fun d => (countP d).bind (fun _ => (thenP t os).bind (fun _ => .ok (t, d))))))))

theorem isOne_names {s : ByteArray} (h : isOne s = true) : s.toList ∈ names1 := by
  unfold isOne at h
  rw [List.any_eq_true] at h
  obtain ⟨n, hn, he⟩ := h
  have e : n = s.toList := by simpa using he
  rw [← e]
  revert n
  unfold ones names1
  intro n hn _ _
  exact hn

theorem thenL_ones (o : Option Atr) : ∀ s ∈ thenL o, isOne s = true := by
  intro s hs
  unfold thenL at hs
  cases o with
  | none => simp at hs
  | some a =>
    simp only at hs
    split at hs
    · rename_i hall
      obtain ⟨p, hp, rfl⟩ := List.mem_map.1 hs
      exact List.all_eq_true.1 hall p hp
    · simp at hs

theorem thenL_len {xs : List Atr} (h : ∀ a ∈ xs, a.s.size ≤ 1048576) (P : Atr → Bool) : (thenL (xs.find? P)).length ≤ 1048577 := by
  unfold thenL
  cases hf : xs.find? P with
  | none => simp
  | some a =>
    have h1 := h a (List.mem_of_find?_eq_some hf)
    have h2 := pcs_len a.s.data.toList
    simp only
    split
    · rw [List.length_map]
      have h3 : a.s.data.toList.length = a.s.size := by rw [Array.length_toList]; rfl
      omega
    · simp

set_option maxRecDepth 100000 in
set_option maxHeartbeats 4000000 in
theorem valueof_any (n : Nod) (A : At) (ins : List ByteArray) (u : Sl) (vs : List (Val × List Int)) (w : World) (hl : Laid w) (hni : NodeIn w n ins A.xs A.cs) (hv : ValsIn w u.v vs) (ho : n.out.size ≤ 281474976710656) (tS : R Int) (dS : R (List Int))
    (TM : checkF (ruleF n.op) n.op ins n.out A.xs A.cs = 0 → vs.length = ins.length → vinP vs = .ok () → ∀ wx, w.grownBy wx none → Calls Tryz.prog 48 #[nval n, .slice u.a u.n u.c] wx (Ended wx tS fun t v _ => v = .int .i64 t ∧ isTypeP t = true))
    (DM : checkF (ruleF n.op) n.op ins n.out A.xs A.cs = 0 → vs.length = ins.length → vinP vs = .ok () → ∀ wx, w.grownBy wx none → Calls Tryz.prog 49 #[nval n, .slice u.a u.n u.c] wx (Ended wx dS DimsQ)) :
    Calls Tryz.prog 27 #[nval n, .slice u.a u.n u.c] w (Ended w (valueP (checkF (ruleF n.op) n.op ins n.out A.xs A.cs) (decide (vs.length = ins.length)) vs tS dS (thenL (A.xs.find? (isA ⟨#[116, 104, 101, 110]⟩ 3)))) fun r v w' => ∃ s : Sl, v = .agg #[.string n.out, .int .i64 r.1, .slice s.a s.n s.c] ∧ Owns w' w.heap.size s.v r.2) := by
  obtain ⟨xa, xc, e1, q1, q2, q3⟩ := hv.vals.form
  rw [List.length_map] at e1 q1 q3
  obtain ⟨ua, un, uc⟩ := u
  simp only [Sl.v, Value.slice.injEq] at e1
  obtain ⟨rfl, rfl, rfl⟩ := e1
  have CK := hide (fun (wx : World) (hg : w.grownBy wx none) => check_in n ins A.xs A.cs wx (hl.more hg) (hni.more hg))
  have TH := hide (fun (wx : World) (hg : w.grownBy wx none) => then_any n A.xs wx (hl.more hg) (hni.more hg).av (fun a ha => by have := hni.short a ha; omega))
  have IL := hide hni.ins
  obtain ⟨ck, hck⟩ : ∃ c, c = checkF (ruleF n.op) n.op ins n.out A.xs A.cs := ⟨_, rfl⟩
  obtain ⟨os, hos⟩ : ∃ os, os = thenL (A.xs.find? (isA ⟨#[116, 104, 101, 110]⟩ 3)) := ⟨_, rfl⟩
  have OS : Hid (∀ s ∈ os, isOne s = true) := by show ∀ s ∈ os, _; rw [hos]; exact thenL_ones _
  have OsB : Hid (os.length ≤ 1048577) := by show os.length ≤ _; rw [hos]; exact thenL_len hni.short _
  rw [← hck] at CK TM DM ⊢
  rw [← hos] at TH ⊢
  have HV := hide hv
  have HTM := hide TM
  have HDM := hide DM
  clear hck hos hl hni hv TM DM
  obtain ⟨op, nam, ⟨ia, il, ic⟩, out, ⟨ao, al, cap⟩⟩ := n
  unfold nval at CK TH HTM HDM ⊢
  simp only at CK TH HTM HDM IL ho ⊢
  obtain ⟨ix, icc, ei, i1, i2, i3⟩ := IL.out.form
  simp only [Sl.v, Value.slice.injEq] at ei
  obtain ⟨rfl, rfl, rfl⟩ := ei
  obtain ⟨w0, hw0⟩ : ∃ w0, w0 = (w.alloc (.cells #[.string op, .string nam, .slice ia ins.length ic, .string out, .slice ao al cap] 25)).alloc (.cells #[.string ⟨#[]⟩, .int .i64 0, .slice none 0 0] 31) := ⟨_, rfl⟩
  have g0 : Hid (w.grownBy w0 none) := by show w.grownBy w0 none; rw [hw0]; exact grown_trans (grown_new _ _) (grown_new _ _)
  have hbx := two_boxes w (.cells #[.string op, .string nam, .slice ia ins.length ic, .string out, .slice ao al cap] 25) (.cells #[.string ⟨#[]⟩, .int .i64 0, .slice none 0 0] 31)
  rw [← hw0] at hbx
  have BX : Hid (∀ wx, w0.grownBy wx none → wx.heap[w.heap.size]? = some (.cells #[.string op, .string nam, .slice ia ins.length ic, .string out, .slice ao al cap] 25 (0, 0)) ∧ wx.heap[w.heap.size + 1]? = some (.cells #[.string ⟨#[]⟩, .int .i64 0, .slice none 0 0] 31 (0, 0))) := fun wx hg => ⟨box_kept hbx.1 hg, box_kept hbx.2 hg⟩
  clear hbx
  go_enter Tryz.func27, Tryz.ntmps27
  go_wp2_with fail
  rw [← hw0]
  clear hw0
  refine (CK.out w0 g0.out).mono ?_
  rintro e w1 ⟨rfl, hg1⟩
  have G1 := hide hg1
  clear hg1 CK
  by_cases hc0 : ck = 0
  · subst hc0
    obtain ⟨n0, n1, n2, n3, n4⟩ := nod_cells (n := ⟨op, nam, ⟨ia, ins.length, ic⟩, out, ⟨ao, al, cap⟩⟩) (BX.out w1 G1.out).1
    by_cases hlen : vs.length = ins.length
    · have bl : ((vs.length : Int) == (ins.length : Int)) = true := by simp [hlen]
      have TM2 := hide (HTM.out rfl hlen)
      have DM2 := hide (HDM.out rfl hlen)
      have E0 : Hid (valueP 0 (decide (vs.length = ins.length)) vs tS dS os = (vinP vs).bind (fun _ => tS.bind (fun t => dS.bind (fun d => (countP d).bind (fun _ => (thenP t os).bind (fun _ => .ok (t, d))))))) := by show _ = _; unfold valueP; simp [stopP, mustP, hlen]; rfl
      clear hlen HTM HDM
      go_wp2_with (first | (go_at_call 43; refine (stop_ok _).mono ?_; rintro e w' ⟨rfl, rfl⟩) | (go_at_call 45; refine (must_yes _).mono ?_; rintro e w' ⟨rfl, rfl⟩) | fail)
      clear n0 n1 n2 n3 n4 bl
      go_loopw [25] (fun i wr => ∃ k : Nat, k ≤ vs.length ∧ i = .int .i64 k ∧ vinP (vs.drop k) = vinP vs ∧ w0.grownBy wr none) (fun i _ => vs.length - (intOf i).toNat)
      case atStart => exact ⟨0, Nat.zero_le _, rfl, by rw [List.drop_zero], G1.out⟩
      case round =>
        obtain ⟨k, hk, rfl, hst, hg⟩ := hrel
        have HG := hide hg
        by_cases hkl : k < vs.length
        · obtain ⟨b, off, rfl⟩ := HV.out.vals.addr (k := k) (by rw [List.length_map]; exact hkl)
          obtain ⟨y0, y1, y2⟩ := (HV.out.more (grown_trans g0.out hg)).vals.val k (by rw [List.length_map]; exact hkl)
          have HY := hide (HV.out.dims vs[k] (List.getElem_mem hkl))
          rw [List.getElem_map] at y0 y1 y2
          rw [vinP_step hkl] at hst
          obtain ⟨p, hp⟩ : ∃ p, p = vs[k] := ⟨_, rfl⟩
          rw [← hp] at y0 y1 y2 HY hst
          obtain ⟨⟨vn, vt, ⟨da, dn, dc⟩⟩, y⟩ := p
          simp only at y0 y1 y2 HY hst
          obtain ⟨w3, hw3⟩ : ∃ w3, w3 = wr.alloc (.cells #[.string vn, .int .i64 vt, .slice da dn dc] 31) := ⟨_, rfl⟩
          have g3 : Hid (w0.grownBy w3 none) := by show w0.grownBy w3 none; rw [hw3]; exact grown_trans hg (grown_new _ _)
          have hb3 := heap_alloc_new wr (.cells #[.string vn, .int .i64 vt, .slice da dn dc] 31)
          rw [← hw3] at hb3
          have v1 : w3.cell? ⟨wr.heap.size, 1, none⟩ = some (.int .i64 vt) := (cell_of_row _ _ 1 _ _ (0, 0) hb3).trans rfl
          have v2 : w3.cell? ⟨wr.heap.size, 2, none⟩ = some (.slice da dn dc) := (cell_of_row _ _ 2 _ _ (0, 0) hb3).trans rfl
          have TY := hide (typ_any vt w3)
          have CO := hide (countof_any _ y w3 (HY.out.more (grown_trans g0.out g3.out)))
          simp only [Sl.v] at CO
          have HST := hide hst
          clear hb3 hp hg hst
          go_wp2_with fail
          rw [← hw3]
          clear hw3 y0 y1 y2
          cases ht : typP vt with
          | error c =>
            rw [ht] at TY
            have E : Hid (valueP 0 (decide (vs.length = ins.length)) vs tS dS os = .error c) := by show _ = _; rw [E0.out, ← HST.out, ht]; rfl
            clear ht
            refine TY.out.mono ?_
            rintro e w' ⟨hg, rfl⟩
            exact ⟨rfl, ended_err E.out (grown_trans (grown_trans g0.out g3.out) hg)⟩
          | ok tu =>
            rw [ht] at TY
            have HST2 : Hid ((countP y).bind (fun _ => vinP (vs.drop (k + 1))) = vinP vs) := by show _ = _; rw [← HST.out, ht]; rfl
            clear ht HST
            cases hc : countP y with
            | error c =>
              rw [hc] at CO
              have E : Hid (valueP 0 (decide (vs.length = ins.length)) vs tS dS os = .error c) := by show _ = _; rw [E0.out, ← HST2.out, hc]; rfl
              clear hc
              refine TY.out.mono ?_
              rintro e w' ⟨-, v, rfl, rfl, rfl⟩
              go_wp2_with (first | (go_at_call 47; refine CO.out.mono ?_; rintro e w' ⟨hg, rfl⟩) | fail)
              exact ⟨rfl, ended_err E.out (grown_trans (grown_trans g0.out g3.out) hg)⟩
            | ok cn =>
              rw [hc] at CO
              have HST3 : Hid (vinP (vs.drop (k + 1)) = vinP vs) := by show _ = _; rw [← HST2.out, hc]; rfl
              clear hc HST2
              refine TY.out.mono ?_
              rintro e w' ⟨-, v, rfl, rfl, rfl⟩
              go_wp2_with (first | (go_at_call 47; refine CO.out.mono ?_; rintro e w' ⟨-, v, rfl, rfl, rfl⟩) | fail)
              go_roundw
              case rel => exact ⟨k + 1, by omega, by go_num, HST3.out, g3.out⟩
              case measure => simp [intOf]; omega
        · have hvin : vinP vs = .ok () := by rw [← hst, List.drop_of_length_le (by omega)]; rfl
          have E1 : Hid (valueP 0 (decide (vs.length = ins.length)) vs tS dS os = tS.bind (fun t => dS.bind (fun d => (countP d).bind (fun _ => (thenP t os).bind (fun _ => .ok (t, d)))))) := by show _ = _; rw [E0.out, hvin]; rfl
          have TM3 := hide (TM2.out hvin wr (grown_trans g0.out hg))
          have DM3 := hide (fun wx hx => DM2.out hvin wx hx)
          obtain ⟨n0, n1, n2, n3, n4⟩ := nod_cells (n := ⟨op, nam, ⟨ia, ins.length, ic⟩, out, ⟨ao, al, cap⟩⟩) (BX.out wr hg).1
          clear hst hg hvin TM2 DM2 E0
          go_wp2_with fail
          cases ht : tS with
          | error c =>
            rw [ht] at TM3
            have E : Hid (valueP 0 (decide (vs.length = ins.length)) vs tS dS os = .error c) := by show _ = _; rw [E1.out, ht]; rfl
            refine TM3.out.mono ?_
            rintro e w' ⟨hg, rfl⟩
            exact ⟨rfl, ended_err E.out (grown_trans (grown_trans g0.out HG.out) hg)⟩
          | ok tt =>
            rw [ht] at TM3
            have E2 : Hid (valueP 0 (decide (vs.length = ins.length)) vs tS dS os = dS.bind (fun d => (countP d).bind (fun _ => (thenP tt os).bind (fun _ => .ok (tt, d))))) := by show _ = _; rw [E1.out, ht]; rfl
            refine TM3.out.mono ?_
            rintro e w4 ⟨hg4, v, rfl, rfl, htt⟩
            have G4 := hide (grown_trans HG.out hg4)
            have D4 := hide (DM3.out w4 (grown_trans g0.out G4.out))
            obtain ⟨n0, n1, n2, n3, n4⟩ := nod_cells (n := ⟨op, nam, ⟨ia, ins.length, ic⟩, out, ⟨ao, al, cap⟩⟩) (BX.out w4 G4.out).1
            clear hg4 TM3 ht
            go_wp2_with fail
            cases hd : dS with
            | error c =>
              rw [hd] at D4
              have E : Hid (valueP 0 (decide (vs.length = ins.length)) vs tS dS os = .error c) := by show _ = _; rw [E2.out, hd]; rfl
              refine D4.out.mono ?_
              rintro e w' ⟨hg, rfl⟩
              exact ⟨rfl, ended_err E.out (grown_trans (grown_trans g0.out G4.out) hg)⟩
            | ok dd =>
              rw [hd] at D4
              have E3 : Hid (valueP 0 (decide (vs.length = ins.length)) vs tS dS os = (countP dd).bind (fun _ => (thenP tt os).bind (fun _ => .ok (tt, dd)))) := by show _ = _; rw [E2.out, hd]; rfl
              refine D4.out.mono ?_
              rintro e w5 ⟨hg5, v, rfl, ⟨s1, s2, s3⟩, rfl, hs⟩
              have G5 := hide (grown_trans G4.out hg5)
              have CO := hide (countof_any _ dd w5 hs)
              have HS := hide hs
              simp only [Sl.v] at CO ⊢
              obtain ⟨n0, n1, n2, n3, n4⟩ := nod_cells (n := ⟨op, nam, ⟨ia, ins.length, ic⟩, out, ⟨ao, al, cap⟩⟩) (BX.out w5 G5.out).1
              clear hg5 D4 hd hs DM3
              have T6 := hide (TH.out w5 (grown_trans g0.out G5.out))
              cases hc : countP dd with
              | error c =>
                rw [hc] at CO
                have E : Hid (valueP 0 (decide (vs.length = ins.length)) vs tS dS os = .error c) := by show _ = _; rw [E3.out, hc]; rfl
                clear hc
                go_wp2_with (first | (go_at_call 47; refine CO.out.mono ?_; rintro e w' ⟨hg, rfl⟩) | fail)
                exact ⟨rfl, ended_err E.out (grown_trans (grown_trans g0.out G5.out) hg)⟩
              | ok cn =>
                rw [hc] at CO
                have E4 : Hid (valueP 0 (decide (vs.length = ins.length)) vs tS dS os = (thenP tt os).bind (fun _ => .ok (tt, dd))) := by show _ = _; rw [E3.out, hc]; rfl
                clear hc
                go_wp2_with (first | (go_at_call 47; refine CO.out.mono ?_; rintro e w' ⟨-, v, rfl, rfl, rfl⟩) | (go_at_call 50; refine T6.out.mono ?_; rintro e w6 ⟨tv, rfl, hown, hg6⟩; obtain ⟨oa, oc, rfl⟩ := OwnsL.form hown) | fail)
                have G6 := hide (grown_trans G5.out hg6)
                have HG56 := hide hg6
                have osb := OsB.out
                have LO := hide (OwnsL.isL (bytes := 16) scell_len hown (by omega))
                clear hown hg6 T6 CO n0 n1 n2 n3 n4
                go_loopw [51] (fun i wr => ∃ k : Nat, k ≤ os.length ∧ i = .int .i64 k ∧ thenP tt (os.drop k) = thenP tt os ∧ w6.grownBy wr none) (fun i _ => os.length - (intOf i).toNat)
                case atStart => exact ⟨0, Nat.zero_le _, rfl, by rw [List.drop_zero], grown_refl _⟩
                case round =>
                  obtain ⟨k, hk, rfl, hst, hg⟩ := hrel
                  have HG2 := hide hg
                  by_cases hkl : k < os.length
                  · obtain ⟨ob, of, rfl⟩ := LO.out.addr hkl
                    have hc := (LO.out.more hg).at k hkl 0 (by omega)
                    rw [Nat.mul_one, Nat.add_zero] at hc
                    rw [thenP_step hkl] at hst
                    have hone := OS.out os[k] (List.getElem_mem hkl)
                    obtain ⟨o, hoo⟩ : ∃ o, o = os[k] := ⟨_, rfl⟩
                    rw [← hoo] at hc hst hone
                    have hc' : wr.cell? ⟨ob, of + k, none⟩ = some (.string o) := hc
                    have MU := hide (mustone_any o tt (isOne_names hone) htt wr)
                    have HST := hide hst
                    clear hc hoo hst hg hone
                    cases h1 : oneOK o.toList tt with
                    | true =>
                      rw [h1] at MU
                      have HST2 : Hid (thenP tt (os.drop (k + 1)) = thenP tt os) := by show _ = _; rw [← HST.out, h1]; rfl
                      clear h1
                      go_wp2_with (first | (go_at_call 51; refine MU.out.mono ?_; rintro e w7 ⟨hg7, v, rfl, rfl⟩) | fail)
                      go_roundw
                      case rel => exact ⟨k + 1, by omega, by go_num, HST2.out, grown_trans HG2.out hg7⟩
                      case measure => simp [intOf]; omega
                    | false =>
                      rw [h1] at MU
                      have E : Hid (valueP 0 (decide (vs.length = ins.length)) vs tS dS os = .error 4) := by show _ = _; rw [E4.out, ← HST.out, h1]; rfl
                      clear h1
                      go_wp2_with (first | (go_at_call 51; refine MU.out.mono ?_; rintro e w7 ⟨hg7, rfl⟩) | fail)
                      exact ⟨rfl, ended_err E.out (grown_trans (grown_trans g0.out G6.out) (grown_trans HG2.out hg7))⟩
                  · have E5 : Hid (valueP 0 (decide (vs.length = ins.length)) vs tS dS os = .ok (tt, dd)) := by show _ = _; rw [E4.out, ← hst, List.drop_of_length_le (by omega)]; rfl
                    have G7 := hide (grown_trans G6.out hg)
                    obtain ⟨n0, n1, n2, n3, n4⟩ := nod_cells (n := ⟨op, nam, ⟨ia, ins.length, ic⟩, out, ⟨ao, al, cap⟩⟩) (BX.out wr G7.out).1
                    have NV := hide (newvalue_any out tt ⟨s1, s2, s3⟩ dd wr (HS.out.more (grown_trans HG56.out hg)) ho)
                    simp only at NV
                    clear hst hg
                    go_wp2_with (first | (go_at_call 52; refine NV.out.mono ?_; rintro e w8 ⟨⟨r1, r2, r3⟩, rfl, hr, hg8⟩; simp only; have G8 := grown_trans G7.out hg8; have B8 := (BX.out w8 G8).2; obtain ⟨f0, f1, f2⟩ := ten_frozen B8; have c0 := (cell_of_row _ _ 0 _ _ (0, 0) B8).trans rfl; have c1 := (cell_of_row _ _ 1 _ _ (0, 0) B8).trans rfl; have c2 := (cell_of_row _ _ 2 _ _ (0, 0) B8).trans rfl) | fail)
                    obtain ⟨hX, gX⟩ := store3t (.string out) (.int .i64 tt) (.slice r1 r2 r3) B8
                    have gf : w.grownBy _ none := grown_drop (grown_trans g0.out G8) gX (by omega)
                    refine bodyPost_ret (ret_val rfl _ _ (w.heap.size + 1) rfl hX) rfl ?_
                    refine ended_ok E5.out gf ⟨⟨r1, r2, r3⟩, rfl, ?_⟩
                    have hb : w.heap.size + 1 < wr.heap.size := (Array.getElem?_eq_some_iff.1 (BX.out wr G7.out).2).1
                    have h := (hr.base_le (b' := w.heap.size + 2) (by omega)).more gX (by
                      rcases hr.1.2 with ⟨e, -⟩ | ⟨gg, cap', cur, e, hgg, -⟩
                      · exact .inl (by rw [e]; rfl)
                      · exact .inr (by rw [e]; simp [Value.ownBlock]; omega))
                    exact h.base_le (by omega)
    · have bl : ((vs.length : Int) == (ins.length : Int)) = false := by simpa using (fun h => hlen (by omega) : ¬ (vs.length : Int) = ins.length)
      have E0 : Hid (valueP 0 (decide (vs.length = ins.length)) vs tS dS os = .error 4) := by show _ = _; unfold valueP; simp [stopP, mustP, hlen]; rfl
      clear hlen
      go_wp2_with (first | (go_at_call 43; refine (stop_ok _).mono ?_; rintro e w' ⟨rfl, rfl⟩) | (go_at_call 45; refine (must_no _).mono ?_; rintro e w' ⟨rfl, rfl⟩) | fail)
      exact ⟨rfl, ended_err E0.out (grown_trans g0.out G1.out)⟩
  · have E0 : Hid (valueP ck (decide (vs.length = ins.length)) vs tS dS os = .error ck) := by show _ = _; unfold valueP; simp [stopP, hc0]; rfl
    have HC := hide hc0
    clear hc0
    go_wp2_with (first | (go_at_call 43; refine (stop_err _ HC.out _).mono ?_; rintro e w' ⟨rfl, rfl⟩) | fail)
    exact ⟨rfl, ended_err E0.out (grown_trans g0.out G1.out)⟩
end Go.Proofs.YtdcbjikjeicgbaaGreatDoor

/- The tensor of a Constant, by the walk. -/
namespace Go.Proofs.YtdcbjikjeicgbaaGreatDoor
open Go.RowKit

/-- The attribute that holds a node's tensor, or one without. -/
def valA (A : At) : Atr := (A.xs.find? (isA ⟨#[118, 97, 108, 117, 101]⟩ 4)).getD noAtr

theorem find_none_of {xs : List Atr} {P : Atr → Bool} (h : ∀ j (hj : j < xs.length), P xs[j] = false) : xs.find? P = none := by
  rw [List.find?_eq_none]
  intro a ha
  obtain ⟨j, hj, rfl⟩ := List.mem_iff_getElem.1 ha
  simpa using h j hj

theorem find_first_of {P : Atr → Bool} : ∀ {xs : List Atr} {k : Nat} (hk : k < xs.length), (∀ j (hj : j < xs.length), j < k → P xs[j] = false) → P xs[k] = true → xs.find? P = some xs[k]
  | a :: l, 0, _, _, h => by simp only [List.getElem_cons_zero] at h ⊢; rw [List.find?_cons_of_pos h]
  | a :: l, k + 1, hk, h0, h => by
    have ha := h0 0 (by simp) (by omega)
    simp only [List.getElem_cons_zero] at ha
    rw [List.find?_cons_of_neg (by simpa using ha)]
    simp only [List.getElem_cons_succ] at h ⊢
    exact find_first_of (by simpa using hk) (fun j hj hjk => by have := h0 (j + 1) (by simpa using hj) (by omega); simpa using this) h

theorem ten_field0 (t : Int) (b c : Value) (W : World) : (Instr.field 55 (.agg #[.int .i64 t, b, c]) 0).run Tryz.prog W = .ok (.int .i64 t) W := by kernel_rfl

theorem ten_field1 (t : Int) (a : Option Addr) (n m : Nat) (c : Value) (W : World) : (Instr.field 55 (.agg #[.int .i64 t, .slice a n m, c]) 1).run Tryz.prog W = .ok (.slice a n m) W := by kernel_rfl

theorem grown_drop2 {a b c : World} {B : Nat} (h : a.grownBy b none) (k : b.grownBy c (some B)) (hb : a.heap.size ≤ B) : a.grownBy c none := grown_trans_row h k (fun r e => by cases e; exact hb)

set_option maxRecDepth 100000 in
set_option maxHeartbeats 2000000 in
theorem attrvalue_any (n : Nod) (A : At) (w : World) (hn : NodeOk w n A) : Calls Tryz.prog 91 #[nval n] w fun e w' => e = .returned (.agg #[.int .i64 (valA A).ty, .slice (valA A).dv.a (valA A).dv.n (valA A).dv.c, .slice (valA A).tv.a (valA A).tv.n (valA A).tv.c]) ∧ w.grownBy w' none := by
  have HA := hide hn.attrs
  obtain ⟨op, nam, ⟨ia, il, ic⟩, out, ⟨ao, al, cap⟩⟩ := n
  unfold nval
  simp only at HA ⊢
  obtain ⟨ao', cap', hav, h1, h2, h3⟩ := HA.out.form
  obtain ⟨rfl, rfl, rfl⟩ : ao = ao' ∧ al = A.xs.length ∧ cap = cap' := by simpa [Sl.v] using hav
  clear hav hn
  obtain ⟨w0, hw0⟩ : ∃ w0, w0 = (w.alloc (.cells #[.string op, .string nam, .slice ia il ic, .string out, .slice ao A.xs.length cap] 25)).alloc (.cells #[.int .i64 0, .slice none 0 0, .slice none 0 0] 55) := ⟨_, rfl⟩
  have g0 : w.grownBy w0 none := by rw [hw0]; exact grown_trans (grown_new _ _) (grown_new _ _)
  have hbx := two_boxes w (.cells #[.string op, .string nam, .slice ia il ic, .string out, .slice ao A.xs.length cap] 25) (.cells #[.int .i64 0, .slice none 0 0, .slice none 0 0] 55)
  rw [← hw0] at hbx
  have BX := hide hbx
  obtain ⟨xs, hxs⟩ : ∃ xs, xs = A.xs := ⟨_, rfl⟩
  have EV : Hid (valA A = (xs.find? (isA ⟨#[118, 97, 108, 117, 101]⟩ 4)).getD noAtr) := by show _ = _; rw [hxs]; rfl
  rw [← hxs] at HA h1 h3 BX hw0 ⊢
  clear hxs hbx
  go_enter Tryz.func91, Tryz.ntmps91
  go_wp2
  rw [← hw0]
  clear hw0
  go_loopw [8] (fun i wr => ∃ k : Nat, k ≤ xs.length ∧ i = .int .i64 k ∧ (∀ j (hj : j < xs.length), j < k → isA ⟨#[118, 97, 108, 117, 101]⟩ 4 xs[j] = false) ∧ w0.grownBy wr none) (fun i _ => xs.length - (intOf i).toNat)
  case atStart => exact ⟨0, Nat.zero_le _, rfl, fun j hj h => absurd h (by omega), grown_refl _⟩
  case round =>
    obtain ⟨k, hk, rfl, hall, hg⟩ := hrel
    have HL := hide hall
    have HG := hide hg
    have BW := hide (And.intro (box_kept BX.out.1 hg) (box_kept BX.out.2 hg))
    by_cases hkl : k < xs.length
    · have HV1 := HA.out.more (grown_trans g0 hg)
      obtain ⟨b, off, rfl⟩ := HV1.addr hkl
      obtain ⟨a0, a1, a2, a3, a4, a5, a6, a7, a8⟩ := HV1.attr k hkl
      obtain ⟨a, ha⟩ : ∃ a, a = xs[k] := ⟨_, rfl⟩
      rw [← ha] at a0 a1 a2 a3 a4 a5 a6 a7 a8
      have HAA := hide ha
      obtain ⟨an, ak, af, ai, as', aty, ⟨d1, d2, d3⟩, ⟨t1, t2, t3⟩, ⟨i1, i2, i3⟩⟩ := a
      simp only at a0 a1 a2 a3 a4 a5 a6 a7 a8
      clear hall hg HV1 ha
      cases hnm : (an.toList == [118, 97, 108, 117, 101]) with
      | false =>
        have HN : Hid (∀ j (hj : j < xs.length), j < k + 1 → isA ⟨#[118, 97, 108, 117, 101]⟩ 4 xs[j] = false) := fun j hj h => by
          rcases lt_succ_cases h with h | rfl
          · exact HL.out j hj h
          · rw [← HAA.out]; simp only [isA, bytes_toList] at hnm ⊢; rw [hnm]; rfl
        go_wp2
        go_roundw
        case rel => exact ⟨k + 1, by omega, by go_num, HN.out, grown_trans HG.out (grown_new _ _)⟩
        case measure => simp [intOf]; omega
      | true =>
        cases hkd : (ak == 4) with
        | false =>
          have HN : Hid (∀ j (hj : j < xs.length), j < k + 1 → isA ⟨#[118, 97, 108, 117, 101]⟩ 4 xs[j] = false) := fun j hj h => by
            rcases lt_succ_cases h with h | rfl
            · exact HL.out j hj h
            · rw [← HAA.out]; simp only [isA]; rw [hkd]; simp
          go_wp2
          go_roundw
          case rel => exact ⟨k + 1, by omega, by go_num, HN.out, grown_trans HG.out (grown_new _ _)⟩
          case measure => simp [intOf]; omega
        | true =>
          have E : Hid (valA A = xs[k]) := by
            show _ = _
            rw [EV.out, find_first_of hkl HL.out (by rw [← HAA.out]; simp only [isA, bytes_toList] at hnm ⊢; rw [hnm, hkd]; rfl)]
            rfl
          have B2 := box_kept BW.out.2 (grown_new wr (.cells #[.string an, .int .i64 ak, .int .i64 af, .int .i64 ai, .string as', .int .i64 aty, .slice d1 d2 d3, .slice t1 t2 t3, .slice i1 i2 i3] 57))
          have gw1 : w.grownBy (wr.alloc (.cells #[.string an, .int .i64 ak, .int .i64 af, .int .i64 ai, .string as', .int .i64 aty, .slice d1 d2 d3, .slice t1 t2 t3, .slice i1 i2 i3] 57)) none := grown_trans (grown_trans g0 HG.out) (grown_new _ _)
          obtain ⟨f0, f1, f2⟩ := ten_frozen B2
          obtain ⟨c0, c1, c2⟩ := ten_cells B2
          obtain ⟨hX, gX⟩ := store3t (.int .i64 aty) (.slice d1 d2 d3) (.slice t1 t2 t3) B2
          have HX := hide hX
          have GX := hide (grown_drop2 gw1 gX (by omega))
          clear hX gX gw1 B2
          go_wp2
          refine bodyPost_ret (ret_ten rfl _ _ (w.heap.size + 1) rfl HX.out) rfl ?_
          exact ⟨by rw [E.out, ← HAA.out], GX.out⟩
    · have E : Hid (valA A = noAtr) := by
        show _ = _
        rw [EV.out, find_none_of (fun j hj => HL.out j hj (by omega))]
        rfl
      obtain ⟨f0, f1, f2⟩ := ten_frozen BW.out.2
      obtain ⟨c0, c1, c2⟩ := ten_cells BW.out.2
      obtain ⟨hX, gX⟩ := store3t (.int .i64 0) (.slice none 0 0) (.slice none 0 0) BW.out.2
      have HX := hide hX
      have GX := hide (grown_drop2 (grown_trans g0 HG.out) gX (by omega))
      clear hX gX hall hg
      go_wp2
      refine bodyPost_ret (ret_ten rfl _ _ (w.heap.size + 1) rfl HX.out) rfl ?_
      exact ⟨by rw [E.out]; rfl, GX.out⟩
end Go.Proofs.YtdcbjikjeicgbaaGreatDoor

/- Of which type a node makes its value: the operators with rules of their own (mkITy2.py). -/
namespace Go.Proofs.YtdcbjikjeicgbaaGreatDoor
open Go.RowKit

set_option maxRecDepth 100000 in
set_option maxHeartbeats 2000000 in
theorem type_ReduceSum (n : Nod) (A : At) (u : Sl) (vs : List (Val × List Int)) (w : World) (hop : n.op = ⟨#[82, 101, 100, 117, 99, 101, 83, 117, 109]⟩) (hn : NodeOk w n A) (hv : ValsIn w u.v vs) (hl : vs.length = 1) (_hf : vs.length ≤ 1000000) (_ht : ∀ s ∈ tysOf vs, isTypeP s = true) : Calls Tryz.prog 48 #[nval n, .slice u.a u.n u.c] w (Ended w ((mustP ((tysOf vs).getD 0 0 != 9)).bind (fun _ => .ok ((tysOf vs).getD 0 0))) fun t v _ => v = .int .i64 t) := by
  obtain ⟨xa, xc, e1, p1, p2, p3⟩ := hv.vals.form
  rw [List.length_map] at e1 p1 p3
  obtain ⟨ua, un, uc⟩ := u
  simp only [Sl.v, Value.slice.injEq] at e1
  obtain ⟨rfl, rfl, rfl⟩ := e1
  have HV := hide hv
  obtain ⟨b, off, rfl⟩ := hv.vals.addr (k := 0) (by rw [List.length_map]; omega)
  obtain ⟨z1, -⟩ := hv.at 0 (by omega)
  rw [Nat.zero_mul, Nat.add_zero] at z1
  have hT : (tysOf vs).getD 0 0 = vs[0].1.ty := by unfold tysOf; rw [List.getD, List.getElem?_eq_getElem (by rw [List.length_map]; omega)]; simp
  obtain ⟨T, hT0⟩ : ∃ T, T = vs[0].1.ty := ⟨_, rfl⟩
  rw [← hT0] at z1 hT
  rw [hT]
  have Z1 := hide z1
  have hp : (0 : Int) < (vs.length : Int) := by omega
  have hp2 : 0 < vs.length := by omega
  clear hv _ht hT hT0 z1 hl _hf
  have NK := hide hn
  obtain ⟨op, nam, ⟨ia, il, ic⟩, out, ⟨ao, al, cap⟩⟩ := n
  unfold nval
  simp only
  obtain ⟨w0, hw0⟩ : ∃ w0, w0 = w.alloc (.cells #[.string op, .string nam, .slice ia il ic, .string out, .slice ao al cap] 25) := ⟨_, rfl⟩
  have g0 : Hid (w.grownBy w0 none) := by show w.grownBy w0 none; rw [hw0]; exact grown_new _ _
  have hb0 := heap_alloc_new w (.cells #[.string op, .string nam, .slice ia il ic, .string out, .slice ao al cap] 25)
  rw [← hw0] at hb0
  have BX : Hid (∀ wx, w0.grownBy wx none → wx.heap[w.heap.size]? = some (.cells #[.string op, .string nam, .slice ia il ic, .string out, .slice ao al cap] 25 (0, 0))) := fun wx hg => box_kept hb0 hg
  clear hb0 hn
  simp only at hop
  subst hop
  have z2 : (w.alloc (.cells #[.string ⟨#[82, 101, 100, 117, 99, 101, 83, 117, 109]⟩, .string nam, .slice ia il ic, .string out, .slice ao al cap] 25)).cell? ⟨b, off + 1, none⟩ = some (.int .i64 T) := cell_still Z1.out (grown_new _ _)
  cases h1 : (T != 9) with
  | true =>
    go_enter Tryz.func48, Tryz.ntmps48
    go_wp2_with (first | (go_at_call 45; refine (must_yes _).mono ?_; rintro e w' ⟨rfl, rfl⟩) | fail)
    go_ret
    exact ended_ok (by rfl) (by rw [← hw0]; exact g0.out) rfl
  | false =>
    go_enter Tryz.func48, Tryz.ntmps48
    go_wp2_with (first | (go_at_call 45; refine (must_no _).mono ?_; rintro e w' ⟨rfl, rfl⟩) | fail)
    exact ⟨rfl, ended_err (by rfl) (by rw [← hw0]; exact g0.out)⟩

set_option maxRecDepth 100000 in
set_option maxHeartbeats 2000000 in
theorem type_ReduceMax (n : Nod) (A : At) (u : Sl) (vs : List (Val × List Int)) (w : World) (hop : n.op = ⟨#[82, 101, 100, 117, 99, 101, 77, 97, 120]⟩) (hn : NodeOk w n A) (hv : ValsIn w u.v vs) (hl : vs.length = 1) (_hf : vs.length ≤ 1000000) (_ht : ∀ s ∈ tysOf vs, isTypeP s = true) : Calls Tryz.prog 48 #[nval n, .slice u.a u.n u.c] w (Ended w ((mustP ((tysOf vs).getD 0 0 != 9)).bind (fun _ => .ok ((tysOf vs).getD 0 0))) fun t v _ => v = .int .i64 t) := by
  obtain ⟨xa, xc, e1, p1, p2, p3⟩ := hv.vals.form
  rw [List.length_map] at e1 p1 p3
  obtain ⟨ua, un, uc⟩ := u
  simp only [Sl.v, Value.slice.injEq] at e1
  obtain ⟨rfl, rfl, rfl⟩ := e1
  have HV := hide hv
  obtain ⟨b, off, rfl⟩ := hv.vals.addr (k := 0) (by rw [List.length_map]; omega)
  obtain ⟨z1, -⟩ := hv.at 0 (by omega)
  rw [Nat.zero_mul, Nat.add_zero] at z1
  have hT : (tysOf vs).getD 0 0 = vs[0].1.ty := by unfold tysOf; rw [List.getD, List.getElem?_eq_getElem (by rw [List.length_map]; omega)]; simp
  obtain ⟨T, hT0⟩ : ∃ T, T = vs[0].1.ty := ⟨_, rfl⟩
  rw [← hT0] at z1 hT
  rw [hT]
  have Z1 := hide z1
  have hp : (0 : Int) < (vs.length : Int) := by omega
  have hp2 : 0 < vs.length := by omega
  clear hv _ht hT hT0 z1 hl _hf
  have NK := hide hn
  obtain ⟨op, nam, ⟨ia, il, ic⟩, out, ⟨ao, al, cap⟩⟩ := n
  unfold nval
  simp only
  obtain ⟨w0, hw0⟩ : ∃ w0, w0 = w.alloc (.cells #[.string op, .string nam, .slice ia il ic, .string out, .slice ao al cap] 25) := ⟨_, rfl⟩
  have g0 : Hid (w.grownBy w0 none) := by show w.grownBy w0 none; rw [hw0]; exact grown_new _ _
  have hb0 := heap_alloc_new w (.cells #[.string op, .string nam, .slice ia il ic, .string out, .slice ao al cap] 25)
  rw [← hw0] at hb0
  have BX : Hid (∀ wx, w0.grownBy wx none → wx.heap[w.heap.size]? = some (.cells #[.string op, .string nam, .slice ia il ic, .string out, .slice ao al cap] 25 (0, 0))) := fun wx hg => box_kept hb0 hg
  clear hb0 hn
  simp only at hop
  subst hop
  have z2 : (w.alloc (.cells #[.string ⟨#[82, 101, 100, 117, 99, 101, 77, 97, 120]⟩, .string nam, .slice ia il ic, .string out, .slice ao al cap] 25)).cell? ⟨b, off + 1, none⟩ = some (.int .i64 T) := cell_still Z1.out (grown_new _ _)
  cases h1 : (T != 9) with
  | true =>
    go_enter Tryz.func48, Tryz.ntmps48
    go_wp2_with (first | (go_at_call 45; refine (must_yes _).mono ?_; rintro e w' ⟨rfl, rfl⟩) | fail)
    go_ret
    exact ended_ok (by rfl) (by rw [← hw0]; exact g0.out) rfl
  | false =>
    go_enter Tryz.func48, Tryz.ntmps48
    go_wp2_with (first | (go_at_call 45; refine (must_no _).mono ?_; rintro e w' ⟨rfl, rfl⟩) | fail)
    exact ⟨rfl, ended_err (by rfl) (by rw [← hw0]; exact g0.out)⟩

set_option maxRecDepth 100000 in
set_option maxHeartbeats 2000000 in
theorem type_ArgMax (n : Nod) (A : At) (u : Sl) (vs : List (Val × List Int)) (w : World) (hop : n.op = ⟨#[65, 114, 103, 77, 97, 120]⟩) (hn : NodeOk w n A) (hv : ValsIn w u.v vs) (hl : vs.length = 1) (_hf : vs.length ≤ 1000000) (_ht : ∀ s ∈ tysOf vs, isTypeP s = true) : Calls Tryz.prog 48 #[nval n, .slice u.a u.n u.c] w (Ended w ((mustP ((tysOf vs).getD 0 0 != 9)).bind (fun _ => .ok (7 : Int))) fun t v _ => v = .int .i64 t) := by
  obtain ⟨xa, xc, e1, p1, p2, p3⟩ := hv.vals.form
  rw [List.length_map] at e1 p1 p3
  obtain ⟨ua, un, uc⟩ := u
  simp only [Sl.v, Value.slice.injEq] at e1
  obtain ⟨rfl, rfl, rfl⟩ := e1
  have HV := hide hv
  obtain ⟨b, off, rfl⟩ := hv.vals.addr (k := 0) (by rw [List.length_map]; omega)
  obtain ⟨z1, -⟩ := hv.at 0 (by omega)
  rw [Nat.zero_mul, Nat.add_zero] at z1
  have hT : (tysOf vs).getD 0 0 = vs[0].1.ty := by unfold tysOf; rw [List.getD, List.getElem?_eq_getElem (by rw [List.length_map]; omega)]; simp
  obtain ⟨T, hT0⟩ : ∃ T, T = vs[0].1.ty := ⟨_, rfl⟩
  rw [← hT0] at z1 hT
  rw [hT]
  have Z1 := hide z1
  have hp : (0 : Int) < (vs.length : Int) := by omega
  have hp2 : 0 < vs.length := by omega
  clear hv _ht hT hT0 z1 hl _hf
  have NK := hide hn
  obtain ⟨op, nam, ⟨ia, il, ic⟩, out, ⟨ao, al, cap⟩⟩ := n
  unfold nval
  simp only
  obtain ⟨w0, hw0⟩ : ∃ w0, w0 = w.alloc (.cells #[.string op, .string nam, .slice ia il ic, .string out, .slice ao al cap] 25) := ⟨_, rfl⟩
  have g0 : Hid (w.grownBy w0 none) := by show w.grownBy w0 none; rw [hw0]; exact grown_new _ _
  have hb0 := heap_alloc_new w (.cells #[.string op, .string nam, .slice ia il ic, .string out, .slice ao al cap] 25)
  rw [← hw0] at hb0
  have BX : Hid (∀ wx, w0.grownBy wx none → wx.heap[w.heap.size]? = some (.cells #[.string op, .string nam, .slice ia il ic, .string out, .slice ao al cap] 25 (0, 0))) := fun wx hg => box_kept hb0 hg
  clear hb0 hn
  simp only at hop
  subst hop
  have z2 : (w.alloc (.cells #[.string ⟨#[65, 114, 103, 77, 97, 120]⟩, .string nam, .slice ia il ic, .string out, .slice ao al cap] 25)).cell? ⟨b, off + 1, none⟩ = some (.int .i64 T) := cell_still Z1.out (grown_new _ _)
  cases h1 : (T != 9) with
  | true =>
    go_enter Tryz.func48, Tryz.ntmps48
    go_wp2_with (first | (go_at_call 45; refine (must_yes _).mono ?_; rintro e w' ⟨rfl, rfl⟩) | fail)
    go_ret
    exact ended_ok (by rfl) (by rw [← hw0]; exact g0.out) rfl
  | false =>
    go_enter Tryz.func48, Tryz.ntmps48
    go_wp2_with (first | (go_at_call 45; refine (must_no _).mono ?_; rintro e w' ⟨rfl, rfl⟩) | fail)
    exact ⟨rfl, ended_err (by rfl) (by rw [← hw0]; exact g0.out)⟩

set_option maxRecDepth 100000 in
set_option maxHeartbeats 2000000 in
theorem type_Gather (n : Nod) (A : At) (u : Sl) (vs : List (Val × List Int)) (w : World) (hop : n.op = ⟨#[71, 97, 116, 104, 101, 114]⟩) (hn : NodeOk w n A) (hv : ValsIn w u.v vs) (hl : vs.length = 2) (_hf : vs.length ≤ 1000000) (_ht : ∀ s ∈ tysOf vs, isTypeP s = true) : Calls Tryz.prog 48 #[nval n, .slice u.a u.n u.c] w (Ended w ((mustP ((tysOf vs).getD 1 0 == 6 || (tysOf vs).getD 1 0 == 7)).bind (fun _ => .ok ((tysOf vs).getD 0 0))) fun t v _ => v = .int .i64 t) := by
  obtain ⟨xa, xc, e1, p1, p2, p3⟩ := hv.vals.form
  rw [List.length_map] at e1 p1 p3
  obtain ⟨ua, un, uc⟩ := u
  simp only [Sl.v, Value.slice.injEq] at e1
  obtain ⟨rfl, rfl, rfl⟩ := e1
  have HV := hide hv
  obtain ⟨b, off, rfl⟩ := hv.vals.addr (k := 0) (by rw [List.length_map]; omega)
  obtain ⟨z1, -⟩ := hv.at 0 (by omega)
  rw [Nat.zero_mul, Nat.add_zero] at z1
  obtain ⟨y1, -⟩ := hv.at 1 (by omega)
  have hT : (tysOf vs).getD 0 0 = vs[0].1.ty := by unfold tysOf; rw [List.getD, List.getElem?_eq_getElem (by rw [List.length_map]; omega)]; simp
  have hU : (tysOf vs).getD 1 0 = vs[1].1.ty := by unfold tysOf; rw [List.getD, List.getElem?_eq_getElem (by rw [List.length_map]; omega)]; simp
  obtain ⟨T, hT0⟩ : ∃ T, T = vs[0].1.ty := ⟨_, rfl⟩
  obtain ⟨U, hU0⟩ : ∃ U, U = vs[1].1.ty := ⟨_, rfl⟩
  rw [← hT0] at z1 hT
  rw [← hU0] at y1 hU
  rw [hT, hU]
  have Z1 := hide z1
  have Y1 := hide y1
  have hp : (0 : Int) < (vs.length : Int) := by omega
  have hp2 : 0 < vs.length := by omega
  have hq : (1 : Int) < (vs.length : Int) := by omega
  have hq2 : 1 < vs.length := by omega
  clear hv _ht hT hT0 z1 hU hU0 y1 hl _hf
  have NK := hide hn
  obtain ⟨op, nam, ⟨ia, il, ic⟩, out, ⟨ao, al, cap⟩⟩ := n
  unfold nval
  simp only
  obtain ⟨w0, hw0⟩ : ∃ w0, w0 = w.alloc (.cells #[.string op, .string nam, .slice ia il ic, .string out, .slice ao al cap] 25) := ⟨_, rfl⟩
  have g0 : Hid (w.grownBy w0 none) := by show w.grownBy w0 none; rw [hw0]; exact grown_new _ _
  have hb0 := heap_alloc_new w (.cells #[.string op, .string nam, .slice ia il ic, .string out, .slice ao al cap] 25)
  rw [← hw0] at hb0
  have BX : Hid (∀ wx, w0.grownBy wx none → wx.heap[w.heap.size]? = some (.cells #[.string op, .string nam, .slice ia il ic, .string out, .slice ao al cap] 25 (0, 0))) := fun wx hg => box_kept hb0 hg
  clear hb0 hn
  simp only at hop
  subst hop
  have z2 : (w.alloc (.cells #[.string ⟨#[71, 97, 116, 104, 101, 114]⟩, .string nam, .slice ia il ic, .string out, .slice ao al cap] 25)).cell? ⟨b, off + 1, none⟩ = some (.int .i64 T) := cell_still Z1.out (grown_new _ _)
  have y2 : (w.alloc (.cells #[.string ⟨#[71, 97, 116, 104, 101, 114]⟩, .string nam, .slice ia il ic, .string out, .slice ao al cap] 25)).cell? ⟨b, off + 3 + 1, none⟩ = some (.int .i64 U) := by have h := cell_still Y1.out (grown_new w (.cells #[.string ⟨#[71, 97, 116, 104, 101, 114]⟩, .string nam, .slice ia il ic, .string out, .slice ao al cap] 25)); rw [Nat.one_mul] at h; exact h
  cases h1 : (U == 6) with
  | true =>
    go_enter Tryz.func48, Tryz.ntmps48
    go_wp2_with (first | (go_at_call 45; refine (must_yes _).mono ?_; rintro e w' ⟨rfl, rfl⟩) | fail)
    go_ret
    exact ended_ok (by rfl) (by rw [← hw0]; exact g0.out) rfl
  | false =>
    cases h2 : (U == 7) with
    | true =>
      go_enter Tryz.func48, Tryz.ntmps48
      go_wp2_with (first | (go_at_call 45; refine (must_yes _).mono ?_; rintro e w' ⟨rfl, rfl⟩) | fail)
      go_ret
      exact ended_ok (by rfl) (by rw [← hw0]; exact g0.out) rfl
    | false =>
      go_enter Tryz.func48, Tryz.ntmps48
      go_wp2_with (first | (go_at_call 45; refine (must_no _).mono ?_; rintro e w' ⟨rfl, rfl⟩) | fail)
      exact ⟨rfl, ended_err (by rfl) (by rw [← hw0]; exact g0.out)⟩

set_option maxRecDepth 100000 in
set_option maxHeartbeats 2000000 in
theorem type_Cast (n : Nod) (A : At) (u : Sl) (w : World) (hop : n.op = ⟨#[67, 97, 115, 116]⟩) (hn : NodeOk w n A) : Calls Tryz.prog 48 #[nval n, .slice u.a u.n u.c] w (Ended w ((typP (wholeP (A.int ⟨#[116, 111]⟩ 0))).bind (fun _ => .ok (wholeP (A.int ⟨#[116, 111]⟩ 0)))) fun t v _ => v = .int .i64 t) := by
  obtain ⟨ua, un, uc⟩ := u
  simp only
  have NK := hide hn
  obtain ⟨op, nam, ⟨ia, il, ic⟩, out, ⟨ao, al, cap⟩⟩ := n
  unfold nval
  simp only
  obtain ⟨w0, hw0⟩ : ∃ w0, w0 = w.alloc (.cells #[.string op, .string nam, .slice ia il ic, .string out, .slice ao al cap] 25) := ⟨_, rfl⟩
  have g0 : Hid (w.grownBy w0 none) := by show w.grownBy w0 none; rw [hw0]; exact grown_new _ _
  have hb0 := heap_alloc_new w (.cells #[.string op, .string nam, .slice ia il ic, .string out, .slice ao al cap] 25)
  rw [← hw0] at hb0
  have BX : Hid (∀ wx, w0.grownBy wx none → wx.heap[w.heap.size]? = some (.cells #[.string op, .string nam, .slice ia il ic, .string out, .slice ao al cap] 25 (0, 0))) := fun wx hg => box_kept hb0 hg
  clear hb0 hn
  simp only at hop
  subst hop
  have I0 := hide (nint_any ⟨⟨#[67, 97, 115, 116]⟩, nam, ⟨ia, il, ic⟩, out, ⟨ao, al, cap⟩⟩ A ⟨#[116, 111]⟩ 0 w0 (NK.out.more g0.out))
  unfold nval at I0
  simp only at I0
  obtain ⟨z, hz⟩ : ∃ z, z = A.int ⟨#[116, 111]⟩ 0 := ⟨_, rfl⟩
  rw [← hz] at I0 ⊢
  have WH := hide (fun wx => whole_any z wx)
  have TY := hide (fun wx => typ_any (wholeP z) wx)
  obtain ⟨y, hy⟩ : ∃ y, y = wholeP z := ⟨_, rfl⟩
  rw [← hy] at WH TY ⊢
  clear hz hy
  go_enter Tryz.func48, Tryz.ntmps48
  go_wp2_with fail
  rw [← hw0]
  clear hw0
  refine I0.out.mono ?_
  rintro e w1 ⟨rfl, hg1⟩
  cases hk : typP y with
  | error c =>
    rw [hk] at TY
    have HK := hide hk
    clear hk
    go_wp2_with (first | (go_at_call 92; refine (WH.out _).mono ?_; rintro e w' ⟨rfl, rfl⟩) | (go_at_call 46; refine (TY.out _).mono ?_; rintro e w' ⟨hg, rfl⟩) | fail)
    exact ⟨rfl, ended_err (by rw [HK.out]; rfl) (grown_trans (grown_trans g0.out hg1) hg)⟩
  | ok t =>
    rw [hk] at TY
    have HK := hide hk
    clear hk
    go_wp2_with (first | (go_at_call 92; refine (WH.out _).mono ?_; rintro e w' ⟨rfl, rfl⟩) | (go_at_call 46; refine (TY.out _).mono ?_; rintro e w' ⟨-, v, rfl, rfl, rfl⟩) | fail)
    go_ret
    exact ended_ok (by rw [HK.out]; rfl) (grown_trans g0.out hg1) rfl

set_option maxRecDepth 100000 in
theorem type_Constant (n : Nod) (A : At) (u : Sl) (w : World) (hop : n.op = ⟨#[67, 111, 110, 115, 116, 97, 110, 116]⟩) (hn : NodeOk w n A) : Calls Tryz.prog 48 #[nval n, .slice u.a u.n u.c] w (Ended w (.ok (valA A).ty) fun t v _ => v = .int .i64 t) := by
  obtain ⟨ua, un, uc⟩ := u
  simp only
  have NK := hide hn
  obtain ⟨op, nam, ⟨ia, il, ic⟩, out, ⟨ao, al, cap⟩⟩ := n
  unfold nval
  simp only
  obtain ⟨w0, hw0⟩ : ∃ w0, w0 = w.alloc (.cells #[.string op, .string nam, .slice ia il ic, .string out, .slice ao al cap] 25) := ⟨_, rfl⟩
  have g0 : Hid (w.grownBy w0 none) := by show w.grownBy w0 none; rw [hw0]; exact grown_new _ _
  have hb0 := heap_alloc_new w (.cells #[.string op, .string nam, .slice ia il ic, .string out, .slice ao al cap] 25)
  rw [← hw0] at hb0
  have BX : Hid (∀ wx, w0.grownBy wx none → wx.heap[w.heap.size]? = some (.cells #[.string op, .string nam, .slice ia il ic, .string out, .slice ao al cap] 25 (0, 0))) := fun wx hg => box_kept hb0 hg
  clear hb0 hn
  simp only at hop
  subst hop
  have V0 := hide (attrvalue_any ⟨⟨#[67, 111, 110, 115, 116, 97, 110, 116]⟩, nam, ⟨ia, il, ic⟩, out, ⟨ao, al, cap⟩⟩ A w0 (NK.out.more g0.out))
  unfold nval at V0
  simp only at V0
  have hfl := ten_field0
  go_enter Tryz.func48, Tryz.ntmps48
  go_wp2_with fail
  rw [← hw0]
  clear hw0
  refine V0.out.mono ?_
  rintro e w1 ⟨rfl, hg1⟩
  go_wp2
  go_ret
  exact ⟨grown_trans g0.out hg1, _, rfl, rfl⟩

set_option maxRecDepth 100000 in
set_option maxHeartbeats 2000000 in
theorem type_Equal (n : Nod) (A : At) (u : Sl) (vs : List (Val × List Int)) (w : World) (hop : n.op = ⟨#[69, 113, 117, 97, 108]⟩) (hn : NodeOk w n A) (hv : ValsIn w u.v vs) (hl : vs.length = 2) (hf : vs.length ≤ 1000000) (ht : ∀ s ∈ tysOf vs, isTypeP s = true) : Calls Tryz.prog 48 #[nval n, .slice u.a u.n u.c] w (Ended w ((sameP (tysOf vs)).bind (fun t => (mustP (twoOK [69, 113, 117, 97, 108] t)).bind (fun _ => .ok (9 : Int)))) fun t v _ => v = .int .i64 t) := by
  obtain ⟨xa, xc, e1, p1, p2, p3⟩ := hv.vals.form
  rw [List.length_map] at e1 p1 p3
  obtain ⟨ua, un, uc⟩ := u
  simp only [Sl.v, Value.slice.injEq] at e1
  obtain ⟨rfl, rfl, rfl⟩ := e1
  have HV := hide hv
  have HT := hide ht
  have hp : 0 < vs.length := by omega
  clear hv ht hl
  have NK := hide hn
  obtain ⟨op, nam, ⟨ia, il, ic⟩, out, ⟨ao, al, cap⟩⟩ := n
  unfold nval
  simp only
  obtain ⟨w0, hw0⟩ : ∃ w0, w0 = w.alloc (.cells #[.string op, .string nam, .slice ia il ic, .string out, .slice ao al cap] 25) := ⟨_, rfl⟩
  have g0 : Hid (w.grownBy w0 none) := by show w.grownBy w0 none; rw [hw0]; exact grown_new _ _
  have hb0 := heap_alloc_new w (.cells #[.string op, .string nam, .slice ia il ic, .string out, .slice ao al cap] 25)
  rw [← hw0] at hb0
  have BX : Hid (∀ wx, w0.grownBy wx none → wx.heap[w.heap.size]? = some (.cells #[.string op, .string nam, .slice ia il ic, .string out, .slice ao al cap] 25 (0, 0))) := fun wx hg => box_kept hb0 hg
  clear hb0 hn
  simp only at hop
  subst hop
  have SM := hide (fun (wx : World) (hg : w0.grownBy wx none) => sametype_any ⟨ua, vs.length, uc⟩ vs wx (HV.out.more (grown_trans g0.out hg)) hp hf)
  simp only at SM
  obtain ⟨n0, n1, n2, n3, n4⟩ := nod_cells (n := ⟨⟨#[69, 113, 117, 97, 108]⟩, nam, ⟨ia, il, ic⟩, out, ⟨ao, al, cap⟩⟩) (BX.out w0 (grown_refl _))
  simp only at n0
  clear n1 n2 n3 n4
  go_enter Tryz.func48, Tryz.ntmps48
  go_wp2_with fail
  rw [← hw0]
  clear hw0
  cases hk : sameP (vs.map (·.1.ty)) with
  | error c =>
    rw [hk] at SM
    have E : Hid ((sameP (tysOf vs)).bind (fun t => (mustP (twoOK [69, 113, 117, 97, 108] t)).bind (fun _ => .ok (9 : Int))) = .error c) := by show _ = _; unfold tysOf; rw [hk]; rfl
    clear hk
    refine wp_region_held_drew (S := (fun w' => w'.cell? ⟨w.heap.size, 0, none⟩ = some (.string ⟨#[69, 113, 117, 97, 108]⟩))) (by kernel_rfl) (by go_keep) (fun hHeld => ?_)
    refine wpAnyH_take (i := 0) (v := ?_) rfl (by kernel_rfl) (by kernel_rfl) (by kernel_rfl) (fun _ _ _ h => h) (Or.inl ⟨by rfl, ?_⟩) (by assumption) ?_
    rotate_left 1
    · (intro w hSw; (try dsimp only at hSw); go_simp; (try with_reducible rfl))
    try simp only [Act.put]
    refine wpAnyH_take (i := 1) (v := ?_) rfl (by kernel_rfl) (by kernel_rfl) (by kernel_rfl) (fun _ _ _ h => h) (Or.inl ⟨by rfl, ?_⟩) (by assumption) ?_
    rotate_left 1
    · (intro w hSw; (try dsimp only at hSw); go_simp; (try with_reducible rfl))
    try simp only [Act.put]
    refine wpAnyH_take (i := 2) (v := ?_) rfl (by kernel_rfl) (by kernel_rfl) (by kernel_rfl) (fun _ _ _ h => h) (Or.inl ⟨by rfl, ?_⟩) (by assumption) ?_
    rotate_left 1
    · (intro w hSw; (try dsimp only at hSw); go_simp; (try with_reducible rfl))
    try simp only [Act.put]
    refine wpAnyH_ready (rs := [3]) (by kernel_rfl) (by simp) ?_
    refine AllReadyH.cons rfl (fun K hK => ?_) ?_
    · skip
      go_simp
      refine (SM.out _ (grown_drew (grown_refl _))).mono ?_
      rintro e wy ⟨hg, rfl⟩
      exact ⟨rfl, ended_err E.out (grown_trans (grown_drew g0.out) hg)⟩
    exact AllReadyH.nil
  | ok t =>
    have htt := sameP_typ hk (by simpa using hp) HT.out
    rw [hk] at SM
    have E : Hid ((sameP (tysOf vs)).bind (fun t => (mustP (twoOK [69, 113, 117, 97, 108] t)).bind (fun _ => .ok (9 : Int))) = (mustP (twoOK [69, 113, 117, 97, 108] t)).bind (fun _ => .ok (9 : Int))) := by show _ = _; unfold tysOf; rw [hk]; rfl
    clear hk
    have BL : (⟨#[69, 113, 117, 97, 108]⟩ : ByteArray).toList = [69, 113, 117, 97, 108] := bytes_toList _
    have MU := hide (fun wx => musttwo_any ⟨#[69, 113, 117, 97, 108]⟩ t (by rw [BL]; decide) htt wx)
    rw [BL] at MU
    clear BL
    cases h1 : twoOK [69, 113, 117, 97, 108] t with
    | true =>
      rw [h1] at MU
      have E2 : Hid ((sameP (tysOf vs)).bind (fun t => (mustP (twoOK [69, 113, 117, 97, 108] t)).bind (fun _ => .ok (9 : Int))) = .ok 9) := by show _ = _; rw [E.out, h1]; rfl
      clear h1
      refine wp_region_held_drew (S := (fun w' => w'.cell? ⟨w.heap.size, 0, none⟩ = some (.string ⟨#[69, 113, 117, 97, 108]⟩))) (by kernel_rfl) (by go_keep) (fun hHeld => ?_)
      refine wpAnyH_take (i := 0) (v := ?_) rfl (by kernel_rfl) (by kernel_rfl) (by kernel_rfl) (fun _ _ _ h => h) (Or.inl ⟨by rfl, ?_⟩) (by assumption) ?_
      rotate_left 1
      · (intro w hSw; (try dsimp only at hSw); go_simp; (try with_reducible rfl))
      try simp only [Act.put]
      refine wpAnyH_take (i := 1) (v := ?_) rfl (by kernel_rfl) (by kernel_rfl) (by kernel_rfl) (fun _ _ _ h => h) (Or.inl ⟨by rfl, ?_⟩) (by assumption) ?_
      rotate_left 1
      · (intro w hSw; (try dsimp only at hSw); go_simp; (try with_reducible rfl))
      try simp only [Act.put]
      refine wpAnyH_take (i := 2) (v := ?_) rfl (by kernel_rfl) (by kernel_rfl) (by kernel_rfl) (fun _ _ _ h => h) (Or.inl ⟨by rfl, ?_⟩) (by assumption) ?_
      rotate_left 1
      · (intro w hSw; (try dsimp only at hSw); go_simp; (try with_reducible rfl))
      try simp only [Act.put]
      refine wpAnyH_ready (rs := [3]) (by kernel_rfl) (by simp) ?_
      refine AllReadyH.cons rfl (fun K hK => ?_) ?_
      · skip
        go_simp
        refine (SM.out _ (grown_drew (grown_refl _))).mono ?_
        rintro e w2 ⟨hg2, v, rfl, rfl⟩
        have g2 := grown_trans (grown_drew (grown_refl w0)) hg2
        obtain ⟨n0, n1, n2, n3, n4⟩ := nod_cells (n := ⟨⟨#[69, 113, 117, 97, 108]⟩, nam, ⟨ia, il, ic⟩, out, ⟨ao, al, cap⟩⟩) (BX.out w2 g2)
        clear n1 n2 n3 n4
        try dsimp only
        refine hK.out _ _ (by first | assumption | go_keep) (fun hHeld => ?_)
        clear hK K
        try simp only [Act.put]
        refine wpAnyH_ready (rs := [4]) (by kernel_rfl) (by simp) ?_
        refine AllReadyH.cons rfl (fun K hK => ?_) ?_
        · skip
          go_simp
          refine (MU.out _).mono ?_
          rintro e w3 ⟨hg3, v, rfl, rfl⟩
          have g3 := grown_trans g2 hg3
          obtain ⟨n0, n1, n2, n3, n4⟩ := nod_cells (n := ⟨⟨#[69, 113, 117, 97, 108]⟩, nam, ⟨ia, il, ic⟩, out, ⟨ao, al, cap⟩⟩) (BX.out w3 g3)
          clear n1 n2 n3 n4
          try dsimp only
          refine hK.out _ _ (by first | assumption | go_keep) (fun hHeld => ?_)
          clear hK K
          try simp only [Act.put]
          refine wpAnyH_done (by kernel_rfl) ?_ _
          try go_simp
          go_wp2
          go_ret
          exact ended_ok E2.out (grown_trans g0.out g3) rfl
        exact AllReadyH.nil
      exact AllReadyH.nil
    | false =>
      rw [h1] at MU
      have E2 : Hid ((sameP (tysOf vs)).bind (fun t => (mustP (twoOK [69, 113, 117, 97, 108] t)).bind (fun _ => .ok (9 : Int))) = .error 4) := by show _ = _; rw [E.out, h1]; rfl
      clear h1
      refine wp_region_held_drew (S := (fun w' => w'.cell? ⟨w.heap.size, 0, none⟩ = some (.string ⟨#[69, 113, 117, 97, 108]⟩))) (by kernel_rfl) (by go_keep) (fun hHeld => ?_)
      refine wpAnyH_take (i := 0) (v := ?_) rfl (by kernel_rfl) (by kernel_rfl) (by kernel_rfl) (fun _ _ _ h => h) (Or.inl ⟨by rfl, ?_⟩) (by assumption) ?_
      rotate_left 1
      · (intro w hSw; (try dsimp only at hSw); go_simp; (try with_reducible rfl))
      try simp only [Act.put]
      refine wpAnyH_take (i := 1) (v := ?_) rfl (by kernel_rfl) (by kernel_rfl) (by kernel_rfl) (fun _ _ _ h => h) (Or.inl ⟨by rfl, ?_⟩) (by assumption) ?_
      rotate_left 1
      · (intro w hSw; (try dsimp only at hSw); go_simp; (try with_reducible rfl))
      try simp only [Act.put]
      refine wpAnyH_take (i := 2) (v := ?_) rfl (by kernel_rfl) (by kernel_rfl) (by kernel_rfl) (fun _ _ _ h => h) (Or.inl ⟨by rfl, ?_⟩) (by assumption) ?_
      rotate_left 1
      · (intro w hSw; (try dsimp only at hSw); go_simp; (try with_reducible rfl))
      try simp only [Act.put]
      refine wpAnyH_ready (rs := [3]) (by kernel_rfl) (by simp) ?_
      refine AllReadyH.cons rfl (fun K hK => ?_) ?_
      · skip
        go_simp
        refine (SM.out _ (grown_drew (grown_refl _))).mono ?_
        rintro e w2 ⟨hg2, v, rfl, rfl⟩
        have g2 := grown_trans (grown_drew (grown_refl w0)) hg2
        obtain ⟨n0, n1, n2, n3, n4⟩ := nod_cells (n := ⟨⟨#[69, 113, 117, 97, 108]⟩, nam, ⟨ia, il, ic⟩, out, ⟨ao, al, cap⟩⟩) (BX.out w2 g2)
        clear n1 n2 n3 n4
        try dsimp only
        refine hK.out _ _ (by first | assumption | go_keep) (fun hHeld => ?_)
        clear hK K
        try simp only [Act.put]
        refine wpAnyH_ready (rs := [4]) (by kernel_rfl) (by simp) ?_
        refine AllReadyH.cons rfl (fun K hK => ?_) ?_
        · skip
          go_simp
          refine (MU.out _).mono ?_
          rintro e wy ⟨hg, rfl⟩
          exact ⟨rfl, ended_err E2.out (grown_trans (grown_trans g0.out g2) hg)⟩
        exact AllReadyH.nil
      exact AllReadyH.nil

set_option maxRecDepth 100000 in
set_option maxHeartbeats 2000000 in
theorem type_Less (n : Nod) (A : At) (u : Sl) (vs : List (Val × List Int)) (w : World) (hop : n.op = ⟨#[76, 101, 115, 115]⟩) (hn : NodeOk w n A) (hv : ValsIn w u.v vs) (hl : vs.length = 2) (hf : vs.length ≤ 1000000) (ht : ∀ s ∈ tysOf vs, isTypeP s = true) : Calls Tryz.prog 48 #[nval n, .slice u.a u.n u.c] w (Ended w ((sameP (tysOf vs)).bind (fun t => (mustP (twoOK [76, 101, 115, 115] t)).bind (fun _ => .ok (9 : Int)))) fun t v _ => v = .int .i64 t) := by
  obtain ⟨xa, xc, e1, p1, p2, p3⟩ := hv.vals.form
  rw [List.length_map] at e1 p1 p3
  obtain ⟨ua, un, uc⟩ := u
  simp only [Sl.v, Value.slice.injEq] at e1
  obtain ⟨rfl, rfl, rfl⟩ := e1
  have HV := hide hv
  have HT := hide ht
  have hp : 0 < vs.length := by omega
  clear hv ht hl
  have NK := hide hn
  obtain ⟨op, nam, ⟨ia, il, ic⟩, out, ⟨ao, al, cap⟩⟩ := n
  unfold nval
  simp only
  obtain ⟨w0, hw0⟩ : ∃ w0, w0 = w.alloc (.cells #[.string op, .string nam, .slice ia il ic, .string out, .slice ao al cap] 25) := ⟨_, rfl⟩
  have g0 : Hid (w.grownBy w0 none) := by show w.grownBy w0 none; rw [hw0]; exact grown_new _ _
  have hb0 := heap_alloc_new w (.cells #[.string op, .string nam, .slice ia il ic, .string out, .slice ao al cap] 25)
  rw [← hw0] at hb0
  have BX : Hid (∀ wx, w0.grownBy wx none → wx.heap[w.heap.size]? = some (.cells #[.string op, .string nam, .slice ia il ic, .string out, .slice ao al cap] 25 (0, 0))) := fun wx hg => box_kept hb0 hg
  clear hb0 hn
  simp only at hop
  subst hop
  have SM := hide (fun (wx : World) (hg : w0.grownBy wx none) => sametype_any ⟨ua, vs.length, uc⟩ vs wx (HV.out.more (grown_trans g0.out hg)) hp hf)
  simp only at SM
  obtain ⟨n0, n1, n2, n3, n4⟩ := nod_cells (n := ⟨⟨#[76, 101, 115, 115]⟩, nam, ⟨ia, il, ic⟩, out, ⟨ao, al, cap⟩⟩) (BX.out w0 (grown_refl _))
  simp only at n0
  clear n1 n2 n3 n4
  go_enter Tryz.func48, Tryz.ntmps48
  go_wp2_with fail
  rw [← hw0]
  clear hw0
  cases hk : sameP (vs.map (·.1.ty)) with
  | error c =>
    rw [hk] at SM
    have E : Hid ((sameP (tysOf vs)).bind (fun t => (mustP (twoOK [76, 101, 115, 115] t)).bind (fun _ => .ok (9 : Int))) = .error c) := by show _ = _; unfold tysOf; rw [hk]; rfl
    clear hk
    refine wp_region_held_drew (S := (fun w' => w'.cell? ⟨w.heap.size, 0, none⟩ = some (.string ⟨#[76, 101, 115, 115]⟩))) (by kernel_rfl) (by go_keep) (fun hHeld => ?_)
    refine wpAnyH_take (i := 0) (v := ?_) rfl (by kernel_rfl) (by kernel_rfl) (by kernel_rfl) (fun _ _ _ h => h) (Or.inl ⟨by rfl, ?_⟩) (by assumption) ?_
    rotate_left 1
    · (intro w hSw; (try dsimp only at hSw); go_simp; (try with_reducible rfl))
    try simp only [Act.put]
    refine wpAnyH_take (i := 1) (v := ?_) rfl (by kernel_rfl) (by kernel_rfl) (by kernel_rfl) (fun _ _ _ h => h) (Or.inl ⟨by rfl, ?_⟩) (by assumption) ?_
    rotate_left 1
    · (intro w hSw; (try dsimp only at hSw); go_simp; (try with_reducible rfl))
    try simp only [Act.put]
    refine wpAnyH_take (i := 2) (v := ?_) rfl (by kernel_rfl) (by kernel_rfl) (by kernel_rfl) (fun _ _ _ h => h) (Or.inl ⟨by rfl, ?_⟩) (by assumption) ?_
    rotate_left 1
    · (intro w hSw; (try dsimp only at hSw); go_simp; (try with_reducible rfl))
    try simp only [Act.put]
    refine wpAnyH_ready (rs := [3]) (by kernel_rfl) (by simp) ?_
    refine AllReadyH.cons rfl (fun K hK => ?_) ?_
    · skip
      go_simp
      refine (SM.out _ (grown_drew (grown_refl _))).mono ?_
      rintro e wy ⟨hg, rfl⟩
      exact ⟨rfl, ended_err E.out (grown_trans (grown_drew g0.out) hg)⟩
    exact AllReadyH.nil
  | ok t =>
    have htt := sameP_typ hk (by simpa using hp) HT.out
    rw [hk] at SM
    have E : Hid ((sameP (tysOf vs)).bind (fun t => (mustP (twoOK [76, 101, 115, 115] t)).bind (fun _ => .ok (9 : Int))) = (mustP (twoOK [76, 101, 115, 115] t)).bind (fun _ => .ok (9 : Int))) := by show _ = _; unfold tysOf; rw [hk]; rfl
    clear hk
    have BL : (⟨#[76, 101, 115, 115]⟩ : ByteArray).toList = [76, 101, 115, 115] := bytes_toList _
    have MU := hide (fun wx => musttwo_any ⟨#[76, 101, 115, 115]⟩ t (by rw [BL]; decide) htt wx)
    rw [BL] at MU
    clear BL
    cases h1 : twoOK [76, 101, 115, 115] t with
    | true =>
      rw [h1] at MU
      have E2 : Hid ((sameP (tysOf vs)).bind (fun t => (mustP (twoOK [76, 101, 115, 115] t)).bind (fun _ => .ok (9 : Int))) = .ok 9) := by show _ = _; rw [E.out, h1]; rfl
      clear h1
      refine wp_region_held_drew (S := (fun w' => w'.cell? ⟨w.heap.size, 0, none⟩ = some (.string ⟨#[76, 101, 115, 115]⟩))) (by kernel_rfl) (by go_keep) (fun hHeld => ?_)
      refine wpAnyH_take (i := 0) (v := ?_) rfl (by kernel_rfl) (by kernel_rfl) (by kernel_rfl) (fun _ _ _ h => h) (Or.inl ⟨by rfl, ?_⟩) (by assumption) ?_
      rotate_left 1
      · (intro w hSw; (try dsimp only at hSw); go_simp; (try with_reducible rfl))
      try simp only [Act.put]
      refine wpAnyH_take (i := 1) (v := ?_) rfl (by kernel_rfl) (by kernel_rfl) (by kernel_rfl) (fun _ _ _ h => h) (Or.inl ⟨by rfl, ?_⟩) (by assumption) ?_
      rotate_left 1
      · (intro w hSw; (try dsimp only at hSw); go_simp; (try with_reducible rfl))
      try simp only [Act.put]
      refine wpAnyH_take (i := 2) (v := ?_) rfl (by kernel_rfl) (by kernel_rfl) (by kernel_rfl) (fun _ _ _ h => h) (Or.inl ⟨by rfl, ?_⟩) (by assumption) ?_
      rotate_left 1
      · (intro w hSw; (try dsimp only at hSw); go_simp; (try with_reducible rfl))
      try simp only [Act.put]
      refine wpAnyH_ready (rs := [3]) (by kernel_rfl) (by simp) ?_
      refine AllReadyH.cons rfl (fun K hK => ?_) ?_
      · skip
        go_simp
        refine (SM.out _ (grown_drew (grown_refl _))).mono ?_
        rintro e w2 ⟨hg2, v, rfl, rfl⟩
        have g2 := grown_trans (grown_drew (grown_refl w0)) hg2
        obtain ⟨n0, n1, n2, n3, n4⟩ := nod_cells (n := ⟨⟨#[76, 101, 115, 115]⟩, nam, ⟨ia, il, ic⟩, out, ⟨ao, al, cap⟩⟩) (BX.out w2 g2)
        clear n1 n2 n3 n4
        try dsimp only
        refine hK.out _ _ (by first | assumption | go_keep) (fun hHeld => ?_)
        clear hK K
        try simp only [Act.put]
        refine wpAnyH_ready (rs := [4]) (by kernel_rfl) (by simp) ?_
        refine AllReadyH.cons rfl (fun K hK => ?_) ?_
        · skip
          go_simp
          refine (MU.out _).mono ?_
          rintro e w3 ⟨hg3, v, rfl, rfl⟩
          have g3 := grown_trans g2 hg3
          obtain ⟨n0, n1, n2, n3, n4⟩ := nod_cells (n := ⟨⟨#[76, 101, 115, 115]⟩, nam, ⟨ia, il, ic⟩, out, ⟨ao, al, cap⟩⟩) (BX.out w3 g3)
          clear n1 n2 n3 n4
          try dsimp only
          refine hK.out _ _ (by first | assumption | go_keep) (fun hHeld => ?_)
          clear hK K
          try simp only [Act.put]
          refine wpAnyH_done (by kernel_rfl) ?_ _
          try go_simp
          go_wp2
          go_ret
          exact ended_ok E2.out (grown_trans g0.out g3) rfl
        exact AllReadyH.nil
      exact AllReadyH.nil
    | false =>
      rw [h1] at MU
      have E2 : Hid ((sameP (tysOf vs)).bind (fun t => (mustP (twoOK [76, 101, 115, 115] t)).bind (fun _ => .ok (9 : Int))) = .error 4) := by show _ = _; rw [E.out, h1]; rfl
      clear h1
      refine wp_region_held_drew (S := (fun w' => w'.cell? ⟨w.heap.size, 0, none⟩ = some (.string ⟨#[76, 101, 115, 115]⟩))) (by kernel_rfl) (by go_keep) (fun hHeld => ?_)
      refine wpAnyH_take (i := 0) (v := ?_) rfl (by kernel_rfl) (by kernel_rfl) (by kernel_rfl) (fun _ _ _ h => h) (Or.inl ⟨by rfl, ?_⟩) (by assumption) ?_
      rotate_left 1
      · (intro w hSw; (try dsimp only at hSw); go_simp; (try with_reducible rfl))
      try simp only [Act.put]
      refine wpAnyH_take (i := 1) (v := ?_) rfl (by kernel_rfl) (by kernel_rfl) (by kernel_rfl) (fun _ _ _ h => h) (Or.inl ⟨by rfl, ?_⟩) (by assumption) ?_
      rotate_left 1
      · (intro w hSw; (try dsimp only at hSw); go_simp; (try with_reducible rfl))
      try simp only [Act.put]
      refine wpAnyH_take (i := 2) (v := ?_) rfl (by kernel_rfl) (by kernel_rfl) (by kernel_rfl) (fun _ _ _ h => h) (Or.inl ⟨by rfl, ?_⟩) (by assumption) ?_
      rotate_left 1
      · (intro w hSw; (try dsimp only at hSw); go_simp; (try with_reducible rfl))
      try simp only [Act.put]
      refine wpAnyH_ready (rs := [3]) (by kernel_rfl) (by simp) ?_
      refine AllReadyH.cons rfl (fun K hK => ?_) ?_
      · skip
        go_simp
        refine (SM.out _ (grown_drew (grown_refl _))).mono ?_
        rintro e w2 ⟨hg2, v, rfl, rfl⟩
        have g2 := grown_trans (grown_drew (grown_refl w0)) hg2
        obtain ⟨n0, n1, n2, n3, n4⟩ := nod_cells (n := ⟨⟨#[76, 101, 115, 115]⟩, nam, ⟨ia, il, ic⟩, out, ⟨ao, al, cap⟩⟩) (BX.out w2 g2)
        clear n1 n2 n3 n4
        try dsimp only
        refine hK.out _ _ (by first | assumption | go_keep) (fun hHeld => ?_)
        clear hK K
        try simp only [Act.put]
        refine wpAnyH_ready (rs := [4]) (by kernel_rfl) (by simp) ?_
        refine AllReadyH.cons rfl (fun K hK => ?_) ?_
        · skip
          go_simp
          refine (MU.out _).mono ?_
          rintro e wy ⟨hg, rfl⟩
          exact ⟨rfl, ended_err E2.out (grown_trans (grown_trans g0.out g2) hg)⟩
        exact AllReadyH.nil
      exact AllReadyH.nil

set_option maxRecDepth 100000 in
set_option maxHeartbeats 2000000 in
theorem type_Greater (n : Nod) (A : At) (u : Sl) (vs : List (Val × List Int)) (w : World) (hop : n.op = ⟨#[71, 114, 101, 97, 116, 101, 114]⟩) (hn : NodeOk w n A) (hv : ValsIn w u.v vs) (hl : vs.length = 2) (hf : vs.length ≤ 1000000) (ht : ∀ s ∈ tysOf vs, isTypeP s = true) : Calls Tryz.prog 48 #[nval n, .slice u.a u.n u.c] w (Ended w ((sameP (tysOf vs)).bind (fun t => (mustP (twoOK [71, 114, 101, 97, 116, 101, 114] t)).bind (fun _ => .ok (9 : Int)))) fun t v _ => v = .int .i64 t) := by
  obtain ⟨xa, xc, e1, p1, p2, p3⟩ := hv.vals.form
  rw [List.length_map] at e1 p1 p3
  obtain ⟨ua, un, uc⟩ := u
  simp only [Sl.v, Value.slice.injEq] at e1
  obtain ⟨rfl, rfl, rfl⟩ := e1
  have HV := hide hv
  have HT := hide ht
  have hp : 0 < vs.length := by omega
  clear hv ht hl
  have NK := hide hn
  obtain ⟨op, nam, ⟨ia, il, ic⟩, out, ⟨ao, al, cap⟩⟩ := n
  unfold nval
  simp only
  obtain ⟨w0, hw0⟩ : ∃ w0, w0 = w.alloc (.cells #[.string op, .string nam, .slice ia il ic, .string out, .slice ao al cap] 25) := ⟨_, rfl⟩
  have g0 : Hid (w.grownBy w0 none) := by show w.grownBy w0 none; rw [hw0]; exact grown_new _ _
  have hb0 := heap_alloc_new w (.cells #[.string op, .string nam, .slice ia il ic, .string out, .slice ao al cap] 25)
  rw [← hw0] at hb0
  have BX : Hid (∀ wx, w0.grownBy wx none → wx.heap[w.heap.size]? = some (.cells #[.string op, .string nam, .slice ia il ic, .string out, .slice ao al cap] 25 (0, 0))) := fun wx hg => box_kept hb0 hg
  clear hb0 hn
  simp only at hop
  subst hop
  have SM := hide (fun (wx : World) (hg : w0.grownBy wx none) => sametype_any ⟨ua, vs.length, uc⟩ vs wx (HV.out.more (grown_trans g0.out hg)) hp hf)
  simp only at SM
  obtain ⟨n0, n1, n2, n3, n4⟩ := nod_cells (n := ⟨⟨#[71, 114, 101, 97, 116, 101, 114]⟩, nam, ⟨ia, il, ic⟩, out, ⟨ao, al, cap⟩⟩) (BX.out w0 (grown_refl _))
  simp only at n0
  clear n1 n2 n3 n4
  go_enter Tryz.func48, Tryz.ntmps48
  go_wp2_with fail
  rw [← hw0]
  clear hw0
  cases hk : sameP (vs.map (·.1.ty)) with
  | error c =>
    rw [hk] at SM
    have E : Hid ((sameP (tysOf vs)).bind (fun t => (mustP (twoOK [71, 114, 101, 97, 116, 101, 114] t)).bind (fun _ => .ok (9 : Int))) = .error c) := by show _ = _; unfold tysOf; rw [hk]; rfl
    clear hk
    refine wp_region_held_drew (S := (fun w' => w'.cell? ⟨w.heap.size, 0, none⟩ = some (.string ⟨#[71, 114, 101, 97, 116, 101, 114]⟩))) (by kernel_rfl) (by go_keep) (fun hHeld => ?_)
    refine wpAnyH_take (i := 0) (v := ?_) rfl (by kernel_rfl) (by kernel_rfl) (by kernel_rfl) (fun _ _ _ h => h) (Or.inl ⟨by rfl, ?_⟩) (by assumption) ?_
    rotate_left 1
    · (intro w hSw; (try dsimp only at hSw); go_simp; (try with_reducible rfl))
    try simp only [Act.put]
    refine wpAnyH_take (i := 1) (v := ?_) rfl (by kernel_rfl) (by kernel_rfl) (by kernel_rfl) (fun _ _ _ h => h) (Or.inl ⟨by rfl, ?_⟩) (by assumption) ?_
    rotate_left 1
    · (intro w hSw; (try dsimp only at hSw); go_simp; (try with_reducible rfl))
    try simp only [Act.put]
    refine wpAnyH_take (i := 2) (v := ?_) rfl (by kernel_rfl) (by kernel_rfl) (by kernel_rfl) (fun _ _ _ h => h) (Or.inl ⟨by rfl, ?_⟩) (by assumption) ?_
    rotate_left 1
    · (intro w hSw; (try dsimp only at hSw); go_simp; (try with_reducible rfl))
    try simp only [Act.put]
    refine wpAnyH_ready (rs := [3]) (by kernel_rfl) (by simp) ?_
    refine AllReadyH.cons rfl (fun K hK => ?_) ?_
    · skip
      go_simp
      refine (SM.out _ (grown_drew (grown_refl _))).mono ?_
      rintro e wy ⟨hg, rfl⟩
      exact ⟨rfl, ended_err E.out (grown_trans (grown_drew g0.out) hg)⟩
    exact AllReadyH.nil
  | ok t =>
    have htt := sameP_typ hk (by simpa using hp) HT.out
    rw [hk] at SM
    have E : Hid ((sameP (tysOf vs)).bind (fun t => (mustP (twoOK [71, 114, 101, 97, 116, 101, 114] t)).bind (fun _ => .ok (9 : Int))) = (mustP (twoOK [71, 114, 101, 97, 116, 101, 114] t)).bind (fun _ => .ok (9 : Int))) := by show _ = _; unfold tysOf; rw [hk]; rfl
    clear hk
    have BL : (⟨#[71, 114, 101, 97, 116, 101, 114]⟩ : ByteArray).toList = [71, 114, 101, 97, 116, 101, 114] := bytes_toList _
    have MU := hide (fun wx => musttwo_any ⟨#[71, 114, 101, 97, 116, 101, 114]⟩ t (by rw [BL]; decide) htt wx)
    rw [BL] at MU
    clear BL
    cases h1 : twoOK [71, 114, 101, 97, 116, 101, 114] t with
    | true =>
      rw [h1] at MU
      have E2 : Hid ((sameP (tysOf vs)).bind (fun t => (mustP (twoOK [71, 114, 101, 97, 116, 101, 114] t)).bind (fun _ => .ok (9 : Int))) = .ok 9) := by show _ = _; rw [E.out, h1]; rfl
      clear h1
      refine wp_region_held_drew (S := (fun w' => w'.cell? ⟨w.heap.size, 0, none⟩ = some (.string ⟨#[71, 114, 101, 97, 116, 101, 114]⟩))) (by kernel_rfl) (by go_keep) (fun hHeld => ?_)
      refine wpAnyH_take (i := 0) (v := ?_) rfl (by kernel_rfl) (by kernel_rfl) (by kernel_rfl) (fun _ _ _ h => h) (Or.inl ⟨by rfl, ?_⟩) (by assumption) ?_
      rotate_left 1
      · (intro w hSw; (try dsimp only at hSw); go_simp; (try with_reducible rfl))
      try simp only [Act.put]
      refine wpAnyH_take (i := 1) (v := ?_) rfl (by kernel_rfl) (by kernel_rfl) (by kernel_rfl) (fun _ _ _ h => h) (Or.inl ⟨by rfl, ?_⟩) (by assumption) ?_
      rotate_left 1
      · (intro w hSw; (try dsimp only at hSw); go_simp; (try with_reducible rfl))
      try simp only [Act.put]
      refine wpAnyH_take (i := 2) (v := ?_) rfl (by kernel_rfl) (by kernel_rfl) (by kernel_rfl) (fun _ _ _ h => h) (Or.inl ⟨by rfl, ?_⟩) (by assumption) ?_
      rotate_left 1
      · (intro w hSw; (try dsimp only at hSw); go_simp; (try with_reducible rfl))
      try simp only [Act.put]
      refine wpAnyH_ready (rs := [3]) (by kernel_rfl) (by simp) ?_
      refine AllReadyH.cons rfl (fun K hK => ?_) ?_
      · skip
        go_simp
        refine (SM.out _ (grown_drew (grown_refl _))).mono ?_
        rintro e w2 ⟨hg2, v, rfl, rfl⟩
        have g2 := grown_trans (grown_drew (grown_refl w0)) hg2
        obtain ⟨n0, n1, n2, n3, n4⟩ := nod_cells (n := ⟨⟨#[71, 114, 101, 97, 116, 101, 114]⟩, nam, ⟨ia, il, ic⟩, out, ⟨ao, al, cap⟩⟩) (BX.out w2 g2)
        clear n1 n2 n3 n4
        try dsimp only
        refine hK.out _ _ (by first | assumption | go_keep) (fun hHeld => ?_)
        clear hK K
        try simp only [Act.put]
        refine wpAnyH_ready (rs := [4]) (by kernel_rfl) (by simp) ?_
        refine AllReadyH.cons rfl (fun K hK => ?_) ?_
        · skip
          go_simp
          refine (MU.out _).mono ?_
          rintro e w3 ⟨hg3, v, rfl, rfl⟩
          have g3 := grown_trans g2 hg3
          obtain ⟨n0, n1, n2, n3, n4⟩ := nod_cells (n := ⟨⟨#[71, 114, 101, 97, 116, 101, 114]⟩, nam, ⟨ia, il, ic⟩, out, ⟨ao, al, cap⟩⟩) (BX.out w3 g3)
          clear n1 n2 n3 n4
          try dsimp only
          refine hK.out _ _ (by first | assumption | go_keep) (fun hHeld => ?_)
          clear hK K
          try simp only [Act.put]
          refine wpAnyH_done (by kernel_rfl) ?_ _
          try go_simp
          go_wp2
          go_ret
          exact ended_ok E2.out (grown_trans g0.out g3) rfl
        exact AllReadyH.nil
      exact AllReadyH.nil
    | false =>
      rw [h1] at MU
      have E2 : Hid ((sameP (tysOf vs)).bind (fun t => (mustP (twoOK [71, 114, 101, 97, 116, 101, 114] t)).bind (fun _ => .ok (9 : Int))) = .error 4) := by show _ = _; rw [E.out, h1]; rfl
      clear h1
      refine wp_region_held_drew (S := (fun w' => w'.cell? ⟨w.heap.size, 0, none⟩ = some (.string ⟨#[71, 114, 101, 97, 116, 101, 114]⟩))) (by kernel_rfl) (by go_keep) (fun hHeld => ?_)
      refine wpAnyH_take (i := 0) (v := ?_) rfl (by kernel_rfl) (by kernel_rfl) (by kernel_rfl) (fun _ _ _ h => h) (Or.inl ⟨by rfl, ?_⟩) (by assumption) ?_
      rotate_left 1
      · (intro w hSw; (try dsimp only at hSw); go_simp; (try with_reducible rfl))
      try simp only [Act.put]
      refine wpAnyH_take (i := 1) (v := ?_) rfl (by kernel_rfl) (by kernel_rfl) (by kernel_rfl) (fun _ _ _ h => h) (Or.inl ⟨by rfl, ?_⟩) (by assumption) ?_
      rotate_left 1
      · (intro w hSw; (try dsimp only at hSw); go_simp; (try with_reducible rfl))
      try simp only [Act.put]
      refine wpAnyH_take (i := 2) (v := ?_) rfl (by kernel_rfl) (by kernel_rfl) (by kernel_rfl) (fun _ _ _ h => h) (Or.inl ⟨by rfl, ?_⟩) (by assumption) ?_
      rotate_left 1
      · (intro w hSw; (try dsimp only at hSw); go_simp; (try with_reducible rfl))
      try simp only [Act.put]
      refine wpAnyH_ready (rs := [3]) (by kernel_rfl) (by simp) ?_
      refine AllReadyH.cons rfl (fun K hK => ?_) ?_
      · skip
        go_simp
        refine (SM.out _ (grown_drew (grown_refl _))).mono ?_
        rintro e w2 ⟨hg2, v, rfl, rfl⟩
        have g2 := grown_trans (grown_drew (grown_refl w0)) hg2
        obtain ⟨n0, n1, n2, n3, n4⟩ := nod_cells (n := ⟨⟨#[71, 114, 101, 97, 116, 101, 114]⟩, nam, ⟨ia, il, ic⟩, out, ⟨ao, al, cap⟩⟩) (BX.out w2 g2)
        clear n1 n2 n3 n4
        try dsimp only
        refine hK.out _ _ (by first | assumption | go_keep) (fun hHeld => ?_)
        clear hK K
        try simp only [Act.put]
        refine wpAnyH_ready (rs := [4]) (by kernel_rfl) (by simp) ?_
        refine AllReadyH.cons rfl (fun K hK => ?_) ?_
        · skip
          go_simp
          refine (MU.out _).mono ?_
          rintro e wy ⟨hg, rfl⟩
          exact ⟨rfl, ended_err E2.out (grown_trans (grown_trans g0.out g2) hg)⟩
        exact AllReadyH.nil
      exact AllReadyH.nil

end Go.Proofs.YtdcbjikjeicgbaaGreatDoor
