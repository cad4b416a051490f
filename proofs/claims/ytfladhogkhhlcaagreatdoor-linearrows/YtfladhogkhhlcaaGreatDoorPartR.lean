/- Joined texts: IValueOf, IProd, IEq, IGemm, IDmL. -/
import Derived.Test.YtfladhogkhhlcaaGreatDoorPartQ
import Derived.BigQuiet
import Derived.Deep.RegionHeld3
import Derived.Deep.AppendLies
/- valueOf, by the walk: over whatever contracts of typeMade and dimsMade. -/
namespace Go.Proofs.YtfladhogkhhlcaaGreatDoor
open Go.RowKit

/-- The type and the dims of what a node makes, or why not. -/
def valueP (ck : Int) (lens : Bool) (vs : List (Val × List Int)) (tS : R Int) (dS : R (List Int)) (os : List ByteArray) : R (Int × List Int) :=
  (stopP ck).bind (fun _ => (mustP lens).bind (fun _ => (vinP vs).bind (fun _ => tS.bind (fun t => dS.bind (fun d => (countP d).bind (fun _ => (thenP t os).bind (fun _ => .ok (t, d))))))))

theorem isOne_names {s : ByteArray} (h : isOne s = true) : s.toList ∈ names1 := by
  unfold isOne at h
  rw [List.any_eq_true] at h
  obtain ⟨n, hn, he⟩ := h
  have e : n = s.toList := by simpa using he
  rw [← e]
  revert n
  unfold ones names1
  intro n hn _ _
  exact hn

theorem thenL_ones (o : Option Atr) : ∀ s ∈ thenL o, isOne s = true := by
  intro s hs
  unfold thenL at hs
  cases o with
  | none => simp at hs
  | some a =>
    simp only at hs
    split at hs
    · rename_i hall
      obtain ⟨p, hp, rfl⟩ := List.mem_map.1 hs
      exact List.all_eq_true.1 hall p hp
    · simp at hs

theorem thenL_len {xs : List Atr} (h : ∀ a ∈ xs, a.s.size ≤ 1048576) (P : Atr → Bool) : (thenL (xs.find? P)).length ≤ 1048577 := by
  unfold thenL
  cases hf : xs.find? P with
  | none => simp
  | some a =>
    have h1 := h a (List.mem_of_find?_eq_some hf)
    have h2 := pcs_len a.s.data.toList
    simp only
    split
    · rw [List.length_map]
      have h3 : a.s.data.toList.length = a.s.size := by rw [Array.length_toList]; rfl
      omega
    · simp

set_option maxRecDepth 100000 in
set_option maxHeartbeats 4000000 in
theorem valueof_any (n : Nod) (A : At) (ins : List ByteArray) (u : Sl) (vs : List (Val × List Int)) (w : World) (hl : Laid w) (hni : NodeIn w n ins A.xs A.cs) (hv : ValsIn w u.v vs) (ho : n.out.size ≤ 281474976710656) (tS : R Int) (dS : R (List Int))
    (TM : checkF (ruleF n.op) n.op ins n.out A.xs A.cs = 0 → vs.length = ins.length → vinP vs = .ok () → ∀ wx, w.grownBy wx none → Calls Tryz.prog 90 #[nval n, .slice u.a u.n u.c] wx (Ended wx tS fun t v _ => v = .int .i64 t ∧ isTypeP t = true))
    (DM : checkF (ruleF n.op) n.op ins n.out A.xs A.cs = 0 → vs.length = ins.length → vinP vs = .ok () → ∀ wx, w.grownBy wx none → Calls Tryz.prog 91 #[nval n, .slice u.a u.n u.c] wx (Ended wx dS DimsQ)) :
    Calls Tryz.prog 70 #[nval n, .slice u.a u.n u.c] w (Ended w (valueP (checkF (ruleF n.op) n.op ins n.out A.xs A.cs) (decide (vs.length = ins.length)) vs tS dS (thenL (A.xs.find? (isA ⟨#[116, 104, 101, 110]⟩ 3)))) fun r v w' => ∃ s : Sl, v = .agg #[.string n.out, .int .i64 r.1, .slice s.a s.n s.c] ∧ Owns w' w.heap.size s.v r.2) := by
  obtain ⟨xa, xc, e1, q1, q2, q3⟩ := hv.vals.form
  rw [List.length_map] at e1 q1 q3
  obtain ⟨ua, un, uc⟩ := u
  simp only [Sl.v, Value.slice.injEq] at e1
  obtain ⟨rfl, rfl, rfl⟩ := e1
  have CK := hide (fun (wx : World) (hg : w.grownBy wx none) => check_in n ins A.xs A.cs wx (hl.more hg) (hni.more hg))
  have TH := hide (fun (wx : World) (hg : w.grownBy wx none) => then_any n A.xs wx (hl.more hg) (hni.more hg).av (fun a ha => by have := hni.short a ha; omega))
  have IL := hide hni.ins
  obtain ⟨ck, hck⟩ : ∃ c, c = checkF (ruleF n.op) n.op ins n.out A.xs A.cs := ⟨_, rfl⟩
  obtain ⟨os, hos⟩ : ∃ os, os = thenL (A.xs.find? (isA ⟨#[116, 104, 101, 110]⟩ 3)) := ⟨_, rfl⟩
  have OS : Hid (∀ s ∈ os, isOne s = true) := by show ∀ s ∈ os, _; rw [hos]; exact thenL_ones _
  have OsB : Hid (os.length ≤ 1048577) := by show os.length ≤ _; rw [hos]; exact thenL_len hni.short _
  rw [← hck] at CK TM DM ⊢
  rw [← hos] at TH ⊢
  have HV := hide hv
  have HTM := hide TM
  have HDM := hide DM
  clear hck hos hl hni hv TM DM
  obtain ⟨op, nam, ⟨ia, il, ic⟩, out, ⟨ao, al, cap⟩⟩ := n
  unfold nval at CK TH HTM HDM ⊢
  simp only at CK TH HTM HDM IL ho ⊢
  obtain ⟨ix, icc, ei, i1, i2, i3⟩ := IL.out.form
  simp only [Sl.v, Value.slice.injEq] at ei
  obtain ⟨rfl, rfl, rfl⟩ := ei
  obtain ⟨w0, hw0⟩ : ∃ w0, w0 = (w.alloc (.cells #[.string op, .string nam, .slice ia ins.length ic, .string out, .slice ao al cap] 36)).alloc (.cells #[.string ⟨#[]⟩, .int .i64 0, .slice none 0 0] 48) := ⟨_, rfl⟩
  have g0 : Hid (w.grownBy w0 none) := by show w.grownBy w0 none; rw [hw0]; exact grown_trans (grown_new _ _) (grown_new _ _)
  have hbx := two_boxes w (.cells #[.string op, .string nam, .slice ia ins.length ic, .string out, .slice ao al cap] 36) (.cells #[.string ⟨#[]⟩, .int .i64 0, .slice none 0 0] 48)
  rw [← hw0] at hbx
  have BX : Hid (∀ wx, w0.grownBy wx none → wx.heap[w.heap.size]? = some (.cells #[.string op, .string nam, .slice ia ins.length ic, .string out, .slice ao al cap] 36 (0, 0)) ∧ wx.heap[w.heap.size + 1]? = some (.cells #[.string ⟨#[]⟩, .int .i64 0, .slice none 0 0] 48 (0, 0))) := fun wx hg => ⟨box_kept hbx.1 hg, box_kept hbx.2 hg⟩
  clear hbx
  go_enter Tryz.func70, Tryz.ntmps70
  go_wp2_with fail
  rw [← hw0]
  clear hw0
  refine (CK.out w0 g0.out).mono ?_
  rintro e w1 ⟨rfl, hg1⟩
  have G1 := hide hg1
  clear hg1 CK
  by_cases hc0 : ck = 0
  · subst hc0
    obtain ⟨n0, n1, n2, n3, n4⟩ := nod_cells (n := ⟨op, nam, ⟨ia, ins.length, ic⟩, out, ⟨ao, al, cap⟩⟩) (BX.out w1 G1.out).1
    by_cases hlen : vs.length = ins.length
    · have bl : ((vs.length : Int) == (ins.length : Int)) = true := by simp [hlen]
      have TM2 := hide (HTM.out rfl hlen)
      have DM2 := hide (HDM.out rfl hlen)
      have E0 : Hid (valueP 0 (decide (vs.length = ins.length)) vs tS dS os = (vinP vs).bind (fun _ => tS.bind (fun t => dS.bind (fun d => (countP d).bind (fun _ => (thenP t os).bind (fun _ => .ok (t, d))))))) := by show _ = _; unfold valueP; simp [stopP, mustP, hlen]; rfl
      clear hlen HTM HDM
      go_wp2_with (first | (go_at_call 85; refine (stop_ok _).mono ?_; rintro e w' ⟨rfl, rfl⟩) | (go_at_call 87; refine (must_yes _).mono ?_; rintro e w' ⟨rfl, rfl⟩) | fail)
      clear n0 n1 n2 n3 n4 bl
      go_loopw [25] (fun i wr => ∃ k : Nat, k ≤ vs.length ∧ i = .int .i64 k ∧ vinP (vs.drop k) = vinP vs ∧ w0.grownBy wr none) (fun i _ => vs.length - (intOf i).toNat)
      case atStart => exact ⟨0, Nat.zero_le _, rfl, by rw [List.drop_zero], G1.out⟩
      case round =>
        obtain ⟨k, hk, rfl, hst, hg⟩ := hrel
        have HG := hide hg
        by_cases hkl : k < vs.length
        · obtain ⟨b, off, rfl⟩ := HV.out.vals.addr (k := k) (by rw [List.length_map]; exact hkl)
          obtain ⟨y0, y1, y2⟩ := (HV.out.more (grown_trans g0.out hg)).vals.val k (by rw [List.length_map]; exact hkl)
          have HY := hide (HV.out.dims vs[k] (List.getElem_mem hkl))
          rw [List.getElem_map] at y0 y1 y2
          rw [vinP_step hkl] at hst
          obtain ⟨p, hp⟩ : ∃ p, p = vs[k] := ⟨_, rfl⟩
          rw [← hp] at y0 y1 y2 HY hst
          obtain ⟨⟨vn, vt, ⟨da, dn, dc⟩⟩, y⟩ := p
          simp only at y0 y1 y2 HY hst
          obtain ⟨w3, hw3⟩ : ∃ w3, w3 = wr.alloc (.cells #[.string vn, .int .i64 vt, .slice da dn dc] 48) := ⟨_, rfl⟩
          have g3 : Hid (w0.grownBy w3 none) := by show w0.grownBy w3 none; rw [hw3]; exact grown_trans hg (grown_new _ _)
          have hb3 := heap_alloc_new wr (.cells #[.string vn, .int .i64 vt, .slice da dn dc] 48)
          rw [← hw3] at hb3
          have v1 : w3.cell? ⟨wr.heap.size, 1, none⟩ = some (.int .i64 vt) := (cell_of_row _ _ 1 _ _ (0, 0) hb3).trans rfl
          have v2 : w3.cell? ⟨wr.heap.size, 2, none⟩ = some (.slice da dn dc) := (cell_of_row _ _ 2 _ _ (0, 0) hb3).trans rfl
          have TY := hide (typ_any vt w3)
          have CO := hide (countof_any _ y w3 (HY.out.more (grown_trans g0.out g3.out)))
          simp only [Sl.v] at CO
          have HST := hide hst
          clear hb3 hp hg hst
          go_wp2_with fail
          rw [← hw3]
          clear hw3 y0 y1 y2
          cases ht : typP vt with
          | error c =>
            rw [ht] at TY
            have E : Hid (valueP 0 (decide (vs.length = ins.length)) vs tS dS os = .error c) := by show _ = _; rw [E0.out, ← HST.out, ht]; rfl
            clear ht
            refine TY.out.mono ?_
            rintro e w' ⟨hg, rfl⟩
            exact ⟨rfl, ended_err E.out (grown_trans (grown_trans g0.out g3.out) hg)⟩
          | ok tu =>
            rw [ht] at TY
            have HST2 : Hid ((countP y).bind (fun _ => vinP (vs.drop (k + 1))) = vinP vs) := by show _ = _; rw [← HST.out, ht]; rfl
            clear ht HST
            cases hc : countP y with
            | error c =>
              rw [hc] at CO
              have E : Hid (valueP 0 (decide (vs.length = ins.length)) vs tS dS os = .error c) := by show _ = _; rw [E0.out, ← HST2.out, hc]; rfl
              clear hc
              refine TY.out.mono ?_
              rintro e w' ⟨-, v, rfl, rfl, rfl⟩
              go_wp2_with (first | (go_at_call 89; refine CO.out.mono ?_; rintro e w' ⟨hg, rfl⟩) | fail)
              exact ⟨rfl, ended_err E.out (grown_trans (grown_trans g0.out g3.out) hg)⟩
            | ok cn =>
              rw [hc] at CO
              have HST3 : Hid (vinP (vs.drop (k + 1)) = vinP vs) := by show _ = _; rw [← HST2.out, hc]; rfl
              clear hc HST2
              refine TY.out.mono ?_
              rintro e w' ⟨-, v, rfl, rfl, rfl⟩
              go_wp2_with (first | (go_at_call 89; refine CO.out.mono ?_; rintro e w' ⟨-, v, rfl, rfl, rfl⟩) | fail)
              go_roundw
              case rel => exact ⟨k + 1, by omega, by go_num, HST3.out, g3.out⟩
              case measure => simp [intOf]; omega
        · have hvin : vinP vs = .ok () := by rw [← hst, List.drop_of_length_le (by omega)]; rfl
          have E1 : Hid (valueP 0 (decide (vs.length = ins.length)) vs tS dS os = tS.bind (fun t => dS.bind (fun d => (countP d).bind (fun _ => (thenP t os).bind (fun _ => .ok (t, d)))))) := by show _ = _; rw [E0.out, hvin]; rfl
          have TM3 := hide (TM2.out hvin wr (grown_trans g0.out hg))
          have DM3 := hide (fun wx hx => DM2.out hvin wx hx)
          obtain ⟨n0, n1, n2, n3, n4⟩ := nod_cells (n := ⟨op, nam, ⟨ia, ins.length, ic⟩, out, ⟨ao, al, cap⟩⟩) (BX.out wr hg).1
          clear hst hg hvin TM2 DM2 E0
          go_wp2_with fail
          cases ht : tS with
          | error c =>
            rw [ht] at TM3
            have E : Hid (valueP 0 (decide (vs.length = ins.length)) vs tS dS os = .error c) := by show _ = _; rw [E1.out, ht]; rfl
            refine TM3.out.mono ?_
            rintro e w' ⟨hg, rfl⟩
            exact ⟨rfl, ended_err E.out (grown_trans (grown_trans g0.out HG.out) hg)⟩
          | ok tt =>
            rw [ht] at TM3
            have E2 : Hid (valueP 0 (decide (vs.length = ins.length)) vs tS dS os = dS.bind (fun d => (countP d).bind (fun _ => (thenP tt os).bind (fun _ => .ok (tt, d))))) := by show _ = _; rw [E1.out, ht]; rfl
            refine TM3.out.mono ?_
            rintro e w4 ⟨hg4, v, rfl, rfl, htt⟩
            have G4 := hide (grown_trans HG.out hg4)
            have D4 := hide (DM3.out w4 (grown_trans g0.out G4.out))
            obtain ⟨n0, n1, n2, n3, n4⟩ := nod_cells (n := ⟨op, nam, ⟨ia, ins.length, ic⟩, out, ⟨ao, al, cap⟩⟩) (BX.out w4 G4.out).1
            clear hg4 TM3 ht
            go_wp2_with fail
            cases hd : dS with
            | error c =>
              rw [hd] at D4
              have E : Hid (valueP 0 (decide (vs.length = ins.length)) vs tS dS os = .error c) := by show _ = _; rw [E2.out, hd]; rfl
              refine D4.out.mono ?_
              rintro e w' ⟨hg, rfl⟩
              exact ⟨rfl, ended_err E.out (grown_trans (grown_trans g0.out G4.out) hg)⟩
            | ok dd =>
              rw [hd] at D4
              have E3 : Hid (valueP 0 (decide (vs.length = ins.length)) vs tS dS os = (countP dd).bind (fun _ => (thenP tt os).bind (fun _ => .ok (tt, dd)))) := by show _ = _; rw [E2.out, hd]; rfl
              refine D4.out.mono ?_
              rintro e w5 ⟨hg5, v, rfl, ⟨s1, s2, s3⟩, rfl, hs⟩
              have G5 := hide (grown_trans G4.out hg5)
              have CO := hide (countof_any _ dd w5 hs)
              have HS := hide hs
              simp only [Sl.v] at CO ⊢
              obtain ⟨n0, n1, n2, n3, n4⟩ := nod_cells (n := ⟨op, nam, ⟨ia, ins.length, ic⟩, out, ⟨ao, al, cap⟩⟩) (BX.out w5 G5.out).1
              clear hg5 D4 hd hs DM3
              have T6 := hide (TH.out w5 (grown_trans g0.out G5.out))
              cases hc : countP dd with
              | error c =>
                rw [hc] at CO
                have E : Hid (valueP 0 (decide (vs.length = ins.length)) vs tS dS os = .error c) := by show _ = _; rw [E3.out, hc]; rfl
                clear hc
                go_wp2_with (first | (go_at_call 89; refine CO.out.mono ?_; rintro e w' ⟨hg, rfl⟩) | fail)
                exact ⟨rfl, ended_err E.out (grown_trans (grown_trans g0.out G5.out) hg)⟩
              | ok cn =>
                rw [hc] at CO
                have E4 : Hid (valueP 0 (decide (vs.length = ins.length)) vs tS dS os = (thenP tt os).bind (fun _ => .ok (tt, dd))) := by show _ = _; rw [E3.out, hc]; rfl
                clear hc
                go_wp2_with (first | (go_at_call 89; refine CO.out.mono ?_; rintro e w' ⟨-, v, rfl, rfl, rfl⟩) | (go_at_call 92; refine T6.out.mono ?_; rintro e w6 ⟨tv, rfl, hown, hg6⟩; obtain ⟨oa, oc, rfl⟩ := OwnsL.form hown) | fail)
                have G6 := hide (grown_trans G5.out hg6)
                have HG56 := hide hg6
                have osb := OsB.out
                have LO := hide (OwnsL.isL (bytes := 16) scell_len hown (by omega))
                clear hown hg6 T6 CO n0 n1 n2 n3 n4
                go_loopw [51] (fun i wr => ∃ k : Nat, k ≤ os.length ∧ i = .int .i64 k ∧ thenP tt (os.drop k) = thenP tt os ∧ w6.grownBy wr none) (fun i _ => os.length - (intOf i).toNat)
                case atStart => exact ⟨0, Nat.zero_le _, rfl, by rw [List.drop_zero], grown_refl _⟩
                case round =>
                  obtain ⟨k, hk, rfl, hst, hg⟩ := hrel
                  have HG2 := hide hg
                  by_cases hkl : k < os.length
                  · obtain ⟨ob, of, rfl⟩ := LO.out.addr hkl
                    have hc := (LO.out.more hg).at k hkl 0 (by omega)
                    rw [Nat.mul_one, Nat.add_zero] at hc
                    rw [thenP_step hkl] at hst
                    have hone := OS.out os[k] (List.getElem_mem hkl)
                    obtain ⟨o, hoo⟩ : ∃ o, o = os[k] := ⟨_, rfl⟩
                    rw [← hoo] at hc hst hone
                    have hc' : wr.cell? ⟨ob, of + k, none⟩ = some (.string o) := hc
                    have MU := hide (mustone_any o tt (isOne_names hone) htt wr)
                    have HST := hide hst
                    clear hc hoo hst hg hone
                    cases h1 : oneOK o.toList tt with
                    | true =>
                      rw [h1] at MU
                      have HST2 : Hid (thenP tt (os.drop (k + 1)) = thenP tt os) := by show _ = _; rw [← HST.out, h1]; rfl
                      clear h1
                      go_wp2_with (first | (go_at_call 93; refine MU.out.mono ?_; rintro e w7 ⟨hg7, v, rfl, rfl⟩) | fail)
                      go_roundw
                      case rel => exact ⟨k + 1, by omega, by go_num, HST2.out, grown_trans HG2.out hg7⟩
                      case measure => simp [intOf]; omega
                    | false =>
                      rw [h1] at MU
                      have E : Hid (valueP 0 (decide (vs.length = ins.length)) vs tS dS os = .error 4) := by show _ = _; rw [E4.out, ← HST.out, h1]; rfl
                      clear h1
                      go_wp2_with (first | (go_at_call 93; refine MU.out.mono ?_; rintro e w7 ⟨hg7, rfl⟩) | fail)
                      exact ⟨rfl, ended_err E.out (grown_trans (grown_trans g0.out G6.out) (grown_trans HG2.out hg7))⟩
                  · have E5 : Hid (valueP 0 (decide (vs.length = ins.length)) vs tS dS os = .ok (tt, dd)) := by show _ = _; rw [E4.out, ← hst, List.drop_of_length_le (by omega)]; rfl
                    have G7 := hide (grown_trans G6.out hg)
                    obtain ⟨n0, n1, n2, n3, n4⟩ := nod_cells (n := ⟨op, nam, ⟨ia, ins.length, ic⟩, out, ⟨ao, al, cap⟩⟩) (BX.out wr G7.out).1
                    have NV := hide (newvalue_any out tt ⟨s1, s2, s3⟩ dd wr (HS.out.more (grown_trans HG56.out hg)) ho)
                    simp only at NV
                    clear hst hg
                    go_wp2_with (first | (go_at_call 94; refine NV.out.mono ?_; rintro e w8 ⟨⟨r1, r2, r3⟩, rfl, hr, hg8⟩; simp only; have G8 := grown_trans G7.out hg8; have B8 := (BX.out w8 G8).2; obtain ⟨f0, f1, f2⟩ := ten_frozen B8; have c0 := (cell_of_row _ _ 0 _ _ (0, 0) B8).trans rfl; have c1 := (cell_of_row _ _ 1 _ _ (0, 0) B8).trans rfl; have c2 := (cell_of_row _ _ 2 _ _ (0, 0) B8).trans rfl) | fail)
                    obtain ⟨hX, gX⟩ := store3t (.string out) (.int .i64 tt) (.slice r1 r2 r3) B8
                    have gf : w.grownBy _ none := grown_drop (grown_trans g0.out G8) gX (by omega)
                    refine bodyPost_ret (ret_val rfl _ _ (w.heap.size + 1) rfl hX) rfl ?_
                    refine ended_ok E5.out gf ⟨⟨r1, r2, r3⟩, rfl, ?_⟩
                    have hb : w.heap.size + 1 < wr.heap.size := (Array.getElem?_eq_some_iff.1 (BX.out wr G7.out).2).1
                    have h := (hr.base_le (b' := w.heap.size + 2) (by omega)).more gX (by
                      rcases hr.1.2 with ⟨e, -⟩ | ⟨gg, cap', cur, e, hgg, -⟩
                      · exact .inl (by rw [e]; rfl)
                      · exact .inr (by rw [e]; simp [Value.ownBlock]; omega))
                    exact h.base_le (by omega)
    · have bl : ((vs.length : Int) == (ins.length : Int)) = false := by simpa using (fun h => hlen (by omega) : ¬ (vs.length : Int) = ins.length)
      have E0 : Hid (valueP 0 (decide (vs.length = ins.length)) vs tS dS os = .error 4) := by show _ = _; unfold valueP; simp [stopP, mustP, hlen]; rfl
      clear hlen
      go_wp2_with (first | (go_at_call 85; refine (stop_ok _).mono ?_; rintro e w' ⟨rfl, rfl⟩) | (go_at_call 87; refine (must_no _).mono ?_; rintro e w' ⟨rfl, rfl⟩) | fail)
      exact ⟨rfl, ended_err E0.out (grown_trans g0.out G1.out)⟩
  · have E0 : Hid (valueP ck (decide (vs.length = ins.length)) vs tS dS os = .error ck) := by show _ = _; unfold valueP; simp [stopP, hc0]; rfl
    have HC := hide hc0
    clear hc0
    go_wp2_with (first | (go_at_call 85; refine (stop_err _ HC.out _).mono ?_; rintro e w' ⟨rfl, rfl⟩) | fail)
    exact ⟨rfl, ended_err E0.out (grown_trans g0.out G1.out)⟩
end Go.Proofs.YtfladhogkhhlcaaGreatDoor

/- What infer makes of dims: products, by the walk. -/
namespace Go.Proofs.YtfladhogkhhlcaaGreatDoor
open Go.RowKit

set_option maxRecDepth 100000 in
set_option maxHeartbeats 1000000 in
theorem turned_any (u : Sl) (x : List Int) (t : Int) (w : World) (hx : IsInts w u.v x) : Calls Tryz.prog 153 #[.slice u.a u.n u.c, .int .i64 t] w (Ended w (turnedP x t) DimsQ) := by
  obtain ⟨ux, uc, eu, c1, c2, c3⟩ := hx.sl
  obtain ⟨ua, un, uu⟩ := u
  simp only [Sl.v, Value.slice.injEq] at eu
  obtain ⟨rfl, rfl, rfl⟩ := eu
  have HX := hide hx
  have ON := hide (ison_any t w)
  simp only
  by_cases hl : x.length = 2
  · have b0 : ((x.length : Int) == 2) = true := by simp [hl]
    have E0 : Hid (turnedP x t = (isOnP t).bind (fun on => .ok (if on = true then [x.getD 1 0, x.getD 0 0] else x))) := by show _ = _; unfold turnedP; simp [mustP, hl]; rfl
    obtain ⟨b, off, rfl, hc⟩ := hx.get (k := 0) (by omega)
    have q0 := hc 0 (by omega)
    have q1 := hc 1 (by omega)
    rw [Nat.add_zero] at q0
    have w0 := hx.wf (x.getD 0 0) (by rw [List.getD, List.getElem?_eq_getElem (by omega)]; exact List.getElem_mem _)
    have w1 := hx.wf (x.getD 1 0) (by rw [List.getD, List.getElem?_eq_getElem (by omega)]; exact List.getElem_mem _)
    obtain ⟨p, hp⟩ : ∃ p, p = x.getD 0 0 := ⟨_, rfl⟩
    obtain ⟨q, hq⟩ : ∃ q, q = x.getD 1 0 := ⟨_, rfl⟩
    rw [← hp] at q0 w0 E0
    rw [← hq] at q1 w1 E0
    have l1 : (1 : Int) < (x.length : Int) := by omega
    have l0 : (0 : Int) < (x.length : Int) := by omega
    have m0 : 0 < x.length := by omega
    have m1 : 1 < x.length := by omega
    clear hp hq hc hl hx
    cases hk : isOnP t with
    | error c =>
      rw [hk] at ON
      have E : Hid (turnedP x t = .error c) := by show _ = _; rw [E0.out, hk]; rfl
      clear hk
      go_enter Tryz.func153, Tryz.ntmps153
      go_wp2_with (first | (go_at_call 87; refine (must_yes _).mono ?_; rintro e w' ⟨rfl, rfl⟩) | (go_at_call 151; refine ON.out.mono ?_; rintro e w' ⟨hg, rfl⟩) | fail)
      exact ⟨rfl, ended_err E.out hg⟩
    | ok on =>
      rw [hk] at ON
      cases on with
      | true =>
        have E : Hid (turnedP x t = .ok [q, p]) := by show _ = _; rw [E0.out, hk]; rfl
        clear hk
        go_enter Tryz.func153, Tryz.ntmps153
        go_wp2_with (first | (go_at_call 87; refine (must_yes _).mono ?_; rintro e w' ⟨rfl, rfl⟩) | (go_at_call 151; refine ON.out.mono ?_; rintro e w' ⟨-, v, rfl, rfl, rfl⟩) | fail)
        go_region_held3 (fun w' => w'.cell? ⟨b, off, none⟩ = some (.int .i64 p) ∧ w'.cell? ⟨b, off + 1, none⟩ = some (.int .i64 q)) (go_keep) (fail)
        go_wp2
        go_ret
        exact ended_ok E.out (grown_trans (grown_drew (grown_refl _)) (grown_new _ _)) ⟨⟨_, 2, 2⟩, rfl, ints_new _ [q, p] 3 (by simp) (fun y hy => by simp at hy; rcases hy with rfl | rfl <;> assumption)⟩
      | false =>
        have E : Hid (turnedP x t = .ok x) := by show _ = _; rw [E0.out, hk]; rfl
        clear hk
        go_enter Tryz.func153, Tryz.ntmps153
        go_wp2_with (first | (go_at_call 87; refine (must_yes _).mono ?_; rintro e w' ⟨rfl, rfl⟩) | (go_at_call 151; refine ON.out.mono ?_; rintro e w' ⟨-, v, rfl, rfl, rfl⟩) | fail)
        go_ret
        exact ended_ok E.out (grown_refl _) ⟨⟨_, _, _⟩, rfl, HX.out⟩
  · have b0 : ((x.length : Int) == 2) = false := by simpa using (fun h => hl (by omega) : ¬ (x.length : Int) = 2)
    have E : Hid (turnedP x t = .error 4) := by show _ = _; unfold turnedP; simp [mustP, hl]; rfl
    clear hl
    go_enter Tryz.func153, Tryz.ntmps153
    go_wp2_with (first | (go_at_call 87; refine (must_no _).mono ?_; rintro e w' ⟨rfl, rfl⟩) | fail)
    exact ⟨rfl, ended_err E.out (grown_refl _)⟩

theorem spreadP_len {a b zs : List Int} (h : spreadP a b = .ok zs) (ha : a.length ≤ 6) (hb : b.length ≤ 6) : zs.length ≤ 6 := by
  unfold spreadP at h
  split at h
  · rename_i h0
    cases h
    unfold bcR
    rw [if_pos h0, bcL_length]
    unfold rank
    omega
  · cases h

set_option maxRecDepth 100000 in
set_option maxHeartbeats 2000000 in
theorem product_any (u v : Sl) (x y : List Int) (w : World) (hx : IsInts w u.v x) (hy : IsInts w v.v y) (hlx : x.length ≤ 6) (hly : y.length ≤ 6) : Calls Tryz.prog 125 #[.slice u.a u.n u.c, .slice v.a v.n v.c] w (Ended w (productP x y) DimsQ) := by
  obtain ⟨ux, uc, eu, c1, c2, c3⟩ := hx.sl
  obtain ⟨ua, un, uu⟩ := u
  simp only [Sl.v, Value.slice.injEq] at eu
  obtain ⟨rfl, rfl, rfl⟩ := eu
  obtain ⟨vx, vc, ev, d1, d2, d3⟩ := hy.sl
  obtain ⟨va, vn, vv⟩ := v
  simp only [Sl.v, Value.slice.injEq] at ev
  obtain ⟨rfl, rfl, rfl⟩ := ev
  simp only
  obtain ⟨i0, hi, hz0, hz1, hz2⟩ := info_parts infoInt
  by_cases h2 : 2 ≤ x.length
  · by_cases h3 : 2 ≤ y.length
    · obtain ⟨a, ha⟩ : ∃ a, x.length = a + 2 := ⟨x.length - 2, by omega⟩
      obtain ⟨b, hb⟩ : ∃ b, y.length = b + 2 := ⟨y.length - 2, by omega⟩
      have E0 : Hid (productP x y = (mustP (x.getD (a + 1) 0 == y.getD b 0)).bind (fun _ => (spreadP (x.take a) (y.take b)).bind (fun s => .ok (s ++ [x.getD a 0, y.getD (b + 1) 0])))) := by
        show _ = _
        unfold productP
        rw [ha, hb]
        simp [mustP]
        rfl
      obtain ⟨xb, xo, rfl, hcx⟩ := hx.get (k := 0) (by omega)
      obtain ⟨yb, yo, rfl, hcy⟩ := hy.get (k := 0) (by omega)
      have x1 := hcx (a + 1) (by omega)
      have x0 := hcx a (by omega)
      have y0 := hcy b (by omega)
      have y1 := hcy (b + 1) (by omega)
      have wx0 := hx.wf (x.getD a 0) (by rw [List.getD, List.getElem?_eq_getElem (by omega)]; exact List.getElem_mem _)
      have wy1 := hy.wf (y.getD (b + 1) 0) (by rw [List.getD, List.getElem?_eq_getElem (by omega)]; exact List.getElem_mem _)
      have SP := hide (fun (wx : World) (hg : w.grownBy wx none) => spread_any ⟨some ⟨xb, xo, none⟩, a, uu⟩ ⟨some ⟨yb, yo, none⟩, b, vv⟩ (x.take a) (y.take b) wx ((hx.front (by show a ≤ x.length; omega)).more hg) ((hy.front (by show b ≤ y.length; omega)).more hg))
      simp only at SP
      obtain ⟨p, hp⟩ : ∃ p, p = x.getD a 0 := ⟨_, rfl⟩
      obtain ⟨q, hq⟩ : ∃ q, q = y.getD (b + 1) 0 := ⟨_, rfl⟩
      obtain ⟨r, hr⟩ : ∃ r, r = x.getD (a + 1) 0 := ⟨_, rfl⟩
      obtain ⟨s, hs⟩ : ∃ s, s = y.getD b 0 := ⟨_, rfl⟩
      rw [← hp] at x0 wx0 E0
      rw [← hq] at y1 wy1 E0
      rw [← hr] at x1 E0
      rw [← hs] at y0 E0
      rw [ha] at c1 ⊢
      rw [hb] at d1 ⊢
      have i7 : decide ((2 : Int) ≤ (b : Int) + 2) = true := by simp; omega
      have i8 : decide ((2 : Int) ≤ (a : Int) + 2) = true := by simp; omega
      have i9 : (a : Int) + 2 - 2 = (a : Int) := by omega
      have i10 : (b : Int) + 2 - 2 = (b : Int) := by omega
      have kw : IntKind.i64.wrap ((a : Int) + 1) = (a : Int) + 1 := by rw [wrap_i64_eq]; unfold wrap64; omega
      have ka : (a : Int) < (a : Int) + 2 := by omega
      have kb : (b : Int) < (b : Int) + 2 := by omega
      have k1 : (a : Int) + 1 < (a : Int) + 2 := by omega
      have k2 : (0 : Int) ≤ (a : Int) + 1 := by omega
      have k3 : ((a : Int) + 1).toNat = a + 1 := by omega
      have j1 : a + 1 < a + 2 := by omega
      have j2 : b < b + 2 := by omega
      have j3 : a < a + 2 := by omega
      have j4 : b + 1 < b + 2 := by omega
      clear hp hq hr hs hcx hcy hx hy ha hb h2 h3 c3 d3
      go_enter Tryz.func125, Tryz.ntmps125
      go_wp2_with (first | (go_at_call 87; refine (must_yes _).mono ?_; rintro e w' ⟨rfl, rfl⟩) | fail)
      by_cases hrs : r = s
      · have brs : (r == s) = true := by simp [hrs]
        have E1 : Hid (productP x y = (spreadP (x.take a) (y.take b)).bind (fun t => .ok (t ++ [p, q]))) := by show _ = _; rw [E0.out, brs]; rfl
        clear hrs
        go_quiet (first | (go_at_call 87; refine (must_yes _).mono ?_; rintro e w' ⟨rfl, rfl⟩; exact ⟨rfl, _, rfl⟩) | fail)
        go_wp2_with fail
        have gq : w.grownBy (w.drewN nq) none := ⟨rfl, rfl, rfl, Nat.le_refl _, fun k hk hn => rfl⟩
        obtain ⟨wq, hwq⟩ : ∃ wq, wq = w.drewN nq := ⟨_, rfl⟩
        rw [← hwq] at gq ⊢
        have x0' := cell_still x0 gq
        have y1' := cell_still y1 gq
        have kw2 : IntKind.i64.wrap ((b : Int) + 1) = (b : Int) + 1 := by rw [wrap_i64_eq]; unfold wrap64; omega
        have k4 : (b : Int) + 1 < (b : Int) + 2 := by omega
        have k5 : (0 : Int) ≤ (b : Int) + 1 := by omega
        have k6 : ((b : Int) + 1).toNat = b + 1 := by omega
        have z1 : a ≤ uu := by omega
        have z2 : b ≤ vv := by omega
        clear hwq x1 y0
        cases hk : spreadP (x.take a) (y.take b) with
        | error c =>
          have E2 : Hid (productP x y = .error c) := by show _ = _; rw [E1.out, hk]; rfl
          rw [hk] at SP
          clear hk
          refine wp_region_held_drew (S := (fun w' => w'.cell? ⟨xb, xo + a, none⟩ = some (.int .i64 p) ∧ w'.cell? ⟨yb, yo + (b + 1), none⟩ = some (.int .i64 q))) (by kernel_rfl) (by go_keep) (fun hHeld => ?_)
          refine wpAnyH_take (i := 0) (v := ?_) rfl (by kernel_rfl) (by kernel_rfl) (by kernel_rfl) (fun _ _ _ h => h) (Or.inl ⟨by rfl, ?_⟩) (by assumption) ?_
          rotate_left 1
          · (intro w hSw; (try dsimp only at hSw); go_simp; (try with_reducible rfl))
          try simp only [Act.put]
          refine wpAnyH_take (i := 1) (v := ?_) rfl (by kernel_rfl) (by kernel_rfl) (by kernel_rfl) (fun _ _ _ h => h) (Or.inl ⟨by rfl, ?_⟩) (by assumption) ?_
          rotate_left 1
          · (intro w hSw; (try dsimp only at hSw); go_simp; (try with_reducible rfl))
          try simp only [Act.put]
          refine wpAnyH_take (i := 2) (v := ?_) rfl (by kernel_rfl) (by kernel_rfl) (by kernel_rfl) (fun _ _ _ h => h) (Or.inl ⟨by rfl, ?_⟩) (by assumption) ?_
          rotate_left 1
          · (intro w hSw; (try dsimp only at hSw); go_simp; (try with_reducible rfl))
          try simp only [Act.put]
          refine wpAnyH_take (i := 3) (v := ?_) rfl (by kernel_rfl) (by kernel_rfl) (by kernel_rfl) (fun _ _ _ h => h) (Or.inl ⟨by rfl, ?_⟩) (by assumption) ?_
          rotate_left 1
          · (intro w hSw; (try dsimp only at hSw); go_simp; (try with_reducible rfl))
          try simp only [Act.put]
          refine wpAnyH_take (i := 4) (v := ?_) rfl (by kernel_rfl) (by kernel_rfl) (by kernel_rfl) (fun _ _ _ h => h) (Or.inl ⟨by rfl, ?_⟩) (by assumption) ?_
          rotate_left 1
          · (intro w hSw; (try dsimp only at hSw); go_simp; (try with_reducible rfl))
          try simp only [Act.put]
          refine wpAnyH_take (i := 5) (v := ?_) rfl (by kernel_rfl) (by kernel_rfl) (by kernel_rfl) (fun _ _ _ h => h) (Or.inl ⟨by rfl, ?_⟩) (by assumption) ?_
          rotate_left 1
          · (intro w hSw; (try dsimp only at hSw); go_simp; (try with_reducible rfl))
          try simp only [Act.put]
          refine wpAnyH_take (i := 7) (v := ?_) rfl (by kernel_rfl) (by kernel_rfl) (by kernel_rfl) (fun _ _ _ h => h) (Or.inl ⟨by rfl, ?_⟩) (by assumption) ?_
          rotate_left 1
          · (intro w hSw; (try dsimp only at hSw); go_simp; (try with_reducible rfl))
          try simp only [Act.put]
          refine wpAnyH_take (i := 8) (v := ?_) rfl (by kernel_rfl) (by kernel_rfl) (by kernel_rfl) (fun _ _ _ h => h) (Or.inl ⟨by rfl, ?_⟩) (by assumption) ?_
          rotate_left 1
          · (intro w hSw; (try dsimp only at hSw); go_simp; (try with_reducible rfl))
          try simp only [Act.put]
          refine wpAnyH_take (i := 9) (v := ?_) rfl (by kernel_rfl) (by kernel_rfl) (by kernel_rfl) (fun _ _ _ h => h) (Or.inl ⟨by rfl, ?_⟩) (by assumption) ?_
          rotate_left 1
          · (intro w hSw; (try dsimp only at hSw); go_simp; (try with_reducible rfl))
          try simp only [Act.put]
          refine wpAnyH_take (i := 10) (v := ?_) rfl (by kernel_rfl) (by kernel_rfl) (by kernel_rfl) (fun _ _ _ h => h) (Or.inl ⟨by rfl, ?_⟩) (by assumption) ?_
          rotate_left 1
          · (intro w hSw; (try dsimp only at hSw); go_simp; (try with_reducible rfl))
          try simp only [Act.put]
          refine wpAnyH_take (i := 11) (v := ?_) rfl (by kernel_rfl) (by kernel_rfl) (by kernel_rfl) (fun _ _ _ h => h) (Or.inl ⟨by rfl, ?_⟩) (by assumption) ?_
          rotate_left 1
          · (intro w hSw; (try dsimp only at hSw); go_simp; (try with_reducible rfl))
          try simp only [Act.put]
          refine wpAnyH_take (i := 12) (v := ?_) rfl (by kernel_rfl) (by kernel_rfl) (by kernel_rfl) (fun _ _ _ h => h) (Or.inl ⟨by rfl, ?_⟩) (by assumption) ?_
          rotate_left 1
          · (intro w hSw; (try dsimp only at hSw); go_simp; (try with_reducible rfl))
          try simp only [Act.put]
          refine wpAnyH_take (i := 13) (v := ?_) rfl (by kernel_rfl) (by kernel_rfl) (by kernel_rfl) (fun _ _ _ h => h) (Or.inl ⟨by rfl, ?_⟩) (by assumption) ?_
          rotate_left 1
          · (intro w hSw; (try dsimp only at hSw); go_simp; (try with_reducible rfl))
          try simp only [Act.put]
          refine wpAnyH_take (i := 14) (v := ?_) rfl (by kernel_rfl) (by kernel_rfl) (by kernel_rfl) (fun _ _ _ h => h) (Or.inl ⟨by rfl, ?_⟩) (by assumption) ?_
          rotate_left 1
          · (intro w hSw; (try dsimp only at hSw); go_simp; (try with_reducible rfl))
          try simp only [Act.put]
          refine wpAnyH_take (i := 15) (v := ?_) rfl (by kernel_rfl) (by kernel_rfl) (by kernel_rfl) (fun _ _ _ h => h) (Or.inl ⟨by rfl, ?_⟩) (by assumption) ?_
          rotate_left 1
          · (intro w hSw; (try dsimp only at hSw); go_simp; (try with_reducible rfl))
          try simp only [Act.put]
          refine wpAnyH_ready (rs := [6, 16]) (by kernel_rfl) (by simp) ?_
          refine AllReadyH.cons rfl (fun K hK => ?_) ?_
          · skip
            go_simp
            refine (SP.out _ (by first | exact grown_drew gq | exact grown_trans (grown_drew gq) (grown_new _ _))).mono ?_
            rintro e wy ⟨hg, rfl⟩
            exact ⟨rfl, ended_err E2.out (grown_trans (by first | exact grown_drew gq | exact grown_trans (grown_drew gq) (grown_new _ _)) hg)⟩
          refine AllReadyH.cons rfl (fun K hK => ?_) ?_
          · skip
            go_simp
            refine hK.out _ _ (by first | assumption | go_keep) (fun hHeld => ?_)
            clear hK K
            try simp only [Act.put]
            refine wpAnyH_ready (rs := [6]) (by kernel_rfl) (by simp) ?_
            refine AllReadyH.cons rfl (fun K hK => ?_) ?_
            · skip
              go_simp
              refine (SP.out _ (by first | exact grown_drew gq | exact grown_trans (grown_drew gq) (grown_new _ _))).mono ?_
              rintro e wy ⟨hg, rfl⟩
              exact ⟨rfl, ended_err E2.out (grown_trans (by first | exact grown_drew gq | exact grown_trans (grown_drew gq) (grown_new _ _)) hg)⟩
            exact AllReadyH.nil
          exact AllReadyH.nil
        | ok zs =>
          have E2 : Hid (productP x y = .ok (zs ++ [p, q])) := by show _ = _; rw [E1.out, hk]; rfl
          have hzl : zs.length ≤ 6 := spreadP_len hk (by simp; omega) (by simp; omega)
          rw [hk] at SP
          clear hk
          refine wp_region_held_drew (S := (fun w' => w'.cell? ⟨xb, xo + a, none⟩ = some (.int .i64 p) ∧ w'.cell? ⟨yb, yo + (b + 1), none⟩ = some (.int .i64 q))) (by kernel_rfl) (by go_keep) (fun hHeld => ?_)
          refine wpAnyH_take (i := 0) (v := ?_) rfl (by kernel_rfl) (by kernel_rfl) (by kernel_rfl) (fun _ _ _ h => h) (Or.inl ⟨by rfl, ?_⟩) (by assumption) ?_
          rotate_left 1
          · (intro w hSw; (try dsimp only at hSw); go_simp; (try with_reducible rfl))
          try simp only [Act.put]
          refine wpAnyH_take (i := 1) (v := ?_) rfl (by kernel_rfl) (by kernel_rfl) (by kernel_rfl) (fun _ _ _ h => h) (Or.inl ⟨by rfl, ?_⟩) (by assumption) ?_
          rotate_left 1
          · (intro w hSw; (try dsimp only at hSw); go_simp; (try with_reducible rfl))
          try simp only [Act.put]
          refine wpAnyH_take (i := 2) (v := ?_) rfl (by kernel_rfl) (by kernel_rfl) (by kernel_rfl) (fun _ _ _ h => h) (Or.inl ⟨by rfl, ?_⟩) (by assumption) ?_
          rotate_left 1
          · (intro w hSw; (try dsimp only at hSw); go_simp; (try with_reducible rfl))
          try simp only [Act.put]
          refine wpAnyH_take (i := 3) (v := ?_) rfl (by kernel_rfl) (by kernel_rfl) (by kernel_rfl) (fun _ _ _ h => h) (Or.inl ⟨by rfl, ?_⟩) (by assumption) ?_
          rotate_left 1
          · (intro w hSw; (try dsimp only at hSw); go_simp; (try with_reducible rfl))
          try simp only [Act.put]
          refine wpAnyH_take (i := 4) (v := ?_) rfl (by kernel_rfl) (by kernel_rfl) (by kernel_rfl) (fun _ _ _ h => h) (Or.inl ⟨by rfl, ?_⟩) (by assumption) ?_
          rotate_left 1
          · (intro w hSw; (try dsimp only at hSw); go_simp; (try with_reducible rfl))
          try simp only [Act.put]
          refine wpAnyH_take (i := 5) (v := ?_) rfl (by kernel_rfl) (by kernel_rfl) (by kernel_rfl) (fun _ _ _ h => h) (Or.inl ⟨by rfl, ?_⟩) (by assumption) ?_
          rotate_left 1
          · (intro w hSw; (try dsimp only at hSw); go_simp; (try with_reducible rfl))
          try simp only [Act.put]
          refine wpAnyH_take (i := 7) (v := ?_) rfl (by kernel_rfl) (by kernel_rfl) (by kernel_rfl) (fun _ _ _ h => h) (Or.inl ⟨by rfl, ?_⟩) (by assumption) ?_
          rotate_left 1
          · (intro w hSw; (try dsimp only at hSw); go_simp; (try with_reducible rfl))
          try simp only [Act.put]
          refine wpAnyH_take (i := 8) (v := ?_) rfl (by kernel_rfl) (by kernel_rfl) (by kernel_rfl) (fun _ _ _ h => h) (Or.inl ⟨by rfl, ?_⟩) (by assumption) ?_
          rotate_left 1
          · (intro w hSw; (try dsimp only at hSw); go_simp; (try with_reducible rfl))
          try simp only [Act.put]
          refine wpAnyH_take (i := 9) (v := ?_) rfl (by kernel_rfl) (by kernel_rfl) (by kernel_rfl) (fun _ _ _ h => h) (Or.inl ⟨by rfl, ?_⟩) (by assumption) ?_
          rotate_left 1
          · (intro w hSw; (try dsimp only at hSw); go_simp; (try with_reducible rfl))
          try simp only [Act.put]
          refine wpAnyH_take (i := 10) (v := ?_) rfl (by kernel_rfl) (by kernel_rfl) (by kernel_rfl) (fun _ _ _ h => h) (Or.inl ⟨by rfl, ?_⟩) (by assumption) ?_
          rotate_left 1
          · (intro w hSw; (try dsimp only at hSw); go_simp; (try with_reducible rfl))
          try simp only [Act.put]
          refine wpAnyH_take (i := 11) (v := ?_) rfl (by kernel_rfl) (by kernel_rfl) (by kernel_rfl) (fun _ _ _ h => h) (Or.inl ⟨by rfl, ?_⟩) (by assumption) ?_
          rotate_left 1
          · (intro w hSw; (try dsimp only at hSw); go_simp; (try with_reducible rfl))
          try simp only [Act.put]
          refine wpAnyH_take (i := 12) (v := ?_) rfl (by kernel_rfl) (by kernel_rfl) (by kernel_rfl) (fun _ _ _ h => h) (Or.inl ⟨by rfl, ?_⟩) (by assumption) ?_
          rotate_left 1
          · (intro w hSw; (try dsimp only at hSw); go_simp; (try with_reducible rfl))
          try simp only [Act.put]
          refine wpAnyH_take (i := 13) (v := ?_) rfl (by kernel_rfl) (by kernel_rfl) (by kernel_rfl) (fun _ _ _ h => h) (Or.inl ⟨by rfl, ?_⟩) (by assumption) ?_
          rotate_left 1
          · (intro w hSw; (try dsimp only at hSw); go_simp; (try with_reducible rfl))
          try simp only [Act.put]
          refine wpAnyH_take (i := 14) (v := ?_) rfl (by kernel_rfl) (by kernel_rfl) (by kernel_rfl) (fun _ _ _ h => h) (Or.inl ⟨by rfl, ?_⟩) (by assumption) ?_
          rotate_left 1
          · (intro w hSw; (try dsimp only at hSw); go_simp; (try with_reducible rfl))
          try simp only [Act.put]
          refine wpAnyH_take (i := 15) (v := ?_) rfl (by kernel_rfl) (by kernel_rfl) (by kernel_rfl) (fun _ _ _ h => h) (Or.inl ⟨by rfl, ?_⟩) (by assumption) ?_
          rotate_left 1
          · (intro w hSw; (try dsimp only at hSw); go_simp; (try with_reducible rfl))
          try simp only [Act.put]
          refine wpAnyH_ready (rs := [6, 16]) (by kernel_rfl) (by simp) ?_
          refine AllReadyH.cons rfl (fun K hK => ?_) ?_
          · skip
            go_simp
            refine (SP.out _ (by first | exact grown_drew gq | exact grown_trans (grown_drew gq) (grown_new _ _))).mono ?_
            rintro e w2 ⟨hg2, v, rfl, ⟨sa, sn, sc⟩, rfl, ho⟩
            have gw := grown_trans (by first | exact grown_drew gq | exact grown_trans (grown_drew gq) (grown_new _ _)) hg2
            have xk := cell_still x0 gw
            have yk := cell_still y1 gw
            try dsimp only
            refine hK.out _ _ (by first | assumption | go_keep) (fun hHeld => ?_)
            clear hK K
            try simp only [Act.put]
            refine wpAnyH_ready (rs := [16]) (by kernel_rfl) (by simp) ?_
            refine AllReadyH.cons rfl (fun K hK => ?_) ?_
            · skip
              go_simp
              refine hK.out _ _ (by first | assumption | go_keep) (fun hHeld => ?_)
              clear hK K
              try simp only [Act.put]
              refine wpAnyH_ready (rs := [17]) (by kernel_rfl) (by simp) ?_
              refine AllReadyH.cons rfl (fun K hK => ?_) ?_
              · skip
                have OW2 := ho.base_le (show w.heap.size ≤ _ by have := (grown_drew gq).size; simp at this ⊢; omega)
                have hsn : sn = zs.length := by obtain ⟨a1, c4, e, -⟩ := ho.ints.sl; simp only [Sl.v, Value.slice.injEq] at e; exact e.2.1
                subst hsn
                refine step_append_lies (w2.alloc (.cells #[.int .i64 p, .int .i64 q] 3)) (by rfl) (.tmp 39) (.tmp 49) 22 (by rfl) w.heap.size 3 i0 (.int .i64 0) 1 8 Tryz.underlying22 hi hz0 hz1 hz2 (by rfl) (by decide) (.slice sa zs.length sc) zs.length (zs.map (Value.int .i64)) (by rfl) ((OW2.new (grown_new _ _)).1) ⟨w2.heap.size, 0, none⟩ 2 2 [.int .i64 p, .int .i64 q] (by rfl) (by rfl) ?_ (by simp [Value.oneCell']) (by decide) (by simp only [maxLen]; omega) (by omega) (by have := gw.size; simp; omega) _ rfl ?_
                · intro j u hu
                  rw [Addr.add_lit, Nat.zero_add]
                  match j, hu with
                  | 0, hu => rw [cell_of_row _ _ 0 _ _ (0, 0) (heap_alloc_new w2 _)]; exact hu
                  | 1, hu => rw [cell_of_row _ _ 1 _ _ (0, 0) (heap_alloc_new w2 _)]; exact hu
                  | j + 2, hu => simp at hu
                intro g gcap w4 hown hgrow _ _
                have gw4 : w.grownBy w4 none := grown_trans_row (grown_trans gw (grown_new _ _)) hgrow (fun r e => (OW2.lt r e).1)
                have xk4 := cell_still x0 gw4
                have yk4 := cell_still y1 gw4
                have OW4 : Owns w4 w.heap.size (.slice (some ⟨g, 0, none⟩) (zs.length + 2) gcap) (zs ++ [p, q]) := ⟨by rw [List.length_append, List.map_append]; exact hown, by rw [List.length_append]; simp only [List.length_cons, List.length_nil]; omega, fun z hz => by rcases List.mem_append.1 hz with h | h; exact ho.2.2 z h; simp at h; rcases h with rfl | rfl <;> assumption⟩
                refine hK.out _ _ (by first | assumption | go_keep) (fun hHeld => ?_)
                clear hK K
                try simp only [Act.put]
                refine wpAnyH_take (i := 18) (v := ?_) rfl (by kernel_rfl) (by kernel_rfl) (by kernel_rfl) (fun _ _ _ h => h) (Or.inl ⟨by rfl, ?_⟩) (by assumption) ?_
                rotate_left 1
                · (intro w hSw; (try dsimp only at hSw); go_simp; (try with_reducible rfl))
                try simp only [Act.put]
                refine wpAnyH_done (by kernel_rfl) ?_ _
                try go_simp
                go_wp2
                go_ret
                exact ended_ok E2.out gw4 ⟨⟨some ⟨g, 0, none⟩, zs.length + 2, gcap⟩, rfl, OW4.ints⟩
              exact AllReadyH.nil
            exact AllReadyH.nil
          refine AllReadyH.cons rfl (fun K hK => ?_) ?_
          · skip
            go_simp
            refine hK.out _ _ (by first | assumption | go_keep) (fun hHeld => ?_)
            clear hK K
            try simp only [Act.put]
            refine wpAnyH_ready (rs := [6]) (by kernel_rfl) (by simp) ?_
            refine AllReadyH.cons rfl (fun K hK => ?_) ?_
            · skip
              go_simp
              refine (SP.out _ (by first | exact grown_drew gq | exact grown_trans (grown_drew gq) (grown_new _ _))).mono ?_
              rintro e w2 ⟨hg2, v, rfl, ⟨sa, sn, sc⟩, rfl, ho⟩
              have gw := grown_trans (by first | exact grown_drew gq | exact grown_trans (grown_drew gq) (grown_new _ _)) hg2
              have xk := cell_still x0 gw
              have yk := cell_still y1 gw
              have hn0 := cell_still (cell_of_row _ _ 0 _ _ (0, 0) (heap_alloc_new wq.drew (.cells #[.int .i64 p, .int .i64 q] 3))) hg2
              have hn1 := cell_still (cell_of_row _ _ 1 _ _ (0, 0) (heap_alloc_new wq.drew (.cells #[.int .i64 p, .int .i64 q] 3))) hg2
              try dsimp only
              refine hK.out _ _ (by first | assumption | go_keep) (fun hHeld => ?_)
              clear hK K
              try simp only [Act.put]
              refine wpAnyH_ready (rs := [17]) (by kernel_rfl) (by simp) ?_
              refine AllReadyH.cons rfl (fun K hK => ?_) ?_
              · skip
                have OW2 := ho.base_le (show w.heap.size ≤ _ by have := (grown_drew gq).size; simp at this ⊢; omega)
                have hsn : sn = zs.length := by obtain ⟨a1, c4, e, -⟩ := ho.ints.sl; simp only [Sl.v, Value.slice.injEq] at e; exact e.2.1
                subst hsn
                refine step_append_lies w2 (by rfl) (.tmp 39) (.tmp 49) 22 (by rfl) w.heap.size 3 i0 (.int .i64 0) 1 8 Tryz.underlying22 hi hz0 hz1 hz2 (by rfl) (by decide) (.slice sa zs.length sc) zs.length (zs.map (Value.int .i64)) (by rfl) (OW2.1) ⟨wq.drew.heap.size, 0, none⟩ 2 2 [.int .i64 p, .int .i64 q] (by rfl) (by rfl) ?_ (by simp [Value.oneCell']) (by decide) (by simp only [maxLen]; omega) (by omega) (by have := gw.size; simp; omega) _ rfl ?_
                · intro j u hu
                  rw [Addr.add_lit, Nat.zero_add]
                  match j, hu with
                  | 0, hu => rw [hn0]; exact hu
                  | 1, hu => rw [hn1]; exact hu
                  | j + 2, hu => simp at hu
                intro g gcap w4 hown hgrow _ _
                have gw4 : w.grownBy w4 none := grown_trans_row gw hgrow (fun r e => (OW2.lt r e).1)
                have xk4 := cell_still x0 gw4
                have yk4 := cell_still y1 gw4
                have OW4 : Owns w4 w.heap.size (.slice (some ⟨g, 0, none⟩) (zs.length + 2) gcap) (zs ++ [p, q]) := ⟨by rw [List.length_append, List.map_append]; exact hown, by rw [List.length_append]; simp only [List.length_cons, List.length_nil]; omega, fun z hz => by rcases List.mem_append.1 hz with h | h; exact ho.2.2 z h; simp at h; rcases h with rfl | rfl <;> assumption⟩
                refine hK.out _ _ (by first | assumption | go_keep) (fun hHeld => ?_)
                clear hK K
                try simp only [Act.put]
                refine wpAnyH_take (i := 18) (v := ?_) rfl (by kernel_rfl) (by kernel_rfl) (by kernel_rfl) (fun _ _ _ h => h) (Or.inl ⟨by rfl, ?_⟩) (by assumption) ?_
                rotate_left 1
                · (intro w hSw; (try dsimp only at hSw); go_simp; (try with_reducible rfl))
                try simp only [Act.put]
                refine wpAnyH_done (by kernel_rfl) ?_ _
                try go_simp
                go_wp2
                go_ret
                exact ended_ok E2.out gw4 ⟨⟨some ⟨g, 0, none⟩, zs.length + 2, gcap⟩, rfl, OW4.ints⟩
              exact AllReadyH.nil
            exact AllReadyH.nil
          exact AllReadyH.nil
      · have brs : (r == s) = false := by simpa using hrs
        have E1 : Hid (productP x y = .error 4) := by show _ = _; rw [E0.out, brs]; rfl
        clear hrs
        refine wp_region_held_drew (S := (fun w' => w'.cell? ⟨xb, xo + (a + 1), none⟩ = some (.int .i64 r) ∧ w'.cell? ⟨yb, yo + b, none⟩ = some (.int .i64 s))) (by kernel_rfl) (by go_keep) (fun hHeld => ?_)
        refine wpAnyH_take (i := 0) (v := ?_) rfl (by kernel_rfl) (by kernel_rfl) (by kernel_rfl) (fun _ _ _ h => h) (Or.inl ⟨by rfl, ?_⟩) (by assumption) ?_
        rotate_left 1
        · (intro w hSw; (try dsimp only at hSw); go_simp; (try with_reducible rfl))
        try simp only [Act.put]
        refine wpAnyH_take (i := 1) (v := ?_) rfl (by kernel_rfl) (by kernel_rfl) (by kernel_rfl) (fun _ _ _ h => h) (Or.inl ⟨by rfl, ?_⟩) (by assumption) ?_
        rotate_left 1
        · (intro w hSw; (try dsimp only at hSw); go_simp; (try with_reducible rfl))
        try simp only [Act.put]
        refine wpAnyH_take (i := 2) (v := ?_) rfl (by kernel_rfl) (by kernel_rfl) (by kernel_rfl) (fun _ _ _ h => h) (Or.inl ⟨by rfl, ?_⟩) (by assumption) ?_
        rotate_left 1
        · (intro w hSw; (try dsimp only at hSw); go_simp; (try with_reducible rfl))
        try simp only [Act.put]
        refine wpAnyH_take (i := 3) (v := ?_) rfl (by kernel_rfl) (by kernel_rfl) (by kernel_rfl) (fun _ _ _ h => h) (Or.inl ⟨by rfl, ?_⟩) (by assumption) ?_
        rotate_left 1
        · (intro w hSw; (try dsimp only at hSw); go_simp; (try with_reducible rfl))
        try simp only [Act.put]
        refine wpAnyH_take (i := 4) (v := ?_) rfl (by kernel_rfl) (by kernel_rfl) (by kernel_rfl) (fun _ _ _ h => h) (Or.inl ⟨by rfl, ?_⟩) (by assumption) ?_
        rotate_left 1
        · (intro w hSw; (try dsimp only at hSw); go_simp; (try with_reducible rfl))
        try simp only [Act.put]
        refine wpAnyH_take (i := 5) (v := ?_) rfl (by kernel_rfl) (by kernel_rfl) (by kernel_rfl) (fun _ _ _ h => h) (Or.inl ⟨by rfl, ?_⟩) (by assumption) ?_
        rotate_left 1
        · (intro w hSw; (try dsimp only at hSw); go_simp; (try with_reducible rfl))
        try simp only [Act.put]
        refine wpAnyH_take (i := 6) (v := ?_) rfl (by kernel_rfl) (by kernel_rfl) (by kernel_rfl) (fun _ _ _ h => h) (Or.inl ⟨by rfl, ?_⟩) (by assumption) ?_
        rotate_left 1
        · (intro w hSw; (try dsimp only at hSw); go_simp; (try with_reducible rfl))
        try simp only [Act.put]
        refine wpAnyH_take (i := 7) (v := ?_) rfl (by kernel_rfl) (by kernel_rfl) (by kernel_rfl) (fun _ _ _ h => h) (Or.inl ⟨by rfl, ?_⟩) (by assumption) ?_
        rotate_left 1
        · (intro w hSw; (try dsimp only at hSw); go_simp; (try with_reducible rfl))
        try simp only [Act.put]
        refine wpAnyH_take (i := 8) (v := ?_) rfl (by kernel_rfl) (by kernel_rfl) (by kernel_rfl) (fun _ _ _ h => h) (Or.inl ⟨by rfl, ?_⟩) (by assumption) ?_
        rotate_left 1
        · (intro w hSw; (try dsimp only at hSw); go_simp; (try with_reducible rfl))
        try simp only [Act.put]
        refine wpAnyH_take (i := 9) (v := ?_) rfl (by kernel_rfl) (by kernel_rfl) (by kernel_rfl) (fun _ _ _ h => h) (Or.inl ⟨by rfl, ?_⟩) (by assumption) ?_
        rotate_left 1
        · (intro w hSw; (try dsimp only at hSw); go_simp; (try with_reducible rfl))
        try simp only [Act.put]
        refine wpAnyH_ready (rs := [10]) (by kernel_rfl) (by simp) ?_
        refine AllReadyH.cons rfl (fun K hK => ?_) AllReadyH.nil
        go_simp
        refine (must_no _).mono ?_
        rintro e wy ⟨rfl, rfl⟩; exact ⟨rfl, ended_err E1.out (grown_drew (grown_refl _))⟩
    · have b3 : decide ((2 : Int) ≤ (y.length : Int)) = false := by simp; omega
      have h2' : (2 : Int) ≤ (x.length : Int) := by omega
      have E1 : Hid (productP x y = .error 4) := by show _ = _; unfold productP; simp [mustP, h3]; rfl
      clear h2 h3
      go_enter Tryz.func125, Tryz.ntmps125
      go_wp2_with (first | (go_at_call 87; refine (must_no _).mono ?_; rintro e w' ⟨rfl, rfl⟩) | fail)
      exact ⟨rfl, ended_err E1.out (grown_refl _)⟩
  · have b2 : decide ((2 : Int) ≤ (x.length : Int)) = false := by simp; omega
    have E1 : Hid (productP x y = .error 4) := by show _ = _; unfold productP; simp [mustP, h2]; rfl
    clear h2
    go_enter Tryz.func125, Tryz.ntmps125
    go_wp2_with (first | (go_at_call 87; refine (must_no _).mono ?_; rintro e w' ⟨rfl, rfl⟩) | fail)
    exact ⟨rfl, ended_err E1.out (grown_refl _)⟩
end Go.Proofs.YtfladhogkhhlcaaGreatDoor

/- Are two lists alike: slices.Equal, by the walk. -/
namespace Go.Proofs.YtfladhogkhhlcaaGreatDoor
open Go.RowKit

theorem list_ne {a b : List Int} {k : Nat} (_hk : k < a.length) (_hl : a.length = b.length) (h : a.getD k 0 ≠ b.getD k 0) : a ≠ b := by
  rintro rfl
  exact h rfl

theorem list_eq {a b : List Int} (hl : a.length = b.length) (h : ∀ t, t < a.length → a.getD t 0 = b.getD t 0) : a = b := by
  refine List.ext_getElem hl fun i h1 h2 => ?_
  have := h i h1
  simpa [List.getD, h1, h2] using this

set_option maxRecDepth 100000 in
set_option maxHeartbeats 1000000 in
theorem equal_any (u v : Sl) (a b : List Int) (w : World) (ha : IsInts w u.v a) (hb : IsInts w v.v b) : Calls Tryz.prog 53 #[.slice u.a u.n u.c, .slice v.a v.n v.c] w fun e w' => e = .returned (.bool (decide (a = b))) ∧ ∃ n, w' = w.drewN n := by
  obtain ⟨ux, uc, eu, c1, c2, c3⟩ := ha.sl
  obtain ⟨ua, un, uu⟩ := u
  simp only [Sl.v, Value.slice.injEq] at eu
  obtain ⟨rfl, rfl, rfl⟩ := eu
  obtain ⟨vx, vc, ev, d1, d2, d3⟩ := hb.sl
  obtain ⟨va, vn, vv⟩ := v
  simp only [Sl.v, Value.slice.injEq] at ev
  obtain ⟨rfl, rfl, rfl⟩ := ev
  simp only
  have HA := hide ha
  have HB := hide hb
  clear ha hb
  by_cases hl : a.length = b.length
  · have b0 : ((a.length : Int) != (b.length : Int)) = false := by simp [hl]
    have HL := hide hl
    clear hl
    go_enter Tryz.func53, Tryz.ntmps53
    go_wp2
    go_loopw [13] (fun i wr => ∃ k n : Nat, k ≤ a.length ∧ i = .int .i64 k ∧ (∀ t, t < k → a.getD t 0 = b.getD t 0) ∧ wr = w.drewN n) (fun i _ => a.length - (intOf i).toNat)
    case atStart => exact ⟨0, 0, Nat.zero_le _, rfl, fun t h => absurd h (by omega), rfl⟩
    case round =>
      obtain ⟨k, n, hk, rfl, hp, rfl⟩ := hrel
      have HP := hide hp
      clear hp
      by_cases hkl : k < a.length
      · have hkb : k < b.length := by have := HL.out; omega
        obtain ⟨ab, ao, rfl, hca⟩ := HA.out.get hkl
        obtain ⟨bb, bo, rfl, hcb⟩ := HB.out.get hkb
        have gq : w.grownBy (w.drewN n) none := ⟨rfl, rfl, rfl, Nat.le_refl _, fun k hk hn => rfl⟩
        have h1 := cell_still (hca k hkl) gq
        have h2 := cell_still (hcb k hkb) gq
        have i1 : (k : Int) < (a.length : Int) := by omega
        have i2 : (k : Int) < (b.length : Int) := by omega
        obtain ⟨p, hp⟩ : ∃ p, p = a.getD k 0 := ⟨_, rfl⟩
        obtain ⟨q, hq⟩ : ∃ q, q = b.getD k 0 := ⟨_, rfl⟩
        rw [← hp] at h1
        rw [← hq] at h2
        have HPP := hide hp
        have HQQ := hide hq
        obtain ⟨wq, hwq⟩ : ∃ wq, wq = w.drewN n := ⟨_, rfl⟩
        rw [← hwq] at h1 h2 ⊢
        have HW := hide hwq
        clear hp hq hca hcb gq hwq
        by_cases hd : p = q
        · have bd : (p != q) = false := by simp [hd]
          have HD := hide hd
          clear hd
          go_wp2_with fail
          go_quiet (fail)
          go_wp2_with fail
          go_roundw
          case rel =>
            refine ⟨k + 1, n + nq, by omega, by go_num, fun t ht => ?_, by rw [HW.out]; simp [World.drewN, Nat.add_assoc]⟩
            rcases lt_succ_cases ht with h | rfl
            · exact HP.out t h
            · rw [← HPP.out, ← HQQ.out]; exact HD.out
          case measure => simp [intOf]; omega
        · have bd : (p != q) = true := by simpa using hd
          have E : Hid (decide (a = b) = false) := by show _ = _; exact decide_eq_false (list_ne hkl HL.out (by rw [← HPP.out, ← HQQ.out]; exact hd))
          clear hd
          go_wp2_with fail
          go_quiet (fail)
          go_wp2
          go_ret
          exact ⟨by rw [E.out]; rfl, n + nq, by rw [HW.out]; simp [World.drewN, Nat.add_assoc]⟩
      · have E : Hid (decide (a = b) = true) := by show _ = _; exact decide_eq_true (list_eq HL.out (fun t ht => HP.out t (by omega)))
        go_wp2
        go_ret
        exact ⟨by rw [E.out]; rfl, n, rfl⟩
  · have b0 : ((a.length : Int) != (b.length : Int)) = true := by simpa using (fun h => hl (by omega) : ¬ (a.length : Int) = b.length)
    have E : Hid (decide (a = b) = false) := by show _ = _; exact decide_eq_false (fun h => hl (by rw [h]))
    clear hl
    go_enter Tryz.func53, Tryz.ntmps53
    go_wp2
    go_ret
    exact ⟨by rw [E.out]; rfl, 0, rfl⟩
end Go.Proofs.YtfladhogkhhlcaaGreatDoor

/- Products with turning, and normalization, by the walk (mkIGemm.py). -/
namespace Go.Proofs.YtfladhogkhhlcaaGreatDoor
open Go.RowKit

theorem turnedP_len {x r : List Int} {t : Int} (h : turnedP x t = .ok r) : r.length ≤ 6 := by
  unfold turnedP mustP at h
  by_cases hl : x.length = 2
  · rw [if_pos (by simpa using hl)] at h
    cases hk : isOnP t with
    | error c => rw [hk] at h; simp [bind, Except.bind] at h
    | ok on =>
      rw [hk] at h
      have e : (if on = true then [x.getD 1 0, x.getD 0 0] else x) = r := by simpa [bind, Except.bind, pure, Except.pure] using h
      rw [← e]
      split
      · simp
      · omega
  · rw [if_neg (by simpa using hl)] at h
    simp [bind, Except.bind] at h

set_option maxRecDepth 100000 in
set_option maxHeartbeats 8000000 in
theorem gemm_any (n : Nod) (A : At) (u : Sl) (p0 p1 : Val × List Int) (rest : List (Val × List Int)) (w : World) (hn : NodeOk w n A) (hv : ValsIn w u.v (p0 :: p1 :: rest)) (hr : rest.length ≤ 1) : Calls Tryz.prog 126 #[nval n, .slice u.a u.n u.c] w (Ended w (gemmP A p0.2 p1.2 (rest.head?.map (·.2))) DimsQ) := by
  obtain ⟨xa, xc, e1, q1, q2, q3⟩ := hv.vals.form
  rw [List.length_map] at e1 q1 q3
  obtain ⟨ua, un, uc⟩ := u
  simp only [Sl.v, Value.slice.injEq] at e1
  obtain ⟨rfl, rfl, rfl⟩ := e1
  have HV := hide hv
  obtain ⟨b, off, rfl⟩ := hv.vals.addr (k := 0) (by simp)
  obtain ⟨-, z0⟩ := hv.at 0 (by simp)
  obtain ⟨-, z1⟩ := hv.at 1 (by simp)
  rw [Nat.zero_mul, Nat.add_zero] at z0
  rw [Nat.one_mul] at z1
  simp only [List.getElem_cons_zero, List.getElem_cons_succ] at z0 z1
  have HX := hide (hv.dims p0 (by simp))
  have HY := hide (hv.dims p1 (by simp))
  obtain ⟨⟨pn0, pt0, d0⟩, x⟩ := p0
  obtain ⟨⟨pn1, pt1, d1⟩, y⟩ := p1
  simp only at z0 z1 HX HY ⊢
  obtain ⟨m, hm⟩ : ∃ m, m = (((⟨pn0, pt0, d0⟩, x) :: (⟨pn1, pt1, d1⟩, y) :: rest) : List (Val × List Int)).length := ⟨_, rfl⟩
  have HM : Hid (m = rest.length + 2) := by show _ = _; rw [hm]; simp
  have hm2 : 2 ≤ m := by have := HM.out; omega
  have hm0 : 0 < m := by omega
  have hm1 : 1 < m := by omega
  have hm1' : (1 : Int) < (m : Int) := by omega
  have hm0' : (0 : Int) < (m : Int) := by omega
  rw [← hm]
  rw [← hm] at q1 q3
  have Z0 := hide z0
  have Z1 := hide z1
  clear hv hm z0 z1
  have NK := hide hn
  obtain ⟨op, nam, ⟨ia, il, ic⟩, out, ⟨ao, al, cap⟩⟩ := n
  unfold nval
  simp only
  obtain ⟨w0, hw0⟩ : ∃ w0, w0 = w.alloc (.cells #[.string op, .string nam, .slice ia il ic, .string out, .slice ao al cap] 36) := ⟨_, rfl⟩
  have g0 : Hid (w.grownBy w0 none) := by show w.grownBy w0 none; rw [hw0]; exact grown_new _ _
  have hb0 := heap_alloc_new w (.cells #[.string op, .string nam, .slice ia il ic, .string out, .slice ao al cap] 36)
  rw [← hw0] at hb0
  have BX : Hid (∀ wx, w0.grownBy wx none → wx.heap[w.heap.size]? = some (.cells #[.string op, .string nam, .slice ia il ic, .string out, .slice ao al cap] 36 (0, 0))) := fun wx hg => box_kept hb0 hg
  clear hb0 hn
  have IA := hide (fun (wx : World) (hg : w0.grownBy wx none) => nint_any ⟨op, nam, ⟨ia, il, ic⟩, out, ⟨ao, al, cap⟩⟩ A ⟨#[116, 114, 97, 110, 115, 65]⟩ 0 wx (NK.out.more (grown_trans g0.out hg)))
  have IB := hide (fun (wx : World) (hg : w0.grownBy wx none) => nint_any ⟨op, nam, ⟨ia, il, ic⟩, out, ⟨ao, al, cap⟩⟩ A ⟨#[116, 114, 97, 110, 115, 66]⟩ 0 wx (NK.out.more (grown_trans g0.out hg)))
  unfold nval at IA IB
  simp only at IA IB
  obtain ⟨ta, hta⟩ : ∃ z, z = A.int ⟨#[116, 114, 97, 110, 115, 65]⟩ 0 := ⟨_, rfl⟩
  obtain ⟨tb, htb⟩ : ∃ z, z = A.int ⟨#[116, 114, 97, 110, 115, 66]⟩ 0 := ⟨_, rfl⟩
  rw [← hta] at IA
  rw [← htb] at IB
  have E : Hid (gemmP A x y (rest.head?.map (·.2)) = (turnedP x ta).bind (fun a => (turnedP y tb).bind (fun b => (productP a b).bind (fun dims => match rest.head?.map (·.2) with
    | none => .ok dims
    | some c => (spreadP dims c).bind (fun s => (mustP (decide (s = dims))).bind (fun _ => .ok dims)))))) := by show _ = _; rw [hta, htb]; unfold gemmP; cases rest.head?.map (·.2) <;> rfl
  have TA := hide (fun (wx : World) (hg : w0.grownBy wx none) => turned_any d0 x ta wx (HX.out.more (grown_trans g0.out hg)))
  have TB := hide (fun (wx : World) (hg : w0.grownBy wx none) => turned_any d1 y tb wx (HY.out.more (grown_trans g0.out hg)))
  have D0 : Hid (∀ wx, w0.grownBy wx none → wx.cell? ⟨b, off + 2, none⟩ = some (.slice d0.a d0.n d0.c)) := fun wx hg => cell_still Z0.out (grown_trans g0.out hg)
  have D1 : Hid (∀ wx, w0.grownBy wx none → wx.cell? ⟨b, off + 3 + 2, none⟩ = some (.slice d1.a d1.n d1.c)) := fun wx hg => cell_still Z1.out (grown_trans g0.out hg)
  have zk := D0.out w0 (grown_refl _)
  obtain ⟨n0, n1, n2, n3, n4⟩ := nod_cells (n := ⟨op, nam, ⟨ia, il, ic⟩, out, ⟨ao, al, cap⟩⟩) (BX.out w0 (grown_refl _))
  clear hta htb
  go_enter Tryz.func126, Tryz.ntmps126
  go_wp2_with fail
  rw [← hw0]
  clear hw0
  cases hk : turnedP x ta with
  | error c =>
    rw [hk] at TA
    have E0 : Hid (gemmP A x y (rest.head?.map (·.2)) = .error c) := by show _ = _; rw [E.out, hk]; rfl
    clear hk
    refine wp_region_held_drew (S := (fun w' => w'.cell? ⟨w.heap.size, 0, none⟩ = some (.string op) ∧ w'.cell? ⟨w.heap.size, 1, none⟩ = some (.string nam) ∧ w'.cell? ⟨w.heap.size, 2, none⟩ = some (.slice ia il ic) ∧ w'.cell? ⟨w.heap.size, 3, none⟩ = some (.string out) ∧ w'.cell? ⟨w.heap.size, 4, none⟩ = some (.slice ao al cap) ∧ w'.cell? ⟨b, off + 2, none⟩ = some (.slice d0.a d0.n d0.c))) (by kernel_rfl) (by go_keep) (fun hHeld => ?_)
    refine wpAnyH_take (i := 0) (v := ?_) rfl (by kernel_rfl) (by kernel_rfl) (by kernel_rfl) (fun _ _ _ h => h) (Or.inl ⟨by rfl, ?_⟩) (by assumption) ?_
    rotate_left 1
    · (intro w hSw; (try dsimp only at hSw); go_simp; (try with_reducible rfl))
    try simp only [Act.put]
    refine wpAnyH_take (i := 1) (v := ?_) rfl (by kernel_rfl) (by kernel_rfl) (by kernel_rfl) (fun _ _ _ h => h) (Or.inl ⟨by rfl, ?_⟩) (by assumption) ?_
    rotate_left 1
    · (intro w hSw; (try dsimp only at hSw); go_simp; (try with_reducible rfl))
    try simp only [Act.put]
    refine wpAnyH_take (i := 2) (v := ?_) rfl (by kernel_rfl) (by kernel_rfl) (by kernel_rfl) (fun _ _ _ h => h) (Or.inl ⟨by rfl, ?_⟩) (by assumption) ?_
    rotate_left 1
    · (intro w hSw; (try dsimp only at hSw); go_simp; (try with_reducible rfl))
    try simp only [Act.put]
    refine wpAnyH_take (i := 3) (v := ?_) rfl (by kernel_rfl) (by kernel_rfl) (by kernel_rfl) (fun _ _ _ h => h) (Or.inl ⟨by rfl, ?_⟩) (by assumption) ?_
    rotate_left 1
    · (intro w hSw; (try dsimp only at hSw); go_simp; (try with_reducible rfl))
    try simp only [Act.put]
    refine wpAnyH_take (i := 4) (v := ?_) rfl (by kernel_rfl) (by kernel_rfl) (by kernel_rfl) (fun _ _ _ h => h) (Or.inl ⟨by rfl, ?_⟩) (by assumption) ?_
    rotate_left 1
    · (intro w hSw; (try dsimp only at hSw); go_simp; (try with_reducible rfl))
    try simp only [Act.put]
    refine wpAnyH_ready (rs := [5]) (by kernel_rfl) (by simp) ?_
    refine AllReadyH.cons rfl (fun K hK => ?_) ?_
    · skip
      go_simp
      refine (IA.out _ (grown_drew (grown_refl _))).mono ?_
      rintro e v0 ⟨rfl, hgi0⟩
      have gi0 : w0.grownBy v0 none := grown_trans (grown_drew (grown_refl _)) hgi0
      obtain ⟨n0, n1, n2, n3, n4⟩ := nod_cells (n := ⟨op, nam, ⟨ia, il, ic⟩, out, ⟨ao, al, cap⟩⟩) (BX.out v0 (gi0))
      have zk := D0.out v0 gi0
      try dsimp only
      refine hK.out _ _ (by first | assumption | go_keep) (fun hHeld => ?_)
      clear hK K
      try simp only [Act.put]
      refine wpAnyH_ready (rs := [6]) (by kernel_rfl) (by simp) ?_
      refine AllReadyH.cons rfl (fun K hK => ?_) ?_
      · skip
        go_simp
        refine (TA.out _ gi0).mono ?_
        rintro e wy ⟨hg, rfl⟩
        exact ⟨rfl, ended_err E0.out (grown_trans (grown_trans g0.out gi0) hg)⟩
      exact AllReadyH.nil
    exact AllReadyH.nil
  | ok a =>
    rw [hk] at TA
    have AL := hide (turnedP_len hk)
    have EA : Hid (gemmP A x y (rest.head?.map (·.2)) = (turnedP y tb).bind (fun b => (productP a b).bind (fun dims => match rest.head?.map (·.2) with
      | none => .ok dims
      | some c => (spreadP dims c).bind (fun s => (mustP (decide (s = dims))).bind (fun _ => .ok dims))))) := by show _ = _; rw [E.out, hk]; rfl
    clear hk E
    refine wp_region_held_drew (S := (fun w' => w'.cell? ⟨w.heap.size, 0, none⟩ = some (.string op) ∧ w'.cell? ⟨w.heap.size, 1, none⟩ = some (.string nam) ∧ w'.cell? ⟨w.heap.size, 2, none⟩ = some (.slice ia il ic) ∧ w'.cell? ⟨w.heap.size, 3, none⟩ = some (.string out) ∧ w'.cell? ⟨w.heap.size, 4, none⟩ = some (.slice ao al cap) ∧ w'.cell? ⟨b, off + 2, none⟩ = some (.slice d0.a d0.n d0.c))) (by kernel_rfl) (by go_keep) (fun hHeld => ?_)
    refine wpAnyH_take (i := 0) (v := ?_) rfl (by kernel_rfl) (by kernel_rfl) (by kernel_rfl) (fun _ _ _ h => h) (Or.inl ⟨by rfl, ?_⟩) (by assumption) ?_
    rotate_left 1
    · (intro w hSw; (try dsimp only at hSw); go_simp; (try with_reducible rfl))
    try simp only [Act.put]
    refine wpAnyH_take (i := 1) (v := ?_) rfl (by kernel_rfl) (by kernel_rfl) (by kernel_rfl) (fun _ _ _ h => h) (Or.inl ⟨by rfl, ?_⟩) (by assumption) ?_
    rotate_left 1
    · (intro w hSw; (try dsimp only at hSw); go_simp; (try with_reducible rfl))
    try simp only [Act.put]
    refine wpAnyH_take (i := 2) (v := ?_) rfl (by kernel_rfl) (by kernel_rfl) (by kernel_rfl) (fun _ _ _ h => h) (Or.inl ⟨by rfl, ?_⟩) (by assumption) ?_
    rotate_left 1
    · (intro w hSw; (try dsimp only at hSw); go_simp; (try with_reducible rfl))
    try simp only [Act.put]
    refine wpAnyH_take (i := 3) (v := ?_) rfl (by kernel_rfl) (by kernel_rfl) (by kernel_rfl) (fun _ _ _ h => h) (Or.inl ⟨by rfl, ?_⟩) (by assumption) ?_
    rotate_left 1
    · (intro w hSw; (try dsimp only at hSw); go_simp; (try with_reducible rfl))
    try simp only [Act.put]
    refine wpAnyH_take (i := 4) (v := ?_) rfl (by kernel_rfl) (by kernel_rfl) (by kernel_rfl) (fun _ _ _ h => h) (Or.inl ⟨by rfl, ?_⟩) (by assumption) ?_
    rotate_left 1
    · (intro w hSw; (try dsimp only at hSw); go_simp; (try with_reducible rfl))
    try simp only [Act.put]
    refine wpAnyH_ready (rs := [5]) (by kernel_rfl) (by simp) ?_
    refine AllReadyH.cons rfl (fun K hK => ?_) ?_
    · skip
      go_simp
      refine (IA.out _ (grown_drew (grown_refl _))).mono ?_
      rintro e v0 ⟨rfl, hgi0⟩
      have gi0 : w0.grownBy v0 none := grown_trans (grown_drew (grown_refl _)) hgi0
      obtain ⟨n0, n1, n2, n3, n4⟩ := nod_cells (n := ⟨op, nam, ⟨ia, il, ic⟩, out, ⟨ao, al, cap⟩⟩) (BX.out v0 (gi0))
      have zk := D0.out v0 gi0
      try dsimp only
      refine hK.out _ _ (by first | assumption | go_keep) (fun hHeld => ?_)
      clear hK K
      try simp only [Act.put]
      refine wpAnyH_ready (rs := [6]) (by kernel_rfl) (by simp) ?_
      refine AllReadyH.cons rfl (fun K hK => ?_) ?_
      · skip
        go_simp
        refine (TA.out _ gi0).mono ?_
        rintro e t0 ⟨hgt0, v, rfl, ⟨s0a, s0n, s0c⟩, rfl, hs0⟩
        have gt0 : w0.grownBy t0 none := grown_trans gi0 hgt0
        obtain ⟨n0, n1, n2, n3, n4⟩ := nod_cells (n := ⟨op, nam, ⟨ia, il, ic⟩, out, ⟨ao, al, cap⟩⟩) (BX.out t0 (gt0))
        have zk := D0.out t0 gt0
        try dsimp only
        refine hK.out _ _ (by first | assumption | go_keep) (fun hHeld => ?_)
        clear hK K
        try simp only [Act.put]
        refine wpAnyH_take (i := 7) (v := ?_) rfl (by kernel_rfl) (by kernel_rfl) (by kernel_rfl) (fun _ _ _ h => h) (Or.inl ⟨by rfl, ?_⟩) (by assumption) ?_
        rotate_left 1
        · (intro w hSw; (try dsimp only at hSw); go_simp; (try with_reducible rfl))
        try simp only [Act.put]
        refine wpAnyH_done (by kernel_rfl) ?_ _
        try go_simp
        simp only [Sl.v]
        have zk := D1.out t0 gt0
        go_wp2_with fail
        cases hk1 : turnedP y tb with
        | error c =>
          rw [hk1] at TB
          have E1 : Hid (gemmP A x y (rest.head?.map (·.2)) = .error c) := by show _ = _; rw [EA.out, hk1]; rfl
          clear hk1
          refine wp_region_held_drew (S := (fun w' => w'.cell? ⟨w.heap.size, 0, none⟩ = some (.string op) ∧ w'.cell? ⟨w.heap.size, 1, none⟩ = some (.string nam) ∧ w'.cell? ⟨w.heap.size, 2, none⟩ = some (.slice ia il ic) ∧ w'.cell? ⟨w.heap.size, 3, none⟩ = some (.string out) ∧ w'.cell? ⟨w.heap.size, 4, none⟩ = some (.slice ao al cap) ∧ w'.cell? ⟨b, off + 3 + 2, none⟩ = some (.slice d1.a d1.n d1.c))) (by kernel_rfl) (by go_keep) (fun hHeld => ?_)
          refine wpAnyH_take (i := 0) (v := ?_) rfl (by kernel_rfl) (by kernel_rfl) (by kernel_rfl) (fun _ _ _ h => h) (Or.inl ⟨by rfl, ?_⟩) (by assumption) ?_
          rotate_left 1
          · (intro w hSw; (try dsimp only at hSw); go_simp; (try with_reducible rfl))
          try simp only [Act.put]
          refine wpAnyH_take (i := 1) (v := ?_) rfl (by kernel_rfl) (by kernel_rfl) (by kernel_rfl) (fun _ _ _ h => h) (Or.inl ⟨by rfl, ?_⟩) (by assumption) ?_
          rotate_left 1
          · (intro w hSw; (try dsimp only at hSw); go_simp; (try with_reducible rfl))
          try simp only [Act.put]
          refine wpAnyH_take (i := 2) (v := ?_) rfl (by kernel_rfl) (by kernel_rfl) (by kernel_rfl) (fun _ _ _ h => h) (Or.inl ⟨by rfl, ?_⟩) (by assumption) ?_
          rotate_left 1
          · (intro w hSw; (try dsimp only at hSw); go_simp; (try with_reducible rfl))
          try simp only [Act.put]
          refine wpAnyH_take (i := 3) (v := ?_) rfl (by kernel_rfl) (by kernel_rfl) (by kernel_rfl) (fun _ _ _ h => h) (Or.inl ⟨by rfl, ?_⟩) (by assumption) ?_
          rotate_left 1
          · (intro w hSw; (try dsimp only at hSw); go_simp; (try with_reducible rfl))
          try simp only [Act.put]
          refine wpAnyH_take (i := 4) (v := ?_) rfl (by kernel_rfl) (by kernel_rfl) (by kernel_rfl) (fun _ _ _ h => h) (Or.inl ⟨by rfl, ?_⟩) (by assumption) ?_
          rotate_left 1
          · (intro w hSw; (try dsimp only at hSw); go_simp; (try with_reducible rfl))
          try simp only [Act.put]
          refine wpAnyH_ready (rs := [5]) (by kernel_rfl) (by simp) ?_
          refine AllReadyH.cons rfl (fun K hK => ?_) ?_
          · skip
            go_simp
            refine (IB.out _ (grown_drew (gt0))).mono ?_
            rintro e v1 ⟨rfl, hgi1⟩
            have gi1 : w0.grownBy v1 none := grown_trans (grown_drew (gt0)) hgi1
            obtain ⟨n0, n1, n2, n3, n4⟩ := nod_cells (n := ⟨op, nam, ⟨ia, il, ic⟩, out, ⟨ao, al, cap⟩⟩) (BX.out v1 (gi1))
            have zk := D1.out v1 gi1
            try dsimp only
            refine hK.out _ _ (by first | assumption | go_keep) (fun hHeld => ?_)
            clear hK K
            try simp only [Act.put]
            refine wpAnyH_ready (rs := [6]) (by kernel_rfl) (by simp) ?_
            refine AllReadyH.cons rfl (fun K hK => ?_) ?_
            · skip
              go_simp
              refine (TB.out _ gi1).mono ?_
              rintro e wy ⟨hg, rfl⟩
              exact ⟨rfl, ended_err E1.out (grown_trans (grown_trans g0.out gi1) hg)⟩
            exact AllReadyH.nil
          exact AllReadyH.nil
        | ok b' =>
          rw [hk1] at TB
          have BL := hide (turnedP_len hk1)
          have EB : Hid (gemmP A x y (rest.head?.map (·.2)) = (productP a b').bind (fun dims => match rest.head?.map (·.2) with
            | none => .ok dims
            | some c => (spreadP dims c).bind (fun s => (mustP (decide (s = dims))).bind (fun _ => .ok dims)))) := by show _ = _; rw [EA.out, hk1]; rfl
          clear hk1
          refine wp_region_held_drew (S := (fun w' => w'.cell? ⟨w.heap.size, 0, none⟩ = some (.string op) ∧ w'.cell? ⟨w.heap.size, 1, none⟩ = some (.string nam) ∧ w'.cell? ⟨w.heap.size, 2, none⟩ = some (.slice ia il ic) ∧ w'.cell? ⟨w.heap.size, 3, none⟩ = some (.string out) ∧ w'.cell? ⟨w.heap.size, 4, none⟩ = some (.slice ao al cap) ∧ w'.cell? ⟨b, off + 3 + 2, none⟩ = some (.slice d1.a d1.n d1.c))) (by kernel_rfl) (by go_keep) (fun hHeld => ?_)
          refine wpAnyH_take (i := 0) (v := ?_) rfl (by kernel_rfl) (by kernel_rfl) (by kernel_rfl) (fun _ _ _ h => h) (Or.inl ⟨by rfl, ?_⟩) (by assumption) ?_
          rotate_left 1
          · (intro w hSw; (try dsimp only at hSw); go_simp; (try with_reducible rfl))
          try simp only [Act.put]
          refine wpAnyH_take (i := 1) (v := ?_) rfl (by kernel_rfl) (by kernel_rfl) (by kernel_rfl) (fun _ _ _ h => h) (Or.inl ⟨by rfl, ?_⟩) (by assumption) ?_
          rotate_left 1
          · (intro w hSw; (try dsimp only at hSw); go_simp; (try with_reducible rfl))
          try simp only [Act.put]
          refine wpAnyH_take (i := 2) (v := ?_) rfl (by kernel_rfl) (by kernel_rfl) (by kernel_rfl) (fun _ _ _ h => h) (Or.inl ⟨by rfl, ?_⟩) (by assumption) ?_
          rotate_left 1
          · (intro w hSw; (try dsimp only at hSw); go_simp; (try with_reducible rfl))
          try simp only [Act.put]
          refine wpAnyH_take (i := 3) (v := ?_) rfl (by kernel_rfl) (by kernel_rfl) (by kernel_rfl) (fun _ _ _ h => h) (Or.inl ⟨by rfl, ?_⟩) (by assumption) ?_
          rotate_left 1
          · (intro w hSw; (try dsimp only at hSw); go_simp; (try with_reducible rfl))
          try simp only [Act.put]
          refine wpAnyH_take (i := 4) (v := ?_) rfl (by kernel_rfl) (by kernel_rfl) (by kernel_rfl) (fun _ _ _ h => h) (Or.inl ⟨by rfl, ?_⟩) (by assumption) ?_
          rotate_left 1
          · (intro w hSw; (try dsimp only at hSw); go_simp; (try with_reducible rfl))
          try simp only [Act.put]
          refine wpAnyH_ready (rs := [5]) (by kernel_rfl) (by simp) ?_
          refine AllReadyH.cons rfl (fun K hK => ?_) ?_
          · skip
            go_simp
            refine (IB.out _ (grown_drew (gt0))).mono ?_
            rintro e v1 ⟨rfl, hgi1⟩
            have gi1 : w0.grownBy v1 none := grown_trans (grown_drew (gt0)) hgi1
            obtain ⟨n0, n1, n2, n3, n4⟩ := nod_cells (n := ⟨op, nam, ⟨ia, il, ic⟩, out, ⟨ao, al, cap⟩⟩) (BX.out v1 (gi1))
            have zk := D1.out v1 gi1
            try dsimp only
            refine hK.out _ _ (by first | assumption | go_keep) (fun hHeld => ?_)
            clear hK K
            try simp only [Act.put]
            refine wpAnyH_ready (rs := [6]) (by kernel_rfl) (by simp) ?_
            refine AllReadyH.cons rfl (fun K hK => ?_) ?_
            · skip
              go_simp
              refine (TB.out _ gi1).mono ?_
              rintro e t1 ⟨hgt1, v, rfl, ⟨s1a, s1n, s1c⟩, rfl, hs1⟩
              have gt1 : w0.grownBy t1 none := grown_trans gi1 hgt1
              obtain ⟨n0, n1, n2, n3, n4⟩ := nod_cells (n := ⟨op, nam, ⟨ia, il, ic⟩, out, ⟨ao, al, cap⟩⟩) (BX.out t1 (gt1))
              have zk := D1.out t1 gt1
              try dsimp only
              refine hK.out _ _ (by first | assumption | go_keep) (fun hHeld => ?_)
              clear hK K
              try simp only [Act.put]
              refine wpAnyH_take (i := 7) (v := ?_) rfl (by kernel_rfl) (by kernel_rfl) (by kernel_rfl) (fun _ _ _ h => h) (Or.inl ⟨by rfl, ?_⟩) (by assumption) ?_
              rotate_left 1
              · (intro w hSw; (try dsimp only at hSw); go_simp; (try with_reducible rfl))
              try simp only [Act.put]
              refine wpAnyH_done (by kernel_rfl) ?_ _
              try go_simp
              simp only [Sl.v]
              have g01 : t0.grownBy t1 none := grown_trans (grown_drew (grown_refl _)) (grown_trans hgi1 hgt1)
              have PR := hide (product_any ⟨s0a, s0n, s0c⟩ ⟨s1a, s1n, s1c⟩ a b' t1 (hs0.more g01) hs1 AL.out BL.out)
              simp only at PR
              have GT := hide (grown_trans g0.out gt1)
              clear zk n0 n1 n2 n3 n4 hHeld
              cases hk2 : productP a b' with
              | error c =>
                rw [hk2] at PR
                have E2 : Hid (gemmP A x y (rest.head?.map (·.2)) = .error c) := by show _ = _; rw [EB.out, hk2]; rfl
                clear hk2
                go_wp2_with (first | (go_at_call 125; refine PR.out.mono ?_; rintro e w' ⟨hg, rfl⟩) | fail)
                exact ⟨rfl, ended_err E2.out (grown_trans GT.out hg)⟩
              | ok dims =>
                rw [hk2] at PR
                have E2 : Hid (gemmP A x y (rest.head?.map (·.2)) = match rest.head?.map (·.2) with
                  | none => .ok dims
                  | some c => (spreadP dims c).bind (fun s => (mustP (decide (s = dims))).bind (fun _ => .ok dims))) := by show _ = _; rw [EB.out, hk2]; rfl
                clear hk2
                cases rest with
                | nil =>
                  have b3 : ((m : Int) == 3) = false := by have := HM.out; simp at this; rw [this]; decide
                  have E3 : Hid (gemmP A x y (([] : List (Val × List Int)).head?.map (·.2)) = .ok dims) := E2.out
                  go_wp2_with (first | (go_at_call 125; refine PR.out.mono ?_; rintro e w' ⟨hg, v, rfl, ⟨da, dn, dc⟩, rfl, hd⟩; simp only [Sl.v]) | fail)
                  go_ret
                  exact ended_ok E3.out (grown_trans GT.out hg) ⟨⟨da, dn, dc⟩, rfl, hd⟩
                | cons p2 r2 =>
                  have hm3 : m = 3 := by have := HM.out; simp at this hr; rw [this, hr]; rfl
                  have b3 : ((m : Int) == 3) = true := by rw [hm3]; decide
                  obtain ⟨-, z2⟩ := HV.out.at 2 (by simp)
                  simp only [List.getElem_cons_zero, List.getElem_cons_succ] at z2
                  have HZ := hide (HV.out.dims p2 (by simp))
                  obtain ⟨⟨pn2, pt2, d2⟩, z⟩ := p2
                  simp only at z2 HZ
                  have z2' : w.cell? ⟨b, off + 6 + 2, none⟩ = some (.slice d2.a d2.n d2.c) := z2
                  have E3 : Hid (gemmP A x y ((((⟨pn2, pt2, d2⟩, z) : Val × List Int) :: r2).head?.map (·.2)) = (spreadP dims z).bind (fun s => (mustP (decide (s = dims))).bind (fun _ => .ok dims))) := E2.out
                  have Z2 := hide z2'
                  have hi2 : (2 : Int) < (m : Int) := by rw [hm3]; decide
                  have hi3 : 2 < m := by omega
                  clear z2 z2' hm3
                  go_wp2_with (first | (go_at_call 125; refine PR.out.mono ?_; rintro e w5 ⟨hg5, v, rfl, ⟨da, dn, dc⟩, rfl, hd⟩; simp only [Sl.v]; have z5 := cell_still Z2.out (grown_trans GT.out hg5)) | fail)
                  have G5 := hide (grown_trans GT.out hg5)
                  have SP := hide (spread_any ⟨da, dn, dc⟩ d2 dims z w5 hd (HZ.out.more G5.out))
                  simp only at SP
                  have HD := hide hd
                  clear hg5 hd z5
                  cases hk3 : spreadP dims z with
                  | error c =>
                    rw [hk3] at SP
                    have E4 : Hid (gemmP A x y ((((⟨pn2, pt2, d2⟩, z) : Val × List Int) :: r2).head?.map (·.2)) = .error c) := by show _ = _; rw [E3.out, hk3]; rfl
                    clear hk3
                    refine SP.out.mono ?_
                    rintro e w' ⟨hg, rfl⟩
                    exact ⟨rfl, ended_err E4.out (grown_trans G5.out hg)⟩
                  | ok s =>
                    rw [hk3] at SP
                    have E4 : Hid (gemmP A x y ((((⟨pn2, pt2, d2⟩, z) : Val × List Int) :: r2).head?.map (·.2)) = (mustP (decide (s = dims))).bind (fun _ => .ok dims)) := by show _ = _; rw [E3.out, hk3]; rfl
                    clear hk3
                    refine SP.out.mono ?_
                    rintro e w6 ⟨hg6, v, rfl, ⟨ea, en, ec⟩, rfl, hown⟩
                    simp only [Sl.v]
                    have G6 := hide (grown_trans G5.out hg6)
                    have EQ := hide (equal_any ⟨ea, en, ec⟩ ⟨da, dn, dc⟩ s dims w6 hown.ints (HD.out.more hg6))
                    simp only at EQ
                    have HD6 := hide (HD.out.more hg6)
                    clear hg6 hown
                    cases hk4 : decide (s = dims) with
                    | true =>
                      rw [hk4] at EQ
                      have E5 : Hid (gemmP A x y ((((⟨pn2, pt2, d2⟩, z) : Val × List Int) :: r2).head?.map (·.2)) = .ok dims) := by show _ = _; rw [E4.out, hk4]; rfl
                      clear hk4
                      go_wp2_with (first | (go_at_call 53; refine EQ.out.mono ?_; rintro e w7 ⟨rfl, nn, rfl⟩) | (go_at_call 87; refine (must_yes _).mono ?_; rintro e w' ⟨rfl, rfl⟩) | fail)
                      go_ret
                      exact ended_ok E5.out (grown_drewQ G6.out _) ⟨⟨da, dn, dc⟩, rfl, HD6.out.more (grown_drewQ (grown_refl _) _)⟩
                    | false =>
                      rw [hk4] at EQ
                      have E5 : Hid (gemmP A x y ((((⟨pn2, pt2, d2⟩, z) : Val × List Int) :: r2).head?.map (·.2)) = .error 4) := by show _ = _; rw [E4.out, hk4]; rfl
                      clear hk4
                      go_wp2_with (first | (go_at_call 53; refine EQ.out.mono ?_; rintro e w7 ⟨rfl, nn, rfl⟩) | (go_at_call 87; refine (must_no _).mono ?_; rintro e w' ⟨rfl, rfl⟩) | fail)
                      exact ⟨rfl, ended_err E5.out (grown_drewQ G6.out _)⟩
            exact AllReadyH.nil
          exact AllReadyH.nil
      exact AllReadyH.nil
    exact AllReadyH.nil
end Go.Proofs.YtfladhogkhhlcaaGreatDoor

/- dimsMade at MatMul and Transpose, by the walk (out of mkIDm.py's). -/
namespace Go.Proofs.YtfladhogkhhlcaaGreatDoor
open Go.RowKit

set_option maxRecDepth 100000 in
set_option maxHeartbeats 40000000 in
theorem dims_transposed (n : Nod) (A : At) (u : Sl) (v0 : Val) (x : List Int) (w : World) (hop : n.op ∈ ([⟨#[84, 114, 97, 110, 115, 112, 111, 115, 101]⟩] : List ByteArray)) (hn : NodeOk w n A) (hv : ValsIn w u.v [(v0, x)]) (hf : Fine x) : Calls Tryz.prog 91 #[nval n, .slice u.a u.n u.c] w (Ended w (transposedP A x) DimsQ) := by
  obtain ⟨xa, xc, e1, q1, q2, q3⟩ := hv.vals.form
  simp only [List.map_cons, List.map_nil, List.length_cons, List.length_nil, Nat.zero_add] at e1 q1 q3
  obtain ⟨ua, un, uc⟩ := u
  simp only [Sl.v, Value.slice.injEq] at e1
  obtain ⟨rfl, rfl, rfl⟩ := e1
  obtain ⟨b, off, rfl⟩ := hv.vals.addr (k := 0) (by simp)
  obtain ⟨-, z0⟩ := hv.at 0 (by simp)
  rw [Nat.zero_mul, Nat.add_zero] at z0
  simp only [List.getElem_cons_zero] at z0
  have HX := hide (hv.dims (v0, x) (by simp))
  obtain ⟨vn0, vt0, ⟨d0a, d0n, d0c⟩⟩ := v0
  simp only at z0 HX
  have Z0 := hide z0
  clear hv z0
  have NK := hide hn
  obtain ⟨op, nam, ⟨ia, il, ic⟩, out, ⟨ao, al, cap⟩⟩ := n
  unfold nval
  simp only
  obtain ⟨w0, hw0⟩ : ∃ w0, w0 = w.alloc (.cells #[.string op, .string nam, .slice ia il ic, .string out, .slice ao al cap] 36) := ⟨_, rfl⟩
  have g0 : Hid (w.grownBy w0 none) := by show w.grownBy w0 none; rw [hw0]; exact grown_new _ _
  have hb0 := heap_alloc_new w (.cells #[.string op, .string nam, .slice ia il ic, .string out, .slice ao al cap] 36)
  rw [← hw0] at hb0
  have BX : Hid (∀ wx, w0.grownBy wx none → wx.heap[w.heap.size]? = some (.cells #[.string op, .string nam, .slice ia il ic, .string out, .slice ao al cap] 36 (0, 0))) := fun wx hg => box_kept hb0 hg
  clear hb0 hn
  simp only at hop
  have z0 : (w.alloc (.cells #[.string op, .string nam, .slice ia il ic, .string out, .slice ao al cap] 36)).cell? ⟨b, off + 2, none⟩ = some (.slice d0a d0n d0c) := cell_still Z0.out (grown_new _ _)
  have C := hide (transposed_any ⟨op, nam, ⟨ia, il, ic⟩, out, ⟨ao, al, cap⟩⟩ A ⟨d0a, d0n, d0c⟩ x w0 (NK.out.more g0.out) (HX.out.more g0.out) hf)
  unfold nval at C
  simp only at C
  simp only [List.mem_cons, List.not_mem_nil, or_false] at hop
  subst hop
  all_goals
    go_enter Tryz.func91, Tryz.ntmps91
    go_wp2_with fail
    rw [← hw0]
    clear hw0
    cases hk : transposedP A x with
    | error c =>
      rw [hk] at C
      have HK := hide hk
      clear hk
      refine C.out.mono ?_
      rintro e w' ⟨hg, rfl⟩
      exact ⟨rfl, ended_err (by first | exact HK.out | rfl) (grown_trans g0.out hg)⟩
    | ok zs =>
      rw [hk] at C
      have HK := hide hk
      clear hk
      refine C.out.mono ?_
      rintro e w' ⟨hg, v, rfl, ⟨s1, s2, s3⟩, rfl, hs⟩
      simp only [Sl.v]
      go_wp2
      go_ret
      exact ended_ok (by first | exact HK.out | rfl) (grown_trans g0.out hg) ⟨⟨s1, s2, s3⟩, rfl, hs⟩

set_option maxRecDepth 100000 in
set_option maxHeartbeats 40000000 in
theorem dims_product (n : Nod) (A : At) (u : Sl) (v0 v1 : Val) (x y : List Int) (w : World) (hop : n.op ∈ ([⟨#[77, 97, 116, 77, 117, 108]⟩] : List ByteArray)) (hn : NodeOk w n A) (hv : ValsIn w u.v [(v0, x), (v1, y)]) (hf : Fine x) (hfy : Fine y) : Calls Tryz.prog 91 #[nval n, .slice u.a u.n u.c] w (Ended w (productP x y) DimsQ) := by
  obtain ⟨xa, xc, e1, q1, q2, q3⟩ := hv.vals.form
  simp only [List.map_cons, List.map_nil, List.length_cons, List.length_nil, Nat.zero_add, Nat.reduceAdd] at e1 q1 q3
  obtain ⟨ua, un, uc⟩ := u
  simp only [Sl.v, Value.slice.injEq] at e1
  obtain ⟨rfl, rfl, rfl⟩ := e1
  obtain ⟨b, off, rfl⟩ := hv.vals.addr (k := 0) (by simp)
  obtain ⟨-, z0⟩ := hv.at 0 (by simp)
  rw [Nat.zero_mul, Nat.add_zero] at z0
  simp only [List.getElem_cons_zero] at z0
  have HX := hide (hv.dims (v0, x) (by simp))
  obtain ⟨-, z1⟩ := hv.at 1 (by simp)
  rw [Nat.one_mul] at z1
  simp only [List.getElem_cons_zero, List.getElem_cons_succ] at z1
  have HY := hide (hv.dims (v1, y) (by simp))
  obtain ⟨vn1, vt1, ⟨d1a, d1n, d1c⟩⟩ := v1
  simp only at z1 HY
  have Z1 := hide z1
  clear z1
  obtain ⟨vn0, vt0, ⟨d0a, d0n, d0c⟩⟩ := v0
  simp only at z0 HX
  have Z0 := hide z0
  clear hv z0
  have NK := hide hn
  obtain ⟨op, nam, ⟨ia, il, ic⟩, out, ⟨ao, al, cap⟩⟩ := n
  unfold nval
  simp only
  obtain ⟨w0, hw0⟩ : ∃ w0, w0 = w.alloc (.cells #[.string op, .string nam, .slice ia il ic, .string out, .slice ao al cap] 36) := ⟨_, rfl⟩
  have g0 : Hid (w.grownBy w0 none) := by show w.grownBy w0 none; rw [hw0]; exact grown_new _ _
  have hb0 := heap_alloc_new w (.cells #[.string op, .string nam, .slice ia il ic, .string out, .slice ao al cap] 36)
  rw [← hw0] at hb0
  have BX : Hid (∀ wx, w0.grownBy wx none → wx.heap[w.heap.size]? = some (.cells #[.string op, .string nam, .slice ia il ic, .string out, .slice ao al cap] 36 (0, 0))) := fun wx hg => box_kept hb0 hg
  clear hb0 hn
  simp only at hop
  have z0 : (w.alloc (.cells #[.string op, .string nam, .slice ia il ic, .string out, .slice ao al cap] 36)).cell? ⟨b, off + 2, none⟩ = some (.slice d0a d0n d0c) := cell_still Z0.out (grown_new _ _)
  have z1 : (w.alloc (.cells #[.string op, .string nam, .slice ia il ic, .string out, .slice ao al cap] 36)).cell? ⟨b, off + 3 + 2, none⟩ = some (.slice d1a d1n d1c) := cell_still Z1.out (grown_new _ _)
  have C := hide (product_any ⟨d0a, d0n, d0c⟩ ⟨d1a, d1n, d1c⟩ x y w0 (HX.out.more g0.out) (HY.out.more g0.out) hf.few hfy.few)
  simp only at C
  simp only [List.mem_cons, List.not_mem_nil, or_false] at hop
  subst hop
  all_goals
    go_enter Tryz.func91, Tryz.ntmps91
    go_wp2_with fail
    rw [← hw0]
    clear hw0
    cases hk : productP x y with
    | error c =>
      rw [hk] at C
      have HK := hide hk
      clear hk
      refine C.out.mono ?_
      rintro e w' ⟨hg, rfl⟩
      exact ⟨rfl, ended_err (by first | exact HK.out | rfl) (grown_trans g0.out hg)⟩
    | ok zs =>
      rw [hk] at C
      have HK := hide hk
      clear hk
      refine C.out.mono ?_
      rintro e w' ⟨hg, v, rfl, ⟨s1, s2, s3⟩, rfl, hs⟩
      simp only [Sl.v]
      go_wp2
      go_ret
      exact ended_ok (by first | exact HK.out | rfl) (grown_trans g0.out hg) ⟨⟨s1, s2, s3⟩, rfl, hs⟩
end Go.Proofs.YtfladhogkhhlcaaGreatDoor
