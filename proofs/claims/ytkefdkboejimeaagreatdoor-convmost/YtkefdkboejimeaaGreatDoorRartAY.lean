/- Joined texts: ITy, IValue, IValueOf, IWin. -/
import Derived.Test.YtkefdkboejimeaaGreatDoorRartAV
import Derived.Test.YtkefdkboejimeaaGreatDoorRartAX
import Derived.Test.YtkefdkboejimeaaGreatDoorRartAT
import Derived.Deep.RegionHeld3
namespace Go.Proofs.YtkefdkboejimeaaGreatDoor

open Go.RowKit

theorem ValsIn.at {w : World} {b off n c : Nat} {vs : List (Val × List Int)} (h : ValsIn w (.slice (some ⟨b, off, none⟩) n c) vs) (k : Nat) (hk : k < vs.length) : w.cell? ⟨b, off + k * 3 + 1, none⟩ = some (.int .i64 (vs[k].1.ty)) ∧ w.cell? ⟨b, off + k * 3 + 2, none⟩ = some (.slice vs[k].1.dv.a vs[k].1.dv.n vs[k].1.dv.c) := by
  obtain ⟨-, h1, h2⟩ := h.vals.val k (by rw [List.length_map]; exact hk)
  rw [List.getElem_map] at h1 h2
  exact ⟨h1, h2⟩

def tysOf (vs : List (Val × List Int)) : List Int := vs.map (·.1.ty)

set_option maxRecDepth 100000 in
set_option maxHeartbeats 40000000 in
theorem type_float (n : Nod) (A : At) (u : Sl) (vs : List (Val × List Int)) (w : World) (hop : n.op ∈ ([⟨#[67, 108, 105, 112]⟩, ⟨#[83, 111, 102, 116, 109, 97, 120]⟩, ⟨#[82, 101, 100, 117, 99, 101, 77, 101, 97, 110]⟩, ⟨#[80, 97, 100]⟩, ⟨#[77, 97, 116, 77, 117, 108]⟩, ⟨#[71, 101, 109, 109]⟩, ⟨#[67, 111, 110, 118]⟩, ⟨#[77, 97, 120, 80, 111, 111, 108]⟩, ⟨#[65, 118, 101, 114, 97, 103, 101, 80, 111, 111, 108]⟩, ⟨#[71, 108, 111, 98, 97, 108, 65, 118, 101, 114, 97, 103, 101, 80, 111, 111, 108]⟩, ⟨#[66, 97, 116, 99, 104, 78, 111, 114, 109, 97, 108, 105, 122, 97, 116, 105, 111, 110]⟩] : List ByteArray)) (hn : NodeOk w n A) (hv : ValsIn w u.v vs) (hp : 0 < vs.length) (hf : vs.length ≤ 1000000) (ht : ∀ s ∈ tysOf vs, isTypeP s = true) : Calls Tryz.prog 121 #[nval n, .slice u.a u.n u.c] w (Ended w ((sameP (tysOf vs)).bind (fun t => (mustP (t == 1)).bind (fun _ => .ok (1 : Int)))) fun t v _ => v = .int .i64 t) := by
  obtain ⟨xa, xc, e1, p1, p2, p3⟩ := hv.vals.form
  rw [List.length_map] at e1 p1 p3
  obtain ⟨ua, un, uc⟩ := u
  simp only [Sl.v, Value.slice.injEq] at e1
  obtain ⟨rfl, rfl, rfl⟩ := e1
  have HV := hide hv
  have HT := hide ht
  clear hv ht
  have NK := hide hn
  obtain ⟨op, nam, ⟨ia, il, ic⟩, out, ⟨ao, al, cap⟩⟩ := n
  unfold nval
  simp only
  obtain ⟨w0, hw0⟩ : ∃ w0, w0 = w.alloc (.cells #[.string op, .string nam, .slice ia il ic, .string out, .slice ao al cap] 35) := ⟨_, rfl⟩
  have g0 : Hid (w.grownBy w0 none) := by show w.grownBy w0 none; rw [hw0]; exact grown_new _ _
  have hb0 := heap_alloc_new w (.cells #[.string op, .string nam, .slice ia il ic, .string out, .slice ao al cap] 35)
  rw [← hw0] at hb0
  have BX : Hid (∀ wx, w0.grownBy wx none → wx.heap[w.heap.size]? = some (.cells #[.string op, .string nam, .slice ia il ic, .string out, .slice ao al cap] 35 (0, 0))) := fun wx hg => box_kept hb0 hg
  clear hb0 hn
  simp only at hop
  have SM := hide (sametype_any ⟨ua, vs.length, uc⟩ vs w0 (HV.out.more g0.out) hp hf)
  simp only at SM
  obtain ⟨X, hX⟩ : ∃ X, X = (sameP (tysOf vs)).bind (fun t => (mustP (t == 1)).bind (fun _ => .ok (1 : Int))) := ⟨_, rfl⟩
  have E0 : Hid (X = (sameP (vs.map (·.1.ty))).bind (fun t => (mustP (t == 1)).bind (fun _ => .ok (1 : Int)))) := hX
  rw [← hX]
  clear hX
  simp only [List.mem_cons, List.not_mem_nil, or_false] at hop
  rcases hop with rfl | rfl | rfl | rfl | rfl | rfl | rfl | rfl | rfl | rfl | rfl
  all_goals
    go_enter Tryz.func121, Tryz.ntmps121
    go_wp2_with fail
    rw [← hw0]
    clear hw0
    cases hk : sameP (vs.map (·.1.ty)) with
    | error c =>
      rw [hk] at SM
      have E : Hid (X = .error c) := by show _ = _; rw [E0.out, hk]; rfl
      clear hk
      refine SM.out.mono ?_
      rintro e w' ⟨hg, rfl⟩
      exact ⟨rfl, ended_err E.out (grown_trans g0.out hg)⟩
    | ok t =>
      rw [hk] at SM
      have E : Hid (X = (mustP (t == 1)).bind (fun _ => .ok (1 : Int))) := by show _ = _; rw [E0.out, hk]; rfl
      clear hk
      refine SM.out.mono ?_
      rintro e w' ⟨hg, v, rfl, rfl⟩
      cases h1 : (t == 1) with
      | true =>
        have E2 : Hid (X = .ok (1 : Int)) := by show _ = _; rw [E.out, h1]; rfl
        go_wp2_with (first | (go_at_call 118; refine (must_yes _).mono ?_; rintro e w'' ⟨rfl, rfl⟩) | fail)
        go_ret
        exact ended_ok E2.out (grown_trans g0.out hg) rfl
      | false =>
        have E2 : Hid (X = .error 4) := by show _ = _; rw [E.out, h1]; rfl
        go_wp2_with (first | (go_at_call 118; refine (must_no _).mono ?_; rintro e w'' ⟨rfl, rfl⟩) | fail)
        exact ⟨rfl, ended_err E2.out (grown_trans g0.out hg)⟩

end Go.Proofs.YtkefdkboejimeaaGreatDoor

namespace Go.Proofs.YtkefdkboejimeaaGreatDoor

open Go.RowKit

def vinP : List (Val × List Int) → R Unit
  | [] => .ok ()
  | p :: l => (typP p.1.ty).bind (fun _ => (countP p.2).bind (fun _ => vinP l))

def thenP (t : Int) : List ByteArray → R Unit
  | [] => .ok ()
  | o :: l => (mustP (oneOK o.toList t)).bind (fun _ => thenP t l)

theorem vinP_step {vs : List (Val × List Int)} {k : Nat} (hk : k < vs.length) : vinP (vs.drop k) = (typP vs[k].1.ty).bind (fun _ => (countP vs[k].2).bind (fun _ => vinP (vs.drop (k + 1)))) := by
  rw [List.drop_eq_getElem_cons hk]
  rfl

theorem thenP_step {t : Int} {os : List ByteArray} {k : Nat} (hk : k < os.length) : thenP t (os.drop k) = (mustP (oneOK os[k].toList t)).bind (fun _ => thenP t (os.drop (k + 1))) := by
  rw [List.drop_eq_getElem_cons hk]
  rfl

theorem valInfo : (Tryz.prog.info? 53).map (·.size) = some 3 := by kernel_rfl

theorem ret_val {fn : Func} {p : Tmp} (h : fn.results = #[.cell p 53]) (tmps : Array Value) (w : World) (B : Nat) (hp : tmps.getD p undef = .pointer (some ⟨B, 0, none⟩)) {a0 a1 a2 : Value}
    (hb : w.heap[B]? = some (.cells #[a0, a1, a2] 53 (0, 0))) : (results fn tmps).run Tryz.prog w = .ok (.agg #[a0, a1, a2]) w :=
  results_cell_row h tmps w B 53 #[a0, a1, a2] (0, 0) _ hp hb Tryz.underlying53 rfl (by rw [valInfo]; rfl)

set_option maxRecDepth 100000 in
set_option maxHeartbeats 2000000 in
theorem newvalue_any (nm : ByteArray) (t : Int) (u : Sl) (ds : List Int) (w : World) (hd : IsInts w u.v ds) (hs : nm.size ≤ 281474976710656) : Calls Tryz.prog 125 #[.string nm, .int .i64 t, .slice u.a u.n u.c] w fun e w' => ∃ s : Sl, e = .returned (.agg #[.string nm, .int .i64 t, .slice s.a s.n s.c]) ∧ Owns w' w.heap.size s.v ds ∧ w.grownBy w' none := by
  obtain ⟨w0, hw0⟩ : ∃ w0, w0 = w.alloc (.cells #[.string ⟨#[]⟩, .int .i64 0, .slice none 0 0] 53) := ⟨_, rfl⟩
  have g0 : Hid (w.grownBy w0 none) := by show w.grownBy w0 none; rw [hw0]; exact grown_new _ _
  have hb0 := heap_alloc_new w (.cells #[.string ⟨#[]⟩, .int .i64 0, .slice none 0 0] 53)
  rw [← hw0] at hb0
  have BX : Hid (∀ wx, w0.grownBy wx none → wx.heap[w.heap.size]? = some (.cells #[.string ⟨#[]⟩, .int .i64 0, .slice none 0 0] 53 (0, 0))) := fun wx hg => box_kept hb0 hg
  have SC := hide (strclone_any nm w0 hs)
  have HD := hide hd
  clear hb0 hd
  go_enter Tryz.func125, Tryz.ntmps125
  go_wp2_with fail
  rw [← hw0]
  clear hw0
  refine SC.out.mono ?_
  rintro e w1 ⟨rfl, hg1⟩
  have CL := hide (cloneI_any u ds w1 (HD.out.more (grown_trans g0.out hg1)))
  go_wp2_with (first | (go_at_call 111; refine CL.out.mono ?_; rintro e w2 ⟨⟨s1, s2, s3⟩, rfl, ho, hg2⟩; simp only; have g2 := grown_trans hg1 hg2; have B2 := BX.out w2 g2; obtain ⟨f0, f1, f2⟩ := ten_frozen B2; have c0 := (cell_of_row _ _ 0 _ _ (0, 0) B2).trans rfl; have c1 := (cell_of_row _ _ 1 _ _ (0, 0) B2).trans rfl; have c2 := (cell_of_row _ _ 2 _ _ (0, 0) B2).trans rfl) | fail)
  obtain ⟨hX, gX⟩ := store3t (.string nm) (.int .i64 t) (.slice s1 s2 s3) B2
  have gf : w.grownBy _ none := grown_drop (grown_trans g0.out g2) gX (Nat.le_refl _)
  refine bodyPost_ret (ret_val rfl _ _ w.heap.size rfl hX) rfl ?_
  refine ⟨⟨s1, s2, s3⟩, rfl, ?_, gf⟩
  have hb : w.heap.size < w1.heap.size := by have := (BX.out w1 hg1); exact (Array.getElem?_eq_some_iff.1 this).1
  have h := (ho.base_le (b' := w.heap.size + 1) (by omega)).more gX (by
    rcases ho.1.2 with ⟨e, -⟩ | ⟨gg, cap, cur, e, hgg, -⟩
    · exact .inl (by rw [e]; rfl)
    · exact .inr (by rw [e]; simp [Value.ownBlock]; omega))
  exact h.base_le (by omega)

end Go.Proofs.YtkefdkboejimeaaGreatDoor

namespace Go.Proofs.YtkefdkboejimeaaGreatDoor

open Go.RowKit

def valueP (ck : Int) (lens : Bool) (vs : List (Val × List Int)) (tS : R Int) (dS : R (List Int)) (os : List ByteArray) : R (Int × List Int) :=
  (stopP ck).bind (fun _ => (mustP lens).bind (fun _ => (vinP vs).bind (fun _ => tS.bind (fun t => dS.bind (fun d => (countP d).bind (fun _ => (thenP t os).bind (fun _ => .ok (t, d))))))))

theorem isOne_names {s : ByteArray} (h : isOne s = true) : s.toList ∈ names1 := by
  unfold isOne at h
  rw [List.any_eq_true] at h
  obtain ⟨n, hn, he⟩ := h
  have e : n = s.toList := by simpa using he
  rw [← e]
  revert n
  unfold ones names1
  intro n hn _ _
  exact hn

theorem thenL_ones (o : Option Atr) : ∀ s ∈ thenL o, isOne s = true := by
  intro s hs
  unfold thenL at hs
  cases o with
  | none => simp at hs
  | some a =>
    simp only at hs
    split at hs
    · rename_i hall
      obtain ⟨p, hp, rfl⟩ := List.mem_map.1 hs
      exact List.all_eq_true.1 hall p hp
    · simp at hs

theorem thenL_len {xs : List Atr} (h : ∀ a ∈ xs, a.s.size ≤ 1048576) (P : Atr → Bool) : (thenL (xs.find? P)).length ≤ 1048577 := by
  unfold thenL
  cases hf : xs.find? P with
  | none => simp
  | some a =>
    have h1 := h a (List.mem_of_find?_eq_some hf)
    have h2 := pcs_len a.s.data.toList
    simp only
    split
    · rw [List.length_map]
      have h3 : a.s.data.toList.length = a.s.size := by rw [Array.length_toList]; rfl
      omega
    · simp

set_option maxRecDepth 100000 in
set_option maxHeartbeats 4000000 in
theorem valueof_any (n : Nod) (A : At) (ins : List ByteArray) (u : Sl) (vs : List (Val × List Int)) (w : World) (hl : Laid w) (hni : NodeIn w n ins A.xs A.cs) (hv : ValsIn w u.v vs) (ho : n.out.size ≤ 281474976710656) (tS : R Int) (dS : R (List Int))
    (TM : checkF (ruleF n.op) n.op ins n.out A.xs A.cs = 0 → vs.length = ins.length → vinP vs = .ok () → ∀ wx, w.grownBy wx none → Calls Tryz.prog 121 #[nval n, .slice u.a u.n u.c] wx (Ended wx tS fun t v _ => v = .int .i64 t ∧ isTypeP t = true))
    (DM : checkF (ruleF n.op) n.op ins n.out A.xs A.cs = 0 → vs.length = ins.length → vinP vs = .ok () → ∀ wx, w.grownBy wx none → Calls Tryz.prog 122 #[nval n, .slice u.a u.n u.c] wx (Ended wx dS DimsQ)) :
    Calls Tryz.prog 95 #[nval n, .slice u.a u.n u.c] w (Ended w (valueP (checkF (ruleF n.op) n.op ins n.out A.xs A.cs) (decide (vs.length = ins.length)) vs tS dS (thenL (A.xs.find? (isA ⟨#[116, 104, 101, 110]⟩ 3)))) fun r v w' => ∃ s : Sl, v = .agg #[.string n.out, .int .i64 r.1, .slice s.a s.n s.c] ∧ Owns w' w.heap.size s.v r.2) := by
  obtain ⟨xa, xc, e1, q1, q2, q3⟩ := hv.vals.form
  rw [List.length_map] at e1 q1 q3
  obtain ⟨ua, un, uc⟩ := u
  simp only [Sl.v, Value.slice.injEq] at e1
  obtain ⟨rfl, rfl, rfl⟩ := e1
  have CK := hide (fun (wx : World) (hg : w.grownBy wx none) => check_in n ins A.xs A.cs wx (hl.more hg) (hni.more hg))
  have TH := hide (fun (wx : World) (hg : w.grownBy wx none) => then_any n A.xs wx (hl.more hg) (hni.more hg).av (fun a ha => by have := hni.short a ha; omega))
  have IL := hide hni.ins
  obtain ⟨ck, hck⟩ : ∃ c, c = checkF (ruleF n.op) n.op ins n.out A.xs A.cs := ⟨_, rfl⟩
  obtain ⟨os, hos⟩ : ∃ os, os = thenL (A.xs.find? (isA ⟨#[116, 104, 101, 110]⟩ 3)) := ⟨_, rfl⟩
  have OS : Hid (∀ s ∈ os, isOne s = true) := by show ∀ s ∈ os, _; rw [hos]; exact thenL_ones _
  have OsB : Hid (os.length ≤ 1048577) := by show os.length ≤ _; rw [hos]; exact thenL_len hni.short _
  rw [← hck] at CK TM DM ⊢
  rw [← hos] at TH ⊢
  have HV := hide hv
  have HTM := hide TM
  have HDM := hide DM
  clear hck hos hl hni hv TM DM
  obtain ⟨op, nam, ⟨ia, il, ic⟩, out, ⟨ao, al, cap⟩⟩ := n
  unfold nval at CK TH HTM HDM ⊢
  simp only at CK TH HTM HDM IL ho ⊢
  obtain ⟨ix, icc, ei, i1, i2, i3⟩ := IL.out.form
  simp only [Sl.v, Value.slice.injEq] at ei
  obtain ⟨rfl, rfl, rfl⟩ := ei
  obtain ⟨w0, hw0⟩ : ∃ w0, w0 = (w.alloc (.cells #[.string op, .string nam, .slice ia ins.length ic, .string out, .slice ao al cap] 35)).alloc (.cells #[.string ⟨#[]⟩, .int .i64 0, .slice none 0 0] 53) := ⟨_, rfl⟩
  have g0 : Hid (w.grownBy w0 none) := by show w.grownBy w0 none; rw [hw0]; exact grown_trans (grown_new _ _) (grown_new _ _)
  have hbx := two_boxes w (.cells #[.string op, .string nam, .slice ia ins.length ic, .string out, .slice ao al cap] 35) (.cells #[.string ⟨#[]⟩, .int .i64 0, .slice none 0 0] 53)
  rw [← hw0] at hbx
  have BX : Hid (∀ wx, w0.grownBy wx none → wx.heap[w.heap.size]? = some (.cells #[.string op, .string nam, .slice ia ins.length ic, .string out, .slice ao al cap] 35 (0, 0)) ∧ wx.heap[w.heap.size + 1]? = some (.cells #[.string ⟨#[]⟩, .int .i64 0, .slice none 0 0] 53 (0, 0))) := fun wx hg => ⟨box_kept hbx.1 hg, box_kept hbx.2 hg⟩
  clear hbx
  go_enter Tryz.func95, Tryz.ntmps95
  go_wp2_with fail
  rw [← hw0]
  clear hw0
  refine (CK.out w0 g0.out).mono ?_
  rintro e w1 ⟨rfl, hg1⟩
  have G1 := hide hg1
  clear hg1 CK
  by_cases hc0 : ck = 0
  · subst hc0
    obtain ⟨n0, n1, n2, n3, n4⟩ := nod_cells (n := ⟨op, nam, ⟨ia, ins.length, ic⟩, out, ⟨ao, al, cap⟩⟩) (BX.out w1 G1.out).1
    by_cases hlen : vs.length = ins.length
    · have bl : ((vs.length : Int) == (ins.length : Int)) = true := by simp [hlen]
      have TM2 := hide (HTM.out rfl hlen)
      have DM2 := hide (HDM.out rfl hlen)
      have E0 : Hid (valueP 0 (decide (vs.length = ins.length)) vs tS dS os = (vinP vs).bind (fun _ => tS.bind (fun t => dS.bind (fun d => (countP d).bind (fun _ => (thenP t os).bind (fun _ => .ok (t, d))))))) := by show _ = _; unfold valueP; simp [stopP, mustP, hlen]; rfl
      clear hlen HTM HDM
      go_wp2_with (first | (go_at_call 116; refine (stop_ok _).mono ?_; rintro e w' ⟨rfl, rfl⟩) | (go_at_call 118; refine (must_yes _).mono ?_; rintro e w' ⟨rfl, rfl⟩) | fail)
      clear n0 n1 n2 n3 n4 bl
      go_loopw [25] (fun i wr => ∃ k : Nat, k ≤ vs.length ∧ i = .int .i64 k ∧ vinP (vs.drop k) = vinP vs ∧ w0.grownBy wr none) (fun i _ => vs.length - (intOf i).toNat)
      case atStart => exact ⟨0, Nat.zero_le _, rfl, by rw [List.drop_zero], G1.out⟩
      case round =>
        obtain ⟨k, hk, rfl, hst, hg⟩ := hrel
        have HG := hide hg
        by_cases hkl : k < vs.length
        · obtain ⟨b, off, rfl⟩ := HV.out.vals.addr (k := k) (by rw [List.length_map]; exact hkl)
          obtain ⟨y0, y1, y2⟩ := (HV.out.more (grown_trans g0.out hg)).vals.val k (by rw [List.length_map]; exact hkl)
          have HY := hide (HV.out.dims vs[k] (List.getElem_mem hkl))
          rw [List.getElem_map] at y0 y1 y2
          rw [vinP_step hkl] at hst
          obtain ⟨p, hp⟩ : ∃ p, p = vs[k] := ⟨_, rfl⟩
          rw [← hp] at y0 y1 y2 HY hst
          obtain ⟨⟨vn, vt, ⟨da, dn, dc⟩⟩, y⟩ := p
          simp only at y0 y1 y2 HY hst
          obtain ⟨w3, hw3⟩ : ∃ w3, w3 = wr.alloc (.cells #[.string vn, .int .i64 vt, .slice da dn dc] 53) := ⟨_, rfl⟩
          have g3 : Hid (w0.grownBy w3 none) := by show w0.grownBy w3 none; rw [hw3]; exact grown_trans hg (grown_new _ _)
          have hb3 := heap_alloc_new wr (.cells #[.string vn, .int .i64 vt, .slice da dn dc] 53)
          rw [← hw3] at hb3
          have v1 : w3.cell? ⟨wr.heap.size, 1, none⟩ = some (.int .i64 vt) := (cell_of_row _ _ 1 _ _ (0, 0) hb3).trans rfl
          have v2 : w3.cell? ⟨wr.heap.size, 2, none⟩ = some (.slice da dn dc) := (cell_of_row _ _ 2 _ _ (0, 0) hb3).trans rfl
          have TY := hide (typ_any vt w3)
          have CO := hide (countof_any _ y w3 (HY.out.more (grown_trans g0.out g3.out)))
          simp only [Sl.v] at CO
          have HST := hide hst
          clear hb3 hp hg hst
          go_wp2_with fail
          rw [← hw3]
          clear hw3 y0 y1 y2
          cases ht : typP vt with
          | error c =>
            rw [ht] at TY
            have E : Hid (valueP 0 (decide (vs.length = ins.length)) vs tS dS os = .error c) := by show _ = _; rw [E0.out, ← HST.out, ht]; rfl
            clear ht
            refine TY.out.mono ?_
            rintro e w' ⟨hg, rfl⟩
            exact ⟨rfl, ended_err E.out (grown_trans (grown_trans g0.out g3.out) hg)⟩
          | ok tu =>
            rw [ht] at TY
            have HST2 : Hid ((countP y).bind (fun _ => vinP (vs.drop (k + 1))) = vinP vs) := by show _ = _; rw [← HST.out, ht]; rfl
            clear ht HST
            cases hc : countP y with
            | error c =>
              rw [hc] at CO
              have E : Hid (valueP 0 (decide (vs.length = ins.length)) vs tS dS os = .error c) := by show _ = _; rw [E0.out, ← HST2.out, hc]; rfl
              clear hc
              refine TY.out.mono ?_
              rintro e w' ⟨-, v, rfl, rfl, rfl⟩
              go_wp2_with (first | (go_at_call 120; refine CO.out.mono ?_; rintro e w' ⟨hg, rfl⟩) | fail)
              exact ⟨rfl, ended_err E.out (grown_trans (grown_trans g0.out g3.out) hg)⟩
            | ok cn =>
              rw [hc] at CO
              have HST3 : Hid (vinP (vs.drop (k + 1)) = vinP vs) := by show _ = _; rw [← HST2.out, hc]; rfl
              clear hc HST2
              refine TY.out.mono ?_
              rintro e w' ⟨-, v, rfl, rfl, rfl⟩
              go_wp2_with (first | (go_at_call 120; refine CO.out.mono ?_; rintro e w' ⟨-, v, rfl, rfl, rfl⟩) | fail)
              go_roundw
              case rel => exact ⟨k + 1, by omega, by go_num, HST3.out, g3.out⟩
              case measure => simp [intOf]; omega
        · have hvin : vinP vs = .ok () := by rw [← hst, List.drop_of_length_le (by omega)]; rfl
          have E1 : Hid (valueP 0 (decide (vs.length = ins.length)) vs tS dS os = tS.bind (fun t => dS.bind (fun d => (countP d).bind (fun _ => (thenP t os).bind (fun _ => .ok (t, d)))))) := by show _ = _; rw [E0.out, hvin]; rfl
          have TM3 := hide (TM2.out hvin wr (grown_trans g0.out hg))
          have DM3 := hide (fun wx hx => DM2.out hvin wx hx)
          obtain ⟨n0, n1, n2, n3, n4⟩ := nod_cells (n := ⟨op, nam, ⟨ia, ins.length, ic⟩, out, ⟨ao, al, cap⟩⟩) (BX.out wr hg).1
          clear hst hg hvin TM2 DM2 E0
          go_wp2_with fail
          cases ht : tS with
          | error c =>
            rw [ht] at TM3
            have E : Hid (valueP 0 (decide (vs.length = ins.length)) vs tS dS os = .error c) := by show _ = _; rw [E1.out, ht]; rfl
            refine TM3.out.mono ?_
            rintro e w' ⟨hg, rfl⟩
            exact ⟨rfl, ended_err E.out (grown_trans (grown_trans g0.out HG.out) hg)⟩
          | ok tt =>
            rw [ht] at TM3
            have E2 : Hid (valueP 0 (decide (vs.length = ins.length)) vs tS dS os = dS.bind (fun d => (countP d).bind (fun _ => (thenP tt os).bind (fun _ => .ok (tt, d))))) := by show _ = _; rw [E1.out, ht]; rfl
            refine TM3.out.mono ?_
            rintro e w4 ⟨hg4, v, rfl, rfl, htt⟩
            have G4 := hide (grown_trans HG.out hg4)
            have D4 := hide (DM3.out w4 (grown_trans g0.out G4.out))
            obtain ⟨n0, n1, n2, n3, n4⟩ := nod_cells (n := ⟨op, nam, ⟨ia, ins.length, ic⟩, out, ⟨ao, al, cap⟩⟩) (BX.out w4 G4.out).1
            clear hg4 TM3 ht
            go_wp2_with fail
            cases hd : dS with
            | error c =>
              rw [hd] at D4
              have E : Hid (valueP 0 (decide (vs.length = ins.length)) vs tS dS os = .error c) := by show _ = _; rw [E2.out, hd]; rfl
              refine D4.out.mono ?_
              rintro e w' ⟨hg, rfl⟩
              exact ⟨rfl, ended_err E.out (grown_trans (grown_trans g0.out G4.out) hg)⟩
            | ok dd =>
              rw [hd] at D4
              have E3 : Hid (valueP 0 (decide (vs.length = ins.length)) vs tS dS os = (countP dd).bind (fun _ => (thenP tt os).bind (fun _ => .ok (tt, dd)))) := by show _ = _; rw [E2.out, hd]; rfl
              refine D4.out.mono ?_
              rintro e w5 ⟨hg5, v, rfl, ⟨s1, s2, s3⟩, rfl, hs⟩
              have G5 := hide (grown_trans G4.out hg5)
              have CO := hide (countof_any _ dd w5 hs)
              have HS := hide hs
              simp only [Sl.v] at CO ⊢
              obtain ⟨n0, n1, n2, n3, n4⟩ := nod_cells (n := ⟨op, nam, ⟨ia, ins.length, ic⟩, out, ⟨ao, al, cap⟩⟩) (BX.out w5 G5.out).1
              clear hg5 D4 hd hs DM3
              have T6 := hide (TH.out w5 (grown_trans g0.out G5.out))
              cases hc : countP dd with
              | error c =>
                rw [hc] at CO
                have E : Hid (valueP 0 (decide (vs.length = ins.length)) vs tS dS os = .error c) := by show _ = _; rw [E3.out, hc]; rfl
                clear hc
                go_wp2_with (first | (go_at_call 120; refine CO.out.mono ?_; rintro e w' ⟨hg, rfl⟩) | fail)
                exact ⟨rfl, ended_err E.out (grown_trans (grown_trans g0.out G5.out) hg)⟩
              | ok cn =>
                rw [hc] at CO
                have E4 : Hid (valueP 0 (decide (vs.length = ins.length)) vs tS dS os = (thenP tt os).bind (fun _ => .ok (tt, dd))) := by show _ = _; rw [E3.out, hc]; rfl
                clear hc
                go_wp2_with (first | (go_at_call 120; refine CO.out.mono ?_; rintro e w' ⟨-, v, rfl, rfl, rfl⟩) | (go_at_call 123; refine T6.out.mono ?_; rintro e w6 ⟨tv, rfl, hown, hg6⟩; obtain ⟨oa, oc, rfl⟩ := OwnsL.form hown) | fail)
                have G6 := hide (grown_trans G5.out hg6)
                have HG56 := hide hg6
                have osb := OsB.out
                have LO := hide (OwnsL.isL (bytes := 16) scell_len hown (by omega))
                clear hown hg6 T6 CO n0 n1 n2 n3 n4
                go_loopw [51] (fun i wr => ∃ k : Nat, k ≤ os.length ∧ i = .int .i64 k ∧ thenP tt (os.drop k) = thenP tt os ∧ w6.grownBy wr none) (fun i _ => os.length - (intOf i).toNat)
                case atStart => exact ⟨0, Nat.zero_le _, rfl, by rw [List.drop_zero], grown_refl _⟩
                case round =>
                  obtain ⟨k, hk, rfl, hst, hg⟩ := hrel
                  have HG2 := hide hg
                  by_cases hkl : k < os.length
                  · obtain ⟨ob, of, rfl⟩ := LO.out.addr hkl
                    have hc := (LO.out.more hg).at k hkl 0 (by omega)
                    rw [Nat.mul_one, Nat.add_zero] at hc
                    rw [thenP_step hkl] at hst
                    have hone := OS.out os[k] (List.getElem_mem hkl)
                    obtain ⟨o, hoo⟩ : ∃ o, o = os[k] := ⟨_, rfl⟩
                    rw [← hoo] at hc hst hone
                    have hc' : wr.cell? ⟨ob, of + k, none⟩ = some (.string o) := hc
                    have MU := hide (mustone_any o tt (isOne_names hone) htt wr)
                    have HST := hide hst
                    clear hc hoo hst hg hone
                    cases h1 : oneOK o.toList tt with
                    | true =>
                      rw [h1] at MU
                      have HST2 : Hid (thenP tt (os.drop (k + 1)) = thenP tt os) := by show _ = _; rw [← HST.out, h1]; rfl
                      clear h1
                      go_wp2_with (first | (go_at_call 124; refine MU.out.mono ?_; rintro e w7 ⟨hg7, v, rfl, rfl⟩) | fail)
                      go_roundw
                      case rel => exact ⟨k + 1, by omega, by go_num, HST2.out, grown_trans HG2.out hg7⟩
                      case measure => simp [intOf]; omega
                    | false =>
                      rw [h1] at MU
                      have E : Hid (valueP 0 (decide (vs.length = ins.length)) vs tS dS os = .error 4) := by show _ = _; rw [E4.out, ← HST.out, h1]; rfl
                      clear h1
                      go_wp2_with (first | (go_at_call 124; refine MU.out.mono ?_; rintro e w7 ⟨hg7, rfl⟩) | fail)
                      exact ⟨rfl, ended_err E.out (grown_trans (grown_trans g0.out G6.out) (grown_trans HG2.out hg7))⟩
                  · have E5 : Hid (valueP 0 (decide (vs.length = ins.length)) vs tS dS os = .ok (tt, dd)) := by show _ = _; rw [E4.out, ← hst, List.drop_of_length_le (by omega)]; rfl
                    have G7 := hide (grown_trans G6.out hg)
                    obtain ⟨n0, n1, n2, n3, n4⟩ := nod_cells (n := ⟨op, nam, ⟨ia, ins.length, ic⟩, out, ⟨ao, al, cap⟩⟩) (BX.out wr G7.out).1
                    have NV := hide (newvalue_any out tt ⟨s1, s2, s3⟩ dd wr (HS.out.more (grown_trans HG56.out hg)) ho)
                    simp only at NV
                    clear hst hg
                    go_wp2_with (first | (go_at_call 125; refine NV.out.mono ?_; rintro e w8 ⟨⟨r1, r2, r3⟩, rfl, hr, hg8⟩; simp only; have G8 := grown_trans G7.out hg8; have B8 := (BX.out w8 G8).2; obtain ⟨f0, f1, f2⟩ := ten_frozen B8; have c0 := (cell_of_row _ _ 0 _ _ (0, 0) B8).trans rfl; have c1 := (cell_of_row _ _ 1 _ _ (0, 0) B8).trans rfl; have c2 := (cell_of_row _ _ 2 _ _ (0, 0) B8).trans rfl) | fail)
                    obtain ⟨hX, gX⟩ := store3t (.string out) (.int .i64 tt) (.slice r1 r2 r3) B8
                    have gf : w.grownBy _ none := grown_drop (grown_trans g0.out G8) gX (by omega)
                    refine bodyPost_ret (ret_val rfl _ _ (w.heap.size + 1) rfl hX) rfl ?_
                    refine ended_ok E5.out gf ⟨⟨r1, r2, r3⟩, rfl, ?_⟩
                    have hb : w.heap.size + 1 < wr.heap.size := (Array.getElem?_eq_some_iff.1 (BX.out wr G7.out).2).1
                    have h := (hr.base_le (b' := w.heap.size + 2) (by omega)).more gX (by
                      rcases hr.1.2 with ⟨e, -⟩ | ⟨gg, cap', cur, e, hgg, -⟩
                      · exact .inl (by rw [e]; rfl)
                      · exact .inr (by rw [e]; simp [Value.ownBlock]; omega))
                    exact h.base_le (by omega)
    · have bl : ((vs.length : Int) == (ins.length : Int)) = false := by simpa using (fun h => hlen (by omega) : ¬ (vs.length : Int) = ins.length)
      have E0 : Hid (valueP 0 (decide (vs.length = ins.length)) vs tS dS os = .error 4) := by show _ = _; unfold valueP; simp [stopP, mustP, hlen]; rfl
      clear hlen
      go_wp2_with (first | (go_at_call 116; refine (stop_ok _).mono ?_; rintro e w' ⟨rfl, rfl⟩) | (go_at_call 118; refine (must_no _).mono ?_; rintro e w' ⟨rfl, rfl⟩) | fail)
      exact ⟨rfl, ended_err E0.out (grown_trans g0.out G1.out)⟩
  · have E0 : Hid (valueP ck (decide (vs.length = ins.length)) vs tS dS os = .error ck) := by show _ = _; unfold valueP; simp [stopP, hc0]; rfl
    have HC := hide hc0
    clear hc0
    go_wp2_with (first | (go_at_call 116; refine (stop_err _ HC.out _).mono ?_; rintro e w' ⟨rfl, rfl⟩) | fail)
    exact ⟨rfl, ended_err E0.out (grown_trans g0.out G1.out)⟩

end Go.Proofs.YtkefdkboejimeaaGreatDoor

namespace Go.Proofs.YtkefdkboejimeaaGreatDoor

open Go.RowKit

theorem getD_mem {l : List Int} {k : Nat} (hk : k < l.length) : l.getD k 0 ∈ l := by
  rw [List.getD, List.getElem?_eq_getElem hk]
  exact List.getElem_mem hk

def tailP (X Y T : Int) (along : Nat) (di pa : List Int) : R Int := (mustP (decide (0 ≤ X + pa.getD along 0 + pa.getD (2 + along) 0 - di.getD along 0 * (Y - 1) - 1))).bind (fun _ => .ok ((X + pa.getD along 0 + pa.getD (2 + along) 0 - di.getD along 0 * (Y - 1) - 1) / T + 1))

set_option maxRecDepth 100000 in
set_option maxHeartbeats 2000000 in
theorem places_any (n : Nod) (A : At) (u v : Sl) (x K : List Int) (along : Nat) (w : World) (hn : NodeOk w n A) (hx : IsInts w u.v x) (hK : IsInts w v.v K) (hlx : x.length = 4) (hlK : K.length = 2) (bx : ∀ z ∈ x, 1 ≤ z ∧ z ≤ 65536) (bK : ∀ z ∈ K, 1 ≤ z ∧ z ≤ 65536) (ha : along < 2) :
    Calls Tryz.prog 175 #[nval n, .slice u.a u.n u.c, .slice v.a v.n v.c, .int .i64 along] w (Ended w (placesP A x K along) fun z v _ => v = .int .i64 z ∧ 1 ≤ z ∧ z ≤ 1000000) := by
  obtain ⟨ux, uc, eu, c1, c2, c3⟩ := hx.sl
  obtain ⟨ua, un, uu⟩ := u
  simp only [Sl.v, Value.slice.injEq] at eu
  obtain ⟨rfl, rfl, rfl⟩ := eu
  obtain ⟨vx, vc, ev, d1, d2, d3⟩ := hK.sl
  obtain ⟨va, vn, vv⟩ := v
  simp only [Sl.v, Value.slice.injEq] at ev
  obtain ⟨rfl, rfl, rfl⟩ := ev
  obtain ⟨xb, xo, rfl, hcx⟩ := hx.get (k := 0) (by omega)
  obtain ⟨kb, ko, rfl, hck⟩ := hK.get (k := 0) (by omega)
  have XC := hide (hcx (2 + along) (by omega))
  have KC := hide (hck along (by omega))
  have BX := bx _ (getD_mem (l := x) (k := 2 + along) (by omega))
  have BK := bK _ (getD_mem (l := K) (k := along) (by omega))
  rw [hlx, hlK]
  rw [hlx] at c1
  rw [hlK] at d1
  have E0 : Hid (placesP A x K along = (withinP (A.ints ⟨#[115, 116, 114, 105, 100, 101, 115]⟩ [1, 1]) 2 1).bind (fun st => (withinP (A.ints ⟨#[100, 105, 108, 97, 116, 105, 111, 110, 115]⟩ [1, 1]) 2 1).bind (fun di => (padsP A).bind (fun pa => tailP (x.getD (2 + along) 0) (K.getD along 0) (st.getD along 0) along di pa)))) := rfl
  obtain ⟨X, hX⟩ : ∃ X, X = x.getD (2 + along) 0 := ⟨_, rfl⟩
  obtain ⟨Y, hY⟩ : ∃ Y, Y = K.getD along 0 := ⟨_, rfl⟩
  rw [← hX] at XC E0 BX
  rw [← hY] at KC E0 BK
  clear hx hK hcx hck bx bK hlx hlK hX hY c3 d3
  have NK := hide hn
  obtain ⟨op, nam, ⟨ia, il, ic⟩, out, ⟨ao, al, cap⟩⟩ := n
  unfold nval
  simp only
  obtain ⟨w0, hw0⟩ : ∃ w0, w0 = w.alloc (.cells #[.string op, .string nam, .slice ia il ic, .string out, .slice ao al cap] 35) := ⟨_, rfl⟩
  have g0 : Hid (w.grownBy w0 none) := by show w.grownBy w0 none; rw [hw0]; exact grown_new _ _
  have hb0 := heap_alloc_new w (.cells #[.string op, .string nam, .slice ia il ic, .string out, .slice ao al cap] 35)
  rw [← hw0] at hb0
  have BX : Hid (∀ wx, w0.grownBy wx none → wx.heap[w.heap.size]? = some (.cells #[.string op, .string nam, .slice ia il ic, .string out, .slice ao al cap] 35 (0, 0))) := fun wx hg => box_kept hb0 hg
  clear hb0 hn
  have ST := hide (astrides_any ⟨op, nam, ⟨ia, il, ic⟩, out, ⟨ao, al, cap⟩⟩ A w0 (NK.out.more g0.out))
  have DI := hide (fun (wx : World) (hg : w.grownBy wx none) => dilations_any ⟨op, nam, ⟨ia, il, ic⟩, out, ⟨ao, al, cap⟩⟩ A wx (NK.out.more hg))
  have PA := hide (fun (wx : World) (hg : w.grownBy wx none) => padsof_any ⟨op, nam, ⟨ia, il, ic⟩, out, ⟨ao, al, cap⟩⟩ A wx (NK.out.more hg))
  unfold nval at ST DI PA
  simp only at ST DI PA
  go_enter Tryz.func175, Tryz.ntmps175
  go_wp2_with fail
  rw [← hw0]
  clear hw0
  refine ST.out.mono ?_
  rintro e w1 ⟨s, rfl, hs, hg1⟩
  have G1 := hide hg1
  have WS := hide (within_any s _ 2 1 w1 hs (by decide))
  have HS := hide hs
  clear hs hg1 ST
  cases hk : withinP (A.ints ⟨#[115, 116, 114, 105, 100, 101, 115]⟩ [1, 1]) 2 1 with
  | error c =>
    rw [hk] at WS
    have E : Hid (placesP A x K along = .error c) := by show _ = _; rw [E0.out, hk]; rfl
    clear hk
    go_wp2_with (first | (go_at_call 176; refine WS.out.mono ?_; rintro e w' ⟨hg, rfl⟩) | fail)
    exact ⟨rfl, ended_err E.out (grown_trans g0.out (grown_trans G1.out hg))⟩
  | ok st =>
    rw [hk] at WS E0
    obtain ⟨e1, stl, stb⟩ := withinP_ok hk
    have BST := hide (stb _ (getD_mem (l := st) (k := along) (by omega)))
    rw [← e1] at HS
    have SC : Hid (∀ wx, w1.grownBy wx none → ∃ b off, s.a = some ⟨b, off, none⟩ ∧ wx.cell? ⟨b, off + along, none⟩ = some (.int .i64 (st.getD along 0))) := fun wx hg => by
      obtain ⟨s1, s2, s3⟩ := s
      obtain ⟨b, off, e, hc⟩ := HS.out.get (k := along) (by omega)
      exact ⟨b, off, e, cell_still (hc along (by omega)) hg⟩
    have SL : s.n = 2 := by
      obtain ⟨a', c', e, -⟩ := HS.out.sl
      have : s.n = st.length := by simp only [Sl.v, Value.slice.injEq] at e; exact e.2.1
      rw [this, stl]
    obtain ⟨b, off, esa, hsc⟩ := SC.out w1 (grown_refl _)
    obtain ⟨sa, sn, sc⟩ := s
    simp only at esa SL
    subst esa SL
    simp only [Sl.v] at WS ⊢
    have E1 : Hid (placesP A x K along = (withinP (A.ints ⟨#[100, 105, 108, 97, 116, 105, 111, 110, 115]⟩ [1, 1]) 2 1).bind (fun di => (padsP A).bind (fun pa => tailP X Y (st.getD along 0) along di pa))) := E0.out
    obtain ⟨T, hT⟩ : ∃ T, T = st.getD along 0 := ⟨_, rfl⟩
    rw [← hT] at hsc E1 BST
    have ha2 : (along : Int) < 2 := by omega
    obtain ⟨n0, n1, n2, n3, n4⟩ := nod_cells (n := ⟨op, nam, ⟨ia, il, ic⟩, out, ⟨ao, al, cap⟩⟩) (BX.out w1 (G1.out))
    clear hk e1 stl stb hT SC E0 HS
    go_wp2_with (first | (go_at_call 176; refine WS.out.mono ?_; rintro e w' ⟨-, v, rfl, rfl, -, rfl⟩) | fail)
    clear hsc WS
    refine (DI.out w1 (grown_trans g0.out G1.out)).mono ?_
    rintro e w2 ⟨s, rfl, hs, hg2⟩
    have G2 := hide (grown_trans G1.out hg2)
    have WD := hide (within_any s _ 2 1 w2 hs (by decide))
    have HS := hide hs
    clear hs hg2 DI n0 n1 n2 n3 n4
    cases hk : withinP (A.ints ⟨#[100, 105, 108, 97, 116, 105, 111, 110, 115]⟩ [1, 1]) 2 1 with
    | error c =>
      rw [hk] at WD
      have E : Hid (placesP A x K along = .error c) := by show _ = _; rw [E1.out, hk]; rfl
      clear hk
      go_wp2_with (first | (go_at_call 176; refine WD.out.mono ?_; rintro e w' ⟨hg, rfl⟩) | fail)
      exact ⟨rfl, ended_err E.out (grown_trans g0.out (grown_trans G2.out hg))⟩
    | ok di =>
      rw [hk] at WD E1
      obtain ⟨e1, dil, dib⟩ := withinP_ok hk
      have BDI := hide (dib _ (getD_mem (l := di) (k := along) (by omega)))
      rw [← e1] at HS
      have SL : s.n = 2 := by
        obtain ⟨a', c', e, -⟩ := HS.out.sl
        have : s.n = di.length := by simp only [Sl.v, Value.slice.injEq] at e; exact e.2.1
        rw [this, dil]
      obtain ⟨sa, sn, sc'⟩ := s
      obtain ⟨b2, off2, esa, hc2⟩ := HS.out.get (k := along) (by omega)
      simp only at esa SL
      subst esa SL
      have hsc := hc2 along (by omega)
      simp only [Sl.v] at WD ⊢
      have E2 : Hid (placesP A x K along = (padsP A).bind (fun pa => tailP X Y T along di pa)) := E1.out
      obtain ⟨D, hD⟩ : ∃ D, D = di.getD along 0 := ⟨_, rfl⟩
      rw [← hD] at hsc BDI
      have HDX := hide hD
      obtain ⟨n0, n1, n2, n3, n4⟩ := nod_cells (n := ⟨op, nam, ⟨ia, il, ic⟩, out, ⟨ao, al, cap⟩⟩) (BX.out w2 (G2.out))
      clear hk e1 dil dib hD E1 HS hc2
      go_wp2_with (first | (go_at_call 176; refine WD.out.mono ?_; rintro e w' ⟨-, v, rfl, rfl, -, rfl⟩) | fail)
      clear hsc WD
      have P3 := hide (PA.out w2 (grown_trans g0.out G2.out))
      clear PA n0 n1 n2 n3 n4
      cases hk : padsP A with
      | error c =>
        rw [hk] at P3
        have E : Hid (placesP A x K along = .error c) := by show _ = _; rw [E2.out, hk]; rfl
        clear hk
        refine P3.out.mono ?_
        rintro e w' ⟨hg, rfl⟩
        exact ⟨rfl, ended_err E.out (grown_trans g0.out (grown_trans G2.out hg))⟩
      | ok pa =>
        rw [hk] at P3 E2
        have E3 : Hid (placesP A x K along = tailP X Y T along di pa) := E2.out
        clear hk E2
        refine P3.out.mono ?_
        rintro e w3 ⟨hg3, v, rfl, ⟨pa1, pn, pc⟩, rfl, hp, hpl, hpb⟩
        have G3 := hide (grown_trans g0.out (grown_trans G2.out hg3))
        obtain ⟨pb, po, epa, hpc⟩ := hp.get (k := 0) (by omega)
        have SL : pn = 4 := by
          obtain ⟨a', c', e, -⟩ := hp.sl
          cases e
          exact hpl
        subst epa SL
        have p1 := hpc along (by omega)
        have p2 := hpc (2 + along) (by omega)
        have q1 := hpb _ (getD_mem (l := pa) (k := along) (by omega))
        have q2 := hpb _ (getD_mem (l := pa) (k := 2 + along) (by omega))
        have xc := cell_still XC.out G3.out
        have kc := cell_still KC.out G3.out
        have pcb : 4 ≤ pc ∧ pc ≤ 9223372036854775807 := by
          obtain ⟨a', c', e, f1, f2, -⟩ := hp.sl
          simp only [Sl.v, Value.slice.injEq] at e
          rw [hpl] at f1
          rw [e.2.2]
          exact ⟨f1, f2⟩
        obtain ⟨pc1, pc2⟩ := pcb
        have E4 : Hid (placesP A x K along = (mustP (decide (0 ≤ X + pa.getD along 0 + pa.getD (2 + along) 0 - D * (Y - 1) - 1))).bind (fun _ => .ok ((X + pa.getD along 0 + pa.getD (2 + along) 0 - D * (Y - 1) - 1) / T + 1))) := by show _ = _; rw [E3.out, HDX.out]; rfl
        obtain ⟨M, hM⟩ : ∃ M, M = D * (Y - 1) := ⟨_, rfl⟩
        have bd := BDI.out
        have bt := BST.out
        have m1 : 0 ≤ M := by rw [hM]; exact Int.mul_nonneg (by omega) (by omega)
        have m2 : M ≤ 100 * 65536 := by rw [hM]; exact Int.mul_le_mul (by omega) (by omega) (by omega) (by omega)
        obtain ⟨U, hU⟩ : ∃ U, U = pa.getD along 0 := ⟨_, rfl⟩
        obtain ⟨V, hV⟩ : ∃ V, V = pa.getD (2 + along) 0 := ⟨_, rfl⟩
        rw [← hM, ← hU, ← hV] at E4
        rw [← hU] at p1 q1
        rw [← hV] at p2 q2
        have hM' : D * (Y - 1) = M := hM.symm
        clear hM hU hV hp hpl hpb hpc E3 P3 HDX hg3
        obtain ⟨N, hN0⟩ : ∃ N, N = X + U + V - M - 1 := ⟨_, rfl⟩
        rw [← hN0] at E4
        have hN1 : X + U + V - M - 1 = N := hN0.symm
        have bN : N ≤ 200000 := by omega
        clear hN0
        rcases (show along = 0 ∨ along = 1 by omega) with rfl | rfl
        · skip
          simp only [Sl.v, Nat.add_zero, Int.natCast_zero] at *
          have hN : 0 ≤ N → N / T + 1 ≤ 1000000 ∧ 1 ≤ N / T + 1 := fun h => by
            have h1 : N / T ≤ N := Int.ediv_le_self _ h
            have h2 : 0 ≤ N / T := Int.ediv_nonneg h (by omega)
            omega
          have hdv : 0 ≤ N → N.tdiv T = N / T := fun h => Int.tdiv_eq_ediv_of_nonneg h
          have ht0 : ¬ T = 0 := by omega
          have wz2 : IntKind.i64.wrap 2 = 2 := by decide
          have wz3 : IntKind.i64.wrap 3 = 3 := by decide
          have cN : Hid (0 ≤ N → 1 ≤ N / T + 1 ∧ N / T + 1 ≤ 1000000) := fun h => ⟨(hN h).2, (hN h).1⟩
          go_wp2_with fail
          go_quiet (fail)
          clear xc kc p1 p2 wz2 wz3
          by_cases h0 : 0 ≤ N
          · have E5 : Hid (placesP A x K 0 = .ok (N / T + 1)) := by show _ = _; rw [E4.out]; simp [mustP, h0]; rfl
            have hdv' := hdv h0
            have hb := hN h0
            clear hN hdv
            go_wp2_with (first | (go_at_call 118; refine (must_yes _).mono ?_; rintro e w' ⟨rfl, rfl⟩) | fail)
            go_ret
            exact ended_ok E5.out (grown_drewQ G3.out _) ⟨rfl, cN.out h0⟩
          · have E5 : Hid (placesP A x K 0 = .error 4) := by show _ = _; rw [E4.out]; simp [mustP, h0]; rfl
            have hd0 : decide (0 ≤ N) = false := by simpa using h0
            clear hN hdv
            go_wp2_with (first | (go_at_call 118; refine (must_no _).mono ?_; rintro e w' ⟨rfl, rfl⟩) | fail)
            exact ⟨rfl, ended_err E5.out (grown_drewQ G3.out _)⟩
        · skip
          simp only [Sl.v, Nat.reduceAdd, Int.natCast_one] at *
          have hN : 0 ≤ N → N / T + 1 ≤ 1000000 ∧ 1 ≤ N / T + 1 := fun h => by
            have h1 : N / T ≤ N := Int.ediv_le_self _ h
            have h2 : 0 ≤ N / T := Int.ediv_nonneg h (by omega)
            omega
          have hdv : 0 ≤ N → N.tdiv T = N / T := fun h => Int.tdiv_eq_ediv_of_nonneg h
          have ht0 : ¬ T = 0 := by omega
          have wz2 : IntKind.i64.wrap 2 = 2 := by decide
          have wz3 : IntKind.i64.wrap 3 = 3 := by decide
          have cN : Hid (0 ≤ N → 1 ≤ N / T + 1 ∧ N / T + 1 ≤ 1000000) := fun h => ⟨(hN h).2, (hN h).1⟩
          go_wp2_with fail
          go_quiet (fail)
          clear xc kc p1 p2 wz2 wz3
          by_cases h0 : 0 ≤ N
          · have E5 : Hid (placesP A x K 1 = .ok (N / T + 1)) := by show _ = _; rw [E4.out]; simp [mustP, h0]; rfl
            have hdv' := hdv h0
            have hb := hN h0
            clear hN hdv
            go_wp2_with (first | (go_at_call 118; refine (must_yes _).mono ?_; rintro e w' ⟨rfl, rfl⟩) | fail)
            go_ret
            exact ended_ok E5.out (grown_drewQ G3.out _) ⟨rfl, cN.out h0⟩
          · have E5 : Hid (placesP A x K 1 = .error 4) := by show _ = _; rw [E4.out]; simp [mustP, h0]; rfl
            have hd0 : decide (0 ≤ N) = false := by simpa using h0
            clear hN hdv
            go_wp2_with (first | (go_at_call 118; refine (must_no _).mono ?_; rintro e w' ⟨rfl, rfl⟩) | fail)
            exact ⟨rfl, ended_err E5.out (grown_drewQ G3.out _)⟩

end Go.Proofs.YtkefdkboejimeaaGreatDoor
