/- Of which type a node makes its value, an operator at a time (mkITy.py). -/
import Derived.Test.YteigfipgmghgmaaGreatDoorIType
import Derived.Test.YteigfipgmghgmaaGreatDoorINum
import Derived.Test.YteigfipgmghgmaaGreatDoorINode
import Derived.Deep.RegionHeld3
namespace Go.Proofs.YteigfipgmghgmaaGreatDoor
open Go.RowKit

/-- The cells of a value in a list. -/
theorem ValsIn.at {w : World} {b off n c : Nat} {vs : List (Val × List Int)} (h : ValsIn w (.slice (some ⟨b, off, none⟩) n c) vs) (k : Nat) (hk : k < vs.length) : w.cell? ⟨b, off + k * 3 + 1, none⟩ = some (.int .i64 (vs[k].1.ty)) ∧ w.cell? ⟨b, off + k * 3 + 2, none⟩ = some (.slice vs[k].1.dv.a vs[k].1.dv.n vs[k].1.dv.c) := by
  obtain ⟨-, h1, h2⟩ := h.vals.val k (by rw [List.length_map]; exact hk)
  rw [List.getElem_map] at h1 h2
  exact ⟨h1, h2⟩

theorem sameP_typ {ts : List Int} {t : Int} (h : sameP ts = .ok t) (hp : 0 < ts.length) (ht : ∀ s ∈ ts, isTypeP s = true) : isTypeP t = true := by
  cases ts with
  | nil => simp at hp
  | cons a l =>
    by_cases hc : l.all (fun s => s == a) = true
    · have e : sameP (a :: l) = .ok a := by simp only [sameP]; rw [if_pos hc]
      rw [e] at h
      cases h
      exact ht t (by simp)
    · have e : sameP (a :: l) = .error 4 := by simp only [sameP]; rw [if_neg hc]
      rw [e] at h
      cases h

def tysOf (vs : List (Val × List Int)) : List Int := vs.map (·.1.ty)

set_option maxRecDepth 100000 in
set_option maxHeartbeats 40000000 in
theorem type_same (n : Nod) (A : At) (u : Sl) (vs : List (Val × List Int)) (w : World) (hop : n.op ∈ ([⟨#[67, 111, 110, 99, 97, 116]⟩, ⟨#[82, 101, 115, 104, 97, 112, 101]⟩, ⟨#[69, 120, 112, 97, 110, 100]⟩, ⟨#[84, 114, 97, 110, 115, 112, 111, 115, 101]⟩, ⟨#[83, 108, 105, 99, 101]⟩, ⟨#[83, 113, 117, 101, 101, 122, 101]⟩, ⟨#[85, 110, 115, 113, 117, 101, 101, 122, 101]⟩, ⟨#[70, 108, 97, 116, 116, 101, 110]⟩] : List ByteArray)) (hn : NodeOk w n A) (hv : ValsIn w u.v vs) (hp : 0 < vs.length) (hf : vs.length ≤ 1000000) (ht : ∀ s ∈ tysOf vs, isTypeP s = true) : Calls Tryz.prog 74 #[nval n, .slice u.a u.n u.c] w (Ended w (sameP (tysOf vs)) fun t v _ => v = .int .i64 t) := by
  obtain ⟨xa, xc, e1, p1, p2, p3⟩ := hv.vals.form
  rw [List.length_map] at e1 p1 p3
  obtain ⟨ua, un, uc⟩ := u
  simp only [Sl.v, Value.slice.injEq] at e1
  obtain ⟨rfl, rfl, rfl⟩ := e1
  have HV := hide hv
  have HT := hide ht
  clear hv ht
  have NK := hide hn
  obtain ⟨op, nam, ⟨ia, il, ic⟩, out, ⟨ao, al, cap⟩⟩ := n
  unfold nval
  simp only
  obtain ⟨w0, hw0⟩ : ∃ w0, w0 = w.alloc (.cells #[.string op, .string nam, .slice ia il ic, .string out, .slice ao al cap] 25) := ⟨_, rfl⟩
  have g0 : Hid (w.grownBy w0 none) := by show w.grownBy w0 none; rw [hw0]; exact grown_new _ _
  have hb0 := heap_alloc_new w (.cells #[.string op, .string nam, .slice ia il ic, .string out, .slice ao al cap] 25)
  rw [← hw0] at hb0
  have BX : Hid (∀ wx, w0.grownBy wx none → wx.heap[w.heap.size]? = some (.cells #[.string op, .string nam, .slice ia il ic, .string out, .slice ao al cap] 25 (0, 0))) := fun wx hg => box_kept hb0 hg
  clear hb0 hn
  simp only at hop
  have SM := hide (sametype_any ⟨ua, vs.length, uc⟩ vs w0 (HV.out.more g0.out) hp hf)
  simp only at SM
  have HK : Hid (tysOf vs = vs.map (·.1.ty)) := rfl
  simp only [List.mem_cons, List.not_mem_nil, or_false] at hop
  rcases hop with rfl | rfl | rfl | rfl | rfl | rfl | rfl | rfl
  all_goals
    go_enter Tryz.func74, Tryz.ntmps74
    go_wp2_with fail
    rw [← hw0]
    clear hw0
    cases hk : sameP (vs.map (·.1.ty)) with
    | error c =>
      rw [hk] at SM
      have E : Hid (sameP (tysOf vs) = .error c) := hk
      clear hk
      refine SM.out.mono ?_
      rintro e w' ⟨hg, rfl⟩
      exact ⟨rfl, ended_err E.out (grown_trans g0.out hg)⟩
    | ok t =>
      rw [hk] at SM
      have E : Hid (sameP (tysOf vs) = .ok t) := hk
      clear hk
      refine SM.out.mono ?_
      rintro e w' ⟨hg, v, rfl, rfl⟩
      go_wp2
      go_ret
      exact ended_ok E.out (grown_trans g0.out hg) rfl

set_option maxRecDepth 100000 in
set_option maxHeartbeats 40000000 in
theorem type_float (n : Nod) (A : At) (u : Sl) (vs : List (Val × List Int)) (w : World) (hop : n.op ∈ ([⟨#[67, 108, 105, 112]⟩, ⟨#[83, 111, 102, 116, 109, 97, 120]⟩, ⟨#[82, 101, 100, 117, 99, 101, 77, 101, 97, 110]⟩, ⟨#[80, 97, 100]⟩, ⟨#[77, 97, 116, 77, 117, 108]⟩, ⟨#[71, 101, 109, 109]⟩, ⟨#[67, 111, 110, 118]⟩, ⟨#[77, 97, 120, 80, 111, 111, 108]⟩, ⟨#[65, 118, 101, 114, 97, 103, 101, 80, 111, 111, 108]⟩, ⟨#[71, 108, 111, 98, 97, 108, 65, 118, 101, 114, 97, 103, 101, 80, 111, 111, 108]⟩, ⟨#[66, 97, 116, 99, 104, 78, 111, 114, 109, 97, 108, 105, 122, 97, 116, 105, 111, 110]⟩] : List ByteArray)) (hn : NodeOk w n A) (hv : ValsIn w u.v vs) (hp : 0 < vs.length) (hf : vs.length ≤ 1000000) (ht : ∀ s ∈ tysOf vs, isTypeP s = true) : Calls Tryz.prog 74 #[nval n, .slice u.a u.n u.c] w (Ended w ((sameP (tysOf vs)).bind (fun t => (mustP (t == 1)).bind (fun _ => .ok (1 : Int)))) fun t v _ => v = .int .i64 t) := by
  obtain ⟨xa, xc, e1, p1, p2, p3⟩ := hv.vals.form
  rw [List.length_map] at e1 p1 p3
  obtain ⟨ua, un, uc⟩ := u
  simp only [Sl.v, Value.slice.injEq] at e1
  obtain ⟨rfl, rfl, rfl⟩ := e1
  have HV := hide hv
  have HT := hide ht
  clear hv ht
  have NK := hide hn
  obtain ⟨op, nam, ⟨ia, il, ic⟩, out, ⟨ao, al, cap⟩⟩ := n
  unfold nval
  simp only
  obtain ⟨w0, hw0⟩ : ∃ w0, w0 = w.alloc (.cells #[.string op, .string nam, .slice ia il ic, .string out, .slice ao al cap] 25) := ⟨_, rfl⟩
  have g0 : Hid (w.grownBy w0 none) := by show w.grownBy w0 none; rw [hw0]; exact grown_new _ _
  have hb0 := heap_alloc_new w (.cells #[.string op, .string nam, .slice ia il ic, .string out, .slice ao al cap] 25)
  rw [← hw0] at hb0
  have BX : Hid (∀ wx, w0.grownBy wx none → wx.heap[w.heap.size]? = some (.cells #[.string op, .string nam, .slice ia il ic, .string out, .slice ao al cap] 25 (0, 0))) := fun wx hg => box_kept hb0 hg
  clear hb0 hn
  simp only at hop
  have SM := hide (sametype_any ⟨ua, vs.length, uc⟩ vs w0 (HV.out.more g0.out) hp hf)
  simp only at SM
  obtain ⟨X, hX⟩ : ∃ X, X = (sameP (tysOf vs)).bind (fun t => (mustP (t == 1)).bind (fun _ => .ok (1 : Int))) := ⟨_, rfl⟩
  have E0 : Hid (X = (sameP (vs.map (·.1.ty))).bind (fun t => (mustP (t == 1)).bind (fun _ => .ok (1 : Int)))) := hX
  rw [← hX]
  clear hX
  simp only [List.mem_cons, List.not_mem_nil, or_false] at hop
  rcases hop with rfl | rfl | rfl | rfl | rfl | rfl | rfl | rfl | rfl | rfl | rfl
  all_goals
    go_enter Tryz.func74, Tryz.ntmps74
    go_wp2_with fail
    rw [← hw0]
    clear hw0
    cases hk : sameP (vs.map (·.1.ty)) with
    | error c =>
      rw [hk] at SM
      have E : Hid (X = .error c) := by show _ = _; rw [E0.out, hk]; rfl
      clear hk
      refine SM.out.mono ?_
      rintro e w' ⟨hg, rfl⟩
      exact ⟨rfl, ended_err E.out (grown_trans g0.out hg)⟩
    | ok t =>
      rw [hk] at SM
      have E : Hid (X = (mustP (t == 1)).bind (fun _ => .ok (1 : Int))) := by show _ = _; rw [E0.out, hk]; rfl
      clear hk
      refine SM.out.mono ?_
      rintro e w' ⟨hg, v, rfl, rfl⟩
      cases h1 : (t == 1) with
      | true =>
        have E2 : Hid (X = .ok (1 : Int)) := by show _ = _; rw [E.out, h1]; rfl
        go_wp2_with (first | (go_at_call 71; refine (must_yes _).mono ?_; rintro e w'' ⟨rfl, rfl⟩) | fail)
        go_ret
        exact ended_ok E2.out (grown_trans g0.out hg) rfl
      | false =>
        have E2 : Hid (X = .error 4) := by show _ = _; rw [E.out, h1]; rfl
        go_wp2_with (first | (go_at_call 71; refine (must_no _).mono ?_; rintro e w'' ⟨rfl, rfl⟩) | fail)
        exact ⟨rfl, ended_err E2.out (grown_trans g0.out hg)⟩

set_option maxRecDepth 100000 in
set_option maxHeartbeats 40000000 in
theorem type_two (n : Nod) (A : At) (u : Sl) (vs : List (Val × List Int)) (w : World) (hop : n.op ∈ ([⟨#[65, 100, 100]⟩, ⟨#[83, 117, 98]⟩, ⟨#[77, 117, 108]⟩, ⟨#[68, 105, 118]⟩, ⟨#[77, 97, 120]⟩, ⟨#[77, 105, 110]⟩, ⟨#[65, 110, 100]⟩, ⟨#[79, 114]⟩, ⟨#[88, 111, 114]⟩] : List ByteArray)) (hn : NodeOk w n A) (hv : ValsIn w u.v vs) (hl : vs.length = 2) (hf : vs.length ≤ 1000000) (ht : ∀ s ∈ tysOf vs, isTypeP s = true) : Calls Tryz.prog 74 #[nval n, .slice u.a u.n u.c] w (Ended w ((sameP (tysOf vs)).bind (fun t => (mustP (twoOK n.op.toList t)).bind (fun _ => .ok t))) fun t v _ => v = .int .i64 t) := by
  obtain ⟨xa, xc, e1, p1, p2, p3⟩ := hv.vals.form
  rw [List.length_map] at e1 p1 p3
  obtain ⟨ua, un, uc⟩ := u
  simp only [Sl.v, Value.slice.injEq] at e1
  obtain ⟨rfl, rfl, rfl⟩ := e1
  have HV := hide hv
  have HT := hide ht
  clear hv ht
  have NK := hide hn
  obtain ⟨op, nam, ⟨ia, il, ic⟩, out, ⟨ao, al, cap⟩⟩ := n
  unfold nval
  simp only
  obtain ⟨w0, hw0⟩ : ∃ w0, w0 = w.alloc (.cells #[.string op, .string nam, .slice ia il ic, .string out, .slice ao al cap] 25) := ⟨_, rfl⟩
  have g0 : Hid (w.grownBy w0 none) := by show w.grownBy w0 none; rw [hw0]; exact grown_new _ _
  have hb0 := heap_alloc_new w (.cells #[.string op, .string nam, .slice ia il ic, .string out, .slice ao al cap] 25)
  rw [← hw0] at hb0
  have BX : Hid (∀ wx, w0.grownBy wx none → wx.heap[w.heap.size]? = some (.cells #[.string op, .string nam, .slice ia il ic, .string out, .slice ao al cap] 25 (0, 0))) := fun wx hg => box_kept hb0 hg
  clear hb0 hn
  simp only at hop
  have hp : 0 < vs.length := by omega
  have SM := hide (sametype_any ⟨ua, vs.length, uc⟩ vs w0 (HV.out.more g0.out) hp hf)
  simp only at SM
  have b2 : ((vs.length : Int) == 2) = true := by rw [hl]; decide
  have HM : op.toList ∈ names2 := by
    simp only [List.mem_cons, List.not_mem_nil, or_false] at hop
    rw [bytes_toList]
    rcases hop with rfl | rfl | rfl | rfl | rfl | rfl | rfl | rfl | rfl <;> decide
  have MU0 := hide (fun (t : Int) (htt : isTypeP t = true) (wx : World) => musttwo_any op t HM htt wx)
  have BX2 := hide (fun (wx : World) (hx : w0.grownBy wx none) => nod_cells (n := ⟨op, nam, ⟨ia, il, ic⟩, out, ⟨ao, al, cap⟩⟩) (BX.out wx hx))
  simp only at BX2
  obtain ⟨L, hL⟩ : ∃ L, L = op.toList := ⟨_, rfl⟩
  rw [← hL] at MU0 ⊢
  obtain ⟨X, hX⟩ : ∃ X, X = (sameP (tysOf vs)).bind (fun t => (mustP (twoOK L t)).bind (fun _ => .ok t)) := ⟨_, rfl⟩
  have E0 : Hid (X = (sameP (vs.map (·.1.ty))).bind (fun t => (mustP (twoOK L t)).bind (fun _ => .ok t))) := hX
  rw [← hX]
  clear hl HM hL hX BX
  simp only [List.mem_cons, List.not_mem_nil, or_false] at hop
  rcases hop with rfl | rfl | rfl | rfl | rfl | rfl | rfl | rfl | rfl
  all_goals
    go_enter Tryz.func74, Tryz.ntmps74
    go_wp2_with fail
    rw [← hw0]
    clear hw0
    cases hk : sameP (vs.map (·.1.ty)) with
    | error c =>
      rw [hk] at SM
      have E : Hid (X = .error c) := by show _ = _; rw [E0.out, hk]; rfl
      clear hk
      refine SM.out.mono ?_
      rintro e w' ⟨hg, rfl⟩
      exact ⟨rfl, ended_err E.out (grown_trans g0.out hg)⟩
    | ok t =>
      have htt := sameP_typ hk (by simpa using hp) HT.out
      rw [hk] at SM
      have E : Hid (X = (mustP (twoOK L t)).bind (fun _ => .ok t)) := by show _ = _; rw [E0.out, hk]; rfl
      clear hk
      refine SM.out.mono ?_
      rintro e w1 ⟨hg, v, rfl, rfl⟩
      obtain ⟨n0, n1, n2, n3, n4⟩ := BX2.out w1 hg
      have MU := hide (MU0.out t htt w1)
      cases h1 : twoOK L t with
      | true =>
        rw [h1] at MU
        have E2 : Hid (X = .ok t) := by show _ = _; rw [E.out, h1]; rfl
        clear h1
        go_wp2_with (first | (go_at_call 106; refine MU.out.mono ?_; rintro e w2 ⟨hg2, v, rfl, rfl⟩) | fail)
        go_ret
        exact ended_ok E2.out (grown_trans (grown_trans g0.out hg) hg2) rfl
      | false =>
        rw [h1] at MU
        have E2 : Hid (X = .error 4) := by show _ = _; rw [E.out, h1]; rfl
        clear h1
        go_wp2_with (first | (go_at_call 106; refine MU.out.mono ?_; rintro e w2 ⟨hg2, rfl⟩) | fail)
        exact ⟨rfl, ended_err E2.out (grown_trans (grown_trans g0.out hg) hg2)⟩

set_option maxRecDepth 100000 in
set_option maxHeartbeats 40000000 in
theorem type_one (n : Nod) (A : At) (u : Sl) (vs : List (Val × List Int)) (w : World) (hop : n.op ∈ ([⟨#[73, 100, 101, 110, 116, 105, 116, 121]⟩, ⟨#[78, 101, 103]⟩, ⟨#[65, 98, 115]⟩, ⟨#[78, 111, 116]⟩, ⟨#[82, 101, 108, 117]⟩, ⟨#[83, 113, 114, 116]⟩, ⟨#[70, 108, 111, 111, 114]⟩, ⟨#[69, 120, 112]⟩, ⟨#[83, 105, 103, 109, 111, 105, 100]⟩, ⟨#[84, 97, 110, 104]⟩] : List ByteArray)) (hn : NodeOk w n A) (hv : ValsIn w u.v vs) (hl : vs.length = 1) (hf : vs.length ≤ 1000000) (ht : ∀ s ∈ tysOf vs, isTypeP s = true) : Calls Tryz.prog 74 #[nval n, .slice u.a u.n u.c] w (Ended w ((sameP (tysOf vs)).bind (fun t => (mustP (oneOK n.op.toList t)).bind (fun _ => .ok t))) fun t v _ => v = .int .i64 t) := by
  obtain ⟨xa, xc, e1, p1, p2, p3⟩ := hv.vals.form
  rw [List.length_map] at e1 p1 p3
  obtain ⟨ua, un, uc⟩ := u
  simp only [Sl.v, Value.slice.injEq] at e1
  obtain ⟨rfl, rfl, rfl⟩ := e1
  have HV := hide hv
  have HT := hide ht
  clear hv ht
  have NK := hide hn
  obtain ⟨op, nam, ⟨ia, il, ic⟩, out, ⟨ao, al, cap⟩⟩ := n
  unfold nval
  simp only
  obtain ⟨w0, hw0⟩ : ∃ w0, w0 = w.alloc (.cells #[.string op, .string nam, .slice ia il ic, .string out, .slice ao al cap] 25) := ⟨_, rfl⟩
  have g0 : Hid (w.grownBy w0 none) := by show w.grownBy w0 none; rw [hw0]; exact grown_new _ _
  have hb0 := heap_alloc_new w (.cells #[.string op, .string nam, .slice ia il ic, .string out, .slice ao al cap] 25)
  rw [← hw0] at hb0
  have BX : Hid (∀ wx, w0.grownBy wx none → wx.heap[w.heap.size]? = some (.cells #[.string op, .string nam, .slice ia il ic, .string out, .slice ao al cap] 25 (0, 0))) := fun wx hg => box_kept hb0 hg
  clear hb0 hn
  simp only at hop
  have hp : 0 < vs.length := by omega
  have SM := hide (sametype_any ⟨ua, vs.length, uc⟩ vs w0 (HV.out.more g0.out) hp hf)
  simp only at SM
  have b2 : ((vs.length : Int) == 2) = false := by rw [hl]; decide
  have HM : op.toList ∈ names1 := by
    simp only [List.mem_cons, List.not_mem_nil, or_false] at hop
    rw [bytes_toList]
    rcases hop with rfl | rfl | rfl | rfl | rfl | rfl | rfl | rfl | rfl | rfl <;> decide
  have MU0 := hide (fun (t : Int) (htt : isTypeP t = true) (wx : World) => mustone_any op t HM htt wx)
  have BX2 := hide (fun (wx : World) (hx : w0.grownBy wx none) => nod_cells (n := ⟨op, nam, ⟨ia, il, ic⟩, out, ⟨ao, al, cap⟩⟩) (BX.out wx hx))
  simp only at BX2
  obtain ⟨L, hL⟩ : ∃ L, L = op.toList := ⟨_, rfl⟩
  rw [← hL] at MU0 ⊢
  obtain ⟨X, hX⟩ : ∃ X, X = (sameP (tysOf vs)).bind (fun t => (mustP (oneOK L t)).bind (fun _ => .ok t)) := ⟨_, rfl⟩
  have E0 : Hid (X = (sameP (vs.map (·.1.ty))).bind (fun t => (mustP (oneOK L t)).bind (fun _ => .ok t))) := hX
  rw [← hX]
  clear hl HM hL hX BX
  simp only [List.mem_cons, List.not_mem_nil, or_false] at hop
  rcases hop with rfl | rfl | rfl | rfl | rfl | rfl | rfl | rfl | rfl | rfl
  all_goals
    go_enter Tryz.func74, Tryz.ntmps74
    go_wp2_with fail
    rw [← hw0]
    clear hw0
    cases hk : sameP (vs.map (·.1.ty)) with
    | error c =>
      rw [hk] at SM
      have E : Hid (X = .error c) := by show _ = _; rw [E0.out, hk]; rfl
      clear hk
      refine SM.out.mono ?_
      rintro e w' ⟨hg, rfl⟩
      exact ⟨rfl, ended_err E.out (grown_trans g0.out hg)⟩
    | ok t =>
      have htt := sameP_typ hk (by simpa using hp) HT.out
      rw [hk] at SM
      have E : Hid (X = (mustP (oneOK L t)).bind (fun _ => .ok t)) := by show _ = _; rw [E0.out, hk]; rfl
      clear hk
      refine SM.out.mono ?_
      rintro e w1 ⟨hg, v, rfl, rfl⟩
      obtain ⟨n0, n1, n2, n3, n4⟩ := BX2.out w1 hg
      have MU := hide (MU0.out t htt w1)
      cases h1 : oneOK L t with
      | true =>
        rw [h1] at MU
        have E2 : Hid (X = .ok t) := by show _ = _; rw [E.out, h1]; rfl
        clear h1
        go_wp2_with (first | (go_at_call 77; refine MU.out.mono ?_; rintro e w2 ⟨hg2, v, rfl, rfl⟩) | fail)
        go_ret
        exact ended_ok E2.out (grown_trans (grown_trans g0.out hg) hg2) rfl
      | false =>
        rw [h1] at MU
        have E2 : Hid (X = .error 4) := by show _ = _; rw [E.out, h1]; rfl
        clear h1
        go_wp2_with (first | (go_at_call 77; refine MU.out.mono ?_; rintro e w2 ⟨hg2, rfl⟩) | fail)
        exact ⟨rfl, ended_err E2.out (grown_trans (grown_trans g0.out hg) hg2)⟩

end Go.Proofs.YteigfipgmghgmaaGreatDoor
