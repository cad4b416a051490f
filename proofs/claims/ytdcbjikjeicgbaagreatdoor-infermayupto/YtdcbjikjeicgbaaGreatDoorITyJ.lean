/- Of which type a node makes its value, an operator at a time (mkITy.py). -/
import Derived.Test.YtdcbjikjeicgbaaGreatDoorITypeJ
import Derived.Test.YtdcbjikjeicgbaaGreatDoorINumJ
import Derived.Test.YtdcbjikjeicgbaaGreatDoorINodeJ
import Derived.Deep.RegionHeld3
namespace Go.Proofs.YtdcbjikjeicgbaaGreatDoor
open Go.RowKit

/-- The cells of a value in a list. -/
theorem ValsIn.at {w : World} {b off n c : Nat} {vs : List (Val × List Int)} (h : ValsIn w (.slice (some ⟨b, off, none⟩) n c) vs) (k : Nat) (hk : k < vs.length) : w.cell? ⟨b, off + k * 3 + 1, none⟩ = some (.int .i64 (vs[k].1.ty)) ∧ w.cell? ⟨b, off + k * 3 + 2, none⟩ = some (.slice vs[k].1.dv.a vs[k].1.dv.n vs[k].1.dv.c) := by
  obtain ⟨-, h1, h2⟩ := h.vals.val k (by rw [List.length_map]; exact hk)
  rw [List.getElem_map] at h1 h2
  exact ⟨h1, h2⟩

theorem sameP_typ {ts : List Int} {t : Int} (h : sameP ts = .ok t) (hp : 0 < ts.length) (ht : ∀ s ∈ ts, isTypeP s = true) : isTypeP t = true := by
  cases ts with
  | nil => simp at hp
  | cons a l =>
    by_cases hc : l.all (fun s => s == a) = true
    · have e : sameP (a :: l) = .ok a := by simp only [sameP]; rw [if_pos hc]
      rw [e] at h
      cases h
      exact ht t (by simp)
    · have e : sameP (a :: l) = .error 4 := by simp only [sameP]; rw [if_neg hc]
      rw [e] at h
      cases h

def tysOf (vs : List (Val × List Int)) : List Int := vs.map (·.1.ty)

set_option maxRecDepth 100000 in
set_option maxHeartbeats 2000000 in
theorem type_Concat (n : Nod) (A : At) (u : Sl) (vs : List (Val × List Int)) (w : World) (hop : n.op = ⟨#[67, 111, 110, 99, 97, 116]⟩) (hn : NodeOk w n A) (hv : ValsIn w u.v vs) (hp : 0 < vs.length) (hf : vs.length ≤ 1000000) (ht : ∀ s ∈ tysOf vs, isTypeP s = true) : Calls Tryz.prog 48 #[nval n, .slice u.a u.n u.c] w (Ended w (sameP (tysOf vs)) fun t v _ => v = .int .i64 t) := by
  obtain ⟨xa, xc, e1, p1, p2, p3⟩ := hv.vals.form
  rw [List.length_map] at e1 p1 p3
  obtain ⟨ua, un, uc⟩ := u
  simp only [Sl.v, Value.slice.injEq] at e1
  obtain ⟨rfl, rfl, rfl⟩ := e1
  have HV := hide hv
  have HT := hide ht
  clear hv ht
  have NK := hide hn
  obtain ⟨op, nam, ⟨ia, il, ic⟩, out, ⟨ao, al, cap⟩⟩ := n
  unfold nval
  simp only
  obtain ⟨w0, hw0⟩ : ∃ w0, w0 = w.alloc (.cells #[.string op, .string nam, .slice ia il ic, .string out, .slice ao al cap] 25) := ⟨_, rfl⟩
  have g0 : Hid (w.grownBy w0 none) := by show w.grownBy w0 none; rw [hw0]; exact grown_new _ _
  have hb0 := heap_alloc_new w (.cells #[.string op, .string nam, .slice ia il ic, .string out, .slice ao al cap] 25)
  rw [← hw0] at hb0
  have BX : Hid (∀ wx, w0.grownBy wx none → wx.heap[w.heap.size]? = some (.cells #[.string op, .string nam, .slice ia il ic, .string out, .slice ao al cap] 25 (0, 0))) := fun wx hg => box_kept hb0 hg
  clear hb0 hn
  simp only at hop
  subst hop
  have SM := hide (sametype_any ⟨ua, vs.length, uc⟩ vs w0 (HV.out.more g0.out) hp hf)
  simp only at SM
  go_enter Tryz.func48, Tryz.ntmps48
  go_wp2_with fail
  rw [← hw0]
  clear hw0
  cases hk : sameP (vs.map (·.1.ty)) with
  | error c =>
    rw [hk] at SM
    have E : Hid (sameP (tysOf vs) = .error c) := hk
    clear hk
    refine SM.out.mono ?_
    rintro e w' ⟨hg, rfl⟩
    exact ⟨rfl, ended_err E.out (grown_trans g0.out hg)⟩
  | ok t =>
    rw [hk] at SM
    have E : Hid (sameP (tysOf vs) = .ok t) := hk
    clear hk
    refine SM.out.mono ?_
    rintro e w' ⟨hg, v, rfl, rfl⟩
    go_wp2
    go_ret
    exact ended_ok E.out (grown_trans g0.out hg) rfl

set_option maxRecDepth 100000 in
set_option maxHeartbeats 2000000 in
theorem type_Reshape (n : Nod) (A : At) (u : Sl) (vs : List (Val × List Int)) (w : World) (hop : n.op = ⟨#[82, 101, 115, 104, 97, 112, 101]⟩) (hn : NodeOk w n A) (hv : ValsIn w u.v vs) (hp : 0 < vs.length) (hf : vs.length ≤ 1000000) (ht : ∀ s ∈ tysOf vs, isTypeP s = true) : Calls Tryz.prog 48 #[nval n, .slice u.a u.n u.c] w (Ended w (sameP (tysOf vs)) fun t v _ => v = .int .i64 t) := by
  obtain ⟨xa, xc, e1, p1, p2, p3⟩ := hv.vals.form
  rw [List.length_map] at e1 p1 p3
  obtain ⟨ua, un, uc⟩ := u
  simp only [Sl.v, Value.slice.injEq] at e1
  obtain ⟨rfl, rfl, rfl⟩ := e1
  have HV := hide hv
  have HT := hide ht
  clear hv ht
  have NK := hide hn
  obtain ⟨op, nam, ⟨ia, il, ic⟩, out, ⟨ao, al, cap⟩⟩ := n
  unfold nval
  simp only
  obtain ⟨w0, hw0⟩ : ∃ w0, w0 = w.alloc (.cells #[.string op, .string nam, .slice ia il ic, .string out, .slice ao al cap] 25) := ⟨_, rfl⟩
  have g0 : Hid (w.grownBy w0 none) := by show w.grownBy w0 none; rw [hw0]; exact grown_new _ _
  have hb0 := heap_alloc_new w (.cells #[.string op, .string nam, .slice ia il ic, .string out, .slice ao al cap] 25)
  rw [← hw0] at hb0
  have BX : Hid (∀ wx, w0.grownBy wx none → wx.heap[w.heap.size]? = some (.cells #[.string op, .string nam, .slice ia il ic, .string out, .slice ao al cap] 25 (0, 0))) := fun wx hg => box_kept hb0 hg
  clear hb0 hn
  simp only at hop
  subst hop
  have SM := hide (sametype_any ⟨ua, vs.length, uc⟩ vs w0 (HV.out.more g0.out) hp hf)
  simp only at SM
  go_enter Tryz.func48, Tryz.ntmps48
  go_wp2_with fail
  rw [← hw0]
  clear hw0
  cases hk : sameP (vs.map (·.1.ty)) with
  | error c =>
    rw [hk] at SM
    have E : Hid (sameP (tysOf vs) = .error c) := hk
    clear hk
    refine SM.out.mono ?_
    rintro e w' ⟨hg, rfl⟩
    exact ⟨rfl, ended_err E.out (grown_trans g0.out hg)⟩
  | ok t =>
    rw [hk] at SM
    have E : Hid (sameP (tysOf vs) = .ok t) := hk
    clear hk
    refine SM.out.mono ?_
    rintro e w' ⟨hg, v, rfl, rfl⟩
    go_wp2
    go_ret
    exact ended_ok E.out (grown_trans g0.out hg) rfl

set_option maxRecDepth 100000 in
set_option maxHeartbeats 2000000 in
theorem type_Expand (n : Nod) (A : At) (u : Sl) (vs : List (Val × List Int)) (w : World) (hop : n.op = ⟨#[69, 120, 112, 97, 110, 100]⟩) (hn : NodeOk w n A) (hv : ValsIn w u.v vs) (hp : 0 < vs.length) (hf : vs.length ≤ 1000000) (ht : ∀ s ∈ tysOf vs, isTypeP s = true) : Calls Tryz.prog 48 #[nval n, .slice u.a u.n u.c] w (Ended w (sameP (tysOf vs)) fun t v _ => v = .int .i64 t) := by
  obtain ⟨xa, xc, e1, p1, p2, p3⟩ := hv.vals.form
  rw [List.length_map] at e1 p1 p3
  obtain ⟨ua, un, uc⟩ := u
  simp only [Sl.v, Value.slice.injEq] at e1
  obtain ⟨rfl, rfl, rfl⟩ := e1
  have HV := hide hv
  have HT := hide ht
  clear hv ht
  have NK := hide hn
  obtain ⟨op, nam, ⟨ia, il, ic⟩, out, ⟨ao, al, cap⟩⟩ := n
  unfold nval
  simp only
  obtain ⟨w0, hw0⟩ : ∃ w0, w0 = w.alloc (.cells #[.string op, .string nam, .slice ia il ic, .string out, .slice ao al cap] 25) := ⟨_, rfl⟩
  have g0 : Hid (w.grownBy w0 none) := by show w.grownBy w0 none; rw [hw0]; exact grown_new _ _
  have hb0 := heap_alloc_new w (.cells #[.string op, .string nam, .slice ia il ic, .string out, .slice ao al cap] 25)
  rw [← hw0] at hb0
  have BX : Hid (∀ wx, w0.grownBy wx none → wx.heap[w.heap.size]? = some (.cells #[.string op, .string nam, .slice ia il ic, .string out, .slice ao al cap] 25 (0, 0))) := fun wx hg => box_kept hb0 hg
  clear hb0 hn
  simp only at hop
  subst hop
  have SM := hide (sametype_any ⟨ua, vs.length, uc⟩ vs w0 (HV.out.more g0.out) hp hf)
  simp only at SM
  go_enter Tryz.func48, Tryz.ntmps48
  go_wp2_with fail
  rw [← hw0]
  clear hw0
  cases hk : sameP (vs.map (·.1.ty)) with
  | error c =>
    rw [hk] at SM
    have E : Hid (sameP (tysOf vs) = .error c) := hk
    clear hk
    refine SM.out.mono ?_
    rintro e w' ⟨hg, rfl⟩
    exact ⟨rfl, ended_err E.out (grown_trans g0.out hg)⟩
  | ok t =>
    rw [hk] at SM
    have E : Hid (sameP (tysOf vs) = .ok t) := hk
    clear hk
    refine SM.out.mono ?_
    rintro e w' ⟨hg, v, rfl, rfl⟩
    go_wp2
    go_ret
    exact ended_ok E.out (grown_trans g0.out hg) rfl

set_option maxRecDepth 100000 in
set_option maxHeartbeats 2000000 in
theorem type_Transpose (n : Nod) (A : At) (u : Sl) (vs : List (Val × List Int)) (w : World) (hop : n.op = ⟨#[84, 114, 97, 110, 115, 112, 111, 115, 101]⟩) (hn : NodeOk w n A) (hv : ValsIn w u.v vs) (hp : 0 < vs.length) (hf : vs.length ≤ 1000000) (ht : ∀ s ∈ tysOf vs, isTypeP s = true) : Calls Tryz.prog 48 #[nval n, .slice u.a u.n u.c] w (Ended w (sameP (tysOf vs)) fun t v _ => v = .int .i64 t) := by
  obtain ⟨xa, xc, e1, p1, p2, p3⟩ := hv.vals.form
  rw [List.length_map] at e1 p1 p3
  obtain ⟨ua, un, uc⟩ := u
  simp only [Sl.v, Value.slice.injEq] at e1
  obtain ⟨rfl, rfl, rfl⟩ := e1
  have HV := hide hv
  have HT := hide ht
  clear hv ht
  have NK := hide hn
  obtain ⟨op, nam, ⟨ia, il, ic⟩, out, ⟨ao, al, cap⟩⟩ := n
  unfold nval
  simp only
  obtain ⟨w0, hw0⟩ : ∃ w0, w0 = w.alloc (.cells #[.string op, .string nam, .slice ia il ic, .string out, .slice ao al cap] 25) := ⟨_, rfl⟩
  have g0 : Hid (w.grownBy w0 none) := by show w.grownBy w0 none; rw [hw0]; exact grown_new _ _
  have hb0 := heap_alloc_new w (.cells #[.string op, .string nam, .slice ia il ic, .string out, .slice ao al cap] 25)
  rw [← hw0] at hb0
  have BX : Hid (∀ wx, w0.grownBy wx none → wx.heap[w.heap.size]? = some (.cells #[.string op, .string nam, .slice ia il ic, .string out, .slice ao al cap] 25 (0, 0))) := fun wx hg => box_kept hb0 hg
  clear hb0 hn
  simp only at hop
  subst hop
  have SM := hide (sametype_any ⟨ua, vs.length, uc⟩ vs w0 (HV.out.more g0.out) hp hf)
  simp only at SM
  go_enter Tryz.func48, Tryz.ntmps48
  go_wp2_with fail
  rw [← hw0]
  clear hw0
  cases hk : sameP (vs.map (·.1.ty)) with
  | error c =>
    rw [hk] at SM
    have E : Hid (sameP (tysOf vs) = .error c) := hk
    clear hk
    refine SM.out.mono ?_
    rintro e w' ⟨hg, rfl⟩
    exact ⟨rfl, ended_err E.out (grown_trans g0.out hg)⟩
  | ok t =>
    rw [hk] at SM
    have E : Hid (sameP (tysOf vs) = .ok t) := hk
    clear hk
    refine SM.out.mono ?_
    rintro e w' ⟨hg, v, rfl, rfl⟩
    go_wp2
    go_ret
    exact ended_ok E.out (grown_trans g0.out hg) rfl

set_option maxRecDepth 100000 in
set_option maxHeartbeats 2000000 in
theorem type_Slice (n : Nod) (A : At) (u : Sl) (vs : List (Val × List Int)) (w : World) (hop : n.op = ⟨#[83, 108, 105, 99, 101]⟩) (hn : NodeOk w n A) (hv : ValsIn w u.v vs) (hp : 0 < vs.length) (hf : vs.length ≤ 1000000) (ht : ∀ s ∈ tysOf vs, isTypeP s = true) : Calls Tryz.prog 48 #[nval n, .slice u.a u.n u.c] w (Ended w (sameP (tysOf vs)) fun t v _ => v = .int .i64 t) := by
  obtain ⟨xa, xc, e1, p1, p2, p3⟩ := hv.vals.form
  rw [List.length_map] at e1 p1 p3
  obtain ⟨ua, un, uc⟩ := u
  simp only [Sl.v, Value.slice.injEq] at e1
  obtain ⟨rfl, rfl, rfl⟩ := e1
  have HV := hide hv
  have HT := hide ht
  clear hv ht
  have NK := hide hn
  obtain ⟨op, nam, ⟨ia, il, ic⟩, out, ⟨ao, al, cap⟩⟩ := n
  unfold nval
  simp only
  obtain ⟨w0, hw0⟩ : ∃ w0, w0 = w.alloc (.cells #[.string op, .string nam, .slice ia il ic, .string out, .slice ao al cap] 25) := ⟨_, rfl⟩
  have g0 : Hid (w.grownBy w0 none) := by show w.grownBy w0 none; rw [hw0]; exact grown_new _ _
  have hb0 := heap_alloc_new w (.cells #[.string op, .string nam, .slice ia il ic, .string out, .slice ao al cap] 25)
  rw [← hw0] at hb0
  have BX : Hid (∀ wx, w0.grownBy wx none → wx.heap[w.heap.size]? = some (.cells #[.string op, .string nam, .slice ia il ic, .string out, .slice ao al cap] 25 (0, 0))) := fun wx hg => box_kept hb0 hg
  clear hb0 hn
  simp only at hop
  subst hop
  have SM := hide (sametype_any ⟨ua, vs.length, uc⟩ vs w0 (HV.out.more g0.out) hp hf)
  simp only at SM
  go_enter Tryz.func48, Tryz.ntmps48
  go_wp2_with fail
  rw [← hw0]
  clear hw0
  cases hk : sameP (vs.map (·.1.ty)) with
  | error c =>
    rw [hk] at SM
    have E : Hid (sameP (tysOf vs) = .error c) := hk
    clear hk
    refine SM.out.mono ?_
    rintro e w' ⟨hg, rfl⟩
    exact ⟨rfl, ended_err E.out (grown_trans g0.out hg)⟩
  | ok t =>
    rw [hk] at SM
    have E : Hid (sameP (tysOf vs) = .ok t) := hk
    clear hk
    refine SM.out.mono ?_
    rintro e w' ⟨hg, v, rfl, rfl⟩
    go_wp2
    go_ret
    exact ended_ok E.out (grown_trans g0.out hg) rfl

set_option maxRecDepth 100000 in
set_option maxHeartbeats 2000000 in
theorem type_Squeeze (n : Nod) (A : At) (u : Sl) (vs : List (Val × List Int)) (w : World) (hop : n.op = ⟨#[83, 113, 117, 101, 101, 122, 101]⟩) (hn : NodeOk w n A) (hv : ValsIn w u.v vs) (hp : 0 < vs.length) (hf : vs.length ≤ 1000000) (ht : ∀ s ∈ tysOf vs, isTypeP s = true) : Calls Tryz.prog 48 #[nval n, .slice u.a u.n u.c] w (Ended w (sameP (tysOf vs)) fun t v _ => v = .int .i64 t) := by
  obtain ⟨xa, xc, e1, p1, p2, p3⟩ := hv.vals.form
  rw [List.length_map] at e1 p1 p3
  obtain ⟨ua, un, uc⟩ := u
  simp only [Sl.v, Value.slice.injEq] at e1
  obtain ⟨rfl, rfl, rfl⟩ := e1
  have HV := hide hv
  have HT := hide ht
  clear hv ht
  have NK := hide hn
  obtain ⟨op, nam, ⟨ia, il, ic⟩, out, ⟨ao, al, cap⟩⟩ := n
  unfold nval
  simp only
  obtain ⟨w0, hw0⟩ : ∃ w0, w0 = w.alloc (.cells #[.string op, .string nam, .slice ia il ic, .string out, .slice ao al cap] 25) := ⟨_, rfl⟩
  have g0 : Hid (w.grownBy w0 none) := by show w.grownBy w0 none; rw [hw0]; exact grown_new _ _
  have hb0 := heap_alloc_new w (.cells #[.string op, .string nam, .slice ia il ic, .string out, .slice ao al cap] 25)
  rw [← hw0] at hb0
  have BX : Hid (∀ wx, w0.grownBy wx none → wx.heap[w.heap.size]? = some (.cells #[.string op, .string nam, .slice ia il ic, .string out, .slice ao al cap] 25 (0, 0))) := fun wx hg => box_kept hb0 hg
  clear hb0 hn
  simp only at hop
  subst hop
  have SM := hide (sametype_any ⟨ua, vs.length, uc⟩ vs w0 (HV.out.more g0.out) hp hf)
  simp only at SM
  go_enter Tryz.func48, Tryz.ntmps48
  go_wp2_with fail
  rw [← hw0]
  clear hw0
  cases hk : sameP (vs.map (·.1.ty)) with
  | error c =>
    rw [hk] at SM
    have E : Hid (sameP (tysOf vs) = .error c) := hk
    clear hk
    refine SM.out.mono ?_
    rintro e w' ⟨hg, rfl⟩
    exact ⟨rfl, ended_err E.out (grown_trans g0.out hg)⟩
  | ok t =>
    rw [hk] at SM
    have E : Hid (sameP (tysOf vs) = .ok t) := hk
    clear hk
    refine SM.out.mono ?_
    rintro e w' ⟨hg, v, rfl, rfl⟩
    go_wp2
    go_ret
    exact ended_ok E.out (grown_trans g0.out hg) rfl

set_option maxRecDepth 100000 in
set_option maxHeartbeats 2000000 in
theorem type_Unsqueeze (n : Nod) (A : At) (u : Sl) (vs : List (Val × List Int)) (w : World) (hop : n.op = ⟨#[85, 110, 115, 113, 117, 101, 101, 122, 101]⟩) (hn : NodeOk w n A) (hv : ValsIn w u.v vs) (hp : 0 < vs.length) (hf : vs.length ≤ 1000000) (ht : ∀ s ∈ tysOf vs, isTypeP s = true) : Calls Tryz.prog 48 #[nval n, .slice u.a u.n u.c] w (Ended w (sameP (tysOf vs)) fun t v _ => v = .int .i64 t) := by
  obtain ⟨xa, xc, e1, p1, p2, p3⟩ := hv.vals.form
  rw [List.length_map] at e1 p1 p3
  obtain ⟨ua, un, uc⟩ := u
  simp only [Sl.v, Value.slice.injEq] at e1
  obtain ⟨rfl, rfl, rfl⟩ := e1
  have HV := hide hv
  have HT := hide ht
  clear hv ht
  have NK := hide hn
  obtain ⟨op, nam, ⟨ia, il, ic⟩, out, ⟨ao, al, cap⟩⟩ := n
  unfold nval
  simp only
  obtain ⟨w0, hw0⟩ : ∃ w0, w0 = w.alloc (.cells #[.string op, .string nam, .slice ia il ic, .string out, .slice ao al cap] 25) := ⟨_, rfl⟩
  have g0 : Hid (w.grownBy w0 none) := by show w.grownBy w0 none; rw [hw0]; exact grown_new _ _
  have hb0 := heap_alloc_new w (.cells #[.string op, .string nam, .slice ia il ic, .string out, .slice ao al cap] 25)
  rw [← hw0] at hb0
  have BX : Hid (∀ wx, w0.grownBy wx none → wx.heap[w.heap.size]? = some (.cells #[.string op, .string nam, .slice ia il ic, .string out, .slice ao al cap] 25 (0, 0))) := fun wx hg => box_kept hb0 hg
  clear hb0 hn
  simp only at hop
  subst hop
  have SM := hide (sametype_any ⟨ua, vs.length, uc⟩ vs w0 (HV.out.more g0.out) hp hf)
  simp only at SM
  go_enter Tryz.func48, Tryz.ntmps48
  go_wp2_with fail
  rw [← hw0]
  clear hw0
  cases hk : sameP (vs.map (·.1.ty)) with
  | error c =>
    rw [hk] at SM
    have E : Hid (sameP (tysOf vs) = .error c) := hk
    clear hk
    refine SM.out.mono ?_
    rintro e w' ⟨hg, rfl⟩
    exact ⟨rfl, ended_err E.out (grown_trans g0.out hg)⟩
  | ok t =>
    rw [hk] at SM
    have E : Hid (sameP (tysOf vs) = .ok t) := hk
    clear hk
    refine SM.out.mono ?_
    rintro e w' ⟨hg, v, rfl, rfl⟩
    go_wp2
    go_ret
    exact ended_ok E.out (grown_trans g0.out hg) rfl

set_option maxRecDepth 100000 in
set_option maxHeartbeats 2000000 in
theorem type_Flatten (n : Nod) (A : At) (u : Sl) (vs : List (Val × List Int)) (w : World) (hop : n.op = ⟨#[70, 108, 97, 116, 116, 101, 110]⟩) (hn : NodeOk w n A) (hv : ValsIn w u.v vs) (hp : 0 < vs.length) (hf : vs.length ≤ 1000000) (ht : ∀ s ∈ tysOf vs, isTypeP s = true) : Calls Tryz.prog 48 #[nval n, .slice u.a u.n u.c] w (Ended w (sameP (tysOf vs)) fun t v _ => v = .int .i64 t) := by
  obtain ⟨xa, xc, e1, p1, p2, p3⟩ := hv.vals.form
  rw [List.length_map] at e1 p1 p3
  obtain ⟨ua, un, uc⟩ := u
  simp only [Sl.v, Value.slice.injEq] at e1
  obtain ⟨rfl, rfl, rfl⟩ := e1
  have HV := hide hv
  have HT := hide ht
  clear hv ht
  have NK := hide hn
  obtain ⟨op, nam, ⟨ia, il, ic⟩, out, ⟨ao, al, cap⟩⟩ := n
  unfold nval
  simp only
  obtain ⟨w0, hw0⟩ : ∃ w0, w0 = w.alloc (.cells #[.string op, .string nam, .slice ia il ic, .string out, .slice ao al cap] 25) := ⟨_, rfl⟩
  have g0 : Hid (w.grownBy w0 none) := by show w.grownBy w0 none; rw [hw0]; exact grown_new _ _
  have hb0 := heap_alloc_new w (.cells #[.string op, .string nam, .slice ia il ic, .string out, .slice ao al cap] 25)
  rw [← hw0] at hb0
  have BX : Hid (∀ wx, w0.grownBy wx none → wx.heap[w.heap.size]? = some (.cells #[.string op, .string nam, .slice ia il ic, .string out, .slice ao al cap] 25 (0, 0))) := fun wx hg => box_kept hb0 hg
  clear hb0 hn
  simp only at hop
  subst hop
  have SM := hide (sametype_any ⟨ua, vs.length, uc⟩ vs w0 (HV.out.more g0.out) hp hf)
  simp only at SM
  go_enter Tryz.func48, Tryz.ntmps48
  go_wp2_with fail
  rw [← hw0]
  clear hw0
  cases hk : sameP (vs.map (·.1.ty)) with
  | error c =>
    rw [hk] at SM
    have E : Hid (sameP (tysOf vs) = .error c) := hk
    clear hk
    refine SM.out.mono ?_
    rintro e w' ⟨hg, rfl⟩
    exact ⟨rfl, ended_err E.out (grown_trans g0.out hg)⟩
  | ok t =>
    rw [hk] at SM
    have E : Hid (sameP (tysOf vs) = .ok t) := hk
    clear hk
    refine SM.out.mono ?_
    rintro e w' ⟨hg, v, rfl, rfl⟩
    go_wp2
    go_ret
    exact ended_ok E.out (grown_trans g0.out hg) rfl

set_option maxRecDepth 100000 in
set_option maxHeartbeats 2000000 in
theorem type_Clip (n : Nod) (A : At) (u : Sl) (vs : List (Val × List Int)) (w : World) (hop : n.op = ⟨#[67, 108, 105, 112]⟩) (hn : NodeOk w n A) (hv : ValsIn w u.v vs) (hp : 0 < vs.length) (hf : vs.length ≤ 1000000) (ht : ∀ s ∈ tysOf vs, isTypeP s = true) : Calls Tryz.prog 48 #[nval n, .slice u.a u.n u.c] w (Ended w ((sameP (tysOf vs)).bind (fun t => (mustP (t == 1)).bind (fun _ => .ok (1 : Int)))) fun t v _ => v = .int .i64 t) := by
  obtain ⟨xa, xc, e1, p1, p2, p3⟩ := hv.vals.form
  rw [List.length_map] at e1 p1 p3
  obtain ⟨ua, un, uc⟩ := u
  simp only [Sl.v, Value.slice.injEq] at e1
  obtain ⟨rfl, rfl, rfl⟩ := e1
  have HV := hide hv
  have HT := hide ht
  clear hv ht
  have NK := hide hn
  obtain ⟨op, nam, ⟨ia, il, ic⟩, out, ⟨ao, al, cap⟩⟩ := n
  unfold nval
  simp only
  obtain ⟨w0, hw0⟩ : ∃ w0, w0 = w.alloc (.cells #[.string op, .string nam, .slice ia il ic, .string out, .slice ao al cap] 25) := ⟨_, rfl⟩
  have g0 : Hid (w.grownBy w0 none) := by show w.grownBy w0 none; rw [hw0]; exact grown_new _ _
  have hb0 := heap_alloc_new w (.cells #[.string op, .string nam, .slice ia il ic, .string out, .slice ao al cap] 25)
  rw [← hw0] at hb0
  have BX : Hid (∀ wx, w0.grownBy wx none → wx.heap[w.heap.size]? = some (.cells #[.string op, .string nam, .slice ia il ic, .string out, .slice ao al cap] 25 (0, 0))) := fun wx hg => box_kept hb0 hg
  clear hb0 hn
  simp only at hop
  subst hop
  have SM := hide (sametype_any ⟨ua, vs.length, uc⟩ vs w0 (HV.out.more g0.out) hp hf)
  simp only at SM
  go_enter Tryz.func48, Tryz.ntmps48
  go_wp2_with fail
  rw [← hw0]
  clear hw0
  cases hk : sameP (vs.map (·.1.ty)) with
  | error c =>
    rw [hk] at SM
    have E : Hid ((sameP (tysOf vs)).bind (fun t => (mustP (t == 1)).bind (fun _ => .ok (1 : Int))) = .error c) := by show _ = _; unfold tysOf; rw [hk]; rfl
    clear hk
    refine SM.out.mono ?_
    rintro e w' ⟨hg, rfl⟩
    exact ⟨rfl, ended_err E.out (grown_trans g0.out hg)⟩
  | ok t =>
    rw [hk] at SM
    have E : Hid ((sameP (tysOf vs)).bind (fun t => (mustP (t == 1)).bind (fun _ => .ok (1 : Int))) = (mustP (t == 1)).bind (fun _ => .ok (1 : Int))) := by show _ = _; unfold tysOf; rw [hk]; rfl
    clear hk
    refine SM.out.mono ?_
    rintro e w' ⟨hg, v, rfl, rfl⟩
    cases h1 : (t == 1) with
    | true =>
      have E2 : Hid ((sameP (tysOf vs)).bind (fun t => (mustP (t == 1)).bind (fun _ => .ok (1 : Int))) = .ok (1 : Int)) := by show _ = _; rw [E.out, h1]; rfl
      go_wp2_with (first | (go_at_call 45; refine (must_yes _).mono ?_; rintro e w'' ⟨rfl, rfl⟩) | fail)
      go_ret
      exact ended_ok E2.out (grown_trans g0.out hg) rfl
    | false =>
      have E2 : Hid ((sameP (tysOf vs)).bind (fun t => (mustP (t == 1)).bind (fun _ => .ok (1 : Int))) = .error 4) := by show _ = _; rw [E.out, h1]; rfl
      go_wp2_with (first | (go_at_call 45; refine (must_no _).mono ?_; rintro e w'' ⟨rfl, rfl⟩) | fail)
      exact ⟨rfl, ended_err E2.out (grown_trans g0.out hg)⟩

set_option maxRecDepth 100000 in
set_option maxHeartbeats 2000000 in
theorem type_Softmax (n : Nod) (A : At) (u : Sl) (vs : List (Val × List Int)) (w : World) (hop : n.op = ⟨#[83, 111, 102, 116, 109, 97, 120]⟩) (hn : NodeOk w n A) (hv : ValsIn w u.v vs) (hp : 0 < vs.length) (hf : vs.length ≤ 1000000) (ht : ∀ s ∈ tysOf vs, isTypeP s = true) : Calls Tryz.prog 48 #[nval n, .slice u.a u.n u.c] w (Ended w ((sameP (tysOf vs)).bind (fun t => (mustP (t == 1)).bind (fun _ => .ok (1 : Int)))) fun t v _ => v = .int .i64 t) := by
  obtain ⟨xa, xc, e1, p1, p2, p3⟩ := hv.vals.form
  rw [List.length_map] at e1 p1 p3
  obtain ⟨ua, un, uc⟩ := u
  simp only [Sl.v, Value.slice.injEq] at e1
  obtain ⟨rfl, rfl, rfl⟩ := e1
  have HV := hide hv
  have HT := hide ht
  clear hv ht
  have NK := hide hn
  obtain ⟨op, nam, ⟨ia, il, ic⟩, out, ⟨ao, al, cap⟩⟩ := n
  unfold nval
  simp only
  obtain ⟨w0, hw0⟩ : ∃ w0, w0 = w.alloc (.cells #[.string op, .string nam, .slice ia il ic, .string out, .slice ao al cap] 25) := ⟨_, rfl⟩
  have g0 : Hid (w.grownBy w0 none) := by show w.grownBy w0 none; rw [hw0]; exact grown_new _ _
  have hb0 := heap_alloc_new w (.cells #[.string op, .string nam, .slice ia il ic, .string out, .slice ao al cap] 25)
  rw [← hw0] at hb0
  have BX : Hid (∀ wx, w0.grownBy wx none → wx.heap[w.heap.size]? = some (.cells #[.string op, .string nam, .slice ia il ic, .string out, .slice ao al cap] 25 (0, 0))) := fun wx hg => box_kept hb0 hg
  clear hb0 hn
  simp only at hop
  subst hop
  have SM := hide (sametype_any ⟨ua, vs.length, uc⟩ vs w0 (HV.out.more g0.out) hp hf)
  simp only at SM
  go_enter Tryz.func48, Tryz.ntmps48
  go_wp2_with fail
  rw [← hw0]
  clear hw0
  cases hk : sameP (vs.map (·.1.ty)) with
  | error c =>
    rw [hk] at SM
    have E : Hid ((sameP (tysOf vs)).bind (fun t => (mustP (t == 1)).bind (fun _ => .ok (1 : Int))) = .error c) := by show _ = _; unfold tysOf; rw [hk]; rfl
    clear hk
    refine SM.out.mono ?_
    rintro e w' ⟨hg, rfl⟩
    exact ⟨rfl, ended_err E.out (grown_trans g0.out hg)⟩
  | ok t =>
    rw [hk] at SM
    have E : Hid ((sameP (tysOf vs)).bind (fun t => (mustP (t == 1)).bind (fun _ => .ok (1 : Int))) = (mustP (t == 1)).bind (fun _ => .ok (1 : Int))) := by show _ = _; unfold tysOf; rw [hk]; rfl
    clear hk
    refine SM.out.mono ?_
    rintro e w' ⟨hg, v, rfl, rfl⟩
    cases h1 : (t == 1) with
    | true =>
      have E2 : Hid ((sameP (tysOf vs)).bind (fun t => (mustP (t == 1)).bind (fun _ => .ok (1 : Int))) = .ok (1 : Int)) := by show _ = _; rw [E.out, h1]; rfl
      go_wp2_with (first | (go_at_call 45; refine (must_yes _).mono ?_; rintro e w'' ⟨rfl, rfl⟩) | fail)
      go_ret
      exact ended_ok E2.out (grown_trans g0.out hg) rfl
    | false =>
      have E2 : Hid ((sameP (tysOf vs)).bind (fun t => (mustP (t == 1)).bind (fun _ => .ok (1 : Int))) = .error 4) := by show _ = _; rw [E.out, h1]; rfl
      go_wp2_with (first | (go_at_call 45; refine (must_no _).mono ?_; rintro e w'' ⟨rfl, rfl⟩) | fail)
      exact ⟨rfl, ended_err E2.out (grown_trans g0.out hg)⟩

set_option maxRecDepth 100000 in
set_option maxHeartbeats 2000000 in
theorem type_ReduceMean (n : Nod) (A : At) (u : Sl) (vs : List (Val × List Int)) (w : World) (hop : n.op = ⟨#[82, 101, 100, 117, 99, 101, 77, 101, 97, 110]⟩) (hn : NodeOk w n A) (hv : ValsIn w u.v vs) (hp : 0 < vs.length) (hf : vs.length ≤ 1000000) (ht : ∀ s ∈ tysOf vs, isTypeP s = true) : Calls Tryz.prog 48 #[nval n, .slice u.a u.n u.c] w (Ended w ((sameP (tysOf vs)).bind (fun t => (mustP (t == 1)).bind (fun _ => .ok (1 : Int)))) fun t v _ => v = .int .i64 t) := by
  obtain ⟨xa, xc, e1, p1, p2, p3⟩ := hv.vals.form
  rw [List.length_map] at e1 p1 p3
  obtain ⟨ua, un, uc⟩ := u
  simp only [Sl.v, Value.slice.injEq] at e1
  obtain ⟨rfl, rfl, rfl⟩ := e1
  have HV := hide hv
  have HT := hide ht
  clear hv ht
  have NK := hide hn
  obtain ⟨op, nam, ⟨ia, il, ic⟩, out, ⟨ao, al, cap⟩⟩ := n
  unfold nval
  simp only
  obtain ⟨w0, hw0⟩ : ∃ w0, w0 = w.alloc (.cells #[.string op, .string nam, .slice ia il ic, .string out, .slice ao al cap] 25) := ⟨_, rfl⟩
  have g0 : Hid (w.grownBy w0 none) := by show w.grownBy w0 none; rw [hw0]; exact grown_new _ _
  have hb0 := heap_alloc_new w (.cells #[.string op, .string nam, .slice ia il ic, .string out, .slice ao al cap] 25)
  rw [← hw0] at hb0
  have BX : Hid (∀ wx, w0.grownBy wx none → wx.heap[w.heap.size]? = some (.cells #[.string op, .string nam, .slice ia il ic, .string out, .slice ao al cap] 25 (0, 0))) := fun wx hg => box_kept hb0 hg
  clear hb0 hn
  simp only at hop
  subst hop
  have SM := hide (sametype_any ⟨ua, vs.length, uc⟩ vs w0 (HV.out.more g0.out) hp hf)
  simp only at SM
  go_enter Tryz.func48, Tryz.ntmps48
  go_wp2_with fail
  rw [← hw0]
  clear hw0
  cases hk : sameP (vs.map (·.1.ty)) with
  | error c =>
    rw [hk] at SM
    have E : Hid ((sameP (tysOf vs)).bind (fun t => (mustP (t == 1)).bind (fun _ => .ok (1 : Int))) = .error c) := by show _ = _; unfold tysOf; rw [hk]; rfl
    clear hk
    refine SM.out.mono ?_
    rintro e w' ⟨hg, rfl⟩
    exact ⟨rfl, ended_err E.out (grown_trans g0.out hg)⟩
  | ok t =>
    rw [hk] at SM
    have E : Hid ((sameP (tysOf vs)).bind (fun t => (mustP (t == 1)).bind (fun _ => .ok (1 : Int))) = (mustP (t == 1)).bind (fun _ => .ok (1 : Int))) := by show _ = _; unfold tysOf; rw [hk]; rfl
    clear hk
    refine SM.out.mono ?_
    rintro e w' ⟨hg, v, rfl, rfl⟩
    cases h1 : (t == 1) with
    | true =>
      have E2 : Hid ((sameP (tysOf vs)).bind (fun t => (mustP (t == 1)).bind (fun _ => .ok (1 : Int))) = .ok (1 : Int)) := by show _ = _; rw [E.out, h1]; rfl
      go_wp2_with (first | (go_at_call 45; refine (must_yes _).mono ?_; rintro e w'' ⟨rfl, rfl⟩) | fail)
      go_ret
      exact ended_ok E2.out (grown_trans g0.out hg) rfl
    | false =>
      have E2 : Hid ((sameP (tysOf vs)).bind (fun t => (mustP (t == 1)).bind (fun _ => .ok (1 : Int))) = .error 4) := by show _ = _; rw [E.out, h1]; rfl
      go_wp2_with (first | (go_at_call 45; refine (must_no _).mono ?_; rintro e w'' ⟨rfl, rfl⟩) | fail)
      exact ⟨rfl, ended_err E2.out (grown_trans g0.out hg)⟩

set_option maxRecDepth 100000 in
set_option maxHeartbeats 2000000 in
theorem type_Pad (n : Nod) (A : At) (u : Sl) (vs : List (Val × List Int)) (w : World) (hop : n.op = ⟨#[80, 97, 100]⟩) (hn : NodeOk w n A) (hv : ValsIn w u.v vs) (hp : 0 < vs.length) (hf : vs.length ≤ 1000000) (ht : ∀ s ∈ tysOf vs, isTypeP s = true) : Calls Tryz.prog 48 #[nval n, .slice u.a u.n u.c] w (Ended w ((sameP (tysOf vs)).bind (fun t => (mustP (t == 1)).bind (fun _ => .ok (1 : Int)))) fun t v _ => v = .int .i64 t) := by
  obtain ⟨xa, xc, e1, p1, p2, p3⟩ := hv.vals.form
  rw [List.length_map] at e1 p1 p3
  obtain ⟨ua, un, uc⟩ := u
  simp only [Sl.v, Value.slice.injEq] at e1
  obtain ⟨rfl, rfl, rfl⟩ := e1
  have HV := hide hv
  have HT := hide ht
  clear hv ht
  have NK := hide hn
  obtain ⟨op, nam, ⟨ia, il, ic⟩, out, ⟨ao, al, cap⟩⟩ := n
  unfold nval
  simp only
  obtain ⟨w0, hw0⟩ : ∃ w0, w0 = w.alloc (.cells #[.string op, .string nam, .slice ia il ic, .string out, .slice ao al cap] 25) := ⟨_, rfl⟩
  have g0 : Hid (w.grownBy w0 none) := by show w.grownBy w0 none; rw [hw0]; exact grown_new _ _
  have hb0 := heap_alloc_new w (.cells #[.string op, .string nam, .slice ia il ic, .string out, .slice ao al cap] 25)
  rw [← hw0] at hb0
  have BX : Hid (∀ wx, w0.grownBy wx none → wx.heap[w.heap.size]? = some (.cells #[.string op, .string nam, .slice ia il ic, .string out, .slice ao al cap] 25 (0, 0))) := fun wx hg => box_kept hb0 hg
  clear hb0 hn
  simp only at hop
  subst hop
  have SM := hide (sametype_any ⟨ua, vs.length, uc⟩ vs w0 (HV.out.more g0.out) hp hf)
  simp only at SM
  go_enter Tryz.func48, Tryz.ntmps48
  go_wp2_with fail
  rw [← hw0]
  clear hw0
  cases hk : sameP (vs.map (·.1.ty)) with
  | error c =>
    rw [hk] at SM
    have E : Hid ((sameP (tysOf vs)).bind (fun t => (mustP (t == 1)).bind (fun _ => .ok (1 : Int))) = .error c) := by show _ = _; unfold tysOf; rw [hk]; rfl
    clear hk
    refine SM.out.mono ?_
    rintro e w' ⟨hg, rfl⟩
    exact ⟨rfl, ended_err E.out (grown_trans g0.out hg)⟩
  | ok t =>
    rw [hk] at SM
    have E : Hid ((sameP (tysOf vs)).bind (fun t => (mustP (t == 1)).bind (fun _ => .ok (1 : Int))) = (mustP (t == 1)).bind (fun _ => .ok (1 : Int))) := by show _ = _; unfold tysOf; rw [hk]; rfl
    clear hk
    refine SM.out.mono ?_
    rintro e w' ⟨hg, v, rfl, rfl⟩
    cases h1 : (t == 1) with
    | true =>
      have E2 : Hid ((sameP (tysOf vs)).bind (fun t => (mustP (t == 1)).bind (fun _ => .ok (1 : Int))) = .ok (1 : Int)) := by show _ = _; rw [E.out, h1]; rfl
      go_wp2_with (first | (go_at_call 45; refine (must_yes _).mono ?_; rintro e w'' ⟨rfl, rfl⟩) | fail)
      go_ret
      exact ended_ok E2.out (grown_trans g0.out hg) rfl
    | false =>
      have E2 : Hid ((sameP (tysOf vs)).bind (fun t => (mustP (t == 1)).bind (fun _ => .ok (1 : Int))) = .error 4) := by show _ = _; rw [E.out, h1]; rfl
      go_wp2_with (first | (go_at_call 45; refine (must_no _).mono ?_; rintro e w'' ⟨rfl, rfl⟩) | fail)
      exact ⟨rfl, ended_err E2.out (grown_trans g0.out hg)⟩

set_option maxRecDepth 100000 in
set_option maxHeartbeats 2000000 in
theorem type_MatMul (n : Nod) (A : At) (u : Sl) (vs : List (Val × List Int)) (w : World) (hop : n.op = ⟨#[77, 97, 116, 77, 117, 108]⟩) (hn : NodeOk w n A) (hv : ValsIn w u.v vs) (hp : 0 < vs.length) (hf : vs.length ≤ 1000000) (ht : ∀ s ∈ tysOf vs, isTypeP s = true) : Calls Tryz.prog 48 #[nval n, .slice u.a u.n u.c] w (Ended w ((sameP (tysOf vs)).bind (fun t => (mustP (t == 1)).bind (fun _ => .ok (1 : Int)))) fun t v _ => v = .int .i64 t) := by
  obtain ⟨xa, xc, e1, p1, p2, p3⟩ := hv.vals.form
  rw [List.length_map] at e1 p1 p3
  obtain ⟨ua, un, uc⟩ := u
  simp only [Sl.v, Value.slice.injEq] at e1
  obtain ⟨rfl, rfl, rfl⟩ := e1
  have HV := hide hv
  have HT := hide ht
  clear hv ht
  have NK := hide hn
  obtain ⟨op, nam, ⟨ia, il, ic⟩, out, ⟨ao, al, cap⟩⟩ := n
  unfold nval
  simp only
  obtain ⟨w0, hw0⟩ : ∃ w0, w0 = w.alloc (.cells #[.string op, .string nam, .slice ia il ic, .string out, .slice ao al cap] 25) := ⟨_, rfl⟩
  have g0 : Hid (w.grownBy w0 none) := by show w.grownBy w0 none; rw [hw0]; exact grown_new _ _
  have hb0 := heap_alloc_new w (.cells #[.string op, .string nam, .slice ia il ic, .string out, .slice ao al cap] 25)
  rw [← hw0] at hb0
  have BX : Hid (∀ wx, w0.grownBy wx none → wx.heap[w.heap.size]? = some (.cells #[.string op, .string nam, .slice ia il ic, .string out, .slice ao al cap] 25 (0, 0))) := fun wx hg => box_kept hb0 hg
  clear hb0 hn
  simp only at hop
  subst hop
  have SM := hide (sametype_any ⟨ua, vs.length, uc⟩ vs w0 (HV.out.more g0.out) hp hf)
  simp only at SM
  go_enter Tryz.func48, Tryz.ntmps48
  go_wp2_with fail
  rw [← hw0]
  clear hw0
  cases hk : sameP (vs.map (·.1.ty)) with
  | error c =>
    rw [hk] at SM
    have E : Hid ((sameP (tysOf vs)).bind (fun t => (mustP (t == 1)).bind (fun _ => .ok (1 : Int))) = .error c) := by show _ = _; unfold tysOf; rw [hk]; rfl
    clear hk
    refine SM.out.mono ?_
    rintro e w' ⟨hg, rfl⟩
    exact ⟨rfl, ended_err E.out (grown_trans g0.out hg)⟩
  | ok t =>
    rw [hk] at SM
    have E : Hid ((sameP (tysOf vs)).bind (fun t => (mustP (t == 1)).bind (fun _ => .ok (1 : Int))) = (mustP (t == 1)).bind (fun _ => .ok (1 : Int))) := by show _ = _; unfold tysOf; rw [hk]; rfl
    clear hk
    refine SM.out.mono ?_
    rintro e w' ⟨hg, v, rfl, rfl⟩
    cases h1 : (t == 1) with
    | true =>
      have E2 : Hid ((sameP (tysOf vs)).bind (fun t => (mustP (t == 1)).bind (fun _ => .ok (1 : Int))) = .ok (1 : Int)) := by show _ = _; rw [E.out, h1]; rfl
      go_wp2_with (first | (go_at_call 45; refine (must_yes _).mono ?_; rintro e w'' ⟨rfl, rfl⟩) | fail)
      go_ret
      exact ended_ok E2.out (grown_trans g0.out hg) rfl
    | false =>
      have E2 : Hid ((sameP (tysOf vs)).bind (fun t => (mustP (t == 1)).bind (fun _ => .ok (1 : Int))) = .error 4) := by show _ = _; rw [E.out, h1]; rfl
      go_wp2_with (first | (go_at_call 45; refine (must_no _).mono ?_; rintro e w'' ⟨rfl, rfl⟩) | fail)
      exact ⟨rfl, ended_err E2.out (grown_trans g0.out hg)⟩

set_option maxRecDepth 100000 in
set_option maxHeartbeats 2000000 in
theorem type_Gemm (n : Nod) (A : At) (u : Sl) (vs : List (Val × List Int)) (w : World) (hop : n.op = ⟨#[71, 101, 109, 109]⟩) (hn : NodeOk w n A) (hv : ValsIn w u.v vs) (hp : 0 < vs.length) (hf : vs.length ≤ 1000000) (ht : ∀ s ∈ tysOf vs, isTypeP s = true) : Calls Tryz.prog 48 #[nval n, .slice u.a u.n u.c] w (Ended w ((sameP (tysOf vs)).bind (fun t => (mustP (t == 1)).bind (fun _ => .ok (1 : Int)))) fun t v _ => v = .int .i64 t) := by
  obtain ⟨xa, xc, e1, p1, p2, p3⟩ := hv.vals.form
  rw [List.length_map] at e1 p1 p3
  obtain ⟨ua, un, uc⟩ := u
  simp only [Sl.v, Value.slice.injEq] at e1
  obtain ⟨rfl, rfl, rfl⟩ := e1
  have HV := hide hv
  have HT := hide ht
  clear hv ht
  have NK := hide hn
  obtain ⟨op, nam, ⟨ia, il, ic⟩, out, ⟨ao, al, cap⟩⟩ := n
  unfold nval
  simp only
  obtain ⟨w0, hw0⟩ : ∃ w0, w0 = w.alloc (.cells #[.string op, .string nam, .slice ia il ic, .string out, .slice ao al cap] 25) := ⟨_, rfl⟩
  have g0 : Hid (w.grownBy w0 none) := by show w.grownBy w0 none; rw [hw0]; exact grown_new _ _
  have hb0 := heap_alloc_new w (.cells #[.string op, .string nam, .slice ia il ic, .string out, .slice ao al cap] 25)
  rw [← hw0] at hb0
  have BX : Hid (∀ wx, w0.grownBy wx none → wx.heap[w.heap.size]? = some (.cells #[.string op, .string nam, .slice ia il ic, .string out, .slice ao al cap] 25 (0, 0))) := fun wx hg => box_kept hb0 hg
  clear hb0 hn
  simp only at hop
  subst hop
  have SM := hide (sametype_any ⟨ua, vs.length, uc⟩ vs w0 (HV.out.more g0.out) hp hf)
  simp only at SM
  go_enter Tryz.func48, Tryz.ntmps48
  go_wp2_with fail
  rw [← hw0]
  clear hw0
  cases hk : sameP (vs.map (·.1.ty)) with
  | error c =>
    rw [hk] at SM
    have E : Hid ((sameP (tysOf vs)).bind (fun t => (mustP (t == 1)).bind (fun _ => .ok (1 : Int))) = .error c) := by show _ = _; unfold tysOf; rw [hk]; rfl
    clear hk
    refine SM.out.mono ?_
    rintro e w' ⟨hg, rfl⟩
    exact ⟨rfl, ended_err E.out (grown_trans g0.out hg)⟩
  | ok t =>
    rw [hk] at SM
    have E : Hid ((sameP (tysOf vs)).bind (fun t => (mustP (t == 1)).bind (fun _ => .ok (1 : Int))) = (mustP (t == 1)).bind (fun _ => .ok (1 : Int))) := by show _ = _; unfold tysOf; rw [hk]; rfl
    clear hk
    refine SM.out.mono ?_
    rintro e w' ⟨hg, v, rfl, rfl⟩
    cases h1 : (t == 1) with
    | true =>
      have E2 : Hid ((sameP (tysOf vs)).bind (fun t => (mustP (t == 1)).bind (fun _ => .ok (1 : Int))) = .ok (1 : Int)) := by show _ = _; rw [E.out, h1]; rfl
      go_wp2_with (first | (go_at_call 45; refine (must_yes _).mono ?_; rintro e w'' ⟨rfl, rfl⟩) | fail)
      go_ret
      exact ended_ok E2.out (grown_trans g0.out hg) rfl
    | false =>
      have E2 : Hid ((sameP (tysOf vs)).bind (fun t => (mustP (t == 1)).bind (fun _ => .ok (1 : Int))) = .error 4) := by show _ = _; rw [E.out, h1]; rfl
      go_wp2_with (first | (go_at_call 45; refine (must_no _).mono ?_; rintro e w'' ⟨rfl, rfl⟩) | fail)
      exact ⟨rfl, ended_err E2.out (grown_trans g0.out hg)⟩

set_option maxRecDepth 100000 in
set_option maxHeartbeats 2000000 in
theorem type_Conv (n : Nod) (A : At) (u : Sl) (vs : List (Val × List Int)) (w : World) (hop : n.op = ⟨#[67, 111, 110, 118]⟩) (hn : NodeOk w n A) (hv : ValsIn w u.v vs) (hp : 0 < vs.length) (hf : vs.length ≤ 1000000) (ht : ∀ s ∈ tysOf vs, isTypeP s = true) : Calls Tryz.prog 48 #[nval n, .slice u.a u.n u.c] w (Ended w ((sameP (tysOf vs)).bind (fun t => (mustP (t == 1)).bind (fun _ => .ok (1 : Int)))) fun t v _ => v = .int .i64 t) := by
  obtain ⟨xa, xc, e1, p1, p2, p3⟩ := hv.vals.form
  rw [List.length_map] at e1 p1 p3
  obtain ⟨ua, un, uc⟩ := u
  simp only [Sl.v, Value.slice.injEq] at e1
  obtain ⟨rfl, rfl, rfl⟩ := e1
  have HV := hide hv
  have HT := hide ht
  clear hv ht
  have NK := hide hn
  obtain ⟨op, nam, ⟨ia, il, ic⟩, out, ⟨ao, al, cap⟩⟩ := n
  unfold nval
  simp only
  obtain ⟨w0, hw0⟩ : ∃ w0, w0 = w.alloc (.cells #[.string op, .string nam, .slice ia il ic, .string out, .slice ao al cap] 25) := ⟨_, rfl⟩
  have g0 : Hid (w.grownBy w0 none) := by show w.grownBy w0 none; rw [hw0]; exact grown_new _ _
  have hb0 := heap_alloc_new w (.cells #[.string op, .string nam, .slice ia il ic, .string out, .slice ao al cap] 25)
  rw [← hw0] at hb0
  have BX : Hid (∀ wx, w0.grownBy wx none → wx.heap[w.heap.size]? = some (.cells #[.string op, .string nam, .slice ia il ic, .string out, .slice ao al cap] 25 (0, 0))) := fun wx hg => box_kept hb0 hg
  clear hb0 hn
  simp only at hop
  subst hop
  have SM := hide (sametype_any ⟨ua, vs.length, uc⟩ vs w0 (HV.out.more g0.out) hp hf)
  simp only at SM
  go_enter Tryz.func48, Tryz.ntmps48
  go_wp2_with fail
  rw [← hw0]
  clear hw0
  cases hk : sameP (vs.map (·.1.ty)) with
  | error c =>
    rw [hk] at SM
    have E : Hid ((sameP (tysOf vs)).bind (fun t => (mustP (t == 1)).bind (fun _ => .ok (1 : Int))) = .error c) := by show _ = _; unfold tysOf; rw [hk]; rfl
    clear hk
    refine SM.out.mono ?_
    rintro e w' ⟨hg, rfl⟩
    exact ⟨rfl, ended_err E.out (grown_trans g0.out hg)⟩
  | ok t =>
    rw [hk] at SM
    have E : Hid ((sameP (tysOf vs)).bind (fun t => (mustP (t == 1)).bind (fun _ => .ok (1 : Int))) = (mustP (t == 1)).bind (fun _ => .ok (1 : Int))) := by show _ = _; unfold tysOf; rw [hk]; rfl
    clear hk
    refine SM.out.mono ?_
    rintro e w' ⟨hg, v, rfl, rfl⟩
    cases h1 : (t == 1) with
    | true =>
      have E2 : Hid ((sameP (tysOf vs)).bind (fun t => (mustP (t == 1)).bind (fun _ => .ok (1 : Int))) = .ok (1 : Int)) := by show _ = _; rw [E.out, h1]; rfl
      go_wp2_with (first | (go_at_call 45; refine (must_yes _).mono ?_; rintro e w'' ⟨rfl, rfl⟩) | fail)
      go_ret
      exact ended_ok E2.out (grown_trans g0.out hg) rfl
    | false =>
      have E2 : Hid ((sameP (tysOf vs)).bind (fun t => (mustP (t == 1)).bind (fun _ => .ok (1 : Int))) = .error 4) := by show _ = _; rw [E.out, h1]; rfl
      go_wp2_with (first | (go_at_call 45; refine (must_no _).mono ?_; rintro e w'' ⟨rfl, rfl⟩) | fail)
      exact ⟨rfl, ended_err E2.out (grown_trans g0.out hg)⟩

set_option maxRecDepth 100000 in
set_option maxHeartbeats 2000000 in
theorem type_MaxPool (n : Nod) (A : At) (u : Sl) (vs : List (Val × List Int)) (w : World) (hop : n.op = ⟨#[77, 97, 120, 80, 111, 111, 108]⟩) (hn : NodeOk w n A) (hv : ValsIn w u.v vs) (hp : 0 < vs.length) (hf : vs.length ≤ 1000000) (ht : ∀ s ∈ tysOf vs, isTypeP s = true) : Calls Tryz.prog 48 #[nval n, .slice u.a u.n u.c] w (Ended w ((sameP (tysOf vs)).bind (fun t => (mustP (t == 1)).bind (fun _ => .ok (1 : Int)))) fun t v _ => v = .int .i64 t) := by
  obtain ⟨xa, xc, e1, p1, p2, p3⟩ := hv.vals.form
  rw [List.length_map] at e1 p1 p3
  obtain ⟨ua, un, uc⟩ := u
  simp only [Sl.v, Value.slice.injEq] at e1
  obtain ⟨rfl, rfl, rfl⟩ := e1
  have HV := hide hv
  have HT := hide ht
  clear hv ht
  have NK := hide hn
  obtain ⟨op, nam, ⟨ia, il, ic⟩, out, ⟨ao, al, cap⟩⟩ := n
  unfold nval
  simp only
  obtain ⟨w0, hw0⟩ : ∃ w0, w0 = w.alloc (.cells #[.string op, .string nam, .slice ia il ic, .string out, .slice ao al cap] 25) := ⟨_, rfl⟩
  have g0 : Hid (w.grownBy w0 none) := by show w.grownBy w0 none; rw [hw0]; exact grown_new _ _
  have hb0 := heap_alloc_new w (.cells #[.string op, .string nam, .slice ia il ic, .string out, .slice ao al cap] 25)
  rw [← hw0] at hb0
  have BX : Hid (∀ wx, w0.grownBy wx none → wx.heap[w.heap.size]? = some (.cells #[.string op, .string nam, .slice ia il ic, .string out, .slice ao al cap] 25 (0, 0))) := fun wx hg => box_kept hb0 hg
  clear hb0 hn
  simp only at hop
  subst hop
  have SM := hide (sametype_any ⟨ua, vs.length, uc⟩ vs w0 (HV.out.more g0.out) hp hf)
  simp only at SM
  go_enter Tryz.func48, Tryz.ntmps48
  go_wp2_with fail
  rw [← hw0]
  clear hw0
  cases hk : sameP (vs.map (·.1.ty)) with
  | error c =>
    rw [hk] at SM
    have E : Hid ((sameP (tysOf vs)).bind (fun t => (mustP (t == 1)).bind (fun _ => .ok (1 : Int))) = .error c) := by show _ = _; unfold tysOf; rw [hk]; rfl
    clear hk
    refine SM.out.mono ?_
    rintro e w' ⟨hg, rfl⟩
    exact ⟨rfl, ended_err E.out (grown_trans g0.out hg)⟩
  | ok t =>
    rw [hk] at SM
    have E : Hid ((sameP (tysOf vs)).bind (fun t => (mustP (t == 1)).bind (fun _ => .ok (1 : Int))) = (mustP (t == 1)).bind (fun _ => .ok (1 : Int))) := by show _ = _; unfold tysOf; rw [hk]; rfl
    clear hk
    refine SM.out.mono ?_
    rintro e w' ⟨hg, v, rfl, rfl⟩
    cases h1 : (t == 1) with
    | true =>
      have E2 : Hid ((sameP (tysOf vs)).bind (fun t => (mustP (t == 1)).bind (fun _ => .ok (1 : Int))) = .ok (1 : Int)) := by show _ = _; rw [E.out, h1]; rfl
      go_wp2_with (first | (go_at_call 45; refine (must_yes _).mono ?_; rintro e w'' ⟨rfl, rfl⟩) | fail)
      go_ret
      exact ended_ok E2.out (grown_trans g0.out hg) rfl
    | false =>
      have E2 : Hid ((sameP (tysOf vs)).bind (fun t => (mustP (t == 1)).bind (fun _ => .ok (1 : Int))) = .error 4) := by show _ = _; rw [E.out, h1]; rfl
      go_wp2_with (first | (go_at_call 45; refine (must_no _).mono ?_; rintro e w'' ⟨rfl, rfl⟩) | fail)
      exact ⟨rfl, ended_err E2.out (grown_trans g0.out hg)⟩

set_option maxRecDepth 100000 in
set_option maxHeartbeats 2000000 in
theorem type_AveragePool (n : Nod) (A : At) (u : Sl) (vs : List (Val × List Int)) (w : World) (hop : n.op = ⟨#[65, 118, 101, 114, 97, 103, 101, 80, 111, 111, 108]⟩) (hn : NodeOk w n A) (hv : ValsIn w u.v vs) (hp : 0 < vs.length) (hf : vs.length ≤ 1000000) (ht : ∀ s ∈ tysOf vs, isTypeP s = true) : Calls Tryz.prog 48 #[nval n, .slice u.a u.n u.c] w (Ended w ((sameP (tysOf vs)).bind (fun t => (mustP (t == 1)).bind (fun _ => .ok (1 : Int)))) fun t v _ => v = .int .i64 t) := by
  obtain ⟨xa, xc, e1, p1, p2, p3⟩ := hv.vals.form
  rw [List.length_map] at e1 p1 p3
  obtain ⟨ua, un, uc⟩ := u
  simp only [Sl.v, Value.slice.injEq] at e1
  obtain ⟨rfl, rfl, rfl⟩ := e1
  have HV := hide hv
  have HT := hide ht
  clear hv ht
  have NK := hide hn
  obtain ⟨op, nam, ⟨ia, il, ic⟩, out, ⟨ao, al, cap⟩⟩ := n
  unfold nval
  simp only
  obtain ⟨w0, hw0⟩ : ∃ w0, w0 = w.alloc (.cells #[.string op, .string nam, .slice ia il ic, .string out, .slice ao al cap] 25) := ⟨_, rfl⟩
  have g0 : Hid (w.grownBy w0 none) := by show w.grownBy w0 none; rw [hw0]; exact grown_new _ _
  have hb0 := heap_alloc_new w (.cells #[.string op, .string nam, .slice ia il ic, .string out, .slice ao al cap] 25)
  rw [← hw0] at hb0
  have BX : Hid (∀ wx, w0.grownBy wx none → wx.heap[w.heap.size]? = some (.cells #[.string op, .string nam, .slice ia il ic, .string out, .slice ao al cap] 25 (0, 0))) := fun wx hg => box_kept hb0 hg
  clear hb0 hn
  simp only at hop
  subst hop
  have SM := hide (sametype_any ⟨ua, vs.length, uc⟩ vs w0 (HV.out.more g0.out) hp hf)
  simp only at SM
  go_enter Tryz.func48, Tryz.ntmps48
  go_wp2_with fail
  rw [← hw0]
  clear hw0
  cases hk : sameP (vs.map (·.1.ty)) with
  | error c =>
    rw [hk] at SM
    have E : Hid ((sameP (tysOf vs)).bind (fun t => (mustP (t == 1)).bind (fun _ => .ok (1 : Int))) = .error c) := by show _ = _; unfold tysOf; rw [hk]; rfl
    clear hk
    refine SM.out.mono ?_
    rintro e w' ⟨hg, rfl⟩
    exact ⟨rfl, ended_err E.out (grown_trans g0.out hg)⟩
  | ok t =>
    rw [hk] at SM
    have E : Hid ((sameP (tysOf vs)).bind (fun t => (mustP (t == 1)).bind (fun _ => .ok (1 : Int))) = (mustP (t == 1)).bind (fun _ => .ok (1 : Int))) := by show _ = _; unfold tysOf; rw [hk]; rfl
    clear hk
    refine SM.out.mono ?_
    rintro e w' ⟨hg, v, rfl, rfl⟩
    cases h1 : (t == 1) with
    | true =>
      have E2 : Hid ((sameP (tysOf vs)).bind (fun t => (mustP (t == 1)).bind (fun _ => .ok (1 : Int))) = .ok (1 : Int)) := by show _ = _; rw [E.out, h1]; rfl
      go_wp2_with (first | (go_at_call 45; refine (must_yes _).mono ?_; rintro e w'' ⟨rfl, rfl⟩) | fail)
      go_ret
      exact ended_ok E2.out (grown_trans g0.out hg) rfl
    | false =>
      have E2 : Hid ((sameP (tysOf vs)).bind (fun t => (mustP (t == 1)).bind (fun _ => .ok (1 : Int))) = .error 4) := by show _ = _; rw [E.out, h1]; rfl
      go_wp2_with (first | (go_at_call 45; refine (must_no _).mono ?_; rintro e w'' ⟨rfl, rfl⟩) | fail)
      exact ⟨rfl, ended_err E2.out (grown_trans g0.out hg)⟩

set_option maxRecDepth 100000 in
set_option maxHeartbeats 2000000 in
theorem type_GlobalAveragePool (n : Nod) (A : At) (u : Sl) (vs : List (Val × List Int)) (w : World) (hop : n.op = ⟨#[71, 108, 111, 98, 97, 108, 65, 118, 101, 114, 97, 103, 101, 80, 111, 111, 108]⟩) (hn : NodeOk w n A) (hv : ValsIn w u.v vs) (hp : 0 < vs.length) (hf : vs.length ≤ 1000000) (ht : ∀ s ∈ tysOf vs, isTypeP s = true) : Calls Tryz.prog 48 #[nval n, .slice u.a u.n u.c] w (Ended w ((sameP (tysOf vs)).bind (fun t => (mustP (t == 1)).bind (fun _ => .ok (1 : Int)))) fun t v _ => v = .int .i64 t) := by
  obtain ⟨xa, xc, e1, p1, p2, p3⟩ := hv.vals.form
  rw [List.length_map] at e1 p1 p3
  obtain ⟨ua, un, uc⟩ := u
  simp only [Sl.v, Value.slice.injEq] at e1
  obtain ⟨rfl, rfl, rfl⟩ := e1
  have HV := hide hv
  have HT := hide ht
  clear hv ht
  have NK := hide hn
  obtain ⟨op, nam, ⟨ia, il, ic⟩, out, ⟨ao, al, cap⟩⟩ := n
  unfold nval
  simp only
  obtain ⟨w0, hw0⟩ : ∃ w0, w0 = w.alloc (.cells #[.string op, .string nam, .slice ia il ic, .string out, .slice ao al cap] 25) := ⟨_, rfl⟩
  have g0 : Hid (w.grownBy w0 none) := by show w.grownBy w0 none; rw [hw0]; exact grown_new _ _
  have hb0 := heap_alloc_new w (.cells #[.string op, .string nam, .slice ia il ic, .string out, .slice ao al cap] 25)
  rw [← hw0] at hb0
  have BX : Hid (∀ wx, w0.grownBy wx none → wx.heap[w.heap.size]? = some (.cells #[.string op, .string nam, .slice ia il ic, .string out, .slice ao al cap] 25 (0, 0))) := fun wx hg => box_kept hb0 hg
  clear hb0 hn
  simp only at hop
  subst hop
  have SM := hide (sametype_any ⟨ua, vs.length, uc⟩ vs w0 (HV.out.more g0.out) hp hf)
  simp only at SM
  go_enter Tryz.func48, Tryz.ntmps48
  go_wp2_with fail
  rw [← hw0]
  clear hw0
  cases hk : sameP (vs.map (·.1.ty)) with
  | error c =>
    rw [hk] at SM
    have E : Hid ((sameP (tysOf vs)).bind (fun t => (mustP (t == 1)).bind (fun _ => .ok (1 : Int))) = .error c) := by show _ = _; unfold tysOf; rw [hk]; rfl
    clear hk
    refine SM.out.mono ?_
    rintro e w' ⟨hg, rfl⟩
    exact ⟨rfl, ended_err E.out (grown_trans g0.out hg)⟩
  | ok t =>
    rw [hk] at SM
    have E : Hid ((sameP (tysOf vs)).bind (fun t => (mustP (t == 1)).bind (fun _ => .ok (1 : Int))) = (mustP (t == 1)).bind (fun _ => .ok (1 : Int))) := by show _ = _; unfold tysOf; rw [hk]; rfl
    clear hk
    refine SM.out.mono ?_
    rintro e w' ⟨hg, v, rfl, rfl⟩
    cases h1 : (t == 1) with
    | true =>
      have E2 : Hid ((sameP (tysOf vs)).bind (fun t => (mustP (t == 1)).bind (fun _ => .ok (1 : Int))) = .ok (1 : Int)) := by show _ = _; rw [E.out, h1]; rfl
      go_wp2_with (first | (go_at_call 45; refine (must_yes _).mono ?_; rintro e w'' ⟨rfl, rfl⟩) | fail)
      go_ret
      exact ended_ok E2.out (grown_trans g0.out hg) rfl
    | false =>
      have E2 : Hid ((sameP (tysOf vs)).bind (fun t => (mustP (t == 1)).bind (fun _ => .ok (1 : Int))) = .error 4) := by show _ = _; rw [E.out, h1]; rfl
      go_wp2_with (first | (go_at_call 45; refine (must_no _).mono ?_; rintro e w'' ⟨rfl, rfl⟩) | fail)
      exact ⟨rfl, ended_err E2.out (grown_trans g0.out hg)⟩

set_option maxRecDepth 100000 in
set_option maxHeartbeats 2000000 in
theorem type_BatchNormalization (n : Nod) (A : At) (u : Sl) (vs : List (Val × List Int)) (w : World) (hop : n.op = ⟨#[66, 97, 116, 99, 104, 78, 111, 114, 109, 97, 108, 105, 122, 97, 116, 105, 111, 110]⟩) (hn : NodeOk w n A) (hv : ValsIn w u.v vs) (hp : 0 < vs.length) (hf : vs.length ≤ 1000000) (ht : ∀ s ∈ tysOf vs, isTypeP s = true) : Calls Tryz.prog 48 #[nval n, .slice u.a u.n u.c] w (Ended w ((sameP (tysOf vs)).bind (fun t => (mustP (t == 1)).bind (fun _ => .ok (1 : Int)))) fun t v _ => v = .int .i64 t) := by
  obtain ⟨xa, xc, e1, p1, p2, p3⟩ := hv.vals.form
  rw [List.length_map] at e1 p1 p3
  obtain ⟨ua, un, uc⟩ := u
  simp only [Sl.v, Value.slice.injEq] at e1
  obtain ⟨rfl, rfl, rfl⟩ := e1
  have HV := hide hv
  have HT := hide ht
  clear hv ht
  have NK := hide hn
  obtain ⟨op, nam, ⟨ia, il, ic⟩, out, ⟨ao, al, cap⟩⟩ := n
  unfold nval
  simp only
  obtain ⟨w0, hw0⟩ : ∃ w0, w0 = w.alloc (.cells #[.string op, .string nam, .slice ia il ic, .string out, .slice ao al cap] 25) := ⟨_, rfl⟩
  have g0 : Hid (w.grownBy w0 none) := by show w.grownBy w0 none; rw [hw0]; exact grown_new _ _
  have hb0 := heap_alloc_new w (.cells #[.string op, .string nam, .slice ia il ic, .string out, .slice ao al cap] 25)
  rw [← hw0] at hb0
  have BX : Hid (∀ wx, w0.grownBy wx none → wx.heap[w.heap.size]? = some (.cells #[.string op, .string nam, .slice ia il ic, .string out, .slice ao al cap] 25 (0, 0))) := fun wx hg => box_kept hb0 hg
  clear hb0 hn
  simp only at hop
  subst hop
  have SM := hide (sametype_any ⟨ua, vs.length, uc⟩ vs w0 (HV.out.more g0.out) hp hf)
  simp only at SM
  go_enter Tryz.func48, Tryz.ntmps48
  go_wp2_with fail
  rw [← hw0]
  clear hw0
  cases hk : sameP (vs.map (·.1.ty)) with
  | error c =>
    rw [hk] at SM
    have E : Hid ((sameP (tysOf vs)).bind (fun t => (mustP (t == 1)).bind (fun _ => .ok (1 : Int))) = .error c) := by show _ = _; unfold tysOf; rw [hk]; rfl
    clear hk
    refine SM.out.mono ?_
    rintro e w' ⟨hg, rfl⟩
    exact ⟨rfl, ended_err E.out (grown_trans g0.out hg)⟩
  | ok t =>
    rw [hk] at SM
    have E : Hid ((sameP (tysOf vs)).bind (fun t => (mustP (t == 1)).bind (fun _ => .ok (1 : Int))) = (mustP (t == 1)).bind (fun _ => .ok (1 : Int))) := by show _ = _; unfold tysOf; rw [hk]; rfl
    clear hk
    refine SM.out.mono ?_
    rintro e w' ⟨hg, v, rfl, rfl⟩
    cases h1 : (t == 1) with
    | true =>
      have E2 : Hid ((sameP (tysOf vs)).bind (fun t => (mustP (t == 1)).bind (fun _ => .ok (1 : Int))) = .ok (1 : Int)) := by show _ = _; rw [E.out, h1]; rfl
      go_wp2_with (first | (go_at_call 45; refine (must_yes _).mono ?_; rintro e w'' ⟨rfl, rfl⟩) | fail)
      go_ret
      exact ended_ok E2.out (grown_trans g0.out hg) rfl
    | false =>
      have E2 : Hid ((sameP (tysOf vs)).bind (fun t => (mustP (t == 1)).bind (fun _ => .ok (1 : Int))) = .error 4) := by show _ = _; rw [E.out, h1]; rfl
      go_wp2_with (first | (go_at_call 45; refine (must_no _).mono ?_; rintro e w'' ⟨rfl, rfl⟩) | fail)
      exact ⟨rfl, ended_err E2.out (grown_trans g0.out hg)⟩

set_option maxRecDepth 100000 in
set_option maxHeartbeats 2000000 in
theorem type_Add (n : Nod) (A : At) (u : Sl) (vs : List (Val × List Int)) (w : World) (hop : n.op = ⟨#[65, 100, 100]⟩) (hn : NodeOk w n A) (hv : ValsIn w u.v vs) (hl : vs.length = 2) (hf : vs.length ≤ 1000000) (ht : ∀ s ∈ tysOf vs, isTypeP s = true) : Calls Tryz.prog 48 #[nval n, .slice u.a u.n u.c] w (Ended w ((sameP (tysOf vs)).bind (fun t => (mustP (twoOK [65, 100, 100] t)).bind (fun _ => .ok t))) fun t v _ => v = .int .i64 t) := by
  obtain ⟨xa, xc, e1, p1, p2, p3⟩ := hv.vals.form
  rw [List.length_map] at e1 p1 p3
  obtain ⟨ua, un, uc⟩ := u
  simp only [Sl.v, Value.slice.injEq] at e1
  obtain ⟨rfl, rfl, rfl⟩ := e1
  have HV := hide hv
  have HT := hide ht
  clear hv ht
  have NK := hide hn
  obtain ⟨op, nam, ⟨ia, il, ic⟩, out, ⟨ao, al, cap⟩⟩ := n
  unfold nval
  simp only
  obtain ⟨w0, hw0⟩ : ∃ w0, w0 = w.alloc (.cells #[.string op, .string nam, .slice ia il ic, .string out, .slice ao al cap] 25) := ⟨_, rfl⟩
  have g0 : Hid (w.grownBy w0 none) := by show w.grownBy w0 none; rw [hw0]; exact grown_new _ _
  have hb0 := heap_alloc_new w (.cells #[.string op, .string nam, .slice ia il ic, .string out, .slice ao al cap] 25)
  rw [← hw0] at hb0
  have BX : Hid (∀ wx, w0.grownBy wx none → wx.heap[w.heap.size]? = some (.cells #[.string op, .string nam, .slice ia il ic, .string out, .slice ao al cap] 25 (0, 0))) := fun wx hg => box_kept hb0 hg
  clear hb0 hn
  simp only at hop
  subst hop
  have hp : 0 < vs.length := by omega
  have SM := hide (sametype_any ⟨ua, vs.length, uc⟩ vs w0 (HV.out.more g0.out) hp hf)
  simp only at SM
  have b2 : ((vs.length : Int) == 2) = true := by rw [hl]; decide
  clear hl
  go_enter Tryz.func48, Tryz.ntmps48
  go_wp2_with fail
  rw [← hw0]
  clear hw0
  cases hk : sameP (vs.map (·.1.ty)) with
  | error c =>
    rw [hk] at SM
    have E : Hid ((sameP (tysOf vs)).bind (fun t => (mustP (twoOK [65, 100, 100] t)).bind (fun _ => .ok t)) = .error c) := by show _ = _; unfold tysOf; rw [hk]; rfl
    clear hk
    refine SM.out.mono ?_
    rintro e w' ⟨hg, rfl⟩
    exact ⟨rfl, ended_err E.out (grown_trans g0.out hg)⟩
  | ok t =>
    have htt := sameP_typ hk (by simpa using hp) HT.out
    rw [hk] at SM
    have E : Hid ((sameP (tysOf vs)).bind (fun t => (mustP (twoOK [65, 100, 100] t)).bind (fun _ => .ok t)) = (mustP (twoOK [65, 100, 100] t)).bind (fun _ => .ok t)) := by show _ = _; unfold tysOf; rw [hk]; rfl
    clear hk
    refine SM.out.mono ?_
    rintro e w1 ⟨hg, v, rfl, rfl⟩
    obtain ⟨n0, n1, n2, n3, n4⟩ := nod_cells (n := ⟨⟨#[65, 100, 100]⟩, nam, ⟨ia, il, ic⟩, out, ⟨ao, al, cap⟩⟩) (BX.out w1 hg)
    have BL : (⟨#[65, 100, 100]⟩ : ByteArray).toList = [65, 100, 100] := bytes_toList _
    have MU := hide (musttwo_any ⟨#[65, 100, 100]⟩ t (by rw [BL]; decide) htt w1)
    rw [BL] at MU
    clear BL
    cases h1 : twoOK [65, 100, 100] t with
    | true =>
      rw [h1] at MU
      have E2 : Hid ((sameP (tysOf vs)).bind (fun t => (mustP (twoOK [65, 100, 100] t)).bind (fun _ => .ok t)) = .ok t) := by show _ = _; rw [E.out, h1]; rfl
      clear h1
      go_wp2_with (first | (go_at_call 95; refine MU.out.mono ?_; rintro e w2 ⟨hg2, v, rfl, rfl⟩) | fail)
      go_ret
      exact ended_ok E2.out (grown_trans (grown_trans g0.out hg) hg2) rfl
    | false =>
      rw [h1] at MU
      have E2 : Hid ((sameP (tysOf vs)).bind (fun t => (mustP (twoOK [65, 100, 100] t)).bind (fun _ => .ok t)) = .error 4) := by show _ = _; rw [E.out, h1]; rfl
      clear h1
      go_wp2_with (first | (go_at_call 95; refine MU.out.mono ?_; rintro e w2 ⟨hg2, rfl⟩) | fail)
      exact ⟨rfl, ended_err E2.out (grown_trans (grown_trans g0.out hg) hg2)⟩

set_option maxRecDepth 100000 in
set_option maxHeartbeats 2000000 in
theorem type_Sub (n : Nod) (A : At) (u : Sl) (vs : List (Val × List Int)) (w : World) (hop : n.op = ⟨#[83, 117, 98]⟩) (hn : NodeOk w n A) (hv : ValsIn w u.v vs) (hl : vs.length = 2) (hf : vs.length ≤ 1000000) (ht : ∀ s ∈ tysOf vs, isTypeP s = true) : Calls Tryz.prog 48 #[nval n, .slice u.a u.n u.c] w (Ended w ((sameP (tysOf vs)).bind (fun t => (mustP (twoOK [83, 117, 98] t)).bind (fun _ => .ok t))) fun t v _ => v = .int .i64 t) := by
  obtain ⟨xa, xc, e1, p1, p2, p3⟩ := hv.vals.form
  rw [List.length_map] at e1 p1 p3
  obtain ⟨ua, un, uc⟩ := u
  simp only [Sl.v, Value.slice.injEq] at e1
  obtain ⟨rfl, rfl, rfl⟩ := e1
  have HV := hide hv
  have HT := hide ht
  clear hv ht
  have NK := hide hn
  obtain ⟨op, nam, ⟨ia, il, ic⟩, out, ⟨ao, al, cap⟩⟩ := n
  unfold nval
  simp only
  obtain ⟨w0, hw0⟩ : ∃ w0, w0 = w.alloc (.cells #[.string op, .string nam, .slice ia il ic, .string out, .slice ao al cap] 25) := ⟨_, rfl⟩
  have g0 : Hid (w.grownBy w0 none) := by show w.grownBy w0 none; rw [hw0]; exact grown_new _ _
  have hb0 := heap_alloc_new w (.cells #[.string op, .string nam, .slice ia il ic, .string out, .slice ao al cap] 25)
  rw [← hw0] at hb0
  have BX : Hid (∀ wx, w0.grownBy wx none → wx.heap[w.heap.size]? = some (.cells #[.string op, .string nam, .slice ia il ic, .string out, .slice ao al cap] 25 (0, 0))) := fun wx hg => box_kept hb0 hg
  clear hb0 hn
  simp only at hop
  subst hop
  have hp : 0 < vs.length := by omega
  have SM := hide (sametype_any ⟨ua, vs.length, uc⟩ vs w0 (HV.out.more g0.out) hp hf)
  simp only at SM
  have b2 : ((vs.length : Int) == 2) = true := by rw [hl]; decide
  clear hl
  go_enter Tryz.func48, Tryz.ntmps48
  go_wp2_with fail
  rw [← hw0]
  clear hw0
  cases hk : sameP (vs.map (·.1.ty)) with
  | error c =>
    rw [hk] at SM
    have E : Hid ((sameP (tysOf vs)).bind (fun t => (mustP (twoOK [83, 117, 98] t)).bind (fun _ => .ok t)) = .error c) := by show _ = _; unfold tysOf; rw [hk]; rfl
    clear hk
    refine SM.out.mono ?_
    rintro e w' ⟨hg, rfl⟩
    exact ⟨rfl, ended_err E.out (grown_trans g0.out hg)⟩
  | ok t =>
    have htt := sameP_typ hk (by simpa using hp) HT.out
    rw [hk] at SM
    have E : Hid ((sameP (tysOf vs)).bind (fun t => (mustP (twoOK [83, 117, 98] t)).bind (fun _ => .ok t)) = (mustP (twoOK [83, 117, 98] t)).bind (fun _ => .ok t)) := by show _ = _; unfold tysOf; rw [hk]; rfl
    clear hk
    refine SM.out.mono ?_
    rintro e w1 ⟨hg, v, rfl, rfl⟩
    obtain ⟨n0, n1, n2, n3, n4⟩ := nod_cells (n := ⟨⟨#[83, 117, 98]⟩, nam, ⟨ia, il, ic⟩, out, ⟨ao, al, cap⟩⟩) (BX.out w1 hg)
    have BL : (⟨#[83, 117, 98]⟩ : ByteArray).toList = [83, 117, 98] := bytes_toList _
    have MU := hide (musttwo_any ⟨#[83, 117, 98]⟩ t (by rw [BL]; decide) htt w1)
    rw [BL] at MU
    clear BL
    cases h1 : twoOK [83, 117, 98] t with
    | true =>
      rw [h1] at MU
      have E2 : Hid ((sameP (tysOf vs)).bind (fun t => (mustP (twoOK [83, 117, 98] t)).bind (fun _ => .ok t)) = .ok t) := by show _ = _; rw [E.out, h1]; rfl
      clear h1
      go_wp2_with (first | (go_at_call 95; refine MU.out.mono ?_; rintro e w2 ⟨hg2, v, rfl, rfl⟩) | fail)
      go_ret
      exact ended_ok E2.out (grown_trans (grown_trans g0.out hg) hg2) rfl
    | false =>
      rw [h1] at MU
      have E2 : Hid ((sameP (tysOf vs)).bind (fun t => (mustP (twoOK [83, 117, 98] t)).bind (fun _ => .ok t)) = .error 4) := by show _ = _; rw [E.out, h1]; rfl
      clear h1
      go_wp2_with (first | (go_at_call 95; refine MU.out.mono ?_; rintro e w2 ⟨hg2, rfl⟩) | fail)
      exact ⟨rfl, ended_err E2.out (grown_trans (grown_trans g0.out hg) hg2)⟩

set_option maxRecDepth 100000 in
set_option maxHeartbeats 2000000 in
theorem type_Mul (n : Nod) (A : At) (u : Sl) (vs : List (Val × List Int)) (w : World) (hop : n.op = ⟨#[77, 117, 108]⟩) (hn : NodeOk w n A) (hv : ValsIn w u.v vs) (hl : vs.length = 2) (hf : vs.length ≤ 1000000) (ht : ∀ s ∈ tysOf vs, isTypeP s = true) : Calls Tryz.prog 48 #[nval n, .slice u.a u.n u.c] w (Ended w ((sameP (tysOf vs)).bind (fun t => (mustP (twoOK [77, 117, 108] t)).bind (fun _ => .ok t))) fun t v _ => v = .int .i64 t) := by
  obtain ⟨xa, xc, e1, p1, p2, p3⟩ := hv.vals.form
  rw [List.length_map] at e1 p1 p3
  obtain ⟨ua, un, uc⟩ := u
  simp only [Sl.v, Value.slice.injEq] at e1
  obtain ⟨rfl, rfl, rfl⟩ := e1
  have HV := hide hv
  have HT := hide ht
  clear hv ht
  have NK := hide hn
  obtain ⟨op, nam, ⟨ia, il, ic⟩, out, ⟨ao, al, cap⟩⟩ := n
  unfold nval
  simp only
  obtain ⟨w0, hw0⟩ : ∃ w0, w0 = w.alloc (.cells #[.string op, .string nam, .slice ia il ic, .string out, .slice ao al cap] 25) := ⟨_, rfl⟩
  have g0 : Hid (w.grownBy w0 none) := by show w.grownBy w0 none; rw [hw0]; exact grown_new _ _
  have hb0 := heap_alloc_new w (.cells #[.string op, .string nam, .slice ia il ic, .string out, .slice ao al cap] 25)
  rw [← hw0] at hb0
  have BX : Hid (∀ wx, w0.grownBy wx none → wx.heap[w.heap.size]? = some (.cells #[.string op, .string nam, .slice ia il ic, .string out, .slice ao al cap] 25 (0, 0))) := fun wx hg => box_kept hb0 hg
  clear hb0 hn
  simp only at hop
  subst hop
  have hp : 0 < vs.length := by omega
  have SM := hide (sametype_any ⟨ua, vs.length, uc⟩ vs w0 (HV.out.more g0.out) hp hf)
  simp only at SM
  have b2 : ((vs.length : Int) == 2) = true := by rw [hl]; decide
  clear hl
  go_enter Tryz.func48, Tryz.ntmps48
  go_wp2_with fail
  rw [← hw0]
  clear hw0
  cases hk : sameP (vs.map (·.1.ty)) with
  | error c =>
    rw [hk] at SM
    have E : Hid ((sameP (tysOf vs)).bind (fun t => (mustP (twoOK [77, 117, 108] t)).bind (fun _ => .ok t)) = .error c) := by show _ = _; unfold tysOf; rw [hk]; rfl
    clear hk
    refine SM.out.mono ?_
    rintro e w' ⟨hg, rfl⟩
    exact ⟨rfl, ended_err E.out (grown_trans g0.out hg)⟩
  | ok t =>
    have htt := sameP_typ hk (by simpa using hp) HT.out
    rw [hk] at SM
    have E : Hid ((sameP (tysOf vs)).bind (fun t => (mustP (twoOK [77, 117, 108] t)).bind (fun _ => .ok t)) = (mustP (twoOK [77, 117, 108] t)).bind (fun _ => .ok t)) := by show _ = _; unfold tysOf; rw [hk]; rfl
    clear hk
    refine SM.out.mono ?_
    rintro e w1 ⟨hg, v, rfl, rfl⟩
    obtain ⟨n0, n1, n2, n3, n4⟩ := nod_cells (n := ⟨⟨#[77, 117, 108]⟩, nam, ⟨ia, il, ic⟩, out, ⟨ao, al, cap⟩⟩) (BX.out w1 hg)
    have BL : (⟨#[77, 117, 108]⟩ : ByteArray).toList = [77, 117, 108] := bytes_toList _
    have MU := hide (musttwo_any ⟨#[77, 117, 108]⟩ t (by rw [BL]; decide) htt w1)
    rw [BL] at MU
    clear BL
    cases h1 : twoOK [77, 117, 108] t with
    | true =>
      rw [h1] at MU
      have E2 : Hid ((sameP (tysOf vs)).bind (fun t => (mustP (twoOK [77, 117, 108] t)).bind (fun _ => .ok t)) = .ok t) := by show _ = _; rw [E.out, h1]; rfl
      clear h1
      go_wp2_with (first | (go_at_call 95; refine MU.out.mono ?_; rintro e w2 ⟨hg2, v, rfl, rfl⟩) | fail)
      go_ret
      exact ended_ok E2.out (grown_trans (grown_trans g0.out hg) hg2) rfl
    | false =>
      rw [h1] at MU
      have E2 : Hid ((sameP (tysOf vs)).bind (fun t => (mustP (twoOK [77, 117, 108] t)).bind (fun _ => .ok t)) = .error 4) := by show _ = _; rw [E.out, h1]; rfl
      clear h1
      go_wp2_with (first | (go_at_call 95; refine MU.out.mono ?_; rintro e w2 ⟨hg2, rfl⟩) | fail)
      exact ⟨rfl, ended_err E2.out (grown_trans (grown_trans g0.out hg) hg2)⟩

set_option maxRecDepth 100000 in
set_option maxHeartbeats 2000000 in
theorem type_Div (n : Nod) (A : At) (u : Sl) (vs : List (Val × List Int)) (w : World) (hop : n.op = ⟨#[68, 105, 118]⟩) (hn : NodeOk w n A) (hv : ValsIn w u.v vs) (hl : vs.length = 2) (hf : vs.length ≤ 1000000) (ht : ∀ s ∈ tysOf vs, isTypeP s = true) : Calls Tryz.prog 48 #[nval n, .slice u.a u.n u.c] w (Ended w ((sameP (tysOf vs)).bind (fun t => (mustP (twoOK [68, 105, 118] t)).bind (fun _ => .ok t))) fun t v _ => v = .int .i64 t) := by
  obtain ⟨xa, xc, e1, p1, p2, p3⟩ := hv.vals.form
  rw [List.length_map] at e1 p1 p3
  obtain ⟨ua, un, uc⟩ := u
  simp only [Sl.v, Value.slice.injEq] at e1
  obtain ⟨rfl, rfl, rfl⟩ := e1
  have HV := hide hv
  have HT := hide ht
  clear hv ht
  have NK := hide hn
  obtain ⟨op, nam, ⟨ia, il, ic⟩, out, ⟨ao, al, cap⟩⟩ := n
  unfold nval
  simp only
  obtain ⟨w0, hw0⟩ : ∃ w0, w0 = w.alloc (.cells #[.string op, .string nam, .slice ia il ic, .string out, .slice ao al cap] 25) := ⟨_, rfl⟩
  have g0 : Hid (w.grownBy w0 none) := by show w.grownBy w0 none; rw [hw0]; exact grown_new _ _
  have hb0 := heap_alloc_new w (.cells #[.string op, .string nam, .slice ia il ic, .string out, .slice ao al cap] 25)
  rw [← hw0] at hb0
  have BX : Hid (∀ wx, w0.grownBy wx none → wx.heap[w.heap.size]? = some (.cells #[.string op, .string nam, .slice ia il ic, .string out, .slice ao al cap] 25 (0, 0))) := fun wx hg => box_kept hb0 hg
  clear hb0 hn
  simp only at hop
  subst hop
  have hp : 0 < vs.length := by omega
  have SM := hide (sametype_any ⟨ua, vs.length, uc⟩ vs w0 (HV.out.more g0.out) hp hf)
  simp only at SM
  have b2 : ((vs.length : Int) == 2) = true := by rw [hl]; decide
  clear hl
  go_enter Tryz.func48, Tryz.ntmps48
  go_wp2_with fail
  rw [← hw0]
  clear hw0
  cases hk : sameP (vs.map (·.1.ty)) with
  | error c =>
    rw [hk] at SM
    have E : Hid ((sameP (tysOf vs)).bind (fun t => (mustP (twoOK [68, 105, 118] t)).bind (fun _ => .ok t)) = .error c) := by show _ = _; unfold tysOf; rw [hk]; rfl
    clear hk
    refine SM.out.mono ?_
    rintro e w' ⟨hg, rfl⟩
    exact ⟨rfl, ended_err E.out (grown_trans g0.out hg)⟩
  | ok t =>
    have htt := sameP_typ hk (by simpa using hp) HT.out
    rw [hk] at SM
    have E : Hid ((sameP (tysOf vs)).bind (fun t => (mustP (twoOK [68, 105, 118] t)).bind (fun _ => .ok t)) = (mustP (twoOK [68, 105, 118] t)).bind (fun _ => .ok t)) := by show _ = _; unfold tysOf; rw [hk]; rfl
    clear hk
    refine SM.out.mono ?_
    rintro e w1 ⟨hg, v, rfl, rfl⟩
    obtain ⟨n0, n1, n2, n3, n4⟩ := nod_cells (n := ⟨⟨#[68, 105, 118]⟩, nam, ⟨ia, il, ic⟩, out, ⟨ao, al, cap⟩⟩) (BX.out w1 hg)
    have BL : (⟨#[68, 105, 118]⟩ : ByteArray).toList = [68, 105, 118] := bytes_toList _
    have MU := hide (musttwo_any ⟨#[68, 105, 118]⟩ t (by rw [BL]; decide) htt w1)
    rw [BL] at MU
    clear BL
    cases h1 : twoOK [68, 105, 118] t with
    | true =>
      rw [h1] at MU
      have E2 : Hid ((sameP (tysOf vs)).bind (fun t => (mustP (twoOK [68, 105, 118] t)).bind (fun _ => .ok t)) = .ok t) := by show _ = _; rw [E.out, h1]; rfl
      clear h1
      go_wp2_with (first | (go_at_call 95; refine MU.out.mono ?_; rintro e w2 ⟨hg2, v, rfl, rfl⟩) | fail)
      go_ret
      exact ended_ok E2.out (grown_trans (grown_trans g0.out hg) hg2) rfl
    | false =>
      rw [h1] at MU
      have E2 : Hid ((sameP (tysOf vs)).bind (fun t => (mustP (twoOK [68, 105, 118] t)).bind (fun _ => .ok t)) = .error 4) := by show _ = _; rw [E.out, h1]; rfl
      clear h1
      go_wp2_with (first | (go_at_call 95; refine MU.out.mono ?_; rintro e w2 ⟨hg2, rfl⟩) | fail)
      exact ⟨rfl, ended_err E2.out (grown_trans (grown_trans g0.out hg) hg2)⟩

set_option maxRecDepth 100000 in
set_option maxHeartbeats 2000000 in
theorem type_Max (n : Nod) (A : At) (u : Sl) (vs : List (Val × List Int)) (w : World) (hop : n.op = ⟨#[77, 97, 120]⟩) (hn : NodeOk w n A) (hv : ValsIn w u.v vs) (hl : vs.length = 2) (hf : vs.length ≤ 1000000) (ht : ∀ s ∈ tysOf vs, isTypeP s = true) : Calls Tryz.prog 48 #[nval n, .slice u.a u.n u.c] w (Ended w ((sameP (tysOf vs)).bind (fun t => (mustP (twoOK [77, 97, 120] t)).bind (fun _ => .ok t))) fun t v _ => v = .int .i64 t) := by
  obtain ⟨xa, xc, e1, p1, p2, p3⟩ := hv.vals.form
  rw [List.length_map] at e1 p1 p3
  obtain ⟨ua, un, uc⟩ := u
  simp only [Sl.v, Value.slice.injEq] at e1
  obtain ⟨rfl, rfl, rfl⟩ := e1
  have HV := hide hv
  have HT := hide ht
  clear hv ht
  have NK := hide hn
  obtain ⟨op, nam, ⟨ia, il, ic⟩, out, ⟨ao, al, cap⟩⟩ := n
  unfold nval
  simp only
  obtain ⟨w0, hw0⟩ : ∃ w0, w0 = w.alloc (.cells #[.string op, .string nam, .slice ia il ic, .string out, .slice ao al cap] 25) := ⟨_, rfl⟩
  have g0 : Hid (w.grownBy w0 none) := by show w.grownBy w0 none; rw [hw0]; exact grown_new _ _
  have hb0 := heap_alloc_new w (.cells #[.string op, .string nam, .slice ia il ic, .string out, .slice ao al cap] 25)
  rw [← hw0] at hb0
  have BX : Hid (∀ wx, w0.grownBy wx none → wx.heap[w.heap.size]? = some (.cells #[.string op, .string nam, .slice ia il ic, .string out, .slice ao al cap] 25 (0, 0))) := fun wx hg => box_kept hb0 hg
  clear hb0 hn
  simp only at hop
  subst hop
  have hp : 0 < vs.length := by omega
  have SM := hide (sametype_any ⟨ua, vs.length, uc⟩ vs w0 (HV.out.more g0.out) hp hf)
  simp only at SM
  have b2 : ((vs.length : Int) == 2) = true := by rw [hl]; decide
  clear hl
  go_enter Tryz.func48, Tryz.ntmps48
  go_wp2_with fail
  rw [← hw0]
  clear hw0
  cases hk : sameP (vs.map (·.1.ty)) with
  | error c =>
    rw [hk] at SM
    have E : Hid ((sameP (tysOf vs)).bind (fun t => (mustP (twoOK [77, 97, 120] t)).bind (fun _ => .ok t)) = .error c) := by show _ = _; unfold tysOf; rw [hk]; rfl
    clear hk
    refine SM.out.mono ?_
    rintro e w' ⟨hg, rfl⟩
    exact ⟨rfl, ended_err E.out (grown_trans g0.out hg)⟩
  | ok t =>
    have htt := sameP_typ hk (by simpa using hp) HT.out
    rw [hk] at SM
    have E : Hid ((sameP (tysOf vs)).bind (fun t => (mustP (twoOK [77, 97, 120] t)).bind (fun _ => .ok t)) = (mustP (twoOK [77, 97, 120] t)).bind (fun _ => .ok t)) := by show _ = _; unfold tysOf; rw [hk]; rfl
    clear hk
    refine SM.out.mono ?_
    rintro e w1 ⟨hg, v, rfl, rfl⟩
    obtain ⟨n0, n1, n2, n3, n4⟩ := nod_cells (n := ⟨⟨#[77, 97, 120]⟩, nam, ⟨ia, il, ic⟩, out, ⟨ao, al, cap⟩⟩) (BX.out w1 hg)
    have BL : (⟨#[77, 97, 120]⟩ : ByteArray).toList = [77, 97, 120] := bytes_toList _
    have MU := hide (musttwo_any ⟨#[77, 97, 120]⟩ t (by rw [BL]; decide) htt w1)
    rw [BL] at MU
    clear BL
    cases h1 : twoOK [77, 97, 120] t with
    | true =>
      rw [h1] at MU
      have E2 : Hid ((sameP (tysOf vs)).bind (fun t => (mustP (twoOK [77, 97, 120] t)).bind (fun _ => .ok t)) = .ok t) := by show _ = _; rw [E.out, h1]; rfl
      clear h1
      go_wp2_with (first | (go_at_call 95; refine MU.out.mono ?_; rintro e w2 ⟨hg2, v, rfl, rfl⟩) | fail)
      go_ret
      exact ended_ok E2.out (grown_trans (grown_trans g0.out hg) hg2) rfl
    | false =>
      rw [h1] at MU
      have E2 : Hid ((sameP (tysOf vs)).bind (fun t => (mustP (twoOK [77, 97, 120] t)).bind (fun _ => .ok t)) = .error 4) := by show _ = _; rw [E.out, h1]; rfl
      clear h1
      go_wp2_with (first | (go_at_call 95; refine MU.out.mono ?_; rintro e w2 ⟨hg2, rfl⟩) | fail)
      exact ⟨rfl, ended_err E2.out (grown_trans (grown_trans g0.out hg) hg2)⟩

set_option maxRecDepth 100000 in
set_option maxHeartbeats 2000000 in
theorem type_Min (n : Nod) (A : At) (u : Sl) (vs : List (Val × List Int)) (w : World) (hop : n.op = ⟨#[77, 105, 110]⟩) (hn : NodeOk w n A) (hv : ValsIn w u.v vs) (hl : vs.length = 2) (hf : vs.length ≤ 1000000) (ht : ∀ s ∈ tysOf vs, isTypeP s = true) : Calls Tryz.prog 48 #[nval n, .slice u.a u.n u.c] w (Ended w ((sameP (tysOf vs)).bind (fun t => (mustP (twoOK [77, 105, 110] t)).bind (fun _ => .ok t))) fun t v _ => v = .int .i64 t) := by
  obtain ⟨xa, xc, e1, p1, p2, p3⟩ := hv.vals.form
  rw [List.length_map] at e1 p1 p3
  obtain ⟨ua, un, uc⟩ := u
  simp only [Sl.v, Value.slice.injEq] at e1
  obtain ⟨rfl, rfl, rfl⟩ := e1
  have HV := hide hv
  have HT := hide ht
  clear hv ht
  have NK := hide hn
  obtain ⟨op, nam, ⟨ia, il, ic⟩, out, ⟨ao, al, cap⟩⟩ := n
  unfold nval
  simp only
  obtain ⟨w0, hw0⟩ : ∃ w0, w0 = w.alloc (.cells #[.string op, .string nam, .slice ia il ic, .string out, .slice ao al cap] 25) := ⟨_, rfl⟩
  have g0 : Hid (w.grownBy w0 none) := by show w.grownBy w0 none; rw [hw0]; exact grown_new _ _
  have hb0 := heap_alloc_new w (.cells #[.string op, .string nam, .slice ia il ic, .string out, .slice ao al cap] 25)
  rw [← hw0] at hb0
  have BX : Hid (∀ wx, w0.grownBy wx none → wx.heap[w.heap.size]? = some (.cells #[.string op, .string nam, .slice ia il ic, .string out, .slice ao al cap] 25 (0, 0))) := fun wx hg => box_kept hb0 hg
  clear hb0 hn
  simp only at hop
  subst hop
  have hp : 0 < vs.length := by omega
  have SM := hide (sametype_any ⟨ua, vs.length, uc⟩ vs w0 (HV.out.more g0.out) hp hf)
  simp only at SM
  have b2 : ((vs.length : Int) == 2) = true := by rw [hl]; decide
  clear hl
  go_enter Tryz.func48, Tryz.ntmps48
  go_wp2_with fail
  rw [← hw0]
  clear hw0
  cases hk : sameP (vs.map (·.1.ty)) with
  | error c =>
    rw [hk] at SM
    have E : Hid ((sameP (tysOf vs)).bind (fun t => (mustP (twoOK [77, 105, 110] t)).bind (fun _ => .ok t)) = .error c) := by show _ = _; unfold tysOf; rw [hk]; rfl
    clear hk
    refine SM.out.mono ?_
    rintro e w' ⟨hg, rfl⟩
    exact ⟨rfl, ended_err E.out (grown_trans g0.out hg)⟩
  | ok t =>
    have htt := sameP_typ hk (by simpa using hp) HT.out
    rw [hk] at SM
    have E : Hid ((sameP (tysOf vs)).bind (fun t => (mustP (twoOK [77, 105, 110] t)).bind (fun _ => .ok t)) = (mustP (twoOK [77, 105, 110] t)).bind (fun _ => .ok t)) := by show _ = _; unfold tysOf; rw [hk]; rfl
    clear hk
    refine SM.out.mono ?_
    rintro e w1 ⟨hg, v, rfl, rfl⟩
    obtain ⟨n0, n1, n2, n3, n4⟩ := nod_cells (n := ⟨⟨#[77, 105, 110]⟩, nam, ⟨ia, il, ic⟩, out, ⟨ao, al, cap⟩⟩) (BX.out w1 hg)
    have BL : (⟨#[77, 105, 110]⟩ : ByteArray).toList = [77, 105, 110] := bytes_toList _
    have MU := hide (musttwo_any ⟨#[77, 105, 110]⟩ t (by rw [BL]; decide) htt w1)
    rw [BL] at MU
    clear BL
    cases h1 : twoOK [77, 105, 110] t with
    | true =>
      rw [h1] at MU
      have E2 : Hid ((sameP (tysOf vs)).bind (fun t => (mustP (twoOK [77, 105, 110] t)).bind (fun _ => .ok t)) = .ok t) := by show _ = _; rw [E.out, h1]; rfl
      clear h1
      go_wp2_with (first | (go_at_call 95; refine MU.out.mono ?_; rintro e w2 ⟨hg2, v, rfl, rfl⟩) | fail)
      go_ret
      exact ended_ok E2.out (grown_trans (grown_trans g0.out hg) hg2) rfl
    | false =>
      rw [h1] at MU
      have E2 : Hid ((sameP (tysOf vs)).bind (fun t => (mustP (twoOK [77, 105, 110] t)).bind (fun _ => .ok t)) = .error 4) := by show _ = _; rw [E.out, h1]; rfl
      clear h1
      go_wp2_with (first | (go_at_call 95; refine MU.out.mono ?_; rintro e w2 ⟨hg2, rfl⟩) | fail)
      exact ⟨rfl, ended_err E2.out (grown_trans (grown_trans g0.out hg) hg2)⟩

set_option maxRecDepth 100000 in
set_option maxHeartbeats 2000000 in
theorem type_And (n : Nod) (A : At) (u : Sl) (vs : List (Val × List Int)) (w : World) (hop : n.op = ⟨#[65, 110, 100]⟩) (hn : NodeOk w n A) (hv : ValsIn w u.v vs) (hl : vs.length = 2) (hf : vs.length ≤ 1000000) (ht : ∀ s ∈ tysOf vs, isTypeP s = true) : Calls Tryz.prog 48 #[nval n, .slice u.a u.n u.c] w (Ended w ((sameP (tysOf vs)).bind (fun t => (mustP (twoOK [65, 110, 100] t)).bind (fun _ => .ok t))) fun t v _ => v = .int .i64 t) := by
  obtain ⟨xa, xc, e1, p1, p2, p3⟩ := hv.vals.form
  rw [List.length_map] at e1 p1 p3
  obtain ⟨ua, un, uc⟩ := u
  simp only [Sl.v, Value.slice.injEq] at e1
  obtain ⟨rfl, rfl, rfl⟩ := e1
  have HV := hide hv
  have HT := hide ht
  clear hv ht
  have NK := hide hn
  obtain ⟨op, nam, ⟨ia, il, ic⟩, out, ⟨ao, al, cap⟩⟩ := n
  unfold nval
  simp only
  obtain ⟨w0, hw0⟩ : ∃ w0, w0 = w.alloc (.cells #[.string op, .string nam, .slice ia il ic, .string out, .slice ao al cap] 25) := ⟨_, rfl⟩
  have g0 : Hid (w.grownBy w0 none) := by show w.grownBy w0 none; rw [hw0]; exact grown_new _ _
  have hb0 := heap_alloc_new w (.cells #[.string op, .string nam, .slice ia il ic, .string out, .slice ao al cap] 25)
  rw [← hw0] at hb0
  have BX : Hid (∀ wx, w0.grownBy wx none → wx.heap[w.heap.size]? = some (.cells #[.string op, .string nam, .slice ia il ic, .string out, .slice ao al cap] 25 (0, 0))) := fun wx hg => box_kept hb0 hg
  clear hb0 hn
  simp only at hop
  subst hop
  have hp : 0 < vs.length := by omega
  have SM := hide (sametype_any ⟨ua, vs.length, uc⟩ vs w0 (HV.out.more g0.out) hp hf)
  simp only at SM
  have b2 : ((vs.length : Int) == 2) = true := by rw [hl]; decide
  clear hl
  go_enter Tryz.func48, Tryz.ntmps48
  go_wp2_with fail
  rw [← hw0]
  clear hw0
  cases hk : sameP (vs.map (·.1.ty)) with
  | error c =>
    rw [hk] at SM
    have E : Hid ((sameP (tysOf vs)).bind (fun t => (mustP (twoOK [65, 110, 100] t)).bind (fun _ => .ok t)) = .error c) := by show _ = _; unfold tysOf; rw [hk]; rfl
    clear hk
    refine SM.out.mono ?_
    rintro e w' ⟨hg, rfl⟩
    exact ⟨rfl, ended_err E.out (grown_trans g0.out hg)⟩
  | ok t =>
    have htt := sameP_typ hk (by simpa using hp) HT.out
    rw [hk] at SM
    have E : Hid ((sameP (tysOf vs)).bind (fun t => (mustP (twoOK [65, 110, 100] t)).bind (fun _ => .ok t)) = (mustP (twoOK [65, 110, 100] t)).bind (fun _ => .ok t)) := by show _ = _; unfold tysOf; rw [hk]; rfl
    clear hk
    refine SM.out.mono ?_
    rintro e w1 ⟨hg, v, rfl, rfl⟩
    obtain ⟨n0, n1, n2, n3, n4⟩ := nod_cells (n := ⟨⟨#[65, 110, 100]⟩, nam, ⟨ia, il, ic⟩, out, ⟨ao, al, cap⟩⟩) (BX.out w1 hg)
    have BL : (⟨#[65, 110, 100]⟩ : ByteArray).toList = [65, 110, 100] := bytes_toList _
    have MU := hide (musttwo_any ⟨#[65, 110, 100]⟩ t (by rw [BL]; decide) htt w1)
    rw [BL] at MU
    clear BL
    cases h1 : twoOK [65, 110, 100] t with
    | true =>
      rw [h1] at MU
      have E2 : Hid ((sameP (tysOf vs)).bind (fun t => (mustP (twoOK [65, 110, 100] t)).bind (fun _ => .ok t)) = .ok t) := by show _ = _; rw [E.out, h1]; rfl
      clear h1
      go_wp2_with (first | (go_at_call 95; refine MU.out.mono ?_; rintro e w2 ⟨hg2, v, rfl, rfl⟩) | fail)
      go_ret
      exact ended_ok E2.out (grown_trans (grown_trans g0.out hg) hg2) rfl
    | false =>
      rw [h1] at MU
      have E2 : Hid ((sameP (tysOf vs)).bind (fun t => (mustP (twoOK [65, 110, 100] t)).bind (fun _ => .ok t)) = .error 4) := by show _ = _; rw [E.out, h1]; rfl
      clear h1
      go_wp2_with (first | (go_at_call 95; refine MU.out.mono ?_; rintro e w2 ⟨hg2, rfl⟩) | fail)
      exact ⟨rfl, ended_err E2.out (grown_trans (grown_trans g0.out hg) hg2)⟩

set_option maxRecDepth 100000 in
set_option maxHeartbeats 2000000 in
theorem type_Or (n : Nod) (A : At) (u : Sl) (vs : List (Val × List Int)) (w : World) (hop : n.op = ⟨#[79, 114]⟩) (hn : NodeOk w n A) (hv : ValsIn w u.v vs) (hl : vs.length = 2) (hf : vs.length ≤ 1000000) (ht : ∀ s ∈ tysOf vs, isTypeP s = true) : Calls Tryz.prog 48 #[nval n, .slice u.a u.n u.c] w (Ended w ((sameP (tysOf vs)).bind (fun t => (mustP (twoOK [79, 114] t)).bind (fun _ => .ok t))) fun t v _ => v = .int .i64 t) := by
  obtain ⟨xa, xc, e1, p1, p2, p3⟩ := hv.vals.form
  rw [List.length_map] at e1 p1 p3
  obtain ⟨ua, un, uc⟩ := u
  simp only [Sl.v, Value.slice.injEq] at e1
  obtain ⟨rfl, rfl, rfl⟩ := e1
  have HV := hide hv
  have HT := hide ht
  clear hv ht
  have NK := hide hn
  obtain ⟨op, nam, ⟨ia, il, ic⟩, out, ⟨ao, al, cap⟩⟩ := n
  unfold nval
  simp only
  obtain ⟨w0, hw0⟩ : ∃ w0, w0 = w.alloc (.cells #[.string op, .string nam, .slice ia il ic, .string out, .slice ao al cap] 25) := ⟨_, rfl⟩
  have g0 : Hid (w.grownBy w0 none) := by show w.grownBy w0 none; rw [hw0]; exact grown_new _ _
  have hb0 := heap_alloc_new w (.cells #[.string op, .string nam, .slice ia il ic, .string out, .slice ao al cap] 25)
  rw [← hw0] at hb0
  have BX : Hid (∀ wx, w0.grownBy wx none → wx.heap[w.heap.size]? = some (.cells #[.string op, .string nam, .slice ia il ic, .string out, .slice ao al cap] 25 (0, 0))) := fun wx hg => box_kept hb0 hg
  clear hb0 hn
  simp only at hop
  subst hop
  have hp : 0 < vs.length := by omega
  have SM := hide (sametype_any ⟨ua, vs.length, uc⟩ vs w0 (HV.out.more g0.out) hp hf)
  simp only at SM
  have b2 : ((vs.length : Int) == 2) = true := by rw [hl]; decide
  clear hl
  go_enter Tryz.func48, Tryz.ntmps48
  go_wp2_with fail
  rw [← hw0]
  clear hw0
  cases hk : sameP (vs.map (·.1.ty)) with
  | error c =>
    rw [hk] at SM
    have E : Hid ((sameP (tysOf vs)).bind (fun t => (mustP (twoOK [79, 114] t)).bind (fun _ => .ok t)) = .error c) := by show _ = _; unfold tysOf; rw [hk]; rfl
    clear hk
    refine SM.out.mono ?_
    rintro e w' ⟨hg, rfl⟩
    exact ⟨rfl, ended_err E.out (grown_trans g0.out hg)⟩
  | ok t =>
    have htt := sameP_typ hk (by simpa using hp) HT.out
    rw [hk] at SM
    have E : Hid ((sameP (tysOf vs)).bind (fun t => (mustP (twoOK [79, 114] t)).bind (fun _ => .ok t)) = (mustP (twoOK [79, 114] t)).bind (fun _ => .ok t)) := by show _ = _; unfold tysOf; rw [hk]; rfl
    clear hk
    refine SM.out.mono ?_
    rintro e w1 ⟨hg, v, rfl, rfl⟩
    obtain ⟨n0, n1, n2, n3, n4⟩ := nod_cells (n := ⟨⟨#[79, 114]⟩, nam, ⟨ia, il, ic⟩, out, ⟨ao, al, cap⟩⟩) (BX.out w1 hg)
    have BL : (⟨#[79, 114]⟩ : ByteArray).toList = [79, 114] := bytes_toList _
    have MU := hide (musttwo_any ⟨#[79, 114]⟩ t (by rw [BL]; decide) htt w1)
    rw [BL] at MU
    clear BL
    cases h1 : twoOK [79, 114] t with
    | true =>
      rw [h1] at MU
      have E2 : Hid ((sameP (tysOf vs)).bind (fun t => (mustP (twoOK [79, 114] t)).bind (fun _ => .ok t)) = .ok t) := by show _ = _; rw [E.out, h1]; rfl
      clear h1
      go_wp2_with (first | (go_at_call 95; refine MU.out.mono ?_; rintro e w2 ⟨hg2, v, rfl, rfl⟩) | fail)
      go_ret
      exact ended_ok E2.out (grown_trans (grown_trans g0.out hg) hg2) rfl
    | false =>
      rw [h1] at MU
      have E2 : Hid ((sameP (tysOf vs)).bind (fun t => (mustP (twoOK [79, 114] t)).bind (fun _ => .ok t)) = .error 4) := by show _ = _; rw [E.out, h1]; rfl
      clear h1
      go_wp2_with (first | (go_at_call 95; refine MU.out.mono ?_; rintro e w2 ⟨hg2, rfl⟩) | fail)
      exact ⟨rfl, ended_err E2.out (grown_trans (grown_trans g0.out hg) hg2)⟩

set_option maxRecDepth 100000 in
set_option maxHeartbeats 2000000 in
theorem type_Xor (n : Nod) (A : At) (u : Sl) (vs : List (Val × List Int)) (w : World) (hop : n.op = ⟨#[88, 111, 114]⟩) (hn : NodeOk w n A) (hv : ValsIn w u.v vs) (hl : vs.length = 2) (hf : vs.length ≤ 1000000) (ht : ∀ s ∈ tysOf vs, isTypeP s = true) : Calls Tryz.prog 48 #[nval n, .slice u.a u.n u.c] w (Ended w ((sameP (tysOf vs)).bind (fun t => (mustP (twoOK [88, 111, 114] t)).bind (fun _ => .ok t))) fun t v _ => v = .int .i64 t) := by
  obtain ⟨xa, xc, e1, p1, p2, p3⟩ := hv.vals.form
  rw [List.length_map] at e1 p1 p3
  obtain ⟨ua, un, uc⟩ := u
  simp only [Sl.v, Value.slice.injEq] at e1
  obtain ⟨rfl, rfl, rfl⟩ := e1
  have HV := hide hv
  have HT := hide ht
  clear hv ht
  have NK := hide hn
  obtain ⟨op, nam, ⟨ia, il, ic⟩, out, ⟨ao, al, cap⟩⟩ := n
  unfold nval
  simp only
  obtain ⟨w0, hw0⟩ : ∃ w0, w0 = w.alloc (.cells #[.string op, .string nam, .slice ia il ic, .string out, .slice ao al cap] 25) := ⟨_, rfl⟩
  have g0 : Hid (w.grownBy w0 none) := by show w.grownBy w0 none; rw [hw0]; exact grown_new _ _
  have hb0 := heap_alloc_new w (.cells #[.string op, .string nam, .slice ia il ic, .string out, .slice ao al cap] 25)
  rw [← hw0] at hb0
  have BX : Hid (∀ wx, w0.grownBy wx none → wx.heap[w.heap.size]? = some (.cells #[.string op, .string nam, .slice ia il ic, .string out, .slice ao al cap] 25 (0, 0))) := fun wx hg => box_kept hb0 hg
  clear hb0 hn
  simp only at hop
  subst hop
  have hp : 0 < vs.length := by omega
  have SM := hide (sametype_any ⟨ua, vs.length, uc⟩ vs w0 (HV.out.more g0.out) hp hf)
  simp only at SM
  have b2 : ((vs.length : Int) == 2) = true := by rw [hl]; decide
  clear hl
  go_enter Tryz.func48, Tryz.ntmps48
  go_wp2_with fail
  rw [← hw0]
  clear hw0
  cases hk : sameP (vs.map (·.1.ty)) with
  | error c =>
    rw [hk] at SM
    have E : Hid ((sameP (tysOf vs)).bind (fun t => (mustP (twoOK [88, 111, 114] t)).bind (fun _ => .ok t)) = .error c) := by show _ = _; unfold tysOf; rw [hk]; rfl
    clear hk
    refine SM.out.mono ?_
    rintro e w' ⟨hg, rfl⟩
    exact ⟨rfl, ended_err E.out (grown_trans g0.out hg)⟩
  | ok t =>
    have htt := sameP_typ hk (by simpa using hp) HT.out
    rw [hk] at SM
    have E : Hid ((sameP (tysOf vs)).bind (fun t => (mustP (twoOK [88, 111, 114] t)).bind (fun _ => .ok t)) = (mustP (twoOK [88, 111, 114] t)).bind (fun _ => .ok t)) := by show _ = _; unfold tysOf; rw [hk]; rfl
    clear hk
    refine SM.out.mono ?_
    rintro e w1 ⟨hg, v, rfl, rfl⟩
    obtain ⟨n0, n1, n2, n3, n4⟩ := nod_cells (n := ⟨⟨#[88, 111, 114]⟩, nam, ⟨ia, il, ic⟩, out, ⟨ao, al, cap⟩⟩) (BX.out w1 hg)
    have BL : (⟨#[88, 111, 114]⟩ : ByteArray).toList = [88, 111, 114] := bytes_toList _
    have MU := hide (musttwo_any ⟨#[88, 111, 114]⟩ t (by rw [BL]; decide) htt w1)
    rw [BL] at MU
    clear BL
    cases h1 : twoOK [88, 111, 114] t with
    | true =>
      rw [h1] at MU
      have E2 : Hid ((sameP (tysOf vs)).bind (fun t => (mustP (twoOK [88, 111, 114] t)).bind (fun _ => .ok t)) = .ok t) := by show _ = _; rw [E.out, h1]; rfl
      clear h1
      go_wp2_with (first | (go_at_call 95; refine MU.out.mono ?_; rintro e w2 ⟨hg2, v, rfl, rfl⟩) | fail)
      go_ret
      exact ended_ok E2.out (grown_trans (grown_trans g0.out hg) hg2) rfl
    | false =>
      rw [h1] at MU
      have E2 : Hid ((sameP (tysOf vs)).bind (fun t => (mustP (twoOK [88, 111, 114] t)).bind (fun _ => .ok t)) = .error 4) := by show _ = _; rw [E.out, h1]; rfl
      clear h1
      go_wp2_with (first | (go_at_call 95; refine MU.out.mono ?_; rintro e w2 ⟨hg2, rfl⟩) | fail)
      exact ⟨rfl, ended_err E2.out (grown_trans (grown_trans g0.out hg) hg2)⟩

set_option maxRecDepth 100000 in
set_option maxHeartbeats 2000000 in
theorem type_Identity (n : Nod) (A : At) (u : Sl) (vs : List (Val × List Int)) (w : World) (hop : n.op = ⟨#[73, 100, 101, 110, 116, 105, 116, 121]⟩) (hn : NodeOk w n A) (hv : ValsIn w u.v vs) (hl : vs.length = 1) (hf : vs.length ≤ 1000000) (ht : ∀ s ∈ tysOf vs, isTypeP s = true) : Calls Tryz.prog 48 #[nval n, .slice u.a u.n u.c] w (Ended w ((sameP (tysOf vs)).bind (fun t => (mustP (oneOK [73, 100, 101, 110, 116, 105, 116, 121] t)).bind (fun _ => .ok t))) fun t v _ => v = .int .i64 t) := by
  obtain ⟨xa, xc, e1, p1, p2, p3⟩ := hv.vals.form
  rw [List.length_map] at e1 p1 p3
  obtain ⟨ua, un, uc⟩ := u
  simp only [Sl.v, Value.slice.injEq] at e1
  obtain ⟨rfl, rfl, rfl⟩ := e1
  have HV := hide hv
  have HT := hide ht
  clear hv ht
  have NK := hide hn
  obtain ⟨op, nam, ⟨ia, il, ic⟩, out, ⟨ao, al, cap⟩⟩ := n
  unfold nval
  simp only
  obtain ⟨w0, hw0⟩ : ∃ w0, w0 = w.alloc (.cells #[.string op, .string nam, .slice ia il ic, .string out, .slice ao al cap] 25) := ⟨_, rfl⟩
  have g0 : Hid (w.grownBy w0 none) := by show w.grownBy w0 none; rw [hw0]; exact grown_new _ _
  have hb0 := heap_alloc_new w (.cells #[.string op, .string nam, .slice ia il ic, .string out, .slice ao al cap] 25)
  rw [← hw0] at hb0
  have BX : Hid (∀ wx, w0.grownBy wx none → wx.heap[w.heap.size]? = some (.cells #[.string op, .string nam, .slice ia il ic, .string out, .slice ao al cap] 25 (0, 0))) := fun wx hg => box_kept hb0 hg
  clear hb0 hn
  simp only at hop
  subst hop
  have hp : 0 < vs.length := by omega
  have SM := hide (sametype_any ⟨ua, vs.length, uc⟩ vs w0 (HV.out.more g0.out) hp hf)
  simp only at SM
  have b2 : ((vs.length : Int) == 2) = false := by rw [hl]; decide
  clear hl
  go_enter Tryz.func48, Tryz.ntmps48
  go_wp2_with fail
  rw [← hw0]
  clear hw0
  cases hk : sameP (vs.map (·.1.ty)) with
  | error c =>
    rw [hk] at SM
    have E : Hid ((sameP (tysOf vs)).bind (fun t => (mustP (oneOK [73, 100, 101, 110, 116, 105, 116, 121] t)).bind (fun _ => .ok t)) = .error c) := by show _ = _; unfold tysOf; rw [hk]; rfl
    clear hk
    refine SM.out.mono ?_
    rintro e w' ⟨hg, rfl⟩
    exact ⟨rfl, ended_err E.out (grown_trans g0.out hg)⟩
  | ok t =>
    have htt := sameP_typ hk (by simpa using hp) HT.out
    rw [hk] at SM
    have E : Hid ((sameP (tysOf vs)).bind (fun t => (mustP (oneOK [73, 100, 101, 110, 116, 105, 116, 121] t)).bind (fun _ => .ok t)) = (mustP (oneOK [73, 100, 101, 110, 116, 105, 116, 121] t)).bind (fun _ => .ok t)) := by show _ = _; unfold tysOf; rw [hk]; rfl
    clear hk
    refine SM.out.mono ?_
    rintro e w1 ⟨hg, v, rfl, rfl⟩
    obtain ⟨n0, n1, n2, n3, n4⟩ := nod_cells (n := ⟨⟨#[73, 100, 101, 110, 116, 105, 116, 121]⟩, nam, ⟨ia, il, ic⟩, out, ⟨ao, al, cap⟩⟩) (BX.out w1 hg)
    have BL : (⟨#[73, 100, 101, 110, 116, 105, 116, 121]⟩ : ByteArray).toList = [73, 100, 101, 110, 116, 105, 116, 121] := bytes_toList _
    have MU := hide (mustone_any ⟨#[73, 100, 101, 110, 116, 105, 116, 121]⟩ t (by rw [BL]; decide) htt w1)
    rw [BL] at MU
    clear BL
    cases h1 : oneOK [73, 100, 101, 110, 116, 105, 116, 121] t with
    | true =>
      rw [h1] at MU
      have E2 : Hid ((sameP (tysOf vs)).bind (fun t => (mustP (oneOK [73, 100, 101, 110, 116, 105, 116, 121] t)).bind (fun _ => .ok t)) = .ok t) := by show _ = _; rw [E.out, h1]; rfl
      clear h1
      go_wp2_with (first | (go_at_call 51; refine MU.out.mono ?_; rintro e w2 ⟨hg2, v, rfl, rfl⟩) | fail)
      go_ret
      exact ended_ok E2.out (grown_trans (grown_trans g0.out hg) hg2) rfl
    | false =>
      rw [h1] at MU
      have E2 : Hid ((sameP (tysOf vs)).bind (fun t => (mustP (oneOK [73, 100, 101, 110, 116, 105, 116, 121] t)).bind (fun _ => .ok t)) = .error 4) := by show _ = _; rw [E.out, h1]; rfl
      clear h1
      go_wp2_with (first | (go_at_call 51; refine MU.out.mono ?_; rintro e w2 ⟨hg2, rfl⟩) | fail)
      exact ⟨rfl, ended_err E2.out (grown_trans (grown_trans g0.out hg) hg2)⟩

set_option maxRecDepth 100000 in
set_option maxHeartbeats 2000000 in
theorem type_Neg (n : Nod) (A : At) (u : Sl) (vs : List (Val × List Int)) (w : World) (hop : n.op = ⟨#[78, 101, 103]⟩) (hn : NodeOk w n A) (hv : ValsIn w u.v vs) (hl : vs.length = 1) (hf : vs.length ≤ 1000000) (ht : ∀ s ∈ tysOf vs, isTypeP s = true) : Calls Tryz.prog 48 #[nval n, .slice u.a u.n u.c] w (Ended w ((sameP (tysOf vs)).bind (fun t => (mustP (oneOK [78, 101, 103] t)).bind (fun _ => .ok t))) fun t v _ => v = .int .i64 t) := by
  obtain ⟨xa, xc, e1, p1, p2, p3⟩ := hv.vals.form
  rw [List.length_map] at e1 p1 p3
  obtain ⟨ua, un, uc⟩ := u
  simp only [Sl.v, Value.slice.injEq] at e1
  obtain ⟨rfl, rfl, rfl⟩ := e1
  have HV := hide hv
  have HT := hide ht
  clear hv ht
  have NK := hide hn
  obtain ⟨op, nam, ⟨ia, il, ic⟩, out, ⟨ao, al, cap⟩⟩ := n
  unfold nval
  simp only
  obtain ⟨w0, hw0⟩ : ∃ w0, w0 = w.alloc (.cells #[.string op, .string nam, .slice ia il ic, .string out, .slice ao al cap] 25) := ⟨_, rfl⟩
  have g0 : Hid (w.grownBy w0 none) := by show w.grownBy w0 none; rw [hw0]; exact grown_new _ _
  have hb0 := heap_alloc_new w (.cells #[.string op, .string nam, .slice ia il ic, .string out, .slice ao al cap] 25)
  rw [← hw0] at hb0
  have BX : Hid (∀ wx, w0.grownBy wx none → wx.heap[w.heap.size]? = some (.cells #[.string op, .string nam, .slice ia il ic, .string out, .slice ao al cap] 25 (0, 0))) := fun wx hg => box_kept hb0 hg
  clear hb0 hn
  simp only at hop
  subst hop
  have hp : 0 < vs.length := by omega
  have SM := hide (sametype_any ⟨ua, vs.length, uc⟩ vs w0 (HV.out.more g0.out) hp hf)
  simp only at SM
  have b2 : ((vs.length : Int) == 2) = false := by rw [hl]; decide
  clear hl
  go_enter Tryz.func48, Tryz.ntmps48
  go_wp2_with fail
  rw [← hw0]
  clear hw0
  cases hk : sameP (vs.map (·.1.ty)) with
  | error c =>
    rw [hk] at SM
    have E : Hid ((sameP (tysOf vs)).bind (fun t => (mustP (oneOK [78, 101, 103] t)).bind (fun _ => .ok t)) = .error c) := by show _ = _; unfold tysOf; rw [hk]; rfl
    clear hk
    refine SM.out.mono ?_
    rintro e w' ⟨hg, rfl⟩
    exact ⟨rfl, ended_err E.out (grown_trans g0.out hg)⟩
  | ok t =>
    have htt := sameP_typ hk (by simpa using hp) HT.out
    rw [hk] at SM
    have E : Hid ((sameP (tysOf vs)).bind (fun t => (mustP (oneOK [78, 101, 103] t)).bind (fun _ => .ok t)) = (mustP (oneOK [78, 101, 103] t)).bind (fun _ => .ok t)) := by show _ = _; unfold tysOf; rw [hk]; rfl
    clear hk
    refine SM.out.mono ?_
    rintro e w1 ⟨hg, v, rfl, rfl⟩
    obtain ⟨n0, n1, n2, n3, n4⟩ := nod_cells (n := ⟨⟨#[78, 101, 103]⟩, nam, ⟨ia, il, ic⟩, out, ⟨ao, al, cap⟩⟩) (BX.out w1 hg)
    have BL : (⟨#[78, 101, 103]⟩ : ByteArray).toList = [78, 101, 103] := bytes_toList _
    have MU := hide (mustone_any ⟨#[78, 101, 103]⟩ t (by rw [BL]; decide) htt w1)
    rw [BL] at MU
    clear BL
    cases h1 : oneOK [78, 101, 103] t with
    | true =>
      rw [h1] at MU
      have E2 : Hid ((sameP (tysOf vs)).bind (fun t => (mustP (oneOK [78, 101, 103] t)).bind (fun _ => .ok t)) = .ok t) := by show _ = _; rw [E.out, h1]; rfl
      clear h1
      go_wp2_with (first | (go_at_call 51; refine MU.out.mono ?_; rintro e w2 ⟨hg2, v, rfl, rfl⟩) | fail)
      go_ret
      exact ended_ok E2.out (grown_trans (grown_trans g0.out hg) hg2) rfl
    | false =>
      rw [h1] at MU
      have E2 : Hid ((sameP (tysOf vs)).bind (fun t => (mustP (oneOK [78, 101, 103] t)).bind (fun _ => .ok t)) = .error 4) := by show _ = _; rw [E.out, h1]; rfl
      clear h1
      go_wp2_with (first | (go_at_call 51; refine MU.out.mono ?_; rintro e w2 ⟨hg2, rfl⟩) | fail)
      exact ⟨rfl, ended_err E2.out (grown_trans (grown_trans g0.out hg) hg2)⟩

set_option maxRecDepth 100000 in
set_option maxHeartbeats 2000000 in
theorem type_Abs (n : Nod) (A : At) (u : Sl) (vs : List (Val × List Int)) (w : World) (hop : n.op = ⟨#[65, 98, 115]⟩) (hn : NodeOk w n A) (hv : ValsIn w u.v vs) (hl : vs.length = 1) (hf : vs.length ≤ 1000000) (ht : ∀ s ∈ tysOf vs, isTypeP s = true) : Calls Tryz.prog 48 #[nval n, .slice u.a u.n u.c] w (Ended w ((sameP (tysOf vs)).bind (fun t => (mustP (oneOK [65, 98, 115] t)).bind (fun _ => .ok t))) fun t v _ => v = .int .i64 t) := by
  obtain ⟨xa, xc, e1, p1, p2, p3⟩ := hv.vals.form
  rw [List.length_map] at e1 p1 p3
  obtain ⟨ua, un, uc⟩ := u
  simp only [Sl.v, Value.slice.injEq] at e1
  obtain ⟨rfl, rfl, rfl⟩ := e1
  have HV := hide hv
  have HT := hide ht
  clear hv ht
  have NK := hide hn
  obtain ⟨op, nam, ⟨ia, il, ic⟩, out, ⟨ao, al, cap⟩⟩ := n
  unfold nval
  simp only
  obtain ⟨w0, hw0⟩ : ∃ w0, w0 = w.alloc (.cells #[.string op, .string nam, .slice ia il ic, .string out, .slice ao al cap] 25) := ⟨_, rfl⟩
  have g0 : Hid (w.grownBy w0 none) := by show w.grownBy w0 none; rw [hw0]; exact grown_new _ _
  have hb0 := heap_alloc_new w (.cells #[.string op, .string nam, .slice ia il ic, .string out, .slice ao al cap] 25)
  rw [← hw0] at hb0
  have BX : Hid (∀ wx, w0.grownBy wx none → wx.heap[w.heap.size]? = some (.cells #[.string op, .string nam, .slice ia il ic, .string out, .slice ao al cap] 25 (0, 0))) := fun wx hg => box_kept hb0 hg
  clear hb0 hn
  simp only at hop
  subst hop
  have hp : 0 < vs.length := by omega
  have SM := hide (sametype_any ⟨ua, vs.length, uc⟩ vs w0 (HV.out.more g0.out) hp hf)
  simp only at SM
  have b2 : ((vs.length : Int) == 2) = false := by rw [hl]; decide
  clear hl
  go_enter Tryz.func48, Tryz.ntmps48
  go_wp2_with fail
  rw [← hw0]
  clear hw0
  cases hk : sameP (vs.map (·.1.ty)) with
  | error c =>
    rw [hk] at SM
    have E : Hid ((sameP (tysOf vs)).bind (fun t => (mustP (oneOK [65, 98, 115] t)).bind (fun _ => .ok t)) = .error c) := by show _ = _; unfold tysOf; rw [hk]; rfl
    clear hk
    refine SM.out.mono ?_
    rintro e w' ⟨hg, rfl⟩
    exact ⟨rfl, ended_err E.out (grown_trans g0.out hg)⟩
  | ok t =>
    have htt := sameP_typ hk (by simpa using hp) HT.out
    rw [hk] at SM
    have E : Hid ((sameP (tysOf vs)).bind (fun t => (mustP (oneOK [65, 98, 115] t)).bind (fun _ => .ok t)) = (mustP (oneOK [65, 98, 115] t)).bind (fun _ => .ok t)) := by show _ = _; unfold tysOf; rw [hk]; rfl
    clear hk
    refine SM.out.mono ?_
    rintro e w1 ⟨hg, v, rfl, rfl⟩
    obtain ⟨n0, n1, n2, n3, n4⟩ := nod_cells (n := ⟨⟨#[65, 98, 115]⟩, nam, ⟨ia, il, ic⟩, out, ⟨ao, al, cap⟩⟩) (BX.out w1 hg)
    have BL : (⟨#[65, 98, 115]⟩ : ByteArray).toList = [65, 98, 115] := bytes_toList _
    have MU := hide (mustone_any ⟨#[65, 98, 115]⟩ t (by rw [BL]; decide) htt w1)
    rw [BL] at MU
    clear BL
    cases h1 : oneOK [65, 98, 115] t with
    | true =>
      rw [h1] at MU
      have E2 : Hid ((sameP (tysOf vs)).bind (fun t => (mustP (oneOK [65, 98, 115] t)).bind (fun _ => .ok t)) = .ok t) := by show _ = _; rw [E.out, h1]; rfl
      clear h1
      go_wp2_with (first | (go_at_call 51; refine MU.out.mono ?_; rintro e w2 ⟨hg2, v, rfl, rfl⟩) | fail)
      go_ret
      exact ended_ok E2.out (grown_trans (grown_trans g0.out hg) hg2) rfl
    | false =>
      rw [h1] at MU
      have E2 : Hid ((sameP (tysOf vs)).bind (fun t => (mustP (oneOK [65, 98, 115] t)).bind (fun _ => .ok t)) = .error 4) := by show _ = _; rw [E.out, h1]; rfl
      clear h1
      go_wp2_with (first | (go_at_call 51; refine MU.out.mono ?_; rintro e w2 ⟨hg2, rfl⟩) | fail)
      exact ⟨rfl, ended_err E2.out (grown_trans (grown_trans g0.out hg) hg2)⟩

set_option maxRecDepth 100000 in
set_option maxHeartbeats 2000000 in
theorem type_Not (n : Nod) (A : At) (u : Sl) (vs : List (Val × List Int)) (w : World) (hop : n.op = ⟨#[78, 111, 116]⟩) (hn : NodeOk w n A) (hv : ValsIn w u.v vs) (hl : vs.length = 1) (hf : vs.length ≤ 1000000) (ht : ∀ s ∈ tysOf vs, isTypeP s = true) : Calls Tryz.prog 48 #[nval n, .slice u.a u.n u.c] w (Ended w ((sameP (tysOf vs)).bind (fun t => (mustP (oneOK [78, 111, 116] t)).bind (fun _ => .ok t))) fun t v _ => v = .int .i64 t) := by
  obtain ⟨xa, xc, e1, p1, p2, p3⟩ := hv.vals.form
  rw [List.length_map] at e1 p1 p3
  obtain ⟨ua, un, uc⟩ := u
  simp only [Sl.v, Value.slice.injEq] at e1
  obtain ⟨rfl, rfl, rfl⟩ := e1
  have HV := hide hv
  have HT := hide ht
  clear hv ht
  have NK := hide hn
  obtain ⟨op, nam, ⟨ia, il, ic⟩, out, ⟨ao, al, cap⟩⟩ := n
  unfold nval
  simp only
  obtain ⟨w0, hw0⟩ : ∃ w0, w0 = w.alloc (.cells #[.string op, .string nam, .slice ia il ic, .string out, .slice ao al cap] 25) := ⟨_, rfl⟩
  have g0 : Hid (w.grownBy w0 none) := by show w.grownBy w0 none; rw [hw0]; exact grown_new _ _
  have hb0 := heap_alloc_new w (.cells #[.string op, .string nam, .slice ia il ic, .string out, .slice ao al cap] 25)
  rw [← hw0] at hb0
  have BX : Hid (∀ wx, w0.grownBy wx none → wx.heap[w.heap.size]? = some (.cells #[.string op, .string nam, .slice ia il ic, .string out, .slice ao al cap] 25 (0, 0))) := fun wx hg => box_kept hb0 hg
  clear hb0 hn
  simp only at hop
  subst hop
  have hp : 0 < vs.length := by omega
  have SM := hide (sametype_any ⟨ua, vs.length, uc⟩ vs w0 (HV.out.more g0.out) hp hf)
  simp only at SM
  have b2 : ((vs.length : Int) == 2) = false := by rw [hl]; decide
  clear hl
  go_enter Tryz.func48, Tryz.ntmps48
  go_wp2_with fail
  rw [← hw0]
  clear hw0
  cases hk : sameP (vs.map (·.1.ty)) with
  | error c =>
    rw [hk] at SM
    have E : Hid ((sameP (tysOf vs)).bind (fun t => (mustP (oneOK [78, 111, 116] t)).bind (fun _ => .ok t)) = .error c) := by show _ = _; unfold tysOf; rw [hk]; rfl
    clear hk
    refine SM.out.mono ?_
    rintro e w' ⟨hg, rfl⟩
    exact ⟨rfl, ended_err E.out (grown_trans g0.out hg)⟩
  | ok t =>
    have htt := sameP_typ hk (by simpa using hp) HT.out
    rw [hk] at SM
    have E : Hid ((sameP (tysOf vs)).bind (fun t => (mustP (oneOK [78, 111, 116] t)).bind (fun _ => .ok t)) = (mustP (oneOK [78, 111, 116] t)).bind (fun _ => .ok t)) := by show _ = _; unfold tysOf; rw [hk]; rfl
    clear hk
    refine SM.out.mono ?_
    rintro e w1 ⟨hg, v, rfl, rfl⟩
    obtain ⟨n0, n1, n2, n3, n4⟩ := nod_cells (n := ⟨⟨#[78, 111, 116]⟩, nam, ⟨ia, il, ic⟩, out, ⟨ao, al, cap⟩⟩) (BX.out w1 hg)
    have BL : (⟨#[78, 111, 116]⟩ : ByteArray).toList = [78, 111, 116] := bytes_toList _
    have MU := hide (mustone_any ⟨#[78, 111, 116]⟩ t (by rw [BL]; decide) htt w1)
    rw [BL] at MU
    clear BL
    cases h1 : oneOK [78, 111, 116] t with
    | true =>
      rw [h1] at MU
      have E2 : Hid ((sameP (tysOf vs)).bind (fun t => (mustP (oneOK [78, 111, 116] t)).bind (fun _ => .ok t)) = .ok t) := by show _ = _; rw [E.out, h1]; rfl
      clear h1
      go_wp2_with (first | (go_at_call 51; refine MU.out.mono ?_; rintro e w2 ⟨hg2, v, rfl, rfl⟩) | fail)
      go_ret
      exact ended_ok E2.out (grown_trans (grown_trans g0.out hg) hg2) rfl
    | false =>
      rw [h1] at MU
      have E2 : Hid ((sameP (tysOf vs)).bind (fun t => (mustP (oneOK [78, 111, 116] t)).bind (fun _ => .ok t)) = .error 4) := by show _ = _; rw [E.out, h1]; rfl
      clear h1
      go_wp2_with (first | (go_at_call 51; refine MU.out.mono ?_; rintro e w2 ⟨hg2, rfl⟩) | fail)
      exact ⟨rfl, ended_err E2.out (grown_trans (grown_trans g0.out hg) hg2)⟩

set_option maxRecDepth 100000 in
set_option maxHeartbeats 2000000 in
theorem type_Relu (n : Nod) (A : At) (u : Sl) (vs : List (Val × List Int)) (w : World) (hop : n.op = ⟨#[82, 101, 108, 117]⟩) (hn : NodeOk w n A) (hv : ValsIn w u.v vs) (hl : vs.length = 1) (hf : vs.length ≤ 1000000) (ht : ∀ s ∈ tysOf vs, isTypeP s = true) : Calls Tryz.prog 48 #[nval n, .slice u.a u.n u.c] w (Ended w ((sameP (tysOf vs)).bind (fun t => (mustP (oneOK [82, 101, 108, 117] t)).bind (fun _ => .ok t))) fun t v _ => v = .int .i64 t) := by
  obtain ⟨xa, xc, e1, p1, p2, p3⟩ := hv.vals.form
  rw [List.length_map] at e1 p1 p3
  obtain ⟨ua, un, uc⟩ := u
  simp only [Sl.v, Value.slice.injEq] at e1
  obtain ⟨rfl, rfl, rfl⟩ := e1
  have HV := hide hv
  have HT := hide ht
  clear hv ht
  have NK := hide hn
  obtain ⟨op, nam, ⟨ia, il, ic⟩, out, ⟨ao, al, cap⟩⟩ := n
  unfold nval
  simp only
  obtain ⟨w0, hw0⟩ : ∃ w0, w0 = w.alloc (.cells #[.string op, .string nam, .slice ia il ic, .string out, .slice ao al cap] 25) := ⟨_, rfl⟩
  have g0 : Hid (w.grownBy w0 none) := by show w.grownBy w0 none; rw [hw0]; exact grown_new _ _
  have hb0 := heap_alloc_new w (.cells #[.string op, .string nam, .slice ia il ic, .string out, .slice ao al cap] 25)
  rw [← hw0] at hb0
  have BX : Hid (∀ wx, w0.grownBy wx none → wx.heap[w.heap.size]? = some (.cells #[.string op, .string nam, .slice ia il ic, .string out, .slice ao al cap] 25 (0, 0))) := fun wx hg => box_kept hb0 hg
  clear hb0 hn
  simp only at hop
  subst hop
  have hp : 0 < vs.length := by omega
  have SM := hide (sametype_any ⟨ua, vs.length, uc⟩ vs w0 (HV.out.more g0.out) hp hf)
  simp only at SM
  have b2 : ((vs.length : Int) == 2) = false := by rw [hl]; decide
  clear hl
  go_enter Tryz.func48, Tryz.ntmps48
  go_wp2_with fail
  rw [← hw0]
  clear hw0
  cases hk : sameP (vs.map (·.1.ty)) with
  | error c =>
    rw [hk] at SM
    have E : Hid ((sameP (tysOf vs)).bind (fun t => (mustP (oneOK [82, 101, 108, 117] t)).bind (fun _ => .ok t)) = .error c) := by show _ = _; unfold tysOf; rw [hk]; rfl
    clear hk
    refine SM.out.mono ?_
    rintro e w' ⟨hg, rfl⟩
    exact ⟨rfl, ended_err E.out (grown_trans g0.out hg)⟩
  | ok t =>
    have htt := sameP_typ hk (by simpa using hp) HT.out
    rw [hk] at SM
    have E : Hid ((sameP (tysOf vs)).bind (fun t => (mustP (oneOK [82, 101, 108, 117] t)).bind (fun _ => .ok t)) = (mustP (oneOK [82, 101, 108, 117] t)).bind (fun _ => .ok t)) := by show _ = _; unfold tysOf; rw [hk]; rfl
    clear hk
    refine SM.out.mono ?_
    rintro e w1 ⟨hg, v, rfl, rfl⟩
    obtain ⟨n0, n1, n2, n3, n4⟩ := nod_cells (n := ⟨⟨#[82, 101, 108, 117]⟩, nam, ⟨ia, il, ic⟩, out, ⟨ao, al, cap⟩⟩) (BX.out w1 hg)
    have BL : (⟨#[82, 101, 108, 117]⟩ : ByteArray).toList = [82, 101, 108, 117] := bytes_toList _
    have MU := hide (mustone_any ⟨#[82, 101, 108, 117]⟩ t (by rw [BL]; decide) htt w1)
    rw [BL] at MU
    clear BL
    cases h1 : oneOK [82, 101, 108, 117] t with
    | true =>
      rw [h1] at MU
      have E2 : Hid ((sameP (tysOf vs)).bind (fun t => (mustP (oneOK [82, 101, 108, 117] t)).bind (fun _ => .ok t)) = .ok t) := by show _ = _; rw [E.out, h1]; rfl
      clear h1
      go_wp2_with (first | (go_at_call 51; refine MU.out.mono ?_; rintro e w2 ⟨hg2, v, rfl, rfl⟩) | fail)
      go_ret
      exact ended_ok E2.out (grown_trans (grown_trans g0.out hg) hg2) rfl
    | false =>
      rw [h1] at MU
      have E2 : Hid ((sameP (tysOf vs)).bind (fun t => (mustP (oneOK [82, 101, 108, 117] t)).bind (fun _ => .ok t)) = .error 4) := by show _ = _; rw [E.out, h1]; rfl
      clear h1
      go_wp2_with (first | (go_at_call 51; refine MU.out.mono ?_; rintro e w2 ⟨hg2, rfl⟩) | fail)
      exact ⟨rfl, ended_err E2.out (grown_trans (grown_trans g0.out hg) hg2)⟩

set_option maxRecDepth 100000 in
set_option maxHeartbeats 2000000 in
theorem type_Sqrt (n : Nod) (A : At) (u : Sl) (vs : List (Val × List Int)) (w : World) (hop : n.op = ⟨#[83, 113, 114, 116]⟩) (hn : NodeOk w n A) (hv : ValsIn w u.v vs) (hl : vs.length = 1) (hf : vs.length ≤ 1000000) (ht : ∀ s ∈ tysOf vs, isTypeP s = true) : Calls Tryz.prog 48 #[nval n, .slice u.a u.n u.c] w (Ended w ((sameP (tysOf vs)).bind (fun t => (mustP (oneOK [83, 113, 114, 116] t)).bind (fun _ => .ok t))) fun t v _ => v = .int .i64 t) := by
  obtain ⟨xa, xc, e1, p1, p2, p3⟩ := hv.vals.form
  rw [List.length_map] at e1 p1 p3
  obtain ⟨ua, un, uc⟩ := u
  simp only [Sl.v, Value.slice.injEq] at e1
  obtain ⟨rfl, rfl, rfl⟩ := e1
  have HV := hide hv
  have HT := hide ht
  clear hv ht
  have NK := hide hn
  obtain ⟨op, nam, ⟨ia, il, ic⟩, out, ⟨ao, al, cap⟩⟩ := n
  unfold nval
  simp only
  obtain ⟨w0, hw0⟩ : ∃ w0, w0 = w.alloc (.cells #[.string op, .string nam, .slice ia il ic, .string out, .slice ao al cap] 25) := ⟨_, rfl⟩
  have g0 : Hid (w.grownBy w0 none) := by show w.grownBy w0 none; rw [hw0]; exact grown_new _ _
  have hb0 := heap_alloc_new w (.cells #[.string op, .string nam, .slice ia il ic, .string out, .slice ao al cap] 25)
  rw [← hw0] at hb0
  have BX : Hid (∀ wx, w0.grownBy wx none → wx.heap[w.heap.size]? = some (.cells #[.string op, .string nam, .slice ia il ic, .string out, .slice ao al cap] 25 (0, 0))) := fun wx hg => box_kept hb0 hg
  clear hb0 hn
  simp only at hop
  subst hop
  have hp : 0 < vs.length := by omega
  have SM := hide (sametype_any ⟨ua, vs.length, uc⟩ vs w0 (HV.out.more g0.out) hp hf)
  simp only at SM
  have b2 : ((vs.length : Int) == 2) = false := by rw [hl]; decide
  clear hl
  go_enter Tryz.func48, Tryz.ntmps48
  go_wp2_with fail
  rw [← hw0]
  clear hw0
  cases hk : sameP (vs.map (·.1.ty)) with
  | error c =>
    rw [hk] at SM
    have E : Hid ((sameP (tysOf vs)).bind (fun t => (mustP (oneOK [83, 113, 114, 116] t)).bind (fun _ => .ok t)) = .error c) := by show _ = _; unfold tysOf; rw [hk]; rfl
    clear hk
    refine SM.out.mono ?_
    rintro e w' ⟨hg, rfl⟩
    exact ⟨rfl, ended_err E.out (grown_trans g0.out hg)⟩
  | ok t =>
    have htt := sameP_typ hk (by simpa using hp) HT.out
    rw [hk] at SM
    have E : Hid ((sameP (tysOf vs)).bind (fun t => (mustP (oneOK [83, 113, 114, 116] t)).bind (fun _ => .ok t)) = (mustP (oneOK [83, 113, 114, 116] t)).bind (fun _ => .ok t)) := by show _ = _; unfold tysOf; rw [hk]; rfl
    clear hk
    refine SM.out.mono ?_
    rintro e w1 ⟨hg, v, rfl, rfl⟩
    obtain ⟨n0, n1, n2, n3, n4⟩ := nod_cells (n := ⟨⟨#[83, 113, 114, 116]⟩, nam, ⟨ia, il, ic⟩, out, ⟨ao, al, cap⟩⟩) (BX.out w1 hg)
    have BL : (⟨#[83, 113, 114, 116]⟩ : ByteArray).toList = [83, 113, 114, 116] := bytes_toList _
    have MU := hide (mustone_any ⟨#[83, 113, 114, 116]⟩ t (by rw [BL]; decide) htt w1)
    rw [BL] at MU
    clear BL
    cases h1 : oneOK [83, 113, 114, 116] t with
    | true =>
      rw [h1] at MU
      have E2 : Hid ((sameP (tysOf vs)).bind (fun t => (mustP (oneOK [83, 113, 114, 116] t)).bind (fun _ => .ok t)) = .ok t) := by show _ = _; rw [E.out, h1]; rfl
      clear h1
      go_wp2_with (first | (go_at_call 51; refine MU.out.mono ?_; rintro e w2 ⟨hg2, v, rfl, rfl⟩) | fail)
      go_ret
      exact ended_ok E2.out (grown_trans (grown_trans g0.out hg) hg2) rfl
    | false =>
      rw [h1] at MU
      have E2 : Hid ((sameP (tysOf vs)).bind (fun t => (mustP (oneOK [83, 113, 114, 116] t)).bind (fun _ => .ok t)) = .error 4) := by show _ = _; rw [E.out, h1]; rfl
      clear h1
      go_wp2_with (first | (go_at_call 51; refine MU.out.mono ?_; rintro e w2 ⟨hg2, rfl⟩) | fail)
      exact ⟨rfl, ended_err E2.out (grown_trans (grown_trans g0.out hg) hg2)⟩

set_option maxRecDepth 100000 in
set_option maxHeartbeats 2000000 in
theorem type_Floor (n : Nod) (A : At) (u : Sl) (vs : List (Val × List Int)) (w : World) (hop : n.op = ⟨#[70, 108, 111, 111, 114]⟩) (hn : NodeOk w n A) (hv : ValsIn w u.v vs) (hl : vs.length = 1) (hf : vs.length ≤ 1000000) (ht : ∀ s ∈ tysOf vs, isTypeP s = true) : Calls Tryz.prog 48 #[nval n, .slice u.a u.n u.c] w (Ended w ((sameP (tysOf vs)).bind (fun t => (mustP (oneOK [70, 108, 111, 111, 114] t)).bind (fun _ => .ok t))) fun t v _ => v = .int .i64 t) := by
  obtain ⟨xa, xc, e1, p1, p2, p3⟩ := hv.vals.form
  rw [List.length_map] at e1 p1 p3
  obtain ⟨ua, un, uc⟩ := u
  simp only [Sl.v, Value.slice.injEq] at e1
  obtain ⟨rfl, rfl, rfl⟩ := e1
  have HV := hide hv
  have HT := hide ht
  clear hv ht
  have NK := hide hn
  obtain ⟨op, nam, ⟨ia, il, ic⟩, out, ⟨ao, al, cap⟩⟩ := n
  unfold nval
  simp only
  obtain ⟨w0, hw0⟩ : ∃ w0, w0 = w.alloc (.cells #[.string op, .string nam, .slice ia il ic, .string out, .slice ao al cap] 25) := ⟨_, rfl⟩
  have g0 : Hid (w.grownBy w0 none) := by show w.grownBy w0 none; rw [hw0]; exact grown_new _ _
  have hb0 := heap_alloc_new w (.cells #[.string op, .string nam, .slice ia il ic, .string out, .slice ao al cap] 25)
  rw [← hw0] at hb0
  have BX : Hid (∀ wx, w0.grownBy wx none → wx.heap[w.heap.size]? = some (.cells #[.string op, .string nam, .slice ia il ic, .string out, .slice ao al cap] 25 (0, 0))) := fun wx hg => box_kept hb0 hg
  clear hb0 hn
  simp only at hop
  subst hop
  have hp : 0 < vs.length := by omega
  have SM := hide (sametype_any ⟨ua, vs.length, uc⟩ vs w0 (HV.out.more g0.out) hp hf)
  simp only at SM
  have b2 : ((vs.length : Int) == 2) = false := by rw [hl]; decide
  clear hl
  go_enter Tryz.func48, Tryz.ntmps48
  go_wp2_with fail
  rw [← hw0]
  clear hw0
  cases hk : sameP (vs.map (·.1.ty)) with
  | error c =>
    rw [hk] at SM
    have E : Hid ((sameP (tysOf vs)).bind (fun t => (mustP (oneOK [70, 108, 111, 111, 114] t)).bind (fun _ => .ok t)) = .error c) := by show _ = _; unfold tysOf; rw [hk]; rfl
    clear hk
    refine SM.out.mono ?_
    rintro e w' ⟨hg, rfl⟩
    exact ⟨rfl, ended_err E.out (grown_trans g0.out hg)⟩
  | ok t =>
    have htt := sameP_typ hk (by simpa using hp) HT.out
    rw [hk] at SM
    have E : Hid ((sameP (tysOf vs)).bind (fun t => (mustP (oneOK [70, 108, 111, 111, 114] t)).bind (fun _ => .ok t)) = (mustP (oneOK [70, 108, 111, 111, 114] t)).bind (fun _ => .ok t)) := by show _ = _; unfold tysOf; rw [hk]; rfl
    clear hk
    refine SM.out.mono ?_
    rintro e w1 ⟨hg, v, rfl, rfl⟩
    obtain ⟨n0, n1, n2, n3, n4⟩ := nod_cells (n := ⟨⟨#[70, 108, 111, 111, 114]⟩, nam, ⟨ia, il, ic⟩, out, ⟨ao, al, cap⟩⟩) (BX.out w1 hg)
    have BL : (⟨#[70, 108, 111, 111, 114]⟩ : ByteArray).toList = [70, 108, 111, 111, 114] := bytes_toList _
    have MU := hide (mustone_any ⟨#[70, 108, 111, 111, 114]⟩ t (by rw [BL]; decide) htt w1)
    rw [BL] at MU
    clear BL
    cases h1 : oneOK [70, 108, 111, 111, 114] t with
    | true =>
      rw [h1] at MU
      have E2 : Hid ((sameP (tysOf vs)).bind (fun t => (mustP (oneOK [70, 108, 111, 111, 114] t)).bind (fun _ => .ok t)) = .ok t) := by show _ = _; rw [E.out, h1]; rfl
      clear h1
      go_wp2_with (first | (go_at_call 51; refine MU.out.mono ?_; rintro e w2 ⟨hg2, v, rfl, rfl⟩) | fail)
      go_ret
      exact ended_ok E2.out (grown_trans (grown_trans g0.out hg) hg2) rfl
    | false =>
      rw [h1] at MU
      have E2 : Hid ((sameP (tysOf vs)).bind (fun t => (mustP (oneOK [70, 108, 111, 111, 114] t)).bind (fun _ => .ok t)) = .error 4) := by show _ = _; rw [E.out, h1]; rfl
      clear h1
      go_wp2_with (first | (go_at_call 51; refine MU.out.mono ?_; rintro e w2 ⟨hg2, rfl⟩) | fail)
      exact ⟨rfl, ended_err E2.out (grown_trans (grown_trans g0.out hg) hg2)⟩

set_option maxRecDepth 100000 in
set_option maxHeartbeats 2000000 in
theorem type_Exp (n : Nod) (A : At) (u : Sl) (vs : List (Val × List Int)) (w : World) (hop : n.op = ⟨#[69, 120, 112]⟩) (hn : NodeOk w n A) (hv : ValsIn w u.v vs) (hl : vs.length = 1) (hf : vs.length ≤ 1000000) (ht : ∀ s ∈ tysOf vs, isTypeP s = true) : Calls Tryz.prog 48 #[nval n, .slice u.a u.n u.c] w (Ended w ((sameP (tysOf vs)).bind (fun t => (mustP (oneOK [69, 120, 112] t)).bind (fun _ => .ok t))) fun t v _ => v = .int .i64 t) := by
  obtain ⟨xa, xc, e1, p1, p2, p3⟩ := hv.vals.form
  rw [List.length_map] at e1 p1 p3
  obtain ⟨ua, un, uc⟩ := u
  simp only [Sl.v, Value.slice.injEq] at e1
  obtain ⟨rfl, rfl, rfl⟩ := e1
  have HV := hide hv
  have HT := hide ht
  clear hv ht
  have NK := hide hn
  obtain ⟨op, nam, ⟨ia, il, ic⟩, out, ⟨ao, al, cap⟩⟩ := n
  unfold nval
  simp only
  obtain ⟨w0, hw0⟩ : ∃ w0, w0 = w.alloc (.cells #[.string op, .string nam, .slice ia il ic, .string out, .slice ao al cap] 25) := ⟨_, rfl⟩
  have g0 : Hid (w.grownBy w0 none) := by show w.grownBy w0 none; rw [hw0]; exact grown_new _ _
  have hb0 := heap_alloc_new w (.cells #[.string op, .string nam, .slice ia il ic, .string out, .slice ao al cap] 25)
  rw [← hw0] at hb0
  have BX : Hid (∀ wx, w0.grownBy wx none → wx.heap[w.heap.size]? = some (.cells #[.string op, .string nam, .slice ia il ic, .string out, .slice ao al cap] 25 (0, 0))) := fun wx hg => box_kept hb0 hg
  clear hb0 hn
  simp only at hop
  subst hop
  have hp : 0 < vs.length := by omega
  have SM := hide (sametype_any ⟨ua, vs.length, uc⟩ vs w0 (HV.out.more g0.out) hp hf)
  simp only at SM
  have b2 : ((vs.length : Int) == 2) = false := by rw [hl]; decide
  clear hl
  go_enter Tryz.func48, Tryz.ntmps48
  go_wp2_with fail
  rw [← hw0]
  clear hw0
  cases hk : sameP (vs.map (·.1.ty)) with
  | error c =>
    rw [hk] at SM
    have E : Hid ((sameP (tysOf vs)).bind (fun t => (mustP (oneOK [69, 120, 112] t)).bind (fun _ => .ok t)) = .error c) := by show _ = _; unfold tysOf; rw [hk]; rfl
    clear hk
    refine SM.out.mono ?_
    rintro e w' ⟨hg, rfl⟩
    exact ⟨rfl, ended_err E.out (grown_trans g0.out hg)⟩
  | ok t =>
    have htt := sameP_typ hk (by simpa using hp) HT.out
    rw [hk] at SM
    have E : Hid ((sameP (tysOf vs)).bind (fun t => (mustP (oneOK [69, 120, 112] t)).bind (fun _ => .ok t)) = (mustP (oneOK [69, 120, 112] t)).bind (fun _ => .ok t)) := by show _ = _; unfold tysOf; rw [hk]; rfl
    clear hk
    refine SM.out.mono ?_
    rintro e w1 ⟨hg, v, rfl, rfl⟩
    obtain ⟨n0, n1, n2, n3, n4⟩ := nod_cells (n := ⟨⟨#[69, 120, 112]⟩, nam, ⟨ia, il, ic⟩, out, ⟨ao, al, cap⟩⟩) (BX.out w1 hg)
    have BL : (⟨#[69, 120, 112]⟩ : ByteArray).toList = [69, 120, 112] := bytes_toList _
    have MU := hide (mustone_any ⟨#[69, 120, 112]⟩ t (by rw [BL]; decide) htt w1)
    rw [BL] at MU
    clear BL
    cases h1 : oneOK [69, 120, 112] t with
    | true =>
      rw [h1] at MU
      have E2 : Hid ((sameP (tysOf vs)).bind (fun t => (mustP (oneOK [69, 120, 112] t)).bind (fun _ => .ok t)) = .ok t) := by show _ = _; rw [E.out, h1]; rfl
      clear h1
      go_wp2_with (first | (go_at_call 51; refine MU.out.mono ?_; rintro e w2 ⟨hg2, v, rfl, rfl⟩) | fail)
      go_ret
      exact ended_ok E2.out (grown_trans (grown_trans g0.out hg) hg2) rfl
    | false =>
      rw [h1] at MU
      have E2 : Hid ((sameP (tysOf vs)).bind (fun t => (mustP (oneOK [69, 120, 112] t)).bind (fun _ => .ok t)) = .error 4) := by show _ = _; rw [E.out, h1]; rfl
      clear h1
      go_wp2_with (first | (go_at_call 51; refine MU.out.mono ?_; rintro e w2 ⟨hg2, rfl⟩) | fail)
      exact ⟨rfl, ended_err E2.out (grown_trans (grown_trans g0.out hg) hg2)⟩

set_option maxRecDepth 100000 in
set_option maxHeartbeats 2000000 in
theorem type_Sigmoid (n : Nod) (A : At) (u : Sl) (vs : List (Val × List Int)) (w : World) (hop : n.op = ⟨#[83, 105, 103, 109, 111, 105, 100]⟩) (hn : NodeOk w n A) (hv : ValsIn w u.v vs) (hl : vs.length = 1) (hf : vs.length ≤ 1000000) (ht : ∀ s ∈ tysOf vs, isTypeP s = true) : Calls Tryz.prog 48 #[nval n, .slice u.a u.n u.c] w (Ended w ((sameP (tysOf vs)).bind (fun t => (mustP (oneOK [83, 105, 103, 109, 111, 105, 100] t)).bind (fun _ => .ok t))) fun t v _ => v = .int .i64 t) := by
  obtain ⟨xa, xc, e1, p1, p2, p3⟩ := hv.vals.form
  rw [List.length_map] at e1 p1 p3
  obtain ⟨ua, un, uc⟩ := u
  simp only [Sl.v, Value.slice.injEq] at e1
  obtain ⟨rfl, rfl, rfl⟩ := e1
  have HV := hide hv
  have HT := hide ht
  clear hv ht
  have NK := hide hn
  obtain ⟨op, nam, ⟨ia, il, ic⟩, out, ⟨ao, al, cap⟩⟩ := n
  unfold nval
  simp only
  obtain ⟨w0, hw0⟩ : ∃ w0, w0 = w.alloc (.cells #[.string op, .string nam, .slice ia il ic, .string out, .slice ao al cap] 25) := ⟨_, rfl⟩
  have g0 : Hid (w.grownBy w0 none) := by show w.grownBy w0 none; rw [hw0]; exact grown_new _ _
  have hb0 := heap_alloc_new w (.cells #[.string op, .string nam, .slice ia il ic, .string out, .slice ao al cap] 25)
  rw [← hw0] at hb0
  have BX : Hid (∀ wx, w0.grownBy wx none → wx.heap[w.heap.size]? = some (.cells #[.string op, .string nam, .slice ia il ic, .string out, .slice ao al cap] 25 (0, 0))) := fun wx hg => box_kept hb0 hg
  clear hb0 hn
  simp only at hop
  subst hop
  have hp : 0 < vs.length := by omega
  have SM := hide (sametype_any ⟨ua, vs.length, uc⟩ vs w0 (HV.out.more g0.out) hp hf)
  simp only at SM
  have b2 : ((vs.length : Int) == 2) = false := by rw [hl]; decide
  clear hl
  go_enter Tryz.func48, Tryz.ntmps48
  go_wp2_with fail
  rw [← hw0]
  clear hw0
  cases hk : sameP (vs.map (·.1.ty)) with
  | error c =>
    rw [hk] at SM
    have E : Hid ((sameP (tysOf vs)).bind (fun t => (mustP (oneOK [83, 105, 103, 109, 111, 105, 100] t)).bind (fun _ => .ok t)) = .error c) := by show _ = _; unfold tysOf; rw [hk]; rfl
    clear hk
    refine SM.out.mono ?_
    rintro e w' ⟨hg, rfl⟩
    exact ⟨rfl, ended_err E.out (grown_trans g0.out hg)⟩
  | ok t =>
    have htt := sameP_typ hk (by simpa using hp) HT.out
    rw [hk] at SM
    have E : Hid ((sameP (tysOf vs)).bind (fun t => (mustP (oneOK [83, 105, 103, 109, 111, 105, 100] t)).bind (fun _ => .ok t)) = (mustP (oneOK [83, 105, 103, 109, 111, 105, 100] t)).bind (fun _ => .ok t)) := by show _ = _; unfold tysOf; rw [hk]; rfl
    clear hk
    refine SM.out.mono ?_
    rintro e w1 ⟨hg, v, rfl, rfl⟩
    obtain ⟨n0, n1, n2, n3, n4⟩ := nod_cells (n := ⟨⟨#[83, 105, 103, 109, 111, 105, 100]⟩, nam, ⟨ia, il, ic⟩, out, ⟨ao, al, cap⟩⟩) (BX.out w1 hg)
    have BL : (⟨#[83, 105, 103, 109, 111, 105, 100]⟩ : ByteArray).toList = [83, 105, 103, 109, 111, 105, 100] := bytes_toList _
    have MU := hide (mustone_any ⟨#[83, 105, 103, 109, 111, 105, 100]⟩ t (by rw [BL]; decide) htt w1)
    rw [BL] at MU
    clear BL
    cases h1 : oneOK [83, 105, 103, 109, 111, 105, 100] t with
    | true =>
      rw [h1] at MU
      have E2 : Hid ((sameP (tysOf vs)).bind (fun t => (mustP (oneOK [83, 105, 103, 109, 111, 105, 100] t)).bind (fun _ => .ok t)) = .ok t) := by show _ = _; rw [E.out, h1]; rfl
      clear h1
      go_wp2_with (first | (go_at_call 51; refine MU.out.mono ?_; rintro e w2 ⟨hg2, v, rfl, rfl⟩) | fail)
      go_ret
      exact ended_ok E2.out (grown_trans (grown_trans g0.out hg) hg2) rfl
    | false =>
      rw [h1] at MU
      have E2 : Hid ((sameP (tysOf vs)).bind (fun t => (mustP (oneOK [83, 105, 103, 109, 111, 105, 100] t)).bind (fun _ => .ok t)) = .error 4) := by show _ = _; rw [E.out, h1]; rfl
      clear h1
      go_wp2_with (first | (go_at_call 51; refine MU.out.mono ?_; rintro e w2 ⟨hg2, rfl⟩) | fail)
      exact ⟨rfl, ended_err E2.out (grown_trans (grown_trans g0.out hg) hg2)⟩

set_option maxRecDepth 100000 in
set_option maxHeartbeats 2000000 in
theorem type_Tanh (n : Nod) (A : At) (u : Sl) (vs : List (Val × List Int)) (w : World) (hop : n.op = ⟨#[84, 97, 110, 104]⟩) (hn : NodeOk w n A) (hv : ValsIn w u.v vs) (hl : vs.length = 1) (hf : vs.length ≤ 1000000) (ht : ∀ s ∈ tysOf vs, isTypeP s = true) : Calls Tryz.prog 48 #[nval n, .slice u.a u.n u.c] w (Ended w ((sameP (tysOf vs)).bind (fun t => (mustP (oneOK [84, 97, 110, 104] t)).bind (fun _ => .ok t))) fun t v _ => v = .int .i64 t) := by
  obtain ⟨xa, xc, e1, p1, p2, p3⟩ := hv.vals.form
  rw [List.length_map] at e1 p1 p3
  obtain ⟨ua, un, uc⟩ := u
  simp only [Sl.v, Value.slice.injEq] at e1
  obtain ⟨rfl, rfl, rfl⟩ := e1
  have HV := hide hv
  have HT := hide ht
  clear hv ht
  have NK := hide hn
  obtain ⟨op, nam, ⟨ia, il, ic⟩, out, ⟨ao, al, cap⟩⟩ := n
  unfold nval
  simp only
  obtain ⟨w0, hw0⟩ : ∃ w0, w0 = w.alloc (.cells #[.string op, .string nam, .slice ia il ic, .string out, .slice ao al cap] 25) := ⟨_, rfl⟩
  have g0 : Hid (w.grownBy w0 none) := by show w.grownBy w0 none; rw [hw0]; exact grown_new _ _
  have hb0 := heap_alloc_new w (.cells #[.string op, .string nam, .slice ia il ic, .string out, .slice ao al cap] 25)
  rw [← hw0] at hb0
  have BX : Hid (∀ wx, w0.grownBy wx none → wx.heap[w.heap.size]? = some (.cells #[.string op, .string nam, .slice ia il ic, .string out, .slice ao al cap] 25 (0, 0))) := fun wx hg => box_kept hb0 hg
  clear hb0 hn
  simp only at hop
  subst hop
  have hp : 0 < vs.length := by omega
  have SM := hide (sametype_any ⟨ua, vs.length, uc⟩ vs w0 (HV.out.more g0.out) hp hf)
  simp only at SM
  have b2 : ((vs.length : Int) == 2) = false := by rw [hl]; decide
  clear hl
  go_enter Tryz.func48, Tryz.ntmps48
  go_wp2_with fail
  rw [← hw0]
  clear hw0
  cases hk : sameP (vs.map (·.1.ty)) with
  | error c =>
    rw [hk] at SM
    have E : Hid ((sameP (tysOf vs)).bind (fun t => (mustP (oneOK [84, 97, 110, 104] t)).bind (fun _ => .ok t)) = .error c) := by show _ = _; unfold tysOf; rw [hk]; rfl
    clear hk
    refine SM.out.mono ?_
    rintro e w' ⟨hg, rfl⟩
    exact ⟨rfl, ended_err E.out (grown_trans g0.out hg)⟩
  | ok t =>
    have htt := sameP_typ hk (by simpa using hp) HT.out
    rw [hk] at SM
    have E : Hid ((sameP (tysOf vs)).bind (fun t => (mustP (oneOK [84, 97, 110, 104] t)).bind (fun _ => .ok t)) = (mustP (oneOK [84, 97, 110, 104] t)).bind (fun _ => .ok t)) := by show _ = _; unfold tysOf; rw [hk]; rfl
    clear hk
    refine SM.out.mono ?_
    rintro e w1 ⟨hg, v, rfl, rfl⟩
    obtain ⟨n0, n1, n2, n3, n4⟩ := nod_cells (n := ⟨⟨#[84, 97, 110, 104]⟩, nam, ⟨ia, il, ic⟩, out, ⟨ao, al, cap⟩⟩) (BX.out w1 hg)
    have BL : (⟨#[84, 97, 110, 104]⟩ : ByteArray).toList = [84, 97, 110, 104] := bytes_toList _
    have MU := hide (mustone_any ⟨#[84, 97, 110, 104]⟩ t (by rw [BL]; decide) htt w1)
    rw [BL] at MU
    clear BL
    cases h1 : oneOK [84, 97, 110, 104] t with
    | true =>
      rw [h1] at MU
      have E2 : Hid ((sameP (tysOf vs)).bind (fun t => (mustP (oneOK [84, 97, 110, 104] t)).bind (fun _ => .ok t)) = .ok t) := by show _ = _; rw [E.out, h1]; rfl
      clear h1
      go_wp2_with (first | (go_at_call 51; refine MU.out.mono ?_; rintro e w2 ⟨hg2, v, rfl, rfl⟩) | fail)
      go_ret
      exact ended_ok E2.out (grown_trans (grown_trans g0.out hg) hg2) rfl
    | false =>
      rw [h1] at MU
      have E2 : Hid ((sameP (tysOf vs)).bind (fun t => (mustP (oneOK [84, 97, 110, 104] t)).bind (fun _ => .ok t)) = .error 4) := by show _ = _; rw [E.out, h1]; rfl
      clear h1
      go_wp2_with (first | (go_at_call 51; refine MU.out.mono ?_; rintro e w2 ⟨hg2, rfl⟩) | fail)
      exact ⟨rfl, ended_err E2.out (grown_trans (grown_trans g0.out hg) hg2)⟩

end Go.Proofs.YtdcbjikjeicgbaaGreatDoor
