/- Of which type a node makes its value: the operators with rules of their own (mkITy2.py). -/
import Derived.Test.YteigfipgmghgmaaGreatDoorITy
import Derived.Test.YteigfipgmghgmaaGreatDoorIVal
namespace Go.Proofs.YteigfipgmghgmaaGreatDoor
open Go.RowKit

set_option maxRecDepth 100000 in
set_option maxHeartbeats 2000000 in
theorem type_ReduceSum (n : Nod) (A : At) (u : Sl) (vs : List (Val × List Int)) (w : World) (hop : n.op = ⟨#[82, 101, 100, 117, 99, 101, 83, 117, 109]⟩) (hn : NodeOk w n A) (hv : ValsIn w u.v vs) (hl : vs.length = 1) (_hf : vs.length ≤ 1000000) (_ht : ∀ s ∈ tysOf vs, isTypeP s = true) : Calls Tryz.prog 74 #[nval n, .slice u.a u.n u.c] w (Ended w ((mustP ((tysOf vs).getD 0 0 != 9)).bind (fun _ => .ok ((tysOf vs).getD 0 0))) fun t v _ => v = .int .i64 t) := by
  obtain ⟨xa, xc, e1, p1, p2, p3⟩ := hv.vals.form
  rw [List.length_map] at e1 p1 p3
  obtain ⟨ua, un, uc⟩ := u
  simp only [Sl.v, Value.slice.injEq] at e1
  obtain ⟨rfl, rfl, rfl⟩ := e1
  have HV := hide hv
  obtain ⟨b, off, rfl⟩ := hv.vals.addr (k := 0) (by rw [List.length_map]; omega)
  obtain ⟨z1, -⟩ := hv.at 0 (by omega)
  rw [Nat.zero_mul, Nat.add_zero] at z1
  have hT : (tysOf vs).getD 0 0 = vs[0].1.ty := by unfold tysOf; rw [List.getD, List.getElem?_eq_getElem (by rw [List.length_map]; omega)]; simp
  obtain ⟨T, hT0⟩ : ∃ T, T = vs[0].1.ty := ⟨_, rfl⟩
  rw [← hT0] at z1 hT
  rw [hT]
  have Z1 := hide z1
  have hp : (0 : Int) < (vs.length : Int) := by omega
  have hp2 : 0 < vs.length := by omega
  clear hv _ht hT hT0 z1 hl _hf
  have NK := hide hn
  obtain ⟨op, nam, ⟨ia, il, ic⟩, out, ⟨ao, al, cap⟩⟩ := n
  unfold nval
  simp only
  obtain ⟨w0, hw0⟩ : ∃ w0, w0 = w.alloc (.cells #[.string op, .string nam, .slice ia il ic, .string out, .slice ao al cap] 25) := ⟨_, rfl⟩
  have g0 : Hid (w.grownBy w0 none) := by show w.grownBy w0 none; rw [hw0]; exact grown_new _ _
  have hb0 := heap_alloc_new w (.cells #[.string op, .string nam, .slice ia il ic, .string out, .slice ao al cap] 25)
  rw [← hw0] at hb0
  have BX : Hid (∀ wx, w0.grownBy wx none → wx.heap[w.heap.size]? = some (.cells #[.string op, .string nam, .slice ia il ic, .string out, .slice ao al cap] 25 (0, 0))) := fun wx hg => box_kept hb0 hg
  clear hb0 hn
  simp only at hop
  subst hop
  have z2 : (w.alloc (.cells #[.string ⟨#[82, 101, 100, 117, 99, 101, 83, 117, 109]⟩, .string nam, .slice ia il ic, .string out, .slice ao al cap] 25)).cell? ⟨b, off + 1, none⟩ = some (.int .i64 T) := cell_still Z1.out (grown_new _ _)
  cases h1 : (T != 9) with
  | true =>
    go_enter Tryz.func74, Tryz.ntmps74
    go_wp2_with (first | (go_at_call 71; refine (must_yes _).mono ?_; rintro e w' ⟨rfl, rfl⟩) | fail)
    go_ret
    exact ended_ok (by rfl) (by rw [← hw0]; exact g0.out) rfl
  | false =>
    go_enter Tryz.func74, Tryz.ntmps74
    go_wp2_with (first | (go_at_call 71; refine (must_no _).mono ?_; rintro e w' ⟨rfl, rfl⟩) | fail)
    exact ⟨rfl, ended_err (by rfl) (by rw [← hw0]; exact g0.out)⟩

set_option maxRecDepth 100000 in
set_option maxHeartbeats 2000000 in
theorem type_ReduceMax (n : Nod) (A : At) (u : Sl) (vs : List (Val × List Int)) (w : World) (hop : n.op = ⟨#[82, 101, 100, 117, 99, 101, 77, 97, 120]⟩) (hn : NodeOk w n A) (hv : ValsIn w u.v vs) (hl : vs.length = 1) (_hf : vs.length ≤ 1000000) (_ht : ∀ s ∈ tysOf vs, isTypeP s = true) : Calls Tryz.prog 74 #[nval n, .slice u.a u.n u.c] w (Ended w ((mustP ((tysOf vs).getD 0 0 != 9)).bind (fun _ => .ok ((tysOf vs).getD 0 0))) fun t v _ => v = .int .i64 t) := by
  obtain ⟨xa, xc, e1, p1, p2, p3⟩ := hv.vals.form
  rw [List.length_map] at e1 p1 p3
  obtain ⟨ua, un, uc⟩ := u
  simp only [Sl.v, Value.slice.injEq] at e1
  obtain ⟨rfl, rfl, rfl⟩ := e1
  have HV := hide hv
  obtain ⟨b, off, rfl⟩ := hv.vals.addr (k := 0) (by rw [List.length_map]; omega)
  obtain ⟨z1, -⟩ := hv.at 0 (by omega)
  rw [Nat.zero_mul, Nat.add_zero] at z1
  have hT : (tysOf vs).getD 0 0 = vs[0].1.ty := by unfold tysOf; rw [List.getD, List.getElem?_eq_getElem (by rw [List.length_map]; omega)]; simp
  obtain ⟨T, hT0⟩ : ∃ T, T = vs[0].1.ty := ⟨_, rfl⟩
  rw [← hT0] at z1 hT
  rw [hT]
  have Z1 := hide z1
  have hp : (0 : Int) < (vs.length : Int) := by omega
  have hp2 : 0 < vs.length := by omega
  clear hv _ht hT hT0 z1 hl _hf
  have NK := hide hn
  obtain ⟨op, nam, ⟨ia, il, ic⟩, out, ⟨ao, al, cap⟩⟩ := n
  unfold nval
  simp only
  obtain ⟨w0, hw0⟩ : ∃ w0, w0 = w.alloc (.cells #[.string op, .string nam, .slice ia il ic, .string out, .slice ao al cap] 25) := ⟨_, rfl⟩
  have g0 : Hid (w.grownBy w0 none) := by show w.grownBy w0 none; rw [hw0]; exact grown_new _ _
  have hb0 := heap_alloc_new w (.cells #[.string op, .string nam, .slice ia il ic, .string out, .slice ao al cap] 25)
  rw [← hw0] at hb0
  have BX : Hid (∀ wx, w0.grownBy wx none → wx.heap[w.heap.size]? = some (.cells #[.string op, .string nam, .slice ia il ic, .string out, .slice ao al cap] 25 (0, 0))) := fun wx hg => box_kept hb0 hg
  clear hb0 hn
  simp only at hop
  subst hop
  have z2 : (w.alloc (.cells #[.string ⟨#[82, 101, 100, 117, 99, 101, 77, 97, 120]⟩, .string nam, .slice ia il ic, .string out, .slice ao al cap] 25)).cell? ⟨b, off + 1, none⟩ = some (.int .i64 T) := cell_still Z1.out (grown_new _ _)
  cases h1 : (T != 9) with
  | true =>
    go_enter Tryz.func74, Tryz.ntmps74
    go_wp2_with (first | (go_at_call 71; refine (must_yes _).mono ?_; rintro e w' ⟨rfl, rfl⟩) | fail)
    go_ret
    exact ended_ok (by rfl) (by rw [← hw0]; exact g0.out) rfl
  | false =>
    go_enter Tryz.func74, Tryz.ntmps74
    go_wp2_with (first | (go_at_call 71; refine (must_no _).mono ?_; rintro e w' ⟨rfl, rfl⟩) | fail)
    exact ⟨rfl, ended_err (by rfl) (by rw [← hw0]; exact g0.out)⟩

set_option maxRecDepth 100000 in
set_option maxHeartbeats 2000000 in
theorem type_ArgMax (n : Nod) (A : At) (u : Sl) (vs : List (Val × List Int)) (w : World) (hop : n.op = ⟨#[65, 114, 103, 77, 97, 120]⟩) (hn : NodeOk w n A) (hv : ValsIn w u.v vs) (hl : vs.length = 1) (_hf : vs.length ≤ 1000000) (_ht : ∀ s ∈ tysOf vs, isTypeP s = true) : Calls Tryz.prog 74 #[nval n, .slice u.a u.n u.c] w (Ended w ((mustP ((tysOf vs).getD 0 0 != 9)).bind (fun _ => .ok (7 : Int))) fun t v _ => v = .int .i64 t) := by
  obtain ⟨xa, xc, e1, p1, p2, p3⟩ := hv.vals.form
  rw [List.length_map] at e1 p1 p3
  obtain ⟨ua, un, uc⟩ := u
  simp only [Sl.v, Value.slice.injEq] at e1
  obtain ⟨rfl, rfl, rfl⟩ := e1
  have HV := hide hv
  obtain ⟨b, off, rfl⟩ := hv.vals.addr (k := 0) (by rw [List.length_map]; omega)
  obtain ⟨z1, -⟩ := hv.at 0 (by omega)
  rw [Nat.zero_mul, Nat.add_zero] at z1
  have hT : (tysOf vs).getD 0 0 = vs[0].1.ty := by unfold tysOf; rw [List.getD, List.getElem?_eq_getElem (by rw [List.length_map]; omega)]; simp
  obtain ⟨T, hT0⟩ : ∃ T, T = vs[0].1.ty := ⟨_, rfl⟩
  rw [← hT0] at z1 hT
  rw [hT]
  have Z1 := hide z1
  have hp : (0 : Int) < (vs.length : Int) := by omega
  have hp2 : 0 < vs.length := by omega
  clear hv _ht hT hT0 z1 hl _hf
  have NK := hide hn
  obtain ⟨op, nam, ⟨ia, il, ic⟩, out, ⟨ao, al, cap⟩⟩ := n
  unfold nval
  simp only
  obtain ⟨w0, hw0⟩ : ∃ w0, w0 = w.alloc (.cells #[.string op, .string nam, .slice ia il ic, .string out, .slice ao al cap] 25) := ⟨_, rfl⟩
  have g0 : Hid (w.grownBy w0 none) := by show w.grownBy w0 none; rw [hw0]; exact grown_new _ _
  have hb0 := heap_alloc_new w (.cells #[.string op, .string nam, .slice ia il ic, .string out, .slice ao al cap] 25)
  rw [← hw0] at hb0
  have BX : Hid (∀ wx, w0.grownBy wx none → wx.heap[w.heap.size]? = some (.cells #[.string op, .string nam, .slice ia il ic, .string out, .slice ao al cap] 25 (0, 0))) := fun wx hg => box_kept hb0 hg
  clear hb0 hn
  simp only at hop
  subst hop
  have z2 : (w.alloc (.cells #[.string ⟨#[65, 114, 103, 77, 97, 120]⟩, .string nam, .slice ia il ic, .string out, .slice ao al cap] 25)).cell? ⟨b, off + 1, none⟩ = some (.int .i64 T) := cell_still Z1.out (grown_new _ _)
  cases h1 : (T != 9) with
  | true =>
    go_enter Tryz.func74, Tryz.ntmps74
    go_wp2_with (first | (go_at_call 71; refine (must_yes _).mono ?_; rintro e w' ⟨rfl, rfl⟩) | fail)
    go_ret
    exact ended_ok (by rfl) (by rw [← hw0]; exact g0.out) rfl
  | false =>
    go_enter Tryz.func74, Tryz.ntmps74
    go_wp2_with (first | (go_at_call 71; refine (must_no _).mono ?_; rintro e w' ⟨rfl, rfl⟩) | fail)
    exact ⟨rfl, ended_err (by rfl) (by rw [← hw0]; exact g0.out)⟩

set_option maxRecDepth 100000 in
set_option maxHeartbeats 2000000 in
theorem type_Gather (n : Nod) (A : At) (u : Sl) (vs : List (Val × List Int)) (w : World) (hop : n.op = ⟨#[71, 97, 116, 104, 101, 114]⟩) (hn : NodeOk w n A) (hv : ValsIn w u.v vs) (hl : vs.length = 2) (_hf : vs.length ≤ 1000000) (_ht : ∀ s ∈ tysOf vs, isTypeP s = true) : Calls Tryz.prog 74 #[nval n, .slice u.a u.n u.c] w (Ended w ((mustP ((tysOf vs).getD 1 0 == 6 || (tysOf vs).getD 1 0 == 7)).bind (fun _ => .ok ((tysOf vs).getD 0 0))) fun t v _ => v = .int .i64 t) := by
  obtain ⟨xa, xc, e1, p1, p2, p3⟩ := hv.vals.form
  rw [List.length_map] at e1 p1 p3
  obtain ⟨ua, un, uc⟩ := u
  simp only [Sl.v, Value.slice.injEq] at e1
  obtain ⟨rfl, rfl, rfl⟩ := e1
  have HV := hide hv
  obtain ⟨b, off, rfl⟩ := hv.vals.addr (k := 0) (by rw [List.length_map]; omega)
  obtain ⟨z1, -⟩ := hv.at 0 (by omega)
  rw [Nat.zero_mul, Nat.add_zero] at z1
  obtain ⟨y1, -⟩ := hv.at 1 (by omega)
  have hT : (tysOf vs).getD 0 0 = vs[0].1.ty := by unfold tysOf; rw [List.getD, List.getElem?_eq_getElem (by rw [List.length_map]; omega)]; simp
  have hU : (tysOf vs).getD 1 0 = vs[1].1.ty := by unfold tysOf; rw [List.getD, List.getElem?_eq_getElem (by rw [List.length_map]; omega)]; simp
  obtain ⟨T, hT0⟩ : ∃ T, T = vs[0].1.ty := ⟨_, rfl⟩
  obtain ⟨U, hU0⟩ : ∃ U, U = vs[1].1.ty := ⟨_, rfl⟩
  rw [← hT0] at z1 hT
  rw [← hU0] at y1 hU
  rw [hT, hU]
  have Z1 := hide z1
  have Y1 := hide y1
  have hp : (0 : Int) < (vs.length : Int) := by omega
  have hp2 : 0 < vs.length := by omega
  have hq : (1 : Int) < (vs.length : Int) := by omega
  have hq2 : 1 < vs.length := by omega
  clear hv _ht hT hT0 z1 hU hU0 y1 hl _hf
  have NK := hide hn
  obtain ⟨op, nam, ⟨ia, il, ic⟩, out, ⟨ao, al, cap⟩⟩ := n
  unfold nval
  simp only
  obtain ⟨w0, hw0⟩ : ∃ w0, w0 = w.alloc (.cells #[.string op, .string nam, .slice ia il ic, .string out, .slice ao al cap] 25) := ⟨_, rfl⟩
  have g0 : Hid (w.grownBy w0 none) := by show w.grownBy w0 none; rw [hw0]; exact grown_new _ _
  have hb0 := heap_alloc_new w (.cells #[.string op, .string nam, .slice ia il ic, .string out, .slice ao al cap] 25)
  rw [← hw0] at hb0
  have BX : Hid (∀ wx, w0.grownBy wx none → wx.heap[w.heap.size]? = some (.cells #[.string op, .string nam, .slice ia il ic, .string out, .slice ao al cap] 25 (0, 0))) := fun wx hg => box_kept hb0 hg
  clear hb0 hn
  simp only at hop
  subst hop
  have z2 : (w.alloc (.cells #[.string ⟨#[71, 97, 116, 104, 101, 114]⟩, .string nam, .slice ia il ic, .string out, .slice ao al cap] 25)).cell? ⟨b, off + 1, none⟩ = some (.int .i64 T) := cell_still Z1.out (grown_new _ _)
  have y2 : (w.alloc (.cells #[.string ⟨#[71, 97, 116, 104, 101, 114]⟩, .string nam, .slice ia il ic, .string out, .slice ao al cap] 25)).cell? ⟨b, off + 3 + 1, none⟩ = some (.int .i64 U) := by have h := cell_still Y1.out (grown_new w (.cells #[.string ⟨#[71, 97, 116, 104, 101, 114]⟩, .string nam, .slice ia il ic, .string out, .slice ao al cap] 25)); rw [Nat.one_mul] at h; exact h
  cases h1 : (U == 6) with
  | true =>
    go_enter Tryz.func74, Tryz.ntmps74
    go_wp2_with (first | (go_at_call 71; refine (must_yes _).mono ?_; rintro e w' ⟨rfl, rfl⟩) | fail)
    go_ret
    exact ended_ok (by rfl) (by rw [← hw0]; exact g0.out) rfl
  | false =>
    cases h2 : (U == 7) with
    | true =>
      go_enter Tryz.func74, Tryz.ntmps74
      go_wp2_with (first | (go_at_call 71; refine (must_yes _).mono ?_; rintro e w' ⟨rfl, rfl⟩) | fail)
      go_ret
      exact ended_ok (by rfl) (by rw [← hw0]; exact g0.out) rfl
    | false =>
      go_enter Tryz.func74, Tryz.ntmps74
      go_wp2_with (first | (go_at_call 71; refine (must_no _).mono ?_; rintro e w' ⟨rfl, rfl⟩) | fail)
      exact ⟨rfl, ended_err (by rfl) (by rw [← hw0]; exact g0.out)⟩

set_option maxRecDepth 100000 in
set_option maxHeartbeats 2000000 in
theorem type_Cast (n : Nod) (A : At) (u : Sl) (w : World) (hop : n.op = ⟨#[67, 97, 115, 116]⟩) (hn : NodeOk w n A) : Calls Tryz.prog 74 #[nval n, .slice u.a u.n u.c] w (Ended w ((typP (wholeP (A.int ⟨#[116, 111]⟩ 0))).bind (fun _ => .ok (wholeP (A.int ⟨#[116, 111]⟩ 0)))) fun t v _ => v = .int .i64 t) := by
  obtain ⟨ua, un, uc⟩ := u
  simp only
  have NK := hide hn
  obtain ⟨op, nam, ⟨ia, il, ic⟩, out, ⟨ao, al, cap⟩⟩ := n
  unfold nval
  simp only
  obtain ⟨w0, hw0⟩ : ∃ w0, w0 = w.alloc (.cells #[.string op, .string nam, .slice ia il ic, .string out, .slice ao al cap] 25) := ⟨_, rfl⟩
  have g0 : Hid (w.grownBy w0 none) := by show w.grownBy w0 none; rw [hw0]; exact grown_new _ _
  have hb0 := heap_alloc_new w (.cells #[.string op, .string nam, .slice ia il ic, .string out, .slice ao al cap] 25)
  rw [← hw0] at hb0
  have BX : Hid (∀ wx, w0.grownBy wx none → wx.heap[w.heap.size]? = some (.cells #[.string op, .string nam, .slice ia il ic, .string out, .slice ao al cap] 25 (0, 0))) := fun wx hg => box_kept hb0 hg
  clear hb0 hn
  simp only at hop
  subst hop
  have I0 := hide (nint_any ⟨⟨#[67, 97, 115, 116]⟩, nam, ⟨ia, il, ic⟩, out, ⟨ao, al, cap⟩⟩ A ⟨#[116, 111]⟩ 0 w0 (NK.out.more g0.out))
  unfold nval at I0
  simp only at I0
  obtain ⟨z, hz⟩ : ∃ z, z = A.int ⟨#[116, 111]⟩ 0 := ⟨_, rfl⟩
  rw [← hz] at I0 ⊢
  have WH := hide (fun wx => whole_any z wx)
  have TY := hide (fun wx => typ_any (wholeP z) wx)
  obtain ⟨y, hy⟩ : ∃ y, y = wholeP z := ⟨_, rfl⟩
  rw [← hy] at WH TY ⊢
  clear hz hy
  go_enter Tryz.func74, Tryz.ntmps74
  go_wp2_with fail
  rw [← hw0]
  clear hw0
  refine I0.out.mono ?_
  rintro e w1 ⟨rfl, hg1⟩
  cases hk : typP y with
  | error c =>
    rw [hk] at TY
    have HK := hide hk
    clear hk
    go_wp2_with (first | (go_at_call 103; refine (WH.out _).mono ?_; rintro e w' ⟨rfl, rfl⟩) | (go_at_call 72; refine (TY.out _).mono ?_; rintro e w' ⟨hg, rfl⟩) | fail)
    exact ⟨rfl, ended_err (by rw [HK.out]; rfl) (grown_trans (grown_trans g0.out hg1) hg)⟩
  | ok t =>
    rw [hk] at TY
    have HK := hide hk
    clear hk
    go_wp2_with (first | (go_at_call 103; refine (WH.out _).mono ?_; rintro e w' ⟨rfl, rfl⟩) | (go_at_call 72; refine (TY.out _).mono ?_; rintro e w' ⟨-, v, rfl, rfl, rfl⟩) | fail)
    go_ret
    exact ended_ok (by rw [HK.out]; rfl) (grown_trans g0.out hg1) rfl

set_option maxRecDepth 100000 in
theorem type_Constant (n : Nod) (A : At) (u : Sl) (w : World) (hop : n.op = ⟨#[67, 111, 110, 115, 116, 97, 110, 116]⟩) (hn : NodeOk w n A) : Calls Tryz.prog 74 #[nval n, .slice u.a u.n u.c] w (Ended w (.ok (valA A).ty) fun t v _ => v = .int .i64 t) := by
  obtain ⟨ua, un, uc⟩ := u
  simp only
  have NK := hide hn
  obtain ⟨op, nam, ⟨ia, il, ic⟩, out, ⟨ao, al, cap⟩⟩ := n
  unfold nval
  simp only
  obtain ⟨w0, hw0⟩ : ∃ w0, w0 = w.alloc (.cells #[.string op, .string nam, .slice ia il ic, .string out, .slice ao al cap] 25) := ⟨_, rfl⟩
  have g0 : Hid (w.grownBy w0 none) := by show w.grownBy w0 none; rw [hw0]; exact grown_new _ _
  have hb0 := heap_alloc_new w (.cells #[.string op, .string nam, .slice ia il ic, .string out, .slice ao al cap] 25)
  rw [← hw0] at hb0
  have BX : Hid (∀ wx, w0.grownBy wx none → wx.heap[w.heap.size]? = some (.cells #[.string op, .string nam, .slice ia il ic, .string out, .slice ao al cap] 25 (0, 0))) := fun wx hg => box_kept hb0 hg
  clear hb0 hn
  simp only at hop
  subst hop
  have V0 := hide (attrvalue_any ⟨⟨#[67, 111, 110, 115, 116, 97, 110, 116]⟩, nam, ⟨ia, il, ic⟩, out, ⟨ao, al, cap⟩⟩ A w0 (NK.out.more g0.out))
  unfold nval at V0
  simp only at V0
  have hfl := ten_field0
  go_enter Tryz.func74, Tryz.ntmps74
  go_wp2_with fail
  rw [← hw0]
  clear hw0
  refine V0.out.mono ?_
  rintro e w1 ⟨rfl, hg1⟩
  go_wp2
  go_ret
  exact ⟨grown_trans g0.out hg1, _, rfl, rfl⟩

set_option maxRecDepth 100000 in
set_option maxHeartbeats 2000000 in
theorem type_Equal (n : Nod) (A : At) (u : Sl) (vs : List (Val × List Int)) (w : World) (hop : n.op = ⟨#[69, 113, 117, 97, 108]⟩) (hn : NodeOk w n A) (hv : ValsIn w u.v vs) (hl : vs.length = 2) (hf : vs.length ≤ 1000000) (ht : ∀ s ∈ tysOf vs, isTypeP s = true) : Calls Tryz.prog 74 #[nval n, .slice u.a u.n u.c] w (Ended w ((sameP (tysOf vs)).bind (fun t => (mustP (twoOK [69, 113, 117, 97, 108] t)).bind (fun _ => .ok (9 : Int)))) fun t v _ => v = .int .i64 t) := by
  obtain ⟨xa, xc, e1, p1, p2, p3⟩ := hv.vals.form
  rw [List.length_map] at e1 p1 p3
  obtain ⟨ua, un, uc⟩ := u
  simp only [Sl.v, Value.slice.injEq] at e1
  obtain ⟨rfl, rfl, rfl⟩ := e1
  have HV := hide hv
  have HT := hide ht
  have hp : 0 < vs.length := by omega
  clear hv ht hl
  have NK := hide hn
  obtain ⟨op, nam, ⟨ia, il, ic⟩, out, ⟨ao, al, cap⟩⟩ := n
  unfold nval
  simp only
  obtain ⟨w0, hw0⟩ : ∃ w0, w0 = w.alloc (.cells #[.string op, .string nam, .slice ia il ic, .string out, .slice ao al cap] 25) := ⟨_, rfl⟩
  have g0 : Hid (w.grownBy w0 none) := by show w.grownBy w0 none; rw [hw0]; exact grown_new _ _
  have hb0 := heap_alloc_new w (.cells #[.string op, .string nam, .slice ia il ic, .string out, .slice ao al cap] 25)
  rw [← hw0] at hb0
  have BX : Hid (∀ wx, w0.grownBy wx none → wx.heap[w.heap.size]? = some (.cells #[.string op, .string nam, .slice ia il ic, .string out, .slice ao al cap] 25 (0, 0))) := fun wx hg => box_kept hb0 hg
  clear hb0 hn
  simp only at hop
  subst hop
  have SM := hide (fun (wx : World) (hg : w0.grownBy wx none) => sametype_any ⟨ua, vs.length, uc⟩ vs wx (HV.out.more (grown_trans g0.out hg)) hp hf)
  simp only at SM
  obtain ⟨n0, n1, n2, n3, n4⟩ := nod_cells (n := ⟨⟨#[69, 113, 117, 97, 108]⟩, nam, ⟨ia, il, ic⟩, out, ⟨ao, al, cap⟩⟩) (BX.out w0 (grown_refl _))
  simp only at n0
  clear n1 n2 n3 n4
  go_enter Tryz.func74, Tryz.ntmps74
  go_wp2_with fail
  rw [← hw0]
  clear hw0
  cases hk : sameP (vs.map (·.1.ty)) with
  | error c =>
    rw [hk] at SM
    have E : Hid ((sameP (tysOf vs)).bind (fun t => (mustP (twoOK [69, 113, 117, 97, 108] t)).bind (fun _ => .ok (9 : Int))) = .error c) := by show _ = _; unfold tysOf; rw [hk]; rfl
    clear hk
    refine wp_region_held_drew (S := (fun w' => w'.cell? ⟨w.heap.size, 0, none⟩ = some (.string ⟨#[69, 113, 117, 97, 108]⟩))) (by kernel_rfl) (by go_keep) (fun hHeld => ?_)
    refine wpAnyH_take (i := 0) (v := ?_) rfl (by kernel_rfl) (by kernel_rfl) (by kernel_rfl) (fun _ _ _ h => h) (Or.inl ⟨by rfl, ?_⟩) (by assumption) ?_
    rotate_left 1
    · (intro w hSw; (try dsimp only at hSw); go_simp; (try with_reducible rfl))
    try simp only [Act.put]
    refine wpAnyH_take (i := 1) (v := ?_) rfl (by kernel_rfl) (by kernel_rfl) (by kernel_rfl) (fun _ _ _ h => h) (Or.inl ⟨by rfl, ?_⟩) (by assumption) ?_
    rotate_left 1
    · (intro w hSw; (try dsimp only at hSw); go_simp; (try with_reducible rfl))
    try simp only [Act.put]
    refine wpAnyH_take (i := 2) (v := ?_) rfl (by kernel_rfl) (by kernel_rfl) (by kernel_rfl) (fun _ _ _ h => h) (Or.inl ⟨by rfl, ?_⟩) (by assumption) ?_
    rotate_left 1
    · (intro w hSw; (try dsimp only at hSw); go_simp; (try with_reducible rfl))
    try simp only [Act.put]
    refine wpAnyH_ready (rs := [3]) (by kernel_rfl) (by simp) ?_
    refine AllReadyH.cons rfl (fun K hK => ?_) ?_
    · skip
      go_simp
      refine (SM.out _ (grown_drew (grown_refl _))).mono ?_
      rintro e wy ⟨hg, rfl⟩
      exact ⟨rfl, ended_err E.out (grown_trans (grown_drew g0.out) hg)⟩
    exact AllReadyH.nil
  | ok t =>
    have htt := sameP_typ hk (by simpa using hp) HT.out
    rw [hk] at SM
    have E : Hid ((sameP (tysOf vs)).bind (fun t => (mustP (twoOK [69, 113, 117, 97, 108] t)).bind (fun _ => .ok (9 : Int))) = (mustP (twoOK [69, 113, 117, 97, 108] t)).bind (fun _ => .ok (9 : Int))) := by show _ = _; unfold tysOf; rw [hk]; rfl
    clear hk
    have BL : (⟨#[69, 113, 117, 97, 108]⟩ : ByteArray).toList = [69, 113, 117, 97, 108] := bytes_toList _
    have MU := hide (fun wx => musttwo_any ⟨#[69, 113, 117, 97, 108]⟩ t (by rw [BL]; decide) htt wx)
    rw [BL] at MU
    clear BL
    cases h1 : twoOK [69, 113, 117, 97, 108] t with
    | true =>
      rw [h1] at MU
      have E2 : Hid ((sameP (tysOf vs)).bind (fun t => (mustP (twoOK [69, 113, 117, 97, 108] t)).bind (fun _ => .ok (9 : Int))) = .ok 9) := by show _ = _; rw [E.out, h1]; rfl
      clear h1
      refine wp_region_held_drew (S := (fun w' => w'.cell? ⟨w.heap.size, 0, none⟩ = some (.string ⟨#[69, 113, 117, 97, 108]⟩))) (by kernel_rfl) (by go_keep) (fun hHeld => ?_)
      refine wpAnyH_take (i := 0) (v := ?_) rfl (by kernel_rfl) (by kernel_rfl) (by kernel_rfl) (fun _ _ _ h => h) (Or.inl ⟨by rfl, ?_⟩) (by assumption) ?_
      rotate_left 1
      · (intro w hSw; (try dsimp only at hSw); go_simp; (try with_reducible rfl))
      try simp only [Act.put]
      refine wpAnyH_take (i := 1) (v := ?_) rfl (by kernel_rfl) (by kernel_rfl) (by kernel_rfl) (fun _ _ _ h => h) (Or.inl ⟨by rfl, ?_⟩) (by assumption) ?_
      rotate_left 1
      · (intro w hSw; (try dsimp only at hSw); go_simp; (try with_reducible rfl))
      try simp only [Act.put]
      refine wpAnyH_take (i := 2) (v := ?_) rfl (by kernel_rfl) (by kernel_rfl) (by kernel_rfl) (fun _ _ _ h => h) (Or.inl ⟨by rfl, ?_⟩) (by assumption) ?_
      rotate_left 1
      · (intro w hSw; (try dsimp only at hSw); go_simp; (try with_reducible rfl))
      try simp only [Act.put]
      refine wpAnyH_ready (rs := [3]) (by kernel_rfl) (by simp) ?_
      refine AllReadyH.cons rfl (fun K hK => ?_) ?_
      · skip
        go_simp
        refine (SM.out _ (grown_drew (grown_refl _))).mono ?_
        rintro e w2 ⟨hg2, v, rfl, rfl⟩
        have g2 := grown_trans (grown_drew (grown_refl w0)) hg2
        obtain ⟨n0, n1, n2, n3, n4⟩ := nod_cells (n := ⟨⟨#[69, 113, 117, 97, 108]⟩, nam, ⟨ia, il, ic⟩, out, ⟨ao, al, cap⟩⟩) (BX.out w2 g2)
        clear n1 n2 n3 n4
        try dsimp only
        refine hK.out _ _ (by first | assumption | go_keep) (fun hHeld => ?_)
        clear hK K
        try simp only [Act.put]
        refine wpAnyH_ready (rs := [4]) (by kernel_rfl) (by simp) ?_
        refine AllReadyH.cons rfl (fun K hK => ?_) ?_
        · skip
          go_simp
          refine (MU.out _).mono ?_
          rintro e w3 ⟨hg3, v, rfl, rfl⟩
          have g3 := grown_trans g2 hg3
          obtain ⟨n0, n1, n2, n3, n4⟩ := nod_cells (n := ⟨⟨#[69, 113, 117, 97, 108]⟩, nam, ⟨ia, il, ic⟩, out, ⟨ao, al, cap⟩⟩) (BX.out w3 g3)
          clear n1 n2 n3 n4
          try dsimp only
          refine hK.out _ _ (by first | assumption | go_keep) (fun hHeld => ?_)
          clear hK K
          try simp only [Act.put]
          refine wpAnyH_done (by kernel_rfl) ?_ _
          try go_simp
          go_wp2
          go_ret
          exact ended_ok E2.out (grown_trans g0.out g3) rfl
        exact AllReadyH.nil
      exact AllReadyH.nil
    | false =>
      rw [h1] at MU
      have E2 : Hid ((sameP (tysOf vs)).bind (fun t => (mustP (twoOK [69, 113, 117, 97, 108] t)).bind (fun _ => .ok (9 : Int))) = .error 4) := by show _ = _; rw [E.out, h1]; rfl
      clear h1
      refine wp_region_held_drew (S := (fun w' => w'.cell? ⟨w.heap.size, 0, none⟩ = some (.string ⟨#[69, 113, 117, 97, 108]⟩))) (by kernel_rfl) (by go_keep) (fun hHeld => ?_)
      refine wpAnyH_take (i := 0) (v := ?_) rfl (by kernel_rfl) (by kernel_rfl) (by kernel_rfl) (fun _ _ _ h => h) (Or.inl ⟨by rfl, ?_⟩) (by assumption) ?_
      rotate_left 1
      · (intro w hSw; (try dsimp only at hSw); go_simp; (try with_reducible rfl))
      try simp only [Act.put]
      refine wpAnyH_take (i := 1) (v := ?_) rfl (by kernel_rfl) (by kernel_rfl) (by kernel_rfl) (fun _ _ _ h => h) (Or.inl ⟨by rfl, ?_⟩) (by assumption) ?_
      rotate_left 1
      · (intro w hSw; (try dsimp only at hSw); go_simp; (try with_reducible rfl))
      try simp only [Act.put]
      refine wpAnyH_take (i := 2) (v := ?_) rfl (by kernel_rfl) (by kernel_rfl) (by kernel_rfl) (fun _ _ _ h => h) (Or.inl ⟨by rfl, ?_⟩) (by assumption) ?_
      rotate_left 1
      · (intro w hSw; (try dsimp only at hSw); go_simp; (try with_reducible rfl))
      try simp only [Act.put]
      refine wpAnyH_ready (rs := [3]) (by kernel_rfl) (by simp) ?_
      refine AllReadyH.cons rfl (fun K hK => ?_) ?_
      · skip
        go_simp
        refine (SM.out _ (grown_drew (grown_refl _))).mono ?_
        rintro e w2 ⟨hg2, v, rfl, rfl⟩
        have g2 := grown_trans (grown_drew (grown_refl w0)) hg2
        obtain ⟨n0, n1, n2, n3, n4⟩ := nod_cells (n := ⟨⟨#[69, 113, 117, 97, 108]⟩, nam, ⟨ia, il, ic⟩, out, ⟨ao, al, cap⟩⟩) (BX.out w2 g2)
        clear n1 n2 n3 n4
        try dsimp only
        refine hK.out _ _ (by first | assumption | go_keep) (fun hHeld => ?_)
        clear hK K
        try simp only [Act.put]
        refine wpAnyH_ready (rs := [4]) (by kernel_rfl) (by simp) ?_
        refine AllReadyH.cons rfl (fun K hK => ?_) ?_
        · skip
          go_simp
          refine (MU.out _).mono ?_
          rintro e wy ⟨hg, rfl⟩
          exact ⟨rfl, ended_err E2.out (grown_trans (grown_trans g0.out g2) hg)⟩
        exact AllReadyH.nil
      exact AllReadyH.nil

set_option maxRecDepth 100000 in
set_option maxHeartbeats 2000000 in
theorem type_Less (n : Nod) (A : At) (u : Sl) (vs : List (Val × List Int)) (w : World) (hop : n.op = ⟨#[76, 101, 115, 115]⟩) (hn : NodeOk w n A) (hv : ValsIn w u.v vs) (hl : vs.length = 2) (hf : vs.length ≤ 1000000) (ht : ∀ s ∈ tysOf vs, isTypeP s = true) : Calls Tryz.prog 74 #[nval n, .slice u.a u.n u.c] w (Ended w ((sameP (tysOf vs)).bind (fun t => (mustP (twoOK [76, 101, 115, 115] t)).bind (fun _ => .ok (9 : Int)))) fun t v _ => v = .int .i64 t) := by
  obtain ⟨xa, xc, e1, p1, p2, p3⟩ := hv.vals.form
  rw [List.length_map] at e1 p1 p3
  obtain ⟨ua, un, uc⟩ := u
  simp only [Sl.v, Value.slice.injEq] at e1
  obtain ⟨rfl, rfl, rfl⟩ := e1
  have HV := hide hv
  have HT := hide ht
  have hp : 0 < vs.length := by omega
  clear hv ht hl
  have NK := hide hn
  obtain ⟨op, nam, ⟨ia, il, ic⟩, out, ⟨ao, al, cap⟩⟩ := n
  unfold nval
  simp only
  obtain ⟨w0, hw0⟩ : ∃ w0, w0 = w.alloc (.cells #[.string op, .string nam, .slice ia il ic, .string out, .slice ao al cap] 25) := ⟨_, rfl⟩
  have g0 : Hid (w.grownBy w0 none) := by show w.grownBy w0 none; rw [hw0]; exact grown_new _ _
  have hb0 := heap_alloc_new w (.cells #[.string op, .string nam, .slice ia il ic, .string out, .slice ao al cap] 25)
  rw [← hw0] at hb0
  have BX : Hid (∀ wx, w0.grownBy wx none → wx.heap[w.heap.size]? = some (.cells #[.string op, .string nam, .slice ia il ic, .string out, .slice ao al cap] 25 (0, 0))) := fun wx hg => box_kept hb0 hg
  clear hb0 hn
  simp only at hop
  subst hop
  have SM := hide (fun (wx : World) (hg : w0.grownBy wx none) => sametype_any ⟨ua, vs.length, uc⟩ vs wx (HV.out.more (grown_trans g0.out hg)) hp hf)
  simp only at SM
  obtain ⟨n0, n1, n2, n3, n4⟩ := nod_cells (n := ⟨⟨#[76, 101, 115, 115]⟩, nam, ⟨ia, il, ic⟩, out, ⟨ao, al, cap⟩⟩) (BX.out w0 (grown_refl _))
  simp only at n0
  clear n1 n2 n3 n4
  go_enter Tryz.func74, Tryz.ntmps74
  go_wp2_with fail
  rw [← hw0]
  clear hw0
  cases hk : sameP (vs.map (·.1.ty)) with
  | error c =>
    rw [hk] at SM
    have E : Hid ((sameP (tysOf vs)).bind (fun t => (mustP (twoOK [76, 101, 115, 115] t)).bind (fun _ => .ok (9 : Int))) = .error c) := by show _ = _; unfold tysOf; rw [hk]; rfl
    clear hk
    refine wp_region_held_drew (S := (fun w' => w'.cell? ⟨w.heap.size, 0, none⟩ = some (.string ⟨#[76, 101, 115, 115]⟩))) (by kernel_rfl) (by go_keep) (fun hHeld => ?_)
    refine wpAnyH_take (i := 0) (v := ?_) rfl (by kernel_rfl) (by kernel_rfl) (by kernel_rfl) (fun _ _ _ h => h) (Or.inl ⟨by rfl, ?_⟩) (by assumption) ?_
    rotate_left 1
    · (intro w hSw; (try dsimp only at hSw); go_simp; (try with_reducible rfl))
    try simp only [Act.put]
    refine wpAnyH_take (i := 1) (v := ?_) rfl (by kernel_rfl) (by kernel_rfl) (by kernel_rfl) (fun _ _ _ h => h) (Or.inl ⟨by rfl, ?_⟩) (by assumption) ?_
    rotate_left 1
    · (intro w hSw; (try dsimp only at hSw); go_simp; (try with_reducible rfl))
    try simp only [Act.put]
    refine wpAnyH_take (i := 2) (v := ?_) rfl (by kernel_rfl) (by kernel_rfl) (by kernel_rfl) (fun _ _ _ h => h) (Or.inl ⟨by rfl, ?_⟩) (by assumption) ?_
    rotate_left 1
    · (intro w hSw; (try dsimp only at hSw); go_simp; (try with_reducible rfl))
    try simp only [Act.put]
    refine wpAnyH_ready (rs := [3]) (by kernel_rfl) (by simp) ?_
    refine AllReadyH.cons rfl (fun K hK => ?_) ?_
    · skip
      go_simp
      refine (SM.out _ (grown_drew (grown_refl _))).mono ?_
      rintro e wy ⟨hg, rfl⟩
      exact ⟨rfl, ended_err E.out (grown_trans (grown_drew g0.out) hg)⟩
    exact AllReadyH.nil
  | ok t =>
    have htt := sameP_typ hk (by simpa using hp) HT.out
    rw [hk] at SM
    have E : Hid ((sameP (tysOf vs)).bind (fun t => (mustP (twoOK [76, 101, 115, 115] t)).bind (fun _ => .ok (9 : Int))) = (mustP (twoOK [76, 101, 115, 115] t)).bind (fun _ => .ok (9 : Int))) := by show _ = _; unfold tysOf; rw [hk]; rfl
    clear hk
    have BL : (⟨#[76, 101, 115, 115]⟩ : ByteArray).toList = [76, 101, 115, 115] := bytes_toList _
    have MU := hide (fun wx => musttwo_any ⟨#[76, 101, 115, 115]⟩ t (by rw [BL]; decide) htt wx)
    rw [BL] at MU
    clear BL
    cases h1 : twoOK [76, 101, 115, 115] t with
    | true =>
      rw [h1] at MU
      have E2 : Hid ((sameP (tysOf vs)).bind (fun t => (mustP (twoOK [76, 101, 115, 115] t)).bind (fun _ => .ok (9 : Int))) = .ok 9) := by show _ = _; rw [E.out, h1]; rfl
      clear h1
      refine wp_region_held_drew (S := (fun w' => w'.cell? ⟨w.heap.size, 0, none⟩ = some (.string ⟨#[76, 101, 115, 115]⟩))) (by kernel_rfl) (by go_keep) (fun hHeld => ?_)
      refine wpAnyH_take (i := 0) (v := ?_) rfl (by kernel_rfl) (by kernel_rfl) (by kernel_rfl) (fun _ _ _ h => h) (Or.inl ⟨by rfl, ?_⟩) (by assumption) ?_
      rotate_left 1
      · (intro w hSw; (try dsimp only at hSw); go_simp; (try with_reducible rfl))
      try simp only [Act.put]
      refine wpAnyH_take (i := 1) (v := ?_) rfl (by kernel_rfl) (by kernel_rfl) (by kernel_rfl) (fun _ _ _ h => h) (Or.inl ⟨by rfl, ?_⟩) (by assumption) ?_
      rotate_left 1
      · (intro w hSw; (try dsimp only at hSw); go_simp; (try with_reducible rfl))
      try simp only [Act.put]
      refine wpAnyH_take (i := 2) (v := ?_) rfl (by kernel_rfl) (by kernel_rfl) (by kernel_rfl) (fun _ _ _ h => h) (Or.inl ⟨by rfl, ?_⟩) (by assumption) ?_
      rotate_left 1
      · (intro w hSw; (try dsimp only at hSw); go_simp; (try with_reducible rfl))
      try simp only [Act.put]
      refine wpAnyH_ready (rs := [3]) (by kernel_rfl) (by simp) ?_
      refine AllReadyH.cons rfl (fun K hK => ?_) ?_
      · skip
        go_simp
        refine (SM.out _ (grown_drew (grown_refl _))).mono ?_
        rintro e w2 ⟨hg2, v, rfl, rfl⟩
        have g2 := grown_trans (grown_drew (grown_refl w0)) hg2
        obtain ⟨n0, n1, n2, n3, n4⟩ := nod_cells (n := ⟨⟨#[76, 101, 115, 115]⟩, nam, ⟨ia, il, ic⟩, out, ⟨ao, al, cap⟩⟩) (BX.out w2 g2)
        clear n1 n2 n3 n4
        try dsimp only
        refine hK.out _ _ (by first | assumption | go_keep) (fun hHeld => ?_)
        clear hK K
        try simp only [Act.put]
        refine wpAnyH_ready (rs := [4]) (by kernel_rfl) (by simp) ?_
        refine AllReadyH.cons rfl (fun K hK => ?_) ?_
        · skip
          go_simp
          refine (MU.out _).mono ?_
          rintro e w3 ⟨hg3, v, rfl, rfl⟩
          have g3 := grown_trans g2 hg3
          obtain ⟨n0, n1, n2, n3, n4⟩ := nod_cells (n := ⟨⟨#[76, 101, 115, 115]⟩, nam, ⟨ia, il, ic⟩, out, ⟨ao, al, cap⟩⟩) (BX.out w3 g3)
          clear n1 n2 n3 n4
          try dsimp only
          refine hK.out _ _ (by first | assumption | go_keep) (fun hHeld => ?_)
          clear hK K
          try simp only [Act.put]
          refine wpAnyH_done (by kernel_rfl) ?_ _
          try go_simp
          go_wp2
          go_ret
          exact ended_ok E2.out (grown_trans g0.out g3) rfl
        exact AllReadyH.nil
      exact AllReadyH.nil
    | false =>
      rw [h1] at MU
      have E2 : Hid ((sameP (tysOf vs)).bind (fun t => (mustP (twoOK [76, 101, 115, 115] t)).bind (fun _ => .ok (9 : Int))) = .error 4) := by show _ = _; rw [E.out, h1]; rfl
      clear h1
      refine wp_region_held_drew (S := (fun w' => w'.cell? ⟨w.heap.size, 0, none⟩ = some (.string ⟨#[76, 101, 115, 115]⟩))) (by kernel_rfl) (by go_keep) (fun hHeld => ?_)
      refine wpAnyH_take (i := 0) (v := ?_) rfl (by kernel_rfl) (by kernel_rfl) (by kernel_rfl) (fun _ _ _ h => h) (Or.inl ⟨by rfl, ?_⟩) (by assumption) ?_
      rotate_left 1
      · (intro w hSw; (try dsimp only at hSw); go_simp; (try with_reducible rfl))
      try simp only [Act.put]
      refine wpAnyH_take (i := 1) (v := ?_) rfl (by kernel_rfl) (by kernel_rfl) (by kernel_rfl) (fun _ _ _ h => h) (Or.inl ⟨by rfl, ?_⟩) (by assumption) ?_
      rotate_left 1
      · (intro w hSw; (try dsimp only at hSw); go_simp; (try with_reducible rfl))
      try simp only [Act.put]
      refine wpAnyH_take (i := 2) (v := ?_) rfl (by kernel_rfl) (by kernel_rfl) (by kernel_rfl) (fun _ _ _ h => h) (Or.inl ⟨by rfl, ?_⟩) (by assumption) ?_
      rotate_left 1
      · (intro w hSw; (try dsimp only at hSw); go_simp; (try with_reducible rfl))
      try simp only [Act.put]
      refine wpAnyH_ready (rs := [3]) (by kernel_rfl) (by simp) ?_
      refine AllReadyH.cons rfl (fun K hK => ?_) ?_
      · skip
        go_simp
        refine (SM.out _ (grown_drew (grown_refl _))).mono ?_
        rintro e w2 ⟨hg2, v, rfl, rfl⟩
        have g2 := grown_trans (grown_drew (grown_refl w0)) hg2
        obtain ⟨n0, n1, n2, n3, n4⟩ := nod_cells (n := ⟨⟨#[76, 101, 115, 115]⟩, nam, ⟨ia, il, ic⟩, out, ⟨ao, al, cap⟩⟩) (BX.out w2 g2)
        clear n1 n2 n3 n4
        try dsimp only
        refine hK.out _ _ (by first | assumption | go_keep) (fun hHeld => ?_)
        clear hK K
        try simp only [Act.put]
        refine wpAnyH_ready (rs := [4]) (by kernel_rfl) (by simp) ?_
        refine AllReadyH.cons rfl (fun K hK => ?_) ?_
        · skip
          go_simp
          refine (MU.out _).mono ?_
          rintro e wy ⟨hg, rfl⟩
          exact ⟨rfl, ended_err E2.out (grown_trans (grown_trans g0.out g2) hg)⟩
        exact AllReadyH.nil
      exact AllReadyH.nil

set_option maxRecDepth 100000 in
set_option maxHeartbeats 2000000 in
theorem type_Greater (n : Nod) (A : At) (u : Sl) (vs : List (Val × List Int)) (w : World) (hop : n.op = ⟨#[71, 114, 101, 97, 116, 101, 114]⟩) (hn : NodeOk w n A) (hv : ValsIn w u.v vs) (hl : vs.length = 2) (hf : vs.length ≤ 1000000) (ht : ∀ s ∈ tysOf vs, isTypeP s = true) : Calls Tryz.prog 74 #[nval n, .slice u.a u.n u.c] w (Ended w ((sameP (tysOf vs)).bind (fun t => (mustP (twoOK [71, 114, 101, 97, 116, 101, 114] t)).bind (fun _ => .ok (9 : Int)))) fun t v _ => v = .int .i64 t) := by
  obtain ⟨xa, xc, e1, p1, p2, p3⟩ := hv.vals.form
  rw [List.length_map] at e1 p1 p3
  obtain ⟨ua, un, uc⟩ := u
  simp only [Sl.v, Value.slice.injEq] at e1
  obtain ⟨rfl, rfl, rfl⟩ := e1
  have HV := hide hv
  have HT := hide ht
  have hp : 0 < vs.length := by omega
  clear hv ht hl
  have NK := hide hn
  obtain ⟨op, nam, ⟨ia, il, ic⟩, out, ⟨ao, al, cap⟩⟩ := n
  unfold nval
  simp only
  obtain ⟨w0, hw0⟩ : ∃ w0, w0 = w.alloc (.cells #[.string op, .string nam, .slice ia il ic, .string out, .slice ao al cap] 25) := ⟨_, rfl⟩
  have g0 : Hid (w.grownBy w0 none) := by show w.grownBy w0 none; rw [hw0]; exact grown_new _ _
  have hb0 := heap_alloc_new w (.cells #[.string op, .string nam, .slice ia il ic, .string out, .slice ao al cap] 25)
  rw [← hw0] at hb0
  have BX : Hid (∀ wx, w0.grownBy wx none → wx.heap[w.heap.size]? = some (.cells #[.string op, .string nam, .slice ia il ic, .string out, .slice ao al cap] 25 (0, 0))) := fun wx hg => box_kept hb0 hg
  clear hb0 hn
  simp only at hop
  subst hop
  have SM := hide (fun (wx : World) (hg : w0.grownBy wx none) => sametype_any ⟨ua, vs.length, uc⟩ vs wx (HV.out.more (grown_trans g0.out hg)) hp hf)
  simp only at SM
  obtain ⟨n0, n1, n2, n3, n4⟩ := nod_cells (n := ⟨⟨#[71, 114, 101, 97, 116, 101, 114]⟩, nam, ⟨ia, il, ic⟩, out, ⟨ao, al, cap⟩⟩) (BX.out w0 (grown_refl _))
  simp only at n0
  clear n1 n2 n3 n4
  go_enter Tryz.func74, Tryz.ntmps74
  go_wp2_with fail
  rw [← hw0]
  clear hw0
  cases hk : sameP (vs.map (·.1.ty)) with
  | error c =>
    rw [hk] at SM
    have E : Hid ((sameP (tysOf vs)).bind (fun t => (mustP (twoOK [71, 114, 101, 97, 116, 101, 114] t)).bind (fun _ => .ok (9 : Int))) = .error c) := by show _ = _; unfold tysOf; rw [hk]; rfl
    clear hk
    refine wp_region_held_drew (S := (fun w' => w'.cell? ⟨w.heap.size, 0, none⟩ = some (.string ⟨#[71, 114, 101, 97, 116, 101, 114]⟩))) (by kernel_rfl) (by go_keep) (fun hHeld => ?_)
    refine wpAnyH_take (i := 0) (v := ?_) rfl (by kernel_rfl) (by kernel_rfl) (by kernel_rfl) (fun _ _ _ h => h) (Or.inl ⟨by rfl, ?_⟩) (by assumption) ?_
    rotate_left 1
    · (intro w hSw; (try dsimp only at hSw); go_simp; (try with_reducible rfl))
    try simp only [Act.put]
    refine wpAnyH_take (i := 1) (v := ?_) rfl (by kernel_rfl) (by kernel_rfl) (by kernel_rfl) (fun _ _ _ h => h) (Or.inl ⟨by rfl, ?_⟩) (by assumption) ?_
    rotate_left 1
    · (intro w hSw; (try dsimp only at hSw); go_simp; (try with_reducible rfl))
    try simp only [Act.put]
    refine wpAnyH_take (i := 2) (v := ?_) rfl (by kernel_rfl) (by kernel_rfl) (by kernel_rfl) (fun _ _ _ h => h) (Or.inl ⟨by rfl, ?_⟩) (by assumption) ?_
    rotate_left 1
    · (intro w hSw; (try dsimp only at hSw); go_simp; (try with_reducible rfl))
    try simp only [Act.put]
    refine wpAnyH_ready (rs := [3]) (by kernel_rfl) (by simp) ?_
    refine AllReadyH.cons rfl (fun K hK => ?_) ?_
    · skip
      go_simp
      refine (SM.out _ (grown_drew (grown_refl _))).mono ?_
      rintro e wy ⟨hg, rfl⟩
      exact ⟨rfl, ended_err E.out (grown_trans (grown_drew g0.out) hg)⟩
    exact AllReadyH.nil
  | ok t =>
    have htt := sameP_typ hk (by simpa using hp) HT.out
    rw [hk] at SM
    have E : Hid ((sameP (tysOf vs)).bind (fun t => (mustP (twoOK [71, 114, 101, 97, 116, 101, 114] t)).bind (fun _ => .ok (9 : Int))) = (mustP (twoOK [71, 114, 101, 97, 116, 101, 114] t)).bind (fun _ => .ok (9 : Int))) := by show _ = _; unfold tysOf; rw [hk]; rfl
    clear hk
    have BL : (⟨#[71, 114, 101, 97, 116, 101, 114]⟩ : ByteArray).toList = [71, 114, 101, 97, 116, 101, 114] := bytes_toList _
    have MU := hide (fun wx => musttwo_any ⟨#[71, 114, 101, 97, 116, 101, 114]⟩ t (by rw [BL]; decide) htt wx)
    rw [BL] at MU
    clear BL
    cases h1 : twoOK [71, 114, 101, 97, 116, 101, 114] t with
    | true =>
      rw [h1] at MU
      have E2 : Hid ((sameP (tysOf vs)).bind (fun t => (mustP (twoOK [71, 114, 101, 97, 116, 101, 114] t)).bind (fun _ => .ok (9 : Int))) = .ok 9) := by show _ = _; rw [E.out, h1]; rfl
      clear h1
      refine wp_region_held_drew (S := (fun w' => w'.cell? ⟨w.heap.size, 0, none⟩ = some (.string ⟨#[71, 114, 101, 97, 116, 101, 114]⟩))) (by kernel_rfl) (by go_keep) (fun hHeld => ?_)
      refine wpAnyH_take (i := 0) (v := ?_) rfl (by kernel_rfl) (by kernel_rfl) (by kernel_rfl) (fun _ _ _ h => h) (Or.inl ⟨by rfl, ?_⟩) (by assumption) ?_
      rotate_left 1
      · (intro w hSw; (try dsimp only at hSw); go_simp; (try with_reducible rfl))
      try simp only [Act.put]
      refine wpAnyH_take (i := 1) (v := ?_) rfl (by kernel_rfl) (by kernel_rfl) (by kernel_rfl) (fun _ _ _ h => h) (Or.inl ⟨by rfl, ?_⟩) (by assumption) ?_
      rotate_left 1
      · (intro w hSw; (try dsimp only at hSw); go_simp; (try with_reducible rfl))
      try simp only [Act.put]
      refine wpAnyH_take (i := 2) (v := ?_) rfl (by kernel_rfl) (by kernel_rfl) (by kernel_rfl) (fun _ _ _ h => h) (Or.inl ⟨by rfl, ?_⟩) (by assumption) ?_
      rotate_left 1
      · (intro w hSw; (try dsimp only at hSw); go_simp; (try with_reducible rfl))
      try simp only [Act.put]
      refine wpAnyH_ready (rs := [3]) (by kernel_rfl) (by simp) ?_
      refine AllReadyH.cons rfl (fun K hK => ?_) ?_
      · skip
        go_simp
        refine (SM.out _ (grown_drew (grown_refl _))).mono ?_
        rintro e w2 ⟨hg2, v, rfl, rfl⟩
        have g2 := grown_trans (grown_drew (grown_refl w0)) hg2
        obtain ⟨n0, n1, n2, n3, n4⟩ := nod_cells (n := ⟨⟨#[71, 114, 101, 97, 116, 101, 114]⟩, nam, ⟨ia, il, ic⟩, out, ⟨ao, al, cap⟩⟩) (BX.out w2 g2)
        clear n1 n2 n3 n4
        try dsimp only
        refine hK.out _ _ (by first | assumption | go_keep) (fun hHeld => ?_)
        clear hK K
        try simp only [Act.put]
        refine wpAnyH_ready (rs := [4]) (by kernel_rfl) (by simp) ?_
        refine AllReadyH.cons rfl (fun K hK => ?_) ?_
        · skip
          go_simp
          refine (MU.out _).mono ?_
          rintro e w3 ⟨hg3, v, rfl, rfl⟩
          have g3 := grown_trans g2 hg3
          obtain ⟨n0, n1, n2, n3, n4⟩ := nod_cells (n := ⟨⟨#[71, 114, 101, 97, 116, 101, 114]⟩, nam, ⟨ia, il, ic⟩, out, ⟨ao, al, cap⟩⟩) (BX.out w3 g3)
          clear n1 n2 n3 n4
          try dsimp only
          refine hK.out _ _ (by first | assumption | go_keep) (fun hHeld => ?_)
          clear hK K
          try simp only [Act.put]
          refine wpAnyH_done (by kernel_rfl) ?_ _
          try go_simp
          go_wp2
          go_ret
          exact ended_ok E2.out (grown_trans g0.out g3) rfl
        exact AllReadyH.nil
      exact AllReadyH.nil
    | false =>
      rw [h1] at MU
      have E2 : Hid ((sameP (tysOf vs)).bind (fun t => (mustP (twoOK [71, 114, 101, 97, 116, 101, 114] t)).bind (fun _ => .ok (9 : Int))) = .error 4) := by show _ = _; rw [E.out, h1]; rfl
      clear h1
      refine wp_region_held_drew (S := (fun w' => w'.cell? ⟨w.heap.size, 0, none⟩ = some (.string ⟨#[71, 114, 101, 97, 116, 101, 114]⟩))) (by kernel_rfl) (by go_keep) (fun hHeld => ?_)
      refine wpAnyH_take (i := 0) (v := ?_) rfl (by kernel_rfl) (by kernel_rfl) (by kernel_rfl) (fun _ _ _ h => h) (Or.inl ⟨by rfl, ?_⟩) (by assumption) ?_
      rotate_left 1
      · (intro w hSw; (try dsimp only at hSw); go_simp; (try with_reducible rfl))
      try simp only [Act.put]
      refine wpAnyH_take (i := 1) (v := ?_) rfl (by kernel_rfl) (by kernel_rfl) (by kernel_rfl) (fun _ _ _ h => h) (Or.inl ⟨by rfl, ?_⟩) (by assumption) ?_
      rotate_left 1
      · (intro w hSw; (try dsimp only at hSw); go_simp; (try with_reducible rfl))
      try simp only [Act.put]
      refine wpAnyH_take (i := 2) (v := ?_) rfl (by kernel_rfl) (by kernel_rfl) (by kernel_rfl) (fun _ _ _ h => h) (Or.inl ⟨by rfl, ?_⟩) (by assumption) ?_
      rotate_left 1
      · (intro w hSw; (try dsimp only at hSw); go_simp; (try with_reducible rfl))
      try simp only [Act.put]
      refine wpAnyH_ready (rs := [3]) (by kernel_rfl) (by simp) ?_
      refine AllReadyH.cons rfl (fun K hK => ?_) ?_
      · skip
        go_simp
        refine (SM.out _ (grown_drew (grown_refl _))).mono ?_
        rintro e w2 ⟨hg2, v, rfl, rfl⟩
        have g2 := grown_trans (grown_drew (grown_refl w0)) hg2
        obtain ⟨n0, n1, n2, n3, n4⟩ := nod_cells (n := ⟨⟨#[71, 114, 101, 97, 116, 101, 114]⟩, nam, ⟨ia, il, ic⟩, out, ⟨ao, al, cap⟩⟩) (BX.out w2 g2)
        clear n1 n2 n3 n4
        try dsimp only
        refine hK.out _ _ (by first | assumption | go_keep) (fun hHeld => ?_)
        clear hK K
        try simp only [Act.put]
        refine wpAnyH_ready (rs := [4]) (by kernel_rfl) (by simp) ?_
        refine AllReadyH.cons rfl (fun K hK => ?_) ?_
        · skip
          go_simp
          refine (MU.out _).mono ?_
          rintro e wy ⟨hg, rfl⟩
          exact ⟨rfl, ended_err E2.out (grown_trans (grown_trans g0.out g2) hg)⟩
        exact AllReadyH.nil
      exact AllReadyH.nil

end Go.Proofs.YteigfipgmghgmaaGreatDoor
