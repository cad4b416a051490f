/- Which dims a node makes: more operators (mkIDm2.py). -/
import Derived.Test.YteigfipgmghgmaaGreatDoorITy2
import Derived.Test.YteigfipgmghgmaaGreatDoorIResh
import Derived.Test.YteigfipgmghgmaaGreatDoorINorm
import Derived.Test.YteigfipgmghgmaaGreatDoorIWin
namespace Go.Proofs.YteigfipgmghgmaaGreatDoor
open Go.RowKit

set_option maxRecDepth 100000 in
set_option maxHeartbeats 4000000 in
theorem dims_Expand (n : Nod) (A : At) (u : Sl) (v0 : Val) (x : List Int) (w : World) (hop : n.op = ⟨#[69, 120, 112, 97, 110, 100]⟩) (hn : NodeOk w n A) (hv : ValsIn w u.v [(v0, x)])  : Calls Tryz.prog 75 #[nval n, .slice u.a u.n u.c] w (Ended w (spreadP x ((A.ints ⟨#[115, 104, 97, 112, 101]⟩ []).map wholeP)) DimsQ) := by
  obtain ⟨xa, xc, e1, q1, q2, q3⟩ := hv.vals.form
  simp only [List.map_cons, List.map_nil, List.length_cons, List.length_nil, Nat.zero_add] at e1 q1 q3
  obtain ⟨ua, un, uc⟩ := u
  simp only [Sl.v, Value.slice.injEq] at e1
  obtain ⟨rfl, rfl, rfl⟩ := e1
  obtain ⟨b, off, rfl⟩ := hv.vals.addr (k := 0) (by simp)
  obtain ⟨-, z0⟩ := hv.at 0 (by simp)
  rw [Nat.zero_mul, Nat.add_zero] at z0
  simp only [List.getElem_cons_zero] at z0
  have HX := hide (hv.dims (v0, x) (by simp))
  obtain ⟨vn0, vt0, ⟨d0a, d0n, d0c⟩⟩ := v0
  simp only at z0 HX
  have Z0 := hide z0
  clear hv z0
  have NK := hide hn
  obtain ⟨op, nam, ⟨ia, il, ic⟩, out, ⟨ao, al, cap⟩⟩ := n
  unfold nval
  simp only
  obtain ⟨w0, hw0⟩ : ∃ w0, w0 = w.alloc (.cells #[.string op, .string nam, .slice ia il ic, .string out, .slice ao al cap] 25) := ⟨_, rfl⟩
  have g0 : Hid (w.grownBy w0 none) := by show w.grownBy w0 none; rw [hw0]; exact grown_new _ _
  have hb0 := heap_alloc_new w (.cells #[.string op, .string nam, .slice ia il ic, .string out, .slice ao al cap] 25)
  rw [← hw0] at hb0
  have BX : Hid (∀ wx, w0.grownBy wx none → wx.heap[w.heap.size]? = some (.cells #[.string op, .string nam, .slice ia il ic, .string out, .slice ao al cap] 25 (0, 0))) := fun wx hg => box_kept hb0 hg
  clear hb0 hn
  simp only at hop
  subst hop
  have z0 : (w.alloc (.cells #[.string ⟨#[69, 120, 112, 97, 110, 100]⟩, .string nam, .slice ia il ic, .string out, .slice ao al cap] 25)).cell? ⟨b, off + 2, none⟩ = some (.slice d0a d0n d0c) := cell_still Z0.out (grown_new _ _)
  have NI := hide (nints_any ⟨⟨#[69, 120, 112, 97, 110, 100]⟩, nam, ⟨ia, il, ic⟩, out, ⟨ao, al, cap⟩⟩ A ⟨#[115, 104, 97, 112, 101]⟩ ⟨none, 0, 0⟩ [] w0 (NK.out.more g0.out) ⟨none, 0, rfl, Nat.le_refl _, by decide, by simp, fun _ => ⟨rfl, rfl⟩, fun h => (by simp at h), fun z hz => (by simp at hz)⟩)
  unfold nval at NI
  simp only at NI
  go_enter Tryz.func75, Tryz.ntmps75
  go_wp2_with fail
  rw [← hw0]
  clear hw0
  refine NI.out.mono ?_
  rintro e w1 ⟨⟨l1, l2, l3⟩, rfl, hl, hg1⟩
  have WH := hide (wholes_any _ _ w1 hl)
  have G1 := hide (grown_trans g0.out hg1)
  simp only [Sl.v] at WH ⊢
  clear hl hg1 NI
  go_wp2_with (first | (go_at_call 113; refine WH.out.mono ?_; rintro e w2 ⟨⟨m1, m2, m3⟩, rfl, hm, hg2⟩; simp only) | fail)
  have G2 := hide (grown_trans G1.out hg2)
  have C := hide (spread_any ⟨d0a, d0n, d0c⟩ ⟨m1, m2, m3⟩ x _ w2 (HX.out.more G2.out) hm)
  simp only at C
  clear hm hg2 WH
  cases hk : spreadP x ((A.ints ⟨#[115, 104, 97, 112, 101]⟩ []).map wholeP) with
  | error c =>
    rw [hk] at C
    have HK := hide hk
    clear hk
    refine C.out.mono ?_
    rintro e w' ⟨hg, rfl⟩
    exact ⟨rfl, ended_err (by first | exact HK.out | rfl) (grown_trans G2.out hg)⟩
  | ok zs =>
    rw [hk] at C
    have HK := hide hk
    clear hk
    refine C.out.mono ?_
    rintro e w' ⟨hg, v, rfl, ⟨s1, s2, s3⟩, rfl, hs⟩
    simp only [Sl.v]
    go_wp2
    go_ret
    exact ended_ok (by first | exact HK.out | rfl) (grown_trans G2.out hg) ⟨⟨s1, s2, s3⟩, rfl, hs.ints⟩

set_option maxRecDepth 100000 in
set_option maxHeartbeats 4000000 in
theorem dims_Softmax (n : Nod) (A : At) (u : Sl) (v0 : Val) (x : List Int) (w : World) (hop : n.op = ⟨#[83, 111, 102, 116, 109, 97, 120]⟩) (hn : NodeOk w n A) (hv : ValsIn w u.v [(v0, x)]) (hf : Fine x) : Calls Tryz.prog 75 #[nval n, .slice u.a u.n u.c] w (Ended w ((axesP (alongP A x.length) x.length).bind (fun _ => .ok x)) DimsQ) := by
  obtain ⟨xa, xc, e1, q1, q2, q3⟩ := hv.vals.form
  simp only [List.map_cons, List.map_nil, List.length_cons, List.length_nil, Nat.zero_add] at e1 q1 q3
  obtain ⟨ua, un, uc⟩ := u
  simp only [Sl.v, Value.slice.injEq] at e1
  obtain ⟨rfl, rfl, rfl⟩ := e1
  obtain ⟨b, off, rfl⟩ := hv.vals.addr (k := 0) (by simp)
  obtain ⟨-, z0⟩ := hv.at 0 (by simp)
  rw [Nat.zero_mul, Nat.add_zero] at z0
  simp only [List.getElem_cons_zero] at z0
  have HX := hide (hv.dims (v0, x) (by simp))
  obtain ⟨vn0, vt0, ⟨d0a, d0n, d0c⟩⟩ := v0
  simp only at z0 HX
  have Z0 := hide z0
  clear hv z0
  have NK := hide hn
  obtain ⟨op, nam, ⟨ia, il, ic⟩, out, ⟨ao, al, cap⟩⟩ := n
  unfold nval
  simp only
  obtain ⟨w0, hw0⟩ : ∃ w0, w0 = w.alloc (.cells #[.string op, .string nam, .slice ia il ic, .string out, .slice ao al cap] 25) := ⟨_, rfl⟩
  have g0 : Hid (w.grownBy w0 none) := by show w.grownBy w0 none; rw [hw0]; exact grown_new _ _
  have hb0 := heap_alloc_new w (.cells #[.string op, .string nam, .slice ia il ic, .string out, .slice ao al cap] 25)
  rw [← hw0] at hb0
  have BX : Hid (∀ wx, w0.grownBy wx none → wx.heap[w.heap.size]? = some (.cells #[.string op, .string nam, .slice ia il ic, .string out, .slice ao al cap] 25 (0, 0))) := fun wx hg => box_kept hb0 hg
  clear hb0 hn
  simp only at hop
  subst hop
  have z0 : (w.alloc (.cells #[.string ⟨#[83, 111, 102, 116, 109, 97, 120]⟩, .string nam, .slice ia il ic, .string out, .slice ao al cap] 25)).cell? ⟨b, off + 2, none⟩ = some (.slice d0a d0n d0c) := cell_still Z0.out (grown_new _ _)
  have FEW := hf.few
  obtain ⟨xx, xcc, ex, f1, f2, f3⟩ := HX.out.sl
  simp only [Sl.v, Value.slice.injEq] at ex
  obtain ⟨rfl, rfl, rfl⟩ := ex
  have AL := hide (along_any ⟨⟨#[83, 111, 102, 116, 109, 97, 120]⟩, nam, ⟨ia, il, ic⟩, out, ⟨ao, al, cap⟩⟩ A x.length w0 (NK.out.more g0.out) (by omega))
  unfold nval at AL
  simp only at AL
  go_enter Tryz.func75, Tryz.ntmps75
  go_wp2_with fail
  rw [← hw0]
  clear hw0
  refine AL.out.mono ?_
  rintro e w1 ⟨⟨l1, l2, l3⟩, rfl, hl, hg1⟩
  have C := hide (axesof_any ⟨l1, l2, l3⟩ _ x.length w1 hl (by omega))
  have G1 := hide (grown_trans g0.out hg1)
  simp only [Sl.v] at C ⊢
  clear hl hg1 AL
  cases hk : axesP (alongP A x.length) x.length with
  | error c =>
    rw [hk] at C
    have HK : Hid ((axesP (alongP A x.length) x.length).bind (fun _ => .ok x) = .error c) := by show _ = _; rw [hk]; rfl
    clear hk
    go_wp2_with (first | (go_at_call 108; refine C.out.mono ?_; rintro e w' ⟨hg, rfl⟩) | fail)
    exact ⟨rfl, ended_err (by first | exact HK.out | rfl) (grown_trans G1.out hg)⟩
  | ok is =>
    rw [hk] at C
    have HK : Hid ((axesP (alongP A x.length) x.length).bind (fun _ => .ok x) = .ok x) := by show _ = _; rw [hk]; rfl
    clear hk
    go_wp2_with (first | (go_at_call 108; refine C.out.mono ?_; rintro e w' ⟨hg, v, rfl, B, rfl, -, -⟩) | fail)
    go_ret
    exact ended_ok (by first | exact HK.out | rfl) (grown_trans G1.out hg) ⟨⟨d0a, x.length, d0c⟩, rfl, HX.out.more (grown_trans G1.out hg)⟩

set_option maxRecDepth 100000 in
theorem dims_Constant (n : Nod) (A : At) (u : Sl) (w : World) (hop : n.op = ⟨#[67, 111, 110, 115, 116, 97, 110, 116]⟩) (hn : NodeOk w n A) (D : List Int) (hD : IsInts w (valA A).dv.v D) : Calls Tryz.prog 75 #[nval n, .slice u.a u.n u.c] w (Ended w (.ok D) DimsQ) := by
  obtain ⟨ua, un, uc⟩ := u
  simp only
  have NK := hide hn
  obtain ⟨op, nam, ⟨ia, il, ic⟩, out, ⟨ao, al, cap⟩⟩ := n
  unfold nval
  simp only
  obtain ⟨w0, hw0⟩ : ∃ w0, w0 = w.alloc (.cells #[.string op, .string nam, .slice ia il ic, .string out, .slice ao al cap] 25) := ⟨_, rfl⟩
  have g0 : Hid (w.grownBy w0 none) := by show w.grownBy w0 none; rw [hw0]; exact grown_new _ _
  have hb0 := heap_alloc_new w (.cells #[.string op, .string nam, .slice ia il ic, .string out, .slice ao al cap] 25)
  rw [← hw0] at hb0
  have BX : Hid (∀ wx, w0.grownBy wx none → wx.heap[w.heap.size]? = some (.cells #[.string op, .string nam, .slice ia il ic, .string out, .slice ao al cap] 25 (0, 0))) := fun wx hg => box_kept hb0 hg
  clear hb0 hn
  simp only at hop
  subst hop
  have V0 := hide (attrvalue_any ⟨⟨#[67, 111, 110, 115, 116, 97, 110, 116]⟩, nam, ⟨ia, il, ic⟩, out, ⟨ao, al, cap⟩⟩ A w0 (NK.out.more g0.out))
  unfold nval at V0
  simp only at V0
  have hfl := ten_field1
  have HD := hide hD
  clear hD
  go_enter Tryz.func75, Tryz.ntmps75
  go_wp2_with fail
  rw [← hw0]
  clear hw0
  refine V0.out.mono ?_
  rintro e w1 ⟨rfl, hg1⟩
  go_wp2
  go_ret
  exact ⟨grown_trans g0.out hg1, _, rfl, (valA A).dv, rfl, HD.out.more (grown_trans g0.out hg1)⟩

set_option maxRecDepth 100000 in
set_option maxHeartbeats 4000000 in
theorem dims_BatchNormalization (n : Nod) (A : At) (u : Sl) (p0 p1 : Val × List Int) (rest : List (Val × List Int)) (w : World) (hop : n.op = ⟨#[66, 97, 116, 99, 104, 78, 111, 114, 109, 97, 108, 105, 122, 97, 116, 105, 111, 110]⟩) (hn : NodeOk w n A) (hv : ValsIn w u.v (p0 :: p1 :: rest)) (hr : rest.length ≤ 1000000) : Calls Tryz.prog 75 #[nval n, .slice u.a u.n u.c] w (Ended w (normalizedP p0.2 ((p1 :: rest).map (·.2))) DimsQ) := by
  obtain ⟨xa, xc, e1, q1, q2, q3⟩ := hv.vals.form
  rw [List.length_map] at e1 q1 q3
  obtain ⟨ua, un, uc⟩ := u
  simp only [Sl.v, Value.slice.injEq] at e1
  obtain ⟨rfl, rfl, rfl⟩ := e1
  obtain ⟨b, off, rfl⟩ := hv.vals.addr (k := 0) (by simp)
  obtain ⟨-, z0⟩ := hv.at 0 (by simp)
  rw [Nat.zero_mul, Nat.add_zero] at z0
  simp only [List.getElem_cons_zero] at z0
  have HV := hide hv
  obtain ⟨⟨vn0, vt0, ⟨d0a, d0n, d0c⟩⟩, x⟩ := p0
  simp only at z0
  have Z0 := hide z0
  obtain ⟨m, hm⟩ : ∃ m, m = ((((⟨vn0, vt0, ⟨d0a, d0n, d0c⟩⟩, x) : Val × List Int) :: p1 :: rest) : List (Val × List Int)).length := ⟨_, rfl⟩
  have hm0 : 0 < m := by rw [hm]; simp
  have hm0' : (0 : Int) < (m : Int) := by omega
  have HM := hide hm
  rw [← hm] at q1 q3 ⊢
  clear hv z0 hm
  have NK := hide hn
  obtain ⟨op, nam, ⟨ia, il, ic⟩, out, ⟨ao, al, cap⟩⟩ := n
  unfold nval
  simp only
  obtain ⟨w0, hw0⟩ : ∃ w0, w0 = w.alloc (.cells #[.string op, .string nam, .slice ia il ic, .string out, .slice ao al cap] 25) := ⟨_, rfl⟩
  have g0 : Hid (w.grownBy w0 none) := by show w.grownBy w0 none; rw [hw0]; exact grown_new _ _
  have hb0 := heap_alloc_new w (.cells #[.string op, .string nam, .slice ia il ic, .string out, .slice ao al cap] 25)
  rw [← hw0] at hb0
  have BX : Hid (∀ wx, w0.grownBy wx none → wx.heap[w.heap.size]? = some (.cells #[.string op, .string nam, .slice ia il ic, .string out, .slice ao al cap] 25 (0, 0))) := fun wx hg => box_kept hb0 hg
  clear hb0 hn
  simp only at hop
  subst hop
  have z0 : (w.alloc (.cells #[.string ⟨#[66, 97, 116, 99, 104, 78, 111, 114, 109, 97, 108, 105, 122, 97, 116, 105, 111, 110]⟩, .string nam, .slice ia il ic, .string out, .slice ao al cap] 25)).cell? ⟨b, off + 2, none⟩ = some (.slice d0a d0n d0c) := cell_still Z0.out (grown_new _ _)
  have C := hide (normalized_any ⟨some ⟨b, off, none⟩, m, uc⟩ _ p1 rest w0 (by rw [HM.out]; exact HV.out.more g0.out) hr)
  simp only at C
  go_enter Tryz.func75, Tryz.ntmps75
  go_wp2_with fail
  rw [← hw0]
  clear hw0
  cases hk : normalizedP x ((p1 :: rest).map (·.2)) with
  | error c =>
    rw [hk] at C
    have HK := hide hk
    clear hk
    refine C.out.mono ?_
    rintro e w' ⟨hg, rfl⟩
    exact ⟨rfl, ended_err (by first | exact HK.out | rfl) (grown_trans g0.out hg)⟩
  | ok zs =>
    rw [hk] at C
    have HK := hide hk
    clear hk
    refine C.out.mono ?_
    rintro e w' ⟨hg, v, rfl, ⟨s1, s2, s3⟩, rfl, hs⟩
    simp only [Sl.v]
    go_wp2
    go_ret
    exact ended_ok (by first | exact HK.out | rfl) (grown_trans g0.out hg) ⟨⟨s1, s2, s3⟩, rfl, hs⟩

set_option maxRecDepth 100000 in
set_option maxHeartbeats 4000000 in
theorem dims_Gemm (n : Nod) (A : At) (u : Sl) (p0 p1 : Val × List Int) (rest : List (Val × List Int)) (w : World) (hop : n.op = ⟨#[71, 101, 109, 109]⟩) (hn : NodeOk w n A) (hv : ValsIn w u.v (p0 :: p1 :: rest)) (hr : rest.length ≤ 1) : Calls Tryz.prog 75 #[nval n, .slice u.a u.n u.c] w (Ended w (gemmP A p0.2 p1.2 (rest.head?.map (·.2))) DimsQ) := by
  obtain ⟨xa, xc, e1, q1, q2, q3⟩ := hv.vals.form
  rw [List.length_map] at e1 q1 q3
  obtain ⟨ua, un, uc⟩ := u
  simp only [Sl.v, Value.slice.injEq] at e1
  obtain ⟨rfl, rfl, rfl⟩ := e1
  obtain ⟨b, off, rfl⟩ := hv.vals.addr (k := 0) (by simp)
  obtain ⟨-, z0⟩ := hv.at 0 (by simp)
  rw [Nat.zero_mul, Nat.add_zero] at z0
  simp only [List.getElem_cons_zero] at z0
  have HV := hide hv
  obtain ⟨⟨vn0, vt0, ⟨d0a, d0n, d0c⟩⟩, x⟩ := p0
  simp only at z0
  have Z0 := hide z0
  obtain ⟨m, hm⟩ : ∃ m, m = ((((⟨vn0, vt0, ⟨d0a, d0n, d0c⟩⟩, x) : Val × List Int) :: p1 :: rest) : List (Val × List Int)).length := ⟨_, rfl⟩
  have hm0 : 0 < m := by rw [hm]; simp
  have hm0' : (0 : Int) < (m : Int) := by omega
  have HM := hide hm
  rw [← hm] at q1 q3 ⊢
  clear hv z0 hm
  have NK := hide hn
  obtain ⟨op, nam, ⟨ia, il, ic⟩, out, ⟨ao, al, cap⟩⟩ := n
  unfold nval
  simp only
  obtain ⟨w0, hw0⟩ : ∃ w0, w0 = w.alloc (.cells #[.string op, .string nam, .slice ia il ic, .string out, .slice ao al cap] 25) := ⟨_, rfl⟩
  have g0 : Hid (w.grownBy w0 none) := by show w.grownBy w0 none; rw [hw0]; exact grown_new _ _
  have hb0 := heap_alloc_new w (.cells #[.string op, .string nam, .slice ia il ic, .string out, .slice ao al cap] 25)
  rw [← hw0] at hb0
  have BX : Hid (∀ wx, w0.grownBy wx none → wx.heap[w.heap.size]? = some (.cells #[.string op, .string nam, .slice ia il ic, .string out, .slice ao al cap] 25 (0, 0))) := fun wx hg => box_kept hb0 hg
  clear hb0 hn
  simp only at hop
  subst hop
  have z0 : (w.alloc (.cells #[.string ⟨#[71, 101, 109, 109]⟩, .string nam, .slice ia il ic, .string out, .slice ao al cap] 25)).cell? ⟨b, off + 2, none⟩ = some (.slice d0a d0n d0c) := cell_still Z0.out (grown_new _ _)
  have C := hide (gemm_any ⟨⟨#[71, 101, 109, 109]⟩, nam, ⟨ia, il, ic⟩, out, ⟨ao, al, cap⟩⟩ A ⟨some ⟨b, off, none⟩, m, uc⟩ _ p1 rest w0 (NK.out.more g0.out) (by rw [HM.out]; exact HV.out.more g0.out) hr)
  unfold nval at C
  simp only at C
  go_enter Tryz.func75, Tryz.ntmps75
  go_wp2_with fail
  rw [← hw0]
  clear hw0
  cases hk : gemmP A x p1.2 (rest.head?.map (·.2)) with
  | error c =>
    rw [hk] at C
    have HK := hide hk
    clear hk
    refine C.out.mono ?_
    rintro e w' ⟨hg, rfl⟩
    exact ⟨rfl, ended_err (by first | exact HK.out | rfl) (grown_trans g0.out hg)⟩
  | ok zs =>
    rw [hk] at C
    have HK := hide hk
    clear hk
    refine C.out.mono ?_
    rintro e w' ⟨hg, v, rfl, ⟨s1, s2, s3⟩, rfl, hs⟩
    simp only [Sl.v]
    go_wp2
    go_ret
    exact ended_ok (by first | exact HK.out | rfl) (grown_trans g0.out hg) ⟨⟨s1, s2, s3⟩, rfl, hs⟩

set_option maxRecDepth 100000 in
set_option maxHeartbeats 4000000 in
theorem dims_GlobalAveragePool (n : Nod) (A : At) (u : Sl) (v0 : Val) (x : List Int) (w : World) (hop : n.op = ⟨#[71, 108, 111, 98, 97, 108, 65, 118, 101, 114, 97, 103, 101, 80, 111, 111, 108]⟩) (hn : NodeOk w n A) (hv : ValsIn w u.v [(v0, x)])  : Calls Tryz.prog 75 #[nval n, .slice u.a u.n u.c] w (Ended w ((mustP (decide (x.length = 4))).bind (fun _ => .ok [x.getD 0 0, x.getD 1 0, 1, 1])) DimsQ) := by
  obtain ⟨xa, xc, e1, q1, q2, q3⟩ := hv.vals.form
  simp only [List.map_cons, List.map_nil, List.length_cons, List.length_nil, Nat.zero_add] at e1 q1 q3
  obtain ⟨ua, un, uc⟩ := u
  simp only [Sl.v, Value.slice.injEq] at e1
  obtain ⟨rfl, rfl, rfl⟩ := e1
  obtain ⟨b, off, rfl⟩ := hv.vals.addr (k := 0) (by simp)
  obtain ⟨-, z0⟩ := hv.at 0 (by simp)
  rw [Nat.zero_mul, Nat.add_zero] at z0
  simp only [List.getElem_cons_zero] at z0
  have HX := hide (hv.dims (v0, x) (by simp))
  obtain ⟨vn0, vt0, ⟨d0a, d0n, d0c⟩⟩ := v0
  simp only at z0 HX
  have Z0 := hide z0
  clear hv z0
  have NK := hide hn
  obtain ⟨op, nam, ⟨ia, il, ic⟩, out, ⟨ao, al, cap⟩⟩ := n
  unfold nval
  simp only
  obtain ⟨w0, hw0⟩ : ∃ w0, w0 = w.alloc (.cells #[.string op, .string nam, .slice ia il ic, .string out, .slice ao al cap] 25) := ⟨_, rfl⟩
  have g0 : Hid (w.grownBy w0 none) := by show w.grownBy w0 none; rw [hw0]; exact grown_new _ _
  have hb0 := heap_alloc_new w (.cells #[.string op, .string nam, .slice ia il ic, .string out, .slice ao al cap] 25)
  rw [← hw0] at hb0
  have BX : Hid (∀ wx, w0.grownBy wx none → wx.heap[w.heap.size]? = some (.cells #[.string op, .string nam, .slice ia il ic, .string out, .slice ao al cap] 25 (0, 0))) := fun wx hg => box_kept hb0 hg
  clear hb0 hn
  simp only at hop
  subst hop
  have z0 : (w.alloc (.cells #[.string ⟨#[71, 108, 111, 98, 97, 108, 65, 118, 101, 114, 97, 103, 101, 80, 111, 111, 108]⟩, .string nam, .slice ia il ic, .string out, .slice ao al cap] 25)).cell? ⟨b, off + 2, none⟩ = some (.slice d0a d0n d0c) := cell_still Z0.out (grown_new _ _)
  obtain ⟨xx, xcc, ex, f1, f2, f3⟩ := HX.out.sl
  simp only [Sl.v, Value.slice.injEq] at ex
  obtain ⟨rfl, rfl, rfl⟩ := ex
  by_cases hl : x.length = 4
  · have b0 : ((x.length : Int) == 4) = true := by simp [hl]
    have HK : Hid ((mustP (decide (x.length = 4))).bind (fun _ => .ok [x.getD 0 0, x.getD 1 0, 1, 1]) = .ok [x.getD 0 0, x.getD 1 0, 1, 1]) := by show _ = _; simp [mustP, hl]; rfl
    obtain ⟨xb, xo, rfl, hcx⟩ := HX.out.get (k := 0) (by omega)
    have X0 := hcx 0 (by omega)
    have X1 := hcx 1 (by omega)
    have b0' := HX.out.wf (x.getD 0 0) (getD_mem (by omega))
    have b1' := HX.out.wf (x.getD 1 0) (getD_mem (by omega))
    rw [Nat.add_zero] at X0
    obtain ⟨x0, hx0⟩ : ∃ z, z = x.getD 0 0 := ⟨_, rfl⟩
    obtain ⟨x1, hx1⟩ : ∃ z, z = x.getD 1 0 := ⟨_, rfl⟩
    rw [← hx0] at X0 b0'
    rw [← hx1] at X1 b1'
    have HX0 := hide hx0
    have HX1 := hide hx1
    have y0 := cell_still X0 g0.out
    have y1 := cell_still X1 g0.out
    have l0 : (0 : Int) < (x.length : Int) := by omega
    have l1 : (1 : Int) < (x.length : Int) := by omega
    have m0 : 0 < x.length := by omega
    have m1 : 1 < x.length := by omega
    clear hx0 hx1 hl hcx X0 X1
    go_enter Tryz.func75, Tryz.ntmps75
    go_wp2_with (first | (go_at_call 71; refine (must_yes _).mono ?_; rintro e w' ⟨rfl, rfl⟩) | fail)
    rw [← hw0]
    clear hw0 z0
    go_region_held3 (fun w' => w'.cell? ⟨xb, xo, none⟩ = some (.int .i64 x0) ∧ w'.cell? ⟨xb, xo + 1, none⟩ = some (.int .i64 x1)) (go_keep) (fail)
    go_wp2
    go_ret
    exact ended_ok HK.out (grown_trans (grown_drew g0.out) (grown_new _ _)) ⟨⟨_, 4, 4⟩, rfl, by rw [← HX0.out, ← HX1.out]; exact ints_new _ [x0, x1, 1, 1] 3 (by simp) (fun y hy => by simp at hy; rcases hy with rfl | rfl | rfl | rfl <;> first | assumption | omega)⟩
  · have b0 : ((x.length : Int) == 4) = false := by simpa using (fun h => hl (by omega) : ¬ (x.length : Int) = 4)
    have HK : Hid ((mustP (decide (x.length = 4))).bind (fun _ => .ok [x.getD 0 0, x.getD 1 0, 1, 1]) = .error 4) := by show _ = _; simp [mustP, hl]; rfl
    clear hl
    go_enter Tryz.func75, Tryz.ntmps75
    go_wp2_with (first | (go_at_call 71; refine (must_no _).mono ?_; rintro e w' ⟨rfl, rfl⟩) | fail)
    rw [← hw0]
    exact ⟨rfl, ended_err HK.out g0.out⟩

end Go.Proofs.YteigfipgmghgmaaGreatDoor
