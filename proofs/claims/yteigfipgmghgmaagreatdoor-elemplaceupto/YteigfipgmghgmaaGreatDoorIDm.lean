/- Which dims a node makes, an operator at a time (mkIDm.py). -/
import Derived.Test.YteigfipgmghgmaaGreatDoorITy2
import Derived.Test.YteigfipgmghgmaaGreatDoorIResh
import Derived.Test.YteigfipgmghgmaaGreatDoorIPool
import Derived.Test.YteigfipgmghgmaaGreatDoorINorm
import Derived.Test.YteigfipgmghgmaaGreatDoorIDmX
namespace Go.Proofs.YteigfipgmghgmaaGreatDoor
open Go.RowKit

set_option maxRecDepth 100000 in
set_option maxHeartbeats 40000000 in
theorem dims_reduced (n : Nod) (A : At) (u : Sl) (v0 : Val) (x : List Int) (w : World) (hop : n.op ∈ ([⟨#[82, 101, 100, 117, 99, 101, 83, 117, 109]⟩, ⟨#[82, 101, 100, 117, 99, 101, 77, 97, 120]⟩, ⟨#[82, 101, 100, 117, 99, 101, 77, 101, 97, 110]⟩, ⟨#[65, 114, 103, 77, 97, 120]⟩] : List ByteArray)) (hn : NodeOk w n A) (hv : ValsIn w u.v [(v0, x)]) (hf : Fine x) : Calls Tryz.prog 75 #[nval n, .slice u.a u.n u.c] w (Ended w (reducedP A x) DimsQ) := by
  obtain ⟨xa, xc, e1, q1, q2, q3⟩ := hv.vals.form
  simp only [List.map_cons, List.map_nil, List.length_cons, List.length_nil, Nat.zero_add] at e1 q1 q3
  obtain ⟨ua, un, uc⟩ := u
  simp only [Sl.v, Value.slice.injEq] at e1
  obtain ⟨rfl, rfl, rfl⟩ := e1
  obtain ⟨b, off, rfl⟩ := hv.vals.addr (k := 0) (by simp)
  obtain ⟨-, z0⟩ := hv.at 0 (by simp)
  rw [Nat.zero_mul, Nat.add_zero] at z0
  simp only [List.getElem_cons_zero] at z0
  have HX := hide (hv.dims (v0, x) (by simp))
  obtain ⟨vn0, vt0, ⟨d0a, d0n, d0c⟩⟩ := v0
  simp only at z0 HX
  have Z0 := hide z0
  clear hv z0
  have NK := hide hn
  obtain ⟨op, nam, ⟨ia, il, ic⟩, out, ⟨ao, al, cap⟩⟩ := n
  unfold nval
  simp only
  obtain ⟨w0, hw0⟩ : ∃ w0, w0 = w.alloc (.cells #[.string op, .string nam, .slice ia il ic, .string out, .slice ao al cap] 25) := ⟨_, rfl⟩
  have g0 : Hid (w.grownBy w0 none) := by show w.grownBy w0 none; rw [hw0]; exact grown_new _ _
  have hb0 := heap_alloc_new w (.cells #[.string op, .string nam, .slice ia il ic, .string out, .slice ao al cap] 25)
  rw [← hw0] at hb0
  have BX : Hid (∀ wx, w0.grownBy wx none → wx.heap[w.heap.size]? = some (.cells #[.string op, .string nam, .slice ia il ic, .string out, .slice ao al cap] 25 (0, 0))) := fun wx hg => box_kept hb0 hg
  clear hb0 hn
  simp only at hop
  have z0 : (w.alloc (.cells #[.string op, .string nam, .slice ia il ic, .string out, .slice ao al cap] 25)).cell? ⟨b, off + 2, none⟩ = some (.slice d0a d0n d0c) := cell_still Z0.out (grown_new _ _)
  have C := hide (reduced_any ⟨op, nam, ⟨ia, il, ic⟩, out, ⟨ao, al, cap⟩⟩ A ⟨d0a, d0n, d0c⟩ x w0 (NK.out.more g0.out) (HX.out.more g0.out) hf)
  unfold nval at C
  simp only at C
  simp only [List.mem_cons, List.not_mem_nil, or_false] at hop
  rcases hop with rfl | rfl | rfl | rfl
  all_goals
    go_enter Tryz.func75, Tryz.ntmps75
    go_wp2_with fail
    rw [← hw0]
    clear hw0
    cases hk : reducedP A x with
    | error c =>
      rw [hk] at C
      have HK := hide hk
      clear hk
      refine C.out.mono ?_
      rintro e w' ⟨hg, rfl⟩
      exact ⟨rfl, ended_err (by first | exact HK.out | rfl) (grown_trans g0.out hg)⟩
    | ok zs =>
      rw [hk] at C
      have HK := hide hk
      clear hk
      refine C.out.mono ?_
      rintro e w' ⟨hg, v, rfl, ⟨s1, s2, s3⟩, rfl, hs⟩
      simp only [Sl.v]
      go_wp2
      go_ret
      exact ended_ok (by first | exact HK.out | rfl) (grown_trans g0.out hg) ⟨⟨s1, s2, s3⟩, rfl, hs⟩

set_option maxRecDepth 100000 in
set_option maxHeartbeats 40000000 in
theorem dims_transposed (n : Nod) (A : At) (u : Sl) (v0 : Val) (x : List Int) (w : World) (hop : n.op ∈ ([⟨#[84, 114, 97, 110, 115, 112, 111, 115, 101]⟩] : List ByteArray)) (hn : NodeOk w n A) (hv : ValsIn w u.v [(v0, x)]) (hf : Fine x) : Calls Tryz.prog 75 #[nval n, .slice u.a u.n u.c] w (Ended w (transposedP A x) DimsQ) := by
  obtain ⟨xa, xc, e1, q1, q2, q3⟩ := hv.vals.form
  simp only [List.map_cons, List.map_nil, List.length_cons, List.length_nil, Nat.zero_add] at e1 q1 q3
  obtain ⟨ua, un, uc⟩ := u
  simp only [Sl.v, Value.slice.injEq] at e1
  obtain ⟨rfl, rfl, rfl⟩ := e1
  obtain ⟨b, off, rfl⟩ := hv.vals.addr (k := 0) (by simp)
  obtain ⟨-, z0⟩ := hv.at 0 (by simp)
  rw [Nat.zero_mul, Nat.add_zero] at z0
  simp only [List.getElem_cons_zero] at z0
  have HX := hide (hv.dims (v0, x) (by simp))
  obtain ⟨vn0, vt0, ⟨d0a, d0n, d0c⟩⟩ := v0
  simp only at z0 HX
  have Z0 := hide z0
  clear hv z0
  have NK := hide hn
  obtain ⟨op, nam, ⟨ia, il, ic⟩, out, ⟨ao, al, cap⟩⟩ := n
  unfold nval
  simp only
  obtain ⟨w0, hw0⟩ : ∃ w0, w0 = w.alloc (.cells #[.string op, .string nam, .slice ia il ic, .string out, .slice ao al cap] 25) := ⟨_, rfl⟩
  have g0 : Hid (w.grownBy w0 none) := by show w.grownBy w0 none; rw [hw0]; exact grown_new _ _
  have hb0 := heap_alloc_new w (.cells #[.string op, .string nam, .slice ia il ic, .string out, .slice ao al cap] 25)
  rw [← hw0] at hb0
  have BX : Hid (∀ wx, w0.grownBy wx none → wx.heap[w.heap.size]? = some (.cells #[.string op, .string nam, .slice ia il ic, .string out, .slice ao al cap] 25 (0, 0))) := fun wx hg => box_kept hb0 hg
  clear hb0 hn
  simp only at hop
  have z0 : (w.alloc (.cells #[.string op, .string nam, .slice ia il ic, .string out, .slice ao al cap] 25)).cell? ⟨b, off + 2, none⟩ = some (.slice d0a d0n d0c) := cell_still Z0.out (grown_new _ _)
  have C := hide (transposed_any ⟨op, nam, ⟨ia, il, ic⟩, out, ⟨ao, al, cap⟩⟩ A ⟨d0a, d0n, d0c⟩ x w0 (NK.out.more g0.out) (HX.out.more g0.out) hf)
  unfold nval at C
  simp only at C
  simp only [List.mem_cons, List.not_mem_nil, or_false] at hop
  subst hop
  all_goals
    go_enter Tryz.func75, Tryz.ntmps75
    go_wp2_with fail
    rw [← hw0]
    clear hw0
    cases hk : transposedP A x with
    | error c =>
      rw [hk] at C
      have HK := hide hk
      clear hk
      refine C.out.mono ?_
      rintro e w' ⟨hg, rfl⟩
      exact ⟨rfl, ended_err (by first | exact HK.out | rfl) (grown_trans g0.out hg)⟩
    | ok zs =>
      rw [hk] at C
      have HK := hide hk
      clear hk
      refine C.out.mono ?_
      rintro e w' ⟨hg, v, rfl, ⟨s1, s2, s3⟩, rfl, hs⟩
      simp only [Sl.v]
      go_wp2
      go_ret
      exact ended_ok (by first | exact HK.out | rfl) (grown_trans g0.out hg) ⟨⟨s1, s2, s3⟩, rfl, hs⟩

set_option maxRecDepth 100000 in
set_option maxHeartbeats 40000000 in
theorem dims_sliced (n : Nod) (A : At) (u : Sl) (v0 : Val) (x : List Int) (w : World) (hop : n.op ∈ ([⟨#[83, 108, 105, 99, 101]⟩] : List ByteArray)) (hn : NodeOk w n A) (hv : ValsIn w u.v [(v0, x)]) (hf : Fine x) : Calls Tryz.prog 75 #[nval n, .slice u.a u.n u.c] w (Ended w (slicedP A x) DimsQ) := by
  obtain ⟨xa, xc, e1, q1, q2, q3⟩ := hv.vals.form
  simp only [List.map_cons, List.map_nil, List.length_cons, List.length_nil, Nat.zero_add] at e1 q1 q3
  obtain ⟨ua, un, uc⟩ := u
  simp only [Sl.v, Value.slice.injEq] at e1
  obtain ⟨rfl, rfl, rfl⟩ := e1
  obtain ⟨b, off, rfl⟩ := hv.vals.addr (k := 0) (by simp)
  obtain ⟨-, z0⟩ := hv.at 0 (by simp)
  rw [Nat.zero_mul, Nat.add_zero] at z0
  simp only [List.getElem_cons_zero] at z0
  have HX := hide (hv.dims (v0, x) (by simp))
  obtain ⟨vn0, vt0, ⟨d0a, d0n, d0c⟩⟩ := v0
  simp only at z0 HX
  have Z0 := hide z0
  clear hv z0
  have NK := hide hn
  obtain ⟨op, nam, ⟨ia, il, ic⟩, out, ⟨ao, al, cap⟩⟩ := n
  unfold nval
  simp only
  obtain ⟨w0, hw0⟩ : ∃ w0, w0 = w.alloc (.cells #[.string op, .string nam, .slice ia il ic, .string out, .slice ao al cap] 25) := ⟨_, rfl⟩
  have g0 : Hid (w.grownBy w0 none) := by show w.grownBy w0 none; rw [hw0]; exact grown_new _ _
  have hb0 := heap_alloc_new w (.cells #[.string op, .string nam, .slice ia il ic, .string out, .slice ao al cap] 25)
  rw [← hw0] at hb0
  have BX : Hid (∀ wx, w0.grownBy wx none → wx.heap[w.heap.size]? = some (.cells #[.string op, .string nam, .slice ia il ic, .string out, .slice ao al cap] 25 (0, 0))) := fun wx hg => box_kept hb0 hg
  clear hb0 hn
  simp only at hop
  have z0 : (w.alloc (.cells #[.string op, .string nam, .slice ia il ic, .string out, .slice ao al cap] 25)).cell? ⟨b, off + 2, none⟩ = some (.slice d0a d0n d0c) := cell_still Z0.out (grown_new _ _)
  have C := hide (sliced_any ⟨op, nam, ⟨ia, il, ic⟩, out, ⟨ao, al, cap⟩⟩ A ⟨d0a, d0n, d0c⟩ x w0 (NK.out.more g0.out) (HX.out.more g0.out) hf)
  unfold nval at C
  simp only at C
  simp only [List.mem_cons, List.not_mem_nil, or_false] at hop
  subst hop
  all_goals
    go_enter Tryz.func75, Tryz.ntmps75
    go_wp2_with fail
    rw [← hw0]
    clear hw0
    cases hk : slicedP A x with
    | error c =>
      rw [hk] at C
      have HK := hide hk
      clear hk
      refine C.out.mono ?_
      rintro e w' ⟨hg, rfl⟩
      exact ⟨rfl, ended_err (by first | exact HK.out | rfl) (grown_trans g0.out hg)⟩
    | ok zs =>
      rw [hk] at C
      have HK := hide hk
      clear hk
      refine C.out.mono ?_
      rintro e w' ⟨hg, v, rfl, ⟨s1, s2, s3⟩, rfl, hs⟩
      simp only [Sl.v]
      go_wp2
      go_ret
      exact ended_ok (by first | exact HK.out | rfl) (grown_trans g0.out hg) ⟨⟨s1, s2, s3⟩, rfl, hs⟩

set_option maxRecDepth 100000 in
set_option maxHeartbeats 40000000 in
theorem dims_flattened (n : Nod) (A : At) (u : Sl) (v0 : Val) (x : List Int) (w : World) (hop : n.op ∈ ([⟨#[70, 108, 97, 116, 116, 101, 110]⟩] : List ByteArray)) (hn : NodeOk w n A) (hv : ValsIn w u.v [(v0, x)]) (hf : Fine x) : Calls Tryz.prog 75 #[nval n, .slice u.a u.n u.c] w (Ended w (flattenedP A x) DimsQ) := by
  obtain ⟨xa, xc, e1, q1, q2, q3⟩ := hv.vals.form
  simp only [List.map_cons, List.map_nil, List.length_cons, List.length_nil, Nat.zero_add] at e1 q1 q3
  obtain ⟨ua, un, uc⟩ := u
  simp only [Sl.v, Value.slice.injEq] at e1
  obtain ⟨rfl, rfl, rfl⟩ := e1
  obtain ⟨b, off, rfl⟩ := hv.vals.addr (k := 0) (by simp)
  obtain ⟨-, z0⟩ := hv.at 0 (by simp)
  rw [Nat.zero_mul, Nat.add_zero] at z0
  simp only [List.getElem_cons_zero] at z0
  have HX := hide (hv.dims (v0, x) (by simp))
  obtain ⟨vn0, vt0, ⟨d0a, d0n, d0c⟩⟩ := v0
  simp only at z0 HX
  have Z0 := hide z0
  clear hv z0
  have NK := hide hn
  obtain ⟨op, nam, ⟨ia, il, ic⟩, out, ⟨ao, al, cap⟩⟩ := n
  unfold nval
  simp only
  obtain ⟨w0, hw0⟩ : ∃ w0, w0 = w.alloc (.cells #[.string op, .string nam, .slice ia il ic, .string out, .slice ao al cap] 25) := ⟨_, rfl⟩
  have g0 : Hid (w.grownBy w0 none) := by show w.grownBy w0 none; rw [hw0]; exact grown_new _ _
  have hb0 := heap_alloc_new w (.cells #[.string op, .string nam, .slice ia il ic, .string out, .slice ao al cap] 25)
  rw [← hw0] at hb0
  have BX : Hid (∀ wx, w0.grownBy wx none → wx.heap[w.heap.size]? = some (.cells #[.string op, .string nam, .slice ia il ic, .string out, .slice ao al cap] 25 (0, 0))) := fun wx hg => box_kept hb0 hg
  clear hb0 hn
  simp only at hop
  have z0 : (w.alloc (.cells #[.string op, .string nam, .slice ia il ic, .string out, .slice ao al cap] 25)).cell? ⟨b, off + 2, none⟩ = some (.slice d0a d0n d0c) := cell_still Z0.out (grown_new _ _)
  have C := hide (flattened_any ⟨op, nam, ⟨ia, il, ic⟩, out, ⟨ao, al, cap⟩⟩ A ⟨d0a, d0n, d0c⟩ x w0 (NK.out.more g0.out) (HX.out.more g0.out) hf)
  unfold nval at C
  simp only at C
  simp only [List.mem_cons, List.not_mem_nil, or_false] at hop
  subst hop
  all_goals
    go_enter Tryz.func75, Tryz.ntmps75
    go_wp2_with fail
    rw [← hw0]
    clear hw0
    cases hk : flattenedP A x with
    | error c =>
      rw [hk] at C
      have HK := hide hk
      clear hk
      refine C.out.mono ?_
      rintro e w' ⟨hg, rfl⟩
      exact ⟨rfl, ended_err (by first | exact HK.out | rfl) (grown_trans g0.out hg)⟩
    | ok zs =>
      rw [hk] at C
      have HK := hide hk
      clear hk
      refine C.out.mono ?_
      rintro e w' ⟨hg, v, rfl, ⟨s1, s2, s3⟩, rfl, hs⟩
      simp only [Sl.v]
      go_wp2
      go_ret
      exact ended_ok (by first | exact HK.out | rfl) (grown_trans g0.out hg) ⟨⟨s1, s2, s3⟩, rfl, hs⟩

set_option maxRecDepth 100000 in
set_option maxHeartbeats 40000000 in
theorem dims_pooled (n : Nod) (A : At) (u : Sl) (v0 : Val) (x : List Int) (w : World) (hop : n.op ∈ ([⟨#[77, 97, 120, 80, 111, 111, 108]⟩, ⟨#[65, 118, 101, 114, 97, 103, 101, 80, 111, 111, 108]⟩] : List ByteArray)) (hn : NodeOk w n A) (hv : ValsIn w u.v [(v0, x)]) (hf : Fine x) : Calls Tryz.prog 75 #[nval n, .slice u.a u.n u.c] w (Ended w (pooledP A x) DimsQ) := by
  obtain ⟨xa, xc, e1, q1, q2, q3⟩ := hv.vals.form
  simp only [List.map_cons, List.map_nil, List.length_cons, List.length_nil, Nat.zero_add] at e1 q1 q3
  obtain ⟨ua, un, uc⟩ := u
  simp only [Sl.v, Value.slice.injEq] at e1
  obtain ⟨rfl, rfl, rfl⟩ := e1
  obtain ⟨b, off, rfl⟩ := hv.vals.addr (k := 0) (by simp)
  obtain ⟨-, z0⟩ := hv.at 0 (by simp)
  rw [Nat.zero_mul, Nat.add_zero] at z0
  simp only [List.getElem_cons_zero] at z0
  have HX := hide (hv.dims (v0, x) (by simp))
  obtain ⟨vn0, vt0, ⟨d0a, d0n, d0c⟩⟩ := v0
  simp only at z0 HX
  have Z0 := hide z0
  clear hv z0
  have NK := hide hn
  obtain ⟨op, nam, ⟨ia, il, ic⟩, out, ⟨ao, al, cap⟩⟩ := n
  unfold nval
  simp only
  obtain ⟨w0, hw0⟩ : ∃ w0, w0 = w.alloc (.cells #[.string op, .string nam, .slice ia il ic, .string out, .slice ao al cap] 25) := ⟨_, rfl⟩
  have g0 : Hid (w.grownBy w0 none) := by show w.grownBy w0 none; rw [hw0]; exact grown_new _ _
  have hb0 := heap_alloc_new w (.cells #[.string op, .string nam, .slice ia il ic, .string out, .slice ao al cap] 25)
  rw [← hw0] at hb0
  have BX : Hid (∀ wx, w0.grownBy wx none → wx.heap[w.heap.size]? = some (.cells #[.string op, .string nam, .slice ia il ic, .string out, .slice ao al cap] 25 (0, 0))) := fun wx hg => box_kept hb0 hg
  clear hb0 hn
  simp only at hop
  have z0 : (w.alloc (.cells #[.string op, .string nam, .slice ia il ic, .string out, .slice ao al cap] 25)).cell? ⟨b, off + 2, none⟩ = some (.slice d0a d0n d0c) := cell_still Z0.out (grown_new _ _)
  have C := hide (pooled_any ⟨op, nam, ⟨ia, il, ic⟩, out, ⟨ao, al, cap⟩⟩ A ⟨d0a, d0n, d0c⟩ x w0 (NK.out.more g0.out) (HX.out.more g0.out) hf)
  unfold nval at C
  simp only at C
  simp only [List.mem_cons, List.not_mem_nil, or_false] at hop
  rcases hop with rfl | rfl
  all_goals
    go_enter Tryz.func75, Tryz.ntmps75
    go_wp2_with fail
    rw [← hw0]
    clear hw0
    cases hk : pooledP A x with
    | error c =>
      rw [hk] at C
      have HK := hide hk
      clear hk
      refine C.out.mono ?_
      rintro e w' ⟨hg, rfl⟩
      exact ⟨rfl, ended_err (by first | exact HK.out | rfl) (grown_trans g0.out hg)⟩
    | ok zs =>
      rw [hk] at C
      have HK := hide hk
      clear hk
      refine C.out.mono ?_
      rintro e w' ⟨hg, v, rfl, ⟨s1, s2, s3⟩, rfl, hs⟩
      simp only [Sl.v]
      go_wp2
      go_ret
      exact ended_ok (by first | exact HK.out | rfl) (grown_trans g0.out hg) ⟨⟨s1, s2, s3⟩, rfl, hs⟩

set_option maxRecDepth 100000 in
set_option maxHeartbeats 40000000 in
theorem dims_product (n : Nod) (A : At) (u : Sl) (v0 v1 : Val) (x y : List Int) (w : World) (hop : n.op ∈ ([⟨#[77, 97, 116, 77, 117, 108]⟩] : List ByteArray)) (hn : NodeOk w n A) (hv : ValsIn w u.v [(v0, x), (v1, y)]) (hf : Fine x) (hfy : Fine y) : Calls Tryz.prog 75 #[nval n, .slice u.a u.n u.c] w (Ended w (productP x y) DimsQ) := by
  obtain ⟨xa, xc, e1, q1, q2, q3⟩ := hv.vals.form
  simp only [List.map_cons, List.map_nil, List.length_cons, List.length_nil, Nat.zero_add, Nat.reduceAdd] at e1 q1 q3
  obtain ⟨ua, un, uc⟩ := u
  simp only [Sl.v, Value.slice.injEq] at e1
  obtain ⟨rfl, rfl, rfl⟩ := e1
  obtain ⟨b, off, rfl⟩ := hv.vals.addr (k := 0) (by simp)
  obtain ⟨-, z0⟩ := hv.at 0 (by simp)
  rw [Nat.zero_mul, Nat.add_zero] at z0
  simp only [List.getElem_cons_zero] at z0
  have HX := hide (hv.dims (v0, x) (by simp))
  obtain ⟨-, z1⟩ := hv.at 1 (by simp)
  rw [Nat.one_mul] at z1
  simp only [List.getElem_cons_zero, List.getElem_cons_succ] at z1
  have HY := hide (hv.dims (v1, y) (by simp))
  obtain ⟨vn1, vt1, ⟨d1a, d1n, d1c⟩⟩ := v1
  simp only at z1 HY
  have Z1 := hide z1
  clear z1
  obtain ⟨vn0, vt0, ⟨d0a, d0n, d0c⟩⟩ := v0
  simp only at z0 HX
  have Z0 := hide z0
  clear hv z0
  have NK := hide hn
  obtain ⟨op, nam, ⟨ia, il, ic⟩, out, ⟨ao, al, cap⟩⟩ := n
  unfold nval
  simp only
  obtain ⟨w0, hw0⟩ : ∃ w0, w0 = w.alloc (.cells #[.string op, .string nam, .slice ia il ic, .string out, .slice ao al cap] 25) := ⟨_, rfl⟩
  have g0 : Hid (w.grownBy w0 none) := by show w.grownBy w0 none; rw [hw0]; exact grown_new _ _
  have hb0 := heap_alloc_new w (.cells #[.string op, .string nam, .slice ia il ic, .string out, .slice ao al cap] 25)
  rw [← hw0] at hb0
  have BX : Hid (∀ wx, w0.grownBy wx none → wx.heap[w.heap.size]? = some (.cells #[.string op, .string nam, .slice ia il ic, .string out, .slice ao al cap] 25 (0, 0))) := fun wx hg => box_kept hb0 hg
  clear hb0 hn
  simp only at hop
  have z0 : (w.alloc (.cells #[.string op, .string nam, .slice ia il ic, .string out, .slice ao al cap] 25)).cell? ⟨b, off + 2, none⟩ = some (.slice d0a d0n d0c) := cell_still Z0.out (grown_new _ _)
  have z1 : (w.alloc (.cells #[.string op, .string nam, .slice ia il ic, .string out, .slice ao al cap] 25)).cell? ⟨b, off + 3 + 2, none⟩ = some (.slice d1a d1n d1c) := cell_still Z1.out (grown_new _ _)
  have C := hide (product_any ⟨d0a, d0n, d0c⟩ ⟨d1a, d1n, d1c⟩ x y w0 (HX.out.more g0.out) (HY.out.more g0.out) hf.few hfy.few)
  simp only at C
  simp only [List.mem_cons, List.not_mem_nil, or_false] at hop
  subst hop
  all_goals
    go_enter Tryz.func75, Tryz.ntmps75
    go_wp2_with fail
    rw [← hw0]
    clear hw0
    cases hk : productP x y with
    | error c =>
      rw [hk] at C
      have HK := hide hk
      clear hk
      refine C.out.mono ?_
      rintro e w' ⟨hg, rfl⟩
      exact ⟨rfl, ended_err (by first | exact HK.out | rfl) (grown_trans g0.out hg)⟩
    | ok zs =>
      rw [hk] at C
      have HK := hide hk
      clear hk
      refine C.out.mono ?_
      rintro e w' ⟨hg, v, rfl, ⟨s1, s2, s3⟩, rfl, hs⟩
      simp only [Sl.v]
      go_wp2
      go_ret
      exact ended_ok (by first | exact HK.out | rfl) (grown_trans g0.out hg) ⟨⟨s1, s2, s3⟩, rfl, hs⟩

set_option maxRecDepth 100000 in
set_option maxHeartbeats 40000000 in
theorem dims_reshape (n : Nod) (A : At) (u : Sl) (v0 : Val) (x : List Int) (w : World) (hop : n.op ∈ ([⟨#[82, 101, 115, 104, 97, 112, 101]⟩] : List ByteArray)) (hn : NodeOk w n A) (hv : ValsIn w u.v [(v0, x)]) (hf : Fine x) (hll : (A.ints ⟨#[115, 104, 97, 112, 101]⟩ []).length ≤ 100000000) : Calls Tryz.prog 75 #[nval n, .slice u.a u.n u.c] w (Ended w (reshapedP x (A.ints ⟨#[115, 104, 97, 112, 101]⟩ [])) DimsQ) := by
  obtain ⟨xa, xc, e1, q1, q2, q3⟩ := hv.vals.form
  simp only [List.map_cons, List.map_nil, List.length_cons, List.length_nil, Nat.zero_add] at e1 q1 q3
  obtain ⟨ua, un, uc⟩ := u
  simp only [Sl.v, Value.slice.injEq] at e1
  obtain ⟨rfl, rfl, rfl⟩ := e1
  obtain ⟨b, off, rfl⟩ := hv.vals.addr (k := 0) (by simp)
  obtain ⟨-, z0⟩ := hv.at 0 (by simp)
  rw [Nat.zero_mul, Nat.add_zero] at z0
  simp only [List.getElem_cons_zero] at z0
  have HX := hide (hv.dims (v0, x) (by simp))
  obtain ⟨vn0, vt0, ⟨d0a, d0n, d0c⟩⟩ := v0
  simp only at z0 HX
  have Z0 := hide z0
  clear hv z0
  have NK := hide hn
  obtain ⟨op, nam, ⟨ia, il, ic⟩, out, ⟨ao, al, cap⟩⟩ := n
  unfold nval
  simp only
  obtain ⟨w0, hw0⟩ : ∃ w0, w0 = w.alloc (.cells #[.string op, .string nam, .slice ia il ic, .string out, .slice ao al cap] 25) := ⟨_, rfl⟩
  have g0 : Hid (w.grownBy w0 none) := by show w.grownBy w0 none; rw [hw0]; exact grown_new _ _
  have hb0 := heap_alloc_new w (.cells #[.string op, .string nam, .slice ia il ic, .string out, .slice ao al cap] 25)
  rw [← hw0] at hb0
  have BX : Hid (∀ wx, w0.grownBy wx none → wx.heap[w.heap.size]? = some (.cells #[.string op, .string nam, .slice ia il ic, .string out, .slice ao al cap] 25 (0, 0))) := fun wx hg => box_kept hb0 hg
  clear hb0 hn
  simp only at hop
  have z0 : (w.alloc (.cells #[.string op, .string nam, .slice ia il ic, .string out, .slice ao al cap] 25)).cell? ⟨b, off + 2, none⟩ = some (.slice d0a d0n d0c) := cell_still Z0.out (grown_new _ _)
  have NI := hide (nints_any ⟨op, nam, ⟨ia, il, ic⟩, out, ⟨ao, al, cap⟩⟩ A ⟨#[115, 104, 97, 112, 101]⟩ ⟨none, 0, 0⟩ [] w0 (NK.out.more g0.out) ⟨none, 0, rfl, Nat.le_refl _, by decide, by simp, fun _ => ⟨rfl, rfl⟩, fun h => (by simp at h), fun z hz => (by simp at hz)⟩)
  unfold nval at NI
  simp only at NI
  simp only [List.mem_cons, List.not_mem_nil, or_false] at hop
  subst hop
  all_goals
    go_enter Tryz.func75, Tryz.ntmps75
    go_wp2_with fail
    rw [← hw0]
    clear hw0
    refine NI.out.mono ?_
    rintro e w1 ⟨⟨l1, l2, l3⟩, rfl, hl, hg1⟩
    have C := hide (reshaped_any ⟨d0a, d0n, d0c⟩ ⟨l1, l2, l3⟩ x _ w1 (HX.out.more (grown_trans g0.out hg1)) hl hf hll)
    have G1 := hide (grown_trans g0.out hg1)
    simp only [Sl.v] at C ⊢
    clear hl hg1 NI
    cases hk : reshapedP x (A.ints ⟨#[115, 104, 97, 112, 101]⟩ []) with
    | error c =>
      rw [hk] at C
      have HK := hide hk
      clear hk
      go_wp2_with (first | (go_at_call 111; refine C.out.mono ?_; rintro e w' ⟨hg, rfl⟩) | fail)
      exact ⟨rfl, ended_err (by first | exact HK.out | rfl) (grown_trans G1.out hg)⟩
    | ok zs =>
      rw [hk] at C
      have HK := hide hk
      clear hk
      go_wp2_with (first | (go_at_call 111; refine C.out.mono ?_; rintro e w' ⟨hg, v, rfl, ⟨s1, s2, s3⟩, rfl, hs⟩; simp only [Sl.v]) | fail)
      go_ret
      exact ended_ok (by first | exact HK.out | rfl) (grown_trans G1.out hg) ⟨⟨s1, s2, s3⟩, rfl, hs⟩

set_option maxRecDepth 100000 in
set_option maxHeartbeats 40000000 in
theorem dims_pad (n : Nod) (A : At) (u : Sl) (v0 : Val) (x : List Int) (w : World) (hop : n.op ∈ ([⟨#[80, 97, 100]⟩] : List ByteArray)) (hn : NodeOk w n A) (hv : ValsIn w u.v [(v0, x)]) (hf : Fine x) : Calls Tryz.prog 75 #[nval n, .slice u.a u.n u.c] w (Ended w (paddedP x (A.ints ⟨#[112, 97, 100, 115]⟩ [])) DimsQ) := by
  obtain ⟨xa, xc, e1, q1, q2, q3⟩ := hv.vals.form
  simp only [List.map_cons, List.map_nil, List.length_cons, List.length_nil, Nat.zero_add] at e1 q1 q3
  obtain ⟨ua, un, uc⟩ := u
  simp only [Sl.v, Value.slice.injEq] at e1
  obtain ⟨rfl, rfl, rfl⟩ := e1
  obtain ⟨b, off, rfl⟩ := hv.vals.addr (k := 0) (by simp)
  obtain ⟨-, z0⟩ := hv.at 0 (by simp)
  rw [Nat.zero_mul, Nat.add_zero] at z0
  simp only [List.getElem_cons_zero] at z0
  have HX := hide (hv.dims (v0, x) (by simp))
  obtain ⟨vn0, vt0, ⟨d0a, d0n, d0c⟩⟩ := v0
  simp only at z0 HX
  have Z0 := hide z0
  clear hv z0
  have NK := hide hn
  obtain ⟨op, nam, ⟨ia, il, ic⟩, out, ⟨ao, al, cap⟩⟩ := n
  unfold nval
  simp only
  obtain ⟨w0, hw0⟩ : ∃ w0, w0 = w.alloc (.cells #[.string op, .string nam, .slice ia il ic, .string out, .slice ao al cap] 25) := ⟨_, rfl⟩
  have g0 : Hid (w.grownBy w0 none) := by show w.grownBy w0 none; rw [hw0]; exact grown_new _ _
  have hb0 := heap_alloc_new w (.cells #[.string op, .string nam, .slice ia il ic, .string out, .slice ao al cap] 25)
  rw [← hw0] at hb0
  have BX : Hid (∀ wx, w0.grownBy wx none → wx.heap[w.heap.size]? = some (.cells #[.string op, .string nam, .slice ia il ic, .string out, .slice ao al cap] 25 (0, 0))) := fun wx hg => box_kept hb0 hg
  clear hb0 hn
  simp only at hop
  have z0 : (w.alloc (.cells #[.string op, .string nam, .slice ia il ic, .string out, .slice ao al cap] 25)).cell? ⟨b, off + 2, none⟩ = some (.slice d0a d0n d0c) := cell_still Z0.out (grown_new _ _)
  have NI := hide (nints_any ⟨op, nam, ⟨ia, il, ic⟩, out, ⟨ao, al, cap⟩⟩ A ⟨#[112, 97, 100, 115]⟩ ⟨none, 0, 0⟩ [] w0 (NK.out.more g0.out) ⟨none, 0, rfl, Nat.le_refl _, by decide, by simp, fun _ => ⟨rfl, rfl⟩, fun h => (by simp at h), fun z hz => (by simp at hz)⟩)
  unfold nval at NI
  simp only at NI
  simp only [List.mem_cons, List.not_mem_nil, or_false] at hop
  subst hop
  all_goals
    go_enter Tryz.func75, Tryz.ntmps75
    go_wp2_with fail
    rw [← hw0]
    clear hw0
    refine NI.out.mono ?_
    rintro e w1 ⟨⟨l1, l2, l3⟩, rfl, hl, hg1⟩
    have C := hide (padded_any ⟨d0a, d0n, d0c⟩ ⟨l1, l2, l3⟩ x _ w1 (HX.out.more (grown_trans g0.out hg1)) hl hf)
    have G1 := hide (grown_trans g0.out hg1)
    simp only [Sl.v] at C ⊢
    clear hl hg1 NI
    cases hk : paddedP x (A.ints ⟨#[112, 97, 100, 115]⟩ []) with
    | error c =>
      rw [hk] at C
      have HK := hide hk
      clear hk
      go_wp2_with (first | (go_at_call 119; refine C.out.mono ?_; rintro e w' ⟨hg, rfl⟩) | fail)
      exact ⟨rfl, ended_err (by first | exact HK.out | rfl) (grown_trans G1.out hg)⟩
    | ok zs =>
      rw [hk] at C
      have HK := hide hk
      clear hk
      go_wp2_with (first | (go_at_call 119; refine C.out.mono ?_; rintro e w' ⟨hg, v, rfl, ⟨s1, s2, s3⟩, rfl, hs⟩; simp only [Sl.v]) | fail)
      go_ret
      exact ended_ok (by first | exact HK.out | rfl) (grown_trans G1.out hg) ⟨⟨s1, s2, s3⟩, rfl, hs⟩

set_option maxRecDepth 100000 in
set_option maxHeartbeats 40000000 in
theorem dims_squeeze (n : Nod) (A : At) (u : Sl) (v0 : Val) (x : List Int) (w : World) (hop : n.op ∈ ([⟨#[83, 113, 117, 101, 101, 122, 101]⟩] : List ByteArray)) (hn : NodeOk w n A) (hv : ValsIn w u.v [(v0, x)]) (hf : Fine x) : Calls Tryz.prog 75 #[nval n, .slice u.a u.n u.c] w (Ended w (squeezedP x (A.ints ⟨#[97, 120, 101, 115]⟩ [])) DimsQ) := by
  obtain ⟨xa, xc, e1, q1, q2, q3⟩ := hv.vals.form
  simp only [List.map_cons, List.map_nil, List.length_cons, List.length_nil, Nat.zero_add] at e1 q1 q3
  obtain ⟨ua, un, uc⟩ := u
  simp only [Sl.v, Value.slice.injEq] at e1
  obtain ⟨rfl, rfl, rfl⟩ := e1
  obtain ⟨b, off, rfl⟩ := hv.vals.addr (k := 0) (by simp)
  obtain ⟨-, z0⟩ := hv.at 0 (by simp)
  rw [Nat.zero_mul, Nat.add_zero] at z0
  simp only [List.getElem_cons_zero] at z0
  have HX := hide (hv.dims (v0, x) (by simp))
  obtain ⟨vn0, vt0, ⟨d0a, d0n, d0c⟩⟩ := v0
  simp only at z0 HX
  have Z0 := hide z0
  clear hv z0
  have NK := hide hn
  obtain ⟨op, nam, ⟨ia, il, ic⟩, out, ⟨ao, al, cap⟩⟩ := n
  unfold nval
  simp only
  obtain ⟨w0, hw0⟩ : ∃ w0, w0 = w.alloc (.cells #[.string op, .string nam, .slice ia il ic, .string out, .slice ao al cap] 25) := ⟨_, rfl⟩
  have g0 : Hid (w.grownBy w0 none) := by show w.grownBy w0 none; rw [hw0]; exact grown_new _ _
  have hb0 := heap_alloc_new w (.cells #[.string op, .string nam, .slice ia il ic, .string out, .slice ao al cap] 25)
  rw [← hw0] at hb0
  have BX : Hid (∀ wx, w0.grownBy wx none → wx.heap[w.heap.size]? = some (.cells #[.string op, .string nam, .slice ia il ic, .string out, .slice ao al cap] 25 (0, 0))) := fun wx hg => box_kept hb0 hg
  clear hb0 hn
  simp only at hop
  have z0 : (w.alloc (.cells #[.string op, .string nam, .slice ia il ic, .string out, .slice ao al cap] 25)).cell? ⟨b, off + 2, none⟩ = some (.slice d0a d0n d0c) := cell_still Z0.out (grown_new _ _)
  have NI := hide (nints_any ⟨op, nam, ⟨ia, il, ic⟩, out, ⟨ao, al, cap⟩⟩ A ⟨#[97, 120, 101, 115]⟩ ⟨none, 0, 0⟩ [] w0 (NK.out.more g0.out) ⟨none, 0, rfl, Nat.le_refl _, by decide, by simp, fun _ => ⟨rfl, rfl⟩, fun h => (by simp at h), fun z hz => (by simp at hz)⟩)
  unfold nval at NI
  simp only at NI
  simp only [List.mem_cons, List.not_mem_nil, or_false] at hop
  subst hop
  all_goals
    go_enter Tryz.func75, Tryz.ntmps75
    go_wp2_with fail
    rw [← hw0]
    clear hw0
    refine NI.out.mono ?_
    rintro e w1 ⟨⟨l1, l2, l3⟩, rfl, hl, hg1⟩
    have C := hide (squeezed_any ⟨d0a, d0n, d0c⟩ ⟨l1, l2, l3⟩ x _ w1 (HX.out.more (grown_trans g0.out hg1)) hl hf)
    have G1 := hide (grown_trans g0.out hg1)
    simp only [Sl.v] at C ⊢
    clear hl hg1 NI
    cases hk : squeezedP x (A.ints ⟨#[97, 120, 101, 115]⟩ []) with
    | error c =>
      rw [hk] at C
      have HK := hide hk
      clear hk
      go_wp2_with (first | (go_at_call 120; refine C.out.mono ?_; rintro e w' ⟨hg, rfl⟩) | fail)
      exact ⟨rfl, ended_err (by first | exact HK.out | rfl) (grown_trans G1.out hg)⟩
    | ok zs =>
      rw [hk] at C
      have HK := hide hk
      clear hk
      go_wp2_with (first | (go_at_call 120; refine C.out.mono ?_; rintro e w' ⟨hg, v, rfl, ⟨s1, s2, s3⟩, rfl, hs⟩; simp only [Sl.v]) | fail)
      go_ret
      exact ended_ok (by first | exact HK.out | rfl) (grown_trans G1.out hg) ⟨⟨s1, s2, s3⟩, rfl, hs⟩

set_option maxRecDepth 100000 in
set_option maxHeartbeats 40000000 in
theorem dims_unsqueeze (n : Nod) (A : At) (u : Sl) (v0 : Val) (x : List Int) (w : World) (hop : n.op ∈ ([⟨#[85, 110, 115, 113, 117, 101, 101, 122, 101]⟩] : List ByteArray)) (hn : NodeOk w n A) (hv : ValsIn w u.v [(v0, x)]) (hf : Fine x) (hll : (A.ints ⟨#[97, 120, 101, 115]⟩ []).length ≤ 100000000) : Calls Tryz.prog 75 #[nval n, .slice u.a u.n u.c] w (Ended w (unsqueezedP x (A.ints ⟨#[97, 120, 101, 115]⟩ [])) DimsQ) := by
  obtain ⟨xa, xc, e1, q1, q2, q3⟩ := hv.vals.form
  simp only [List.map_cons, List.map_nil, List.length_cons, List.length_nil, Nat.zero_add] at e1 q1 q3
  obtain ⟨ua, un, uc⟩ := u
  simp only [Sl.v, Value.slice.injEq] at e1
  obtain ⟨rfl, rfl, rfl⟩ := e1
  obtain ⟨b, off, rfl⟩ := hv.vals.addr (k := 0) (by simp)
  obtain ⟨-, z0⟩ := hv.at 0 (by simp)
  rw [Nat.zero_mul, Nat.add_zero] at z0
  simp only [List.getElem_cons_zero] at z0
  have HX := hide (hv.dims (v0, x) (by simp))
  obtain ⟨vn0, vt0, ⟨d0a, d0n, d0c⟩⟩ := v0
  simp only at z0 HX
  have Z0 := hide z0
  clear hv z0
  have NK := hide hn
  obtain ⟨op, nam, ⟨ia, il, ic⟩, out, ⟨ao, al, cap⟩⟩ := n
  unfold nval
  simp only
  obtain ⟨w0, hw0⟩ : ∃ w0, w0 = w.alloc (.cells #[.string op, .string nam, .slice ia il ic, .string out, .slice ao al cap] 25) := ⟨_, rfl⟩
  have g0 : Hid (w.grownBy w0 none) := by show w.grownBy w0 none; rw [hw0]; exact grown_new _ _
  have hb0 := heap_alloc_new w (.cells #[.string op, .string nam, .slice ia il ic, .string out, .slice ao al cap] 25)
  rw [← hw0] at hb0
  have BX : Hid (∀ wx, w0.grownBy wx none → wx.heap[w.heap.size]? = some (.cells #[.string op, .string nam, .slice ia il ic, .string out, .slice ao al cap] 25 (0, 0))) := fun wx hg => box_kept hb0 hg
  clear hb0 hn
  simp only at hop
  have z0 : (w.alloc (.cells #[.string op, .string nam, .slice ia il ic, .string out, .slice ao al cap] 25)).cell? ⟨b, off + 2, none⟩ = some (.slice d0a d0n d0c) := cell_still Z0.out (grown_new _ _)
  have NI := hide (nints_any ⟨op, nam, ⟨ia, il, ic⟩, out, ⟨ao, al, cap⟩⟩ A ⟨#[97, 120, 101, 115]⟩ ⟨none, 0, 0⟩ [] w0 (NK.out.more g0.out) ⟨none, 0, rfl, Nat.le_refl _, by decide, by simp, fun _ => ⟨rfl, rfl⟩, fun h => (by simp at h), fun z hz => (by simp at hz)⟩)
  unfold nval at NI
  simp only at NI
  simp only [List.mem_cons, List.not_mem_nil, or_false] at hop
  subst hop
  all_goals
    go_enter Tryz.func75, Tryz.ntmps75
    go_wp2_with fail
    rw [← hw0]
    clear hw0
    refine NI.out.mono ?_
    rintro e w1 ⟨⟨l1, l2, l3⟩, rfl, hl, hg1⟩
    have C := hide (unsqueezed_any ⟨d0a, d0n, d0c⟩ ⟨l1, l2, l3⟩ x _ w1 (HX.out.more (grown_trans g0.out hg1)) hl hf hll)
    have G1 := hide (grown_trans g0.out hg1)
    simp only [Sl.v] at C ⊢
    clear hl hg1 NI
    cases hk : unsqueezedP x (A.ints ⟨#[97, 120, 101, 115]⟩ []) with
    | error c =>
      rw [hk] at C
      have HK := hide hk
      clear hk
      go_wp2_with (first | (go_at_call 121; refine C.out.mono ?_; rintro e w' ⟨hg, rfl⟩) | fail)
      exact ⟨rfl, ended_err (by first | exact HK.out | rfl) (grown_trans G1.out hg)⟩
    | ok zs =>
      rw [hk] at C
      have HK := hide hk
      clear hk
      go_wp2_with (first | (go_at_call 121; refine C.out.mono ?_; rintro e w' ⟨hg, v, rfl, ⟨s1, s2, s3⟩, rfl, hs⟩; simp only [Sl.v]) | fail)
      go_ret
      exact ended_ok (by first | exact HK.out | rfl) (grown_trans G1.out hg) ⟨⟨s1, s2, s3⟩, rfl, hs⟩

end Go.Proofs.YteigfipgmghgmaaGreatDoor
