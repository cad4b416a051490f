/- Joined texts: IDm, IDm2, IWhere, IJoin, IDm3. -/
import Derived.Test.YtdcbjikjeicgbaaGreatDoorPartN
import Derived.Test.YtdcbjikjeicgbaaGreatDoorPartO
import Derived.Test.YtdcbjikjeicgbaaGreatDoorPartP
import Derived.Test.YtdcbjikjeicgbaaGreatDoorPartJ
/- Which dims a node makes, an operator at a time (mkIDm.py). -/
namespace Go.Proofs.YtdcbjikjeicgbaaGreatDoor
open Go.RowKit

set_option maxRecDepth 100000 in
set_option maxHeartbeats 40000000 in
theorem dims_x (n : Nod) (A : At) (u : Sl) (v0 : Val) (x : List Int) (w : World) (hop : n.op ∈ ([⟨#[73, 100, 101, 110, 116, 105, 116, 121]⟩, ⟨#[78, 101, 103]⟩, ⟨#[65, 98, 115]⟩, ⟨#[78, 111, 116]⟩, ⟨#[82, 101, 108, 117]⟩, ⟨#[83, 113, 114, 116]⟩, ⟨#[70, 108, 111, 111, 114]⟩, ⟨#[69, 120, 112]⟩, ⟨#[83, 105, 103, 109, 111, 105, 100]⟩, ⟨#[84, 97, 110, 104]⟩, ⟨#[67, 108, 105, 112]⟩, ⟨#[67, 97, 115, 116]⟩] : List ByteArray)) (hn : NodeOk w n A) (hv : ValsIn w u.v [(v0, x)])  : Calls Tryz.prog 49 #[nval n, .slice u.a u.n u.c] w (Ended w (.ok x) DimsQ) := by
  obtain ⟨xa, xc, e1, q1, q2, q3⟩ := hv.vals.form
  simp only [List.map_cons, List.map_nil, List.length_cons, List.length_nil, Nat.zero_add] at e1 q1 q3
  obtain ⟨ua, un, uc⟩ := u
  simp only [Sl.v, Value.slice.injEq] at e1
  obtain ⟨rfl, rfl, rfl⟩ := e1
  obtain ⟨b, off, rfl⟩ := hv.vals.addr (k := 0) (by simp)
  obtain ⟨-, z0⟩ := hv.at 0 (by simp)
  rw [Nat.zero_mul, Nat.add_zero] at z0
  simp only [List.getElem_cons_zero] at z0
  have HX := hide (hv.dims (v0, x) (by simp))
  obtain ⟨vn0, vt0, ⟨d0a, d0n, d0c⟩⟩ := v0
  simp only at z0 HX
  have Z0 := hide z0
  clear hv z0
  have NK := hide hn
  obtain ⟨op, nam, ⟨ia, il, ic⟩, out, ⟨ao, al, cap⟩⟩ := n
  unfold nval
  simp only
  obtain ⟨w0, hw0⟩ : ∃ w0, w0 = w.alloc (.cells #[.string op, .string nam, .slice ia il ic, .string out, .slice ao al cap] 25) := ⟨_, rfl⟩
  have g0 : Hid (w.grownBy w0 none) := by show w.grownBy w0 none; rw [hw0]; exact grown_new _ _
  have hb0 := heap_alloc_new w (.cells #[.string op, .string nam, .slice ia il ic, .string out, .slice ao al cap] 25)
  rw [← hw0] at hb0
  have BX : Hid (∀ wx, w0.grownBy wx none → wx.heap[w.heap.size]? = some (.cells #[.string op, .string nam, .slice ia il ic, .string out, .slice ao al cap] 25 (0, 0))) := fun wx hg => box_kept hb0 hg
  clear hb0 hn
  simp only at hop
  have z0 : (w.alloc (.cells #[.string op, .string nam, .slice ia il ic, .string out, .slice ao al cap] 25)).cell? ⟨b, off + 2, none⟩ = some (.slice d0a d0n d0c) := cell_still Z0.out (grown_new _ _)
  simp only [List.mem_cons, List.not_mem_nil, or_false] at hop
  rcases hop with rfl | rfl | rfl | rfl | rfl | rfl | rfl | rfl | rfl | rfl | rfl | rfl
  all_goals
    go_enter Tryz.func49, Tryz.ntmps49
    go_wp2
    go_ret
    exact ended_ok rfl (by rw [← hw0]; exact g0.out) ⟨⟨d0a, d0n, d0c⟩, rfl, HX.out.more (grown_new _ _)⟩

set_option maxRecDepth 100000 in
set_option maxHeartbeats 40000000 in
theorem dims_two (n : Nod) (A : At) (u : Sl) (v0 v1 : Val) (x y : List Int) (w : World) (hop : n.op ∈ ([⟨#[65, 100, 100]⟩, ⟨#[83, 117, 98]⟩, ⟨#[77, 117, 108]⟩, ⟨#[68, 105, 118]⟩, ⟨#[77, 97, 120]⟩, ⟨#[77, 105, 110]⟩, ⟨#[65, 110, 100]⟩, ⟨#[79, 114]⟩, ⟨#[88, 111, 114]⟩, ⟨#[69, 113, 117, 97, 108]⟩, ⟨#[76, 101, 115, 115]⟩, ⟨#[71, 114, 101, 97, 116, 101, 114]⟩] : List ByteArray)) (hn : NodeOk w n A) (hv : ValsIn w u.v [(v0, x), (v1, y)])  : Calls Tryz.prog 49 #[nval n, .slice u.a u.n u.c] w (Ended w (spreadP x y) DimsQ) := by
  obtain ⟨xa, xc, e1, q1, q2, q3⟩ := hv.vals.form
  simp only [List.map_cons, List.map_nil, List.length_cons, List.length_nil, Nat.zero_add, Nat.reduceAdd] at e1 q1 q3
  obtain ⟨ua, un, uc⟩ := u
  simp only [Sl.v, Value.slice.injEq] at e1
  obtain ⟨rfl, rfl, rfl⟩ := e1
  obtain ⟨b, off, rfl⟩ := hv.vals.addr (k := 0) (by simp)
  obtain ⟨-, z0⟩ := hv.at 0 (by simp)
  rw [Nat.zero_mul, Nat.add_zero] at z0
  simp only [List.getElem_cons_zero] at z0
  have HX := hide (hv.dims (v0, x) (by simp))
  obtain ⟨-, z1⟩ := hv.at 1 (by simp)
  rw [Nat.one_mul] at z1
  simp only [List.getElem_cons_zero, List.getElem_cons_succ] at z1
  have HY := hide (hv.dims (v1, y) (by simp))
  obtain ⟨vn1, vt1, ⟨d1a, d1n, d1c⟩⟩ := v1
  simp only at z1 HY
  have Z1 := hide z1
  clear z1
  obtain ⟨vn0, vt0, ⟨d0a, d0n, d0c⟩⟩ := v0
  simp only at z0 HX
  have Z0 := hide z0
  clear hv z0
  have NK := hide hn
  obtain ⟨op, nam, ⟨ia, il, ic⟩, out, ⟨ao, al, cap⟩⟩ := n
  unfold nval
  simp only
  obtain ⟨w0, hw0⟩ : ∃ w0, w0 = w.alloc (.cells #[.string op, .string nam, .slice ia il ic, .string out, .slice ao al cap] 25) := ⟨_, rfl⟩
  have g0 : Hid (w.grownBy w0 none) := by show w.grownBy w0 none; rw [hw0]; exact grown_new _ _
  have hb0 := heap_alloc_new w (.cells #[.string op, .string nam, .slice ia il ic, .string out, .slice ao al cap] 25)
  rw [← hw0] at hb0
  have BX : Hid (∀ wx, w0.grownBy wx none → wx.heap[w.heap.size]? = some (.cells #[.string op, .string nam, .slice ia il ic, .string out, .slice ao al cap] 25 (0, 0))) := fun wx hg => box_kept hb0 hg
  clear hb0 hn
  simp only at hop
  have z0 : (w.alloc (.cells #[.string op, .string nam, .slice ia il ic, .string out, .slice ao al cap] 25)).cell? ⟨b, off + 2, none⟩ = some (.slice d0a d0n d0c) := cell_still Z0.out (grown_new _ _)
  have z1 : (w.alloc (.cells #[.string op, .string nam, .slice ia il ic, .string out, .slice ao al cap] 25)).cell? ⟨b, off + 3 + 2, none⟩ = some (.slice d1a d1n d1c) := cell_still Z1.out (grown_new _ _)
  have C := hide (spread_any ⟨d0a, d0n, d0c⟩ ⟨d1a, d1n, d1c⟩ x y w0 (HX.out.more g0.out) (HY.out.more g0.out))
  simp only at C
  simp only [List.mem_cons, List.not_mem_nil, or_false] at hop
  rcases hop with rfl | rfl | rfl | rfl | rfl | rfl | rfl | rfl | rfl | rfl | rfl | rfl
  all_goals
    go_enter Tryz.func49, Tryz.ntmps49
    go_wp2_with fail
    rw [← hw0]
    clear hw0
    cases hk : spreadP x y with
    | error c =>
      rw [hk] at C
      have HK := hide hk
      clear hk
      refine C.out.mono ?_
      rintro e w' ⟨hg, rfl⟩
      exact ⟨rfl, ended_err (by first | exact HK.out | rfl) (grown_trans g0.out hg)⟩
    | ok zs =>
      rw [hk] at C
      have HK := hide hk
      clear hk
      refine C.out.mono ?_
      rintro e w' ⟨hg, v, rfl, ⟨s1, s2, s3⟩, rfl, hs⟩
      simp only [Sl.v]
      go_wp2
      go_ret
      exact ended_ok (by first | exact HK.out | rfl) (grown_trans g0.out hg) ⟨⟨s1, s2, s3⟩, rfl, hs.ints⟩

set_option maxRecDepth 100000 in
set_option maxHeartbeats 40000000 in
theorem dims_reduced (n : Nod) (A : At) (u : Sl) (v0 : Val) (x : List Int) (w : World) (hop : n.op ∈ ([⟨#[82, 101, 100, 117, 99, 101, 83, 117, 109]⟩, ⟨#[82, 101, 100, 117, 99, 101, 77, 97, 120]⟩, ⟨#[82, 101, 100, 117, 99, 101, 77, 101, 97, 110]⟩, ⟨#[65, 114, 103, 77, 97, 120]⟩] : List ByteArray)) (hn : NodeOk w n A) (hv : ValsIn w u.v [(v0, x)]) (hf : Fine x) : Calls Tryz.prog 49 #[nval n, .slice u.a u.n u.c] w (Ended w (reducedP A x) DimsQ) := by
  obtain ⟨xa, xc, e1, q1, q2, q3⟩ := hv.vals.form
  simp only [List.map_cons, List.map_nil, List.length_cons, List.length_nil, Nat.zero_add] at e1 q1 q3
  obtain ⟨ua, un, uc⟩ := u
  simp only [Sl.v, Value.slice.injEq] at e1
  obtain ⟨rfl, rfl, rfl⟩ := e1
  obtain ⟨b, off, rfl⟩ := hv.vals.addr (k := 0) (by simp)
  obtain ⟨-, z0⟩ := hv.at 0 (by simp)
  rw [Nat.zero_mul, Nat.add_zero] at z0
  simp only [List.getElem_cons_zero] at z0
  have HX := hide (hv.dims (v0, x) (by simp))
  obtain ⟨vn0, vt0, ⟨d0a, d0n, d0c⟩⟩ := v0
  simp only at z0 HX
  have Z0 := hide z0
  clear hv z0
  have NK := hide hn
  obtain ⟨op, nam, ⟨ia, il, ic⟩, out, ⟨ao, al, cap⟩⟩ := n
  unfold nval
  simp only
  obtain ⟨w0, hw0⟩ : ∃ w0, w0 = w.alloc (.cells #[.string op, .string nam, .slice ia il ic, .string out, .slice ao al cap] 25) := ⟨_, rfl⟩
  have g0 : Hid (w.grownBy w0 none) := by show w.grownBy w0 none; rw [hw0]; exact grown_new _ _
  have hb0 := heap_alloc_new w (.cells #[.string op, .string nam, .slice ia il ic, .string out, .slice ao al cap] 25)
  rw [← hw0] at hb0
  have BX : Hid (∀ wx, w0.grownBy wx none → wx.heap[w.heap.size]? = some (.cells #[.string op, .string nam, .slice ia il ic, .string out, .slice ao al cap] 25 (0, 0))) := fun wx hg => box_kept hb0 hg
  clear hb0 hn
  simp only at hop
  have z0 : (w.alloc (.cells #[.string op, .string nam, .slice ia il ic, .string out, .slice ao al cap] 25)).cell? ⟨b, off + 2, none⟩ = some (.slice d0a d0n d0c) := cell_still Z0.out (grown_new _ _)
  have C := hide (reduced_any ⟨op, nam, ⟨ia, il, ic⟩, out, ⟨ao, al, cap⟩⟩ A ⟨d0a, d0n, d0c⟩ x w0 (NK.out.more g0.out) (HX.out.more g0.out) hf)
  unfold nval at C
  simp only at C
  simp only [List.mem_cons, List.not_mem_nil, or_false] at hop
  rcases hop with rfl | rfl | rfl | rfl
  all_goals
    go_enter Tryz.func49, Tryz.ntmps49
    go_wp2_with fail
    rw [← hw0]
    clear hw0
    cases hk : reducedP A x with
    | error c =>
      rw [hk] at C
      have HK := hide hk
      clear hk
      refine C.out.mono ?_
      rintro e w' ⟨hg, rfl⟩
      exact ⟨rfl, ended_err (by first | exact HK.out | rfl) (grown_trans g0.out hg)⟩
    | ok zs =>
      rw [hk] at C
      have HK := hide hk
      clear hk
      refine C.out.mono ?_
      rintro e w' ⟨hg, v, rfl, ⟨s1, s2, s3⟩, rfl, hs⟩
      simp only [Sl.v]
      go_wp2
      go_ret
      exact ended_ok (by first | exact HK.out | rfl) (grown_trans g0.out hg) ⟨⟨s1, s2, s3⟩, rfl, hs⟩

set_option maxRecDepth 100000 in
set_option maxHeartbeats 40000000 in
theorem dims_transposed (n : Nod) (A : At) (u : Sl) (v0 : Val) (x : List Int) (w : World) (hop : n.op ∈ ([⟨#[84, 114, 97, 110, 115, 112, 111, 115, 101]⟩] : List ByteArray)) (hn : NodeOk w n A) (hv : ValsIn w u.v [(v0, x)]) (hf : Fine x) : Calls Tryz.prog 49 #[nval n, .slice u.a u.n u.c] w (Ended w (transposedP A x) DimsQ) := by
  obtain ⟨xa, xc, e1, q1, q2, q3⟩ := hv.vals.form
  simp only [List.map_cons, List.map_nil, List.length_cons, List.length_nil, Nat.zero_add] at e1 q1 q3
  obtain ⟨ua, un, uc⟩ := u
  simp only [Sl.v, Value.slice.injEq] at e1
  obtain ⟨rfl, rfl, rfl⟩ := e1
  obtain ⟨b, off, rfl⟩ := hv.vals.addr (k := 0) (by simp)
  obtain ⟨-, z0⟩ := hv.at 0 (by simp)
  rw [Nat.zero_mul, Nat.add_zero] at z0
  simp only [List.getElem_cons_zero] at z0
  have HX := hide (hv.dims (v0, x) (by simp))
  obtain ⟨vn0, vt0, ⟨d0a, d0n, d0c⟩⟩ := v0
  simp only at z0 HX
  have Z0 := hide z0
  clear hv z0
  have NK := hide hn
  obtain ⟨op, nam, ⟨ia, il, ic⟩, out, ⟨ao, al, cap⟩⟩ := n
  unfold nval
  simp only
  obtain ⟨w0, hw0⟩ : ∃ w0, w0 = w.alloc (.cells #[.string op, .string nam, .slice ia il ic, .string out, .slice ao al cap] 25) := ⟨_, rfl⟩
  have g0 : Hid (w.grownBy w0 none) := by show w.grownBy w0 none; rw [hw0]; exact grown_new _ _
  have hb0 := heap_alloc_new w (.cells #[.string op, .string nam, .slice ia il ic, .string out, .slice ao al cap] 25)
  rw [← hw0] at hb0
  have BX : Hid (∀ wx, w0.grownBy wx none → wx.heap[w.heap.size]? = some (.cells #[.string op, .string nam, .slice ia il ic, .string out, .slice ao al cap] 25 (0, 0))) := fun wx hg => box_kept hb0 hg
  clear hb0 hn
  simp only at hop
  have z0 : (w.alloc (.cells #[.string op, .string nam, .slice ia il ic, .string out, .slice ao al cap] 25)).cell? ⟨b, off + 2, none⟩ = some (.slice d0a d0n d0c) := cell_still Z0.out (grown_new _ _)
  have C := hide (transposed_any ⟨op, nam, ⟨ia, il, ic⟩, out, ⟨ao, al, cap⟩⟩ A ⟨d0a, d0n, d0c⟩ x w0 (NK.out.more g0.out) (HX.out.more g0.out) hf)
  unfold nval at C
  simp only at C
  simp only [List.mem_cons, List.not_mem_nil, or_false] at hop
  subst hop
  all_goals
    go_enter Tryz.func49, Tryz.ntmps49
    go_wp2_with fail
    rw [← hw0]
    clear hw0
    cases hk : transposedP A x with
    | error c =>
      rw [hk] at C
      have HK := hide hk
      clear hk
      refine C.out.mono ?_
      rintro e w' ⟨hg, rfl⟩
      exact ⟨rfl, ended_err (by first | exact HK.out | rfl) (grown_trans g0.out hg)⟩
    | ok zs =>
      rw [hk] at C
      have HK := hide hk
      clear hk
      refine C.out.mono ?_
      rintro e w' ⟨hg, v, rfl, ⟨s1, s2, s3⟩, rfl, hs⟩
      simp only [Sl.v]
      go_wp2
      go_ret
      exact ended_ok (by first | exact HK.out | rfl) (grown_trans g0.out hg) ⟨⟨s1, s2, s3⟩, rfl, hs⟩

set_option maxRecDepth 100000 in
set_option maxHeartbeats 40000000 in
theorem dims_sliced (n : Nod) (A : At) (u : Sl) (v0 : Val) (x : List Int) (w : World) (hop : n.op ∈ ([⟨#[83, 108, 105, 99, 101]⟩] : List ByteArray)) (hn : NodeOk w n A) (hv : ValsIn w u.v [(v0, x)]) (hf : Fine x) : Calls Tryz.prog 49 #[nval n, .slice u.a u.n u.c] w (Ended w (slicedP A x) DimsQ) := by
  obtain ⟨xa, xc, e1, q1, q2, q3⟩ := hv.vals.form
  simp only [List.map_cons, List.map_nil, List.length_cons, List.length_nil, Nat.zero_add] at e1 q1 q3
  obtain ⟨ua, un, uc⟩ := u
  simp only [Sl.v, Value.slice.injEq] at e1
  obtain ⟨rfl, rfl, rfl⟩ := e1
  obtain ⟨b, off, rfl⟩ := hv.vals.addr (k := 0) (by simp)
  obtain ⟨-, z0⟩ := hv.at 0 (by simp)
  rw [Nat.zero_mul, Nat.add_zero] at z0
  simp only [List.getElem_cons_zero] at z0
  have HX := hide (hv.dims (v0, x) (by simp))
  obtain ⟨vn0, vt0, ⟨d0a, d0n, d0c⟩⟩ := v0
  simp only at z0 HX
  have Z0 := hide z0
  clear hv z0
  have NK := hide hn
  obtain ⟨op, nam, ⟨ia, il, ic⟩, out, ⟨ao, al, cap⟩⟩ := n
  unfold nval
  simp only
  obtain ⟨w0, hw0⟩ : ∃ w0, w0 = w.alloc (.cells #[.string op, .string nam, .slice ia il ic, .string out, .slice ao al cap] 25) := ⟨_, rfl⟩
  have g0 : Hid (w.grownBy w0 none) := by show w.grownBy w0 none; rw [hw0]; exact grown_new _ _
  have hb0 := heap_alloc_new w (.cells #[.string op, .string nam, .slice ia il ic, .string out, .slice ao al cap] 25)
  rw [← hw0] at hb0
  have BX : Hid (∀ wx, w0.grownBy wx none → wx.heap[w.heap.size]? = some (.cells #[.string op, .string nam, .slice ia il ic, .string out, .slice ao al cap] 25 (0, 0))) := fun wx hg => box_kept hb0 hg
  clear hb0 hn
  simp only at hop
  have z0 : (w.alloc (.cells #[.string op, .string nam, .slice ia il ic, .string out, .slice ao al cap] 25)).cell? ⟨b, off + 2, none⟩ = some (.slice d0a d0n d0c) := cell_still Z0.out (grown_new _ _)
  have C := hide (sliced_any ⟨op, nam, ⟨ia, il, ic⟩, out, ⟨ao, al, cap⟩⟩ A ⟨d0a, d0n, d0c⟩ x w0 (NK.out.more g0.out) (HX.out.more g0.out) hf)
  unfold nval at C
  simp only at C
  simp only [List.mem_cons, List.not_mem_nil, or_false] at hop
  subst hop
  all_goals
    go_enter Tryz.func49, Tryz.ntmps49
    go_wp2_with fail
    rw [← hw0]
    clear hw0
    cases hk : slicedP A x with
    | error c =>
      rw [hk] at C
      have HK := hide hk
      clear hk
      refine C.out.mono ?_
      rintro e w' ⟨hg, rfl⟩
      exact ⟨rfl, ended_err (by first | exact HK.out | rfl) (grown_trans g0.out hg)⟩
    | ok zs =>
      rw [hk] at C
      have HK := hide hk
      clear hk
      refine C.out.mono ?_
      rintro e w' ⟨hg, v, rfl, ⟨s1, s2, s3⟩, rfl, hs⟩
      simp only [Sl.v]
      go_wp2
      go_ret
      exact ended_ok (by first | exact HK.out | rfl) (grown_trans g0.out hg) ⟨⟨s1, s2, s3⟩, rfl, hs⟩

set_option maxRecDepth 100000 in
set_option maxHeartbeats 40000000 in
theorem dims_flattened (n : Nod) (A : At) (u : Sl) (v0 : Val) (x : List Int) (w : World) (hop : n.op ∈ ([⟨#[70, 108, 97, 116, 116, 101, 110]⟩] : List ByteArray)) (hn : NodeOk w n A) (hv : ValsIn w u.v [(v0, x)]) (hf : Fine x) : Calls Tryz.prog 49 #[nval n, .slice u.a u.n u.c] w (Ended w (flattenedP A x) DimsQ) := by
  obtain ⟨xa, xc, e1, q1, q2, q3⟩ := hv.vals.form
  simp only [List.map_cons, List.map_nil, List.length_cons, List.length_nil, Nat.zero_add] at e1 q1 q3
  obtain ⟨ua, un, uc⟩ := u
  simp only [Sl.v, Value.slice.injEq] at e1
  obtain ⟨rfl, rfl, rfl⟩ := e1
  obtain ⟨b, off, rfl⟩ := hv.vals.addr (k := 0) (by simp)
  obtain ⟨-, z0⟩ := hv.at 0 (by simp)
  rw [Nat.zero_mul, Nat.add_zero] at z0
  simp only [List.getElem_cons_zero] at z0
  have HX := hide (hv.dims (v0, x) (by simp))
  obtain ⟨vn0, vt0, ⟨d0a, d0n, d0c⟩⟩ := v0
  simp only at z0 HX
  have Z0 := hide z0
  clear hv z0
  have NK := hide hn
  obtain ⟨op, nam, ⟨ia, il, ic⟩, out, ⟨ao, al, cap⟩⟩ := n
  unfold nval
  simp only
  obtain ⟨w0, hw0⟩ : ∃ w0, w0 = w.alloc (.cells #[.string op, .string nam, .slice ia il ic, .string out, .slice ao al cap] 25) := ⟨_, rfl⟩
  have g0 : Hid (w.grownBy w0 none) := by show w.grownBy w0 none; rw [hw0]; exact grown_new _ _
  have hb0 := heap_alloc_new w (.cells #[.string op, .string nam, .slice ia il ic, .string out, .slice ao al cap] 25)
  rw [← hw0] at hb0
  have BX : Hid (∀ wx, w0.grownBy wx none → wx.heap[w.heap.size]? = some (.cells #[.string op, .string nam, .slice ia il ic, .string out, .slice ao al cap] 25 (0, 0))) := fun wx hg => box_kept hb0 hg
  clear hb0 hn
  simp only at hop
  have z0 : (w.alloc (.cells #[.string op, .string nam, .slice ia il ic, .string out, .slice ao al cap] 25)).cell? ⟨b, off + 2, none⟩ = some (.slice d0a d0n d0c) := cell_still Z0.out (grown_new _ _)
  have C := hide (flattened_any ⟨op, nam, ⟨ia, il, ic⟩, out, ⟨ao, al, cap⟩⟩ A ⟨d0a, d0n, d0c⟩ x w0 (NK.out.more g0.out) (HX.out.more g0.out) hf)
  unfold nval at C
  simp only at C
  simp only [List.mem_cons, List.not_mem_nil, or_false] at hop
  subst hop
  all_goals
    go_enter Tryz.func49, Tryz.ntmps49
    go_wp2_with fail
    rw [← hw0]
    clear hw0
    cases hk : flattenedP A x with
    | error c =>
      rw [hk] at C
      have HK := hide hk
      clear hk
      refine C.out.mono ?_
      rintro e w' ⟨hg, rfl⟩
      exact ⟨rfl, ended_err (by first | exact HK.out | rfl) (grown_trans g0.out hg)⟩
    | ok zs =>
      rw [hk] at C
      have HK := hide hk
      clear hk
      refine C.out.mono ?_
      rintro e w' ⟨hg, v, rfl, ⟨s1, s2, s3⟩, rfl, hs⟩
      simp only [Sl.v]
      go_wp2
      go_ret
      exact ended_ok (by first | exact HK.out | rfl) (grown_trans g0.out hg) ⟨⟨s1, s2, s3⟩, rfl, hs⟩

set_option maxRecDepth 100000 in
set_option maxHeartbeats 40000000 in
theorem dims_pooled (n : Nod) (A : At) (u : Sl) (v0 : Val) (x : List Int) (w : World) (hop : n.op ∈ ([⟨#[77, 97, 120, 80, 111, 111, 108]⟩, ⟨#[65, 118, 101, 114, 97, 103, 101, 80, 111, 111, 108]⟩] : List ByteArray)) (hn : NodeOk w n A) (hv : ValsIn w u.v [(v0, x)]) (hf : Fine x) : Calls Tryz.prog 49 #[nval n, .slice u.a u.n u.c] w (Ended w (pooledP A x) DimsQ) := by
  obtain ⟨xa, xc, e1, q1, q2, q3⟩ := hv.vals.form
  simp only [List.map_cons, List.map_nil, List.length_cons, List.length_nil, Nat.zero_add] at e1 q1 q3
  obtain ⟨ua, un, uc⟩ := u
  simp only [Sl.v, Value.slice.injEq] at e1
  obtain ⟨rfl, rfl, rfl⟩ := e1
  obtain ⟨b, off, rfl⟩ := hv.vals.addr (k := 0) (by simp)
  obtain ⟨-, z0⟩ := hv.at 0 (by simp)
  rw [Nat.zero_mul, Nat.add_zero] at z0
  simp only [List.getElem_cons_zero] at z0
  have HX := hide (hv.dims (v0, x) (by simp))
  obtain ⟨vn0, vt0, ⟨d0a, d0n, d0c⟩⟩ := v0
  simp only at z0 HX
  have Z0 := hide z0
  clear hv z0
  have NK := hide hn
  obtain ⟨op, nam, ⟨ia, il, ic⟩, out, ⟨ao, al, cap⟩⟩ := n
  unfold nval
  simp only
  obtain ⟨w0, hw0⟩ : ∃ w0, w0 = w.alloc (.cells #[.string op, .string nam, .slice ia il ic, .string out, .slice ao al cap] 25) := ⟨_, rfl⟩
  have g0 : Hid (w.grownBy w0 none) := by show w.grownBy w0 none; rw [hw0]; exact grown_new _ _
  have hb0 := heap_alloc_new w (.cells #[.string op, .string nam, .slice ia il ic, .string out, .slice ao al cap] 25)
  rw [← hw0] at hb0
  have BX : Hid (∀ wx, w0.grownBy wx none → wx.heap[w.heap.size]? = some (.cells #[.string op, .string nam, .slice ia il ic, .string out, .slice ao al cap] 25 (0, 0))) := fun wx hg => box_kept hb0 hg
  clear hb0 hn
  simp only at hop
  have z0 : (w.alloc (.cells #[.string op, .string nam, .slice ia il ic, .string out, .slice ao al cap] 25)).cell? ⟨b, off + 2, none⟩ = some (.slice d0a d0n d0c) := cell_still Z0.out (grown_new _ _)
  have C := hide (pooled_any ⟨op, nam, ⟨ia, il, ic⟩, out, ⟨ao, al, cap⟩⟩ A ⟨d0a, d0n, d0c⟩ x w0 (NK.out.more g0.out) (HX.out.more g0.out) hf)
  unfold nval at C
  simp only at C
  simp only [List.mem_cons, List.not_mem_nil, or_false] at hop
  rcases hop with rfl | rfl
  all_goals
    go_enter Tryz.func49, Tryz.ntmps49
    go_wp2_with fail
    rw [← hw0]
    clear hw0
    cases hk : pooledP A x with
    | error c =>
      rw [hk] at C
      have HK := hide hk
      clear hk
      refine C.out.mono ?_
      rintro e w' ⟨hg, rfl⟩
      exact ⟨rfl, ended_err (by first | exact HK.out | rfl) (grown_trans g0.out hg)⟩
    | ok zs =>
      rw [hk] at C
      have HK := hide hk
      clear hk
      refine C.out.mono ?_
      rintro e w' ⟨hg, v, rfl, ⟨s1, s2, s3⟩, rfl, hs⟩
      simp only [Sl.v]
      go_wp2
      go_ret
      exact ended_ok (by first | exact HK.out | rfl) (grown_trans g0.out hg) ⟨⟨s1, s2, s3⟩, rfl, hs⟩

set_option maxRecDepth 100000 in
set_option maxHeartbeats 40000000 in
theorem dims_product (n : Nod) (A : At) (u : Sl) (v0 v1 : Val) (x y : List Int) (w : World) (hop : n.op ∈ ([⟨#[77, 97, 116, 77, 117, 108]⟩] : List ByteArray)) (hn : NodeOk w n A) (hv : ValsIn w u.v [(v0, x), (v1, y)]) (hf : Fine x) (hfy : Fine y) : Calls Tryz.prog 49 #[nval n, .slice u.a u.n u.c] w (Ended w (productP x y) DimsQ) := by
  obtain ⟨xa, xc, e1, q1, q2, q3⟩ := hv.vals.form
  simp only [List.map_cons, List.map_nil, List.length_cons, List.length_nil, Nat.zero_add, Nat.reduceAdd] at e1 q1 q3
  obtain ⟨ua, un, uc⟩ := u
  simp only [Sl.v, Value.slice.injEq] at e1
  obtain ⟨rfl, rfl, rfl⟩ := e1
  obtain ⟨b, off, rfl⟩ := hv.vals.addr (k := 0) (by simp)
  obtain ⟨-, z0⟩ := hv.at 0 (by simp)
  rw [Nat.zero_mul, Nat.add_zero] at z0
  simp only [List.getElem_cons_zero] at z0
  have HX := hide (hv.dims (v0, x) (by simp))
  obtain ⟨-, z1⟩ := hv.at 1 (by simp)
  rw [Nat.one_mul] at z1
  simp only [List.getElem_cons_zero, List.getElem_cons_succ] at z1
  have HY := hide (hv.dims (v1, y) (by simp))
  obtain ⟨vn1, vt1, ⟨d1a, d1n, d1c⟩⟩ := v1
  simp only at z1 HY
  have Z1 := hide z1
  clear z1
  obtain ⟨vn0, vt0, ⟨d0a, d0n, d0c⟩⟩ := v0
  simp only at z0 HX
  have Z0 := hide z0
  clear hv z0
  have NK := hide hn
  obtain ⟨op, nam, ⟨ia, il, ic⟩, out, ⟨ao, al, cap⟩⟩ := n
  unfold nval
  simp only
  obtain ⟨w0, hw0⟩ : ∃ w0, w0 = w.alloc (.cells #[.string op, .string nam, .slice ia il ic, .string out, .slice ao al cap] 25) := ⟨_, rfl⟩
  have g0 : Hid (w.grownBy w0 none) := by show w.grownBy w0 none; rw [hw0]; exact grown_new _ _
  have hb0 := heap_alloc_new w (.cells #[.string op, .string nam, .slice ia il ic, .string out, .slice ao al cap] 25)
  rw [← hw0] at hb0
  have BX : Hid (∀ wx, w0.grownBy wx none → wx.heap[w.heap.size]? = some (.cells #[.string op, .string nam, .slice ia il ic, .string out, .slice ao al cap] 25 (0, 0))) := fun wx hg => box_kept hb0 hg
  clear hb0 hn
  simp only at hop
  have z0 : (w.alloc (.cells #[.string op, .string nam, .slice ia il ic, .string out, .slice ao al cap] 25)).cell? ⟨b, off + 2, none⟩ = some (.slice d0a d0n d0c) := cell_still Z0.out (grown_new _ _)
  have z1 : (w.alloc (.cells #[.string op, .string nam, .slice ia il ic, .string out, .slice ao al cap] 25)).cell? ⟨b, off + 3 + 2, none⟩ = some (.slice d1a d1n d1c) := cell_still Z1.out (grown_new _ _)
  have C := hide (product_any ⟨d0a, d0n, d0c⟩ ⟨d1a, d1n, d1c⟩ x y w0 (HX.out.more g0.out) (HY.out.more g0.out) hf.few hfy.few)
  simp only at C
  simp only [List.mem_cons, List.not_mem_nil, or_false] at hop
  subst hop
  all_goals
    go_enter Tryz.func49, Tryz.ntmps49
    go_wp2_with fail
    rw [← hw0]
    clear hw0
    cases hk : productP x y with
    | error c =>
      rw [hk] at C
      have HK := hide hk
      clear hk
      refine C.out.mono ?_
      rintro e w' ⟨hg, rfl⟩
      exact ⟨rfl, ended_err (by first | exact HK.out | rfl) (grown_trans g0.out hg)⟩
    | ok zs =>
      rw [hk] at C
      have HK := hide hk
      clear hk
      refine C.out.mono ?_
      rintro e w' ⟨hg, v, rfl, ⟨s1, s2, s3⟩, rfl, hs⟩
      simp only [Sl.v]
      go_wp2
      go_ret
      exact ended_ok (by first | exact HK.out | rfl) (grown_trans g0.out hg) ⟨⟨s1, s2, s3⟩, rfl, hs⟩

set_option maxRecDepth 100000 in
set_option maxHeartbeats 40000000 in
theorem dims_reshape (n : Nod) (A : At) (u : Sl) (v0 : Val) (x : List Int) (w : World) (hop : n.op ∈ ([⟨#[82, 101, 115, 104, 97, 112, 101]⟩] : List ByteArray)) (hn : NodeOk w n A) (hv : ValsIn w u.v [(v0, x)]) (hf : Fine x) (hll : (A.ints ⟨#[115, 104, 97, 112, 101]⟩ []).length ≤ 100000000) : Calls Tryz.prog 49 #[nval n, .slice u.a u.n u.c] w (Ended w (reshapedP x (A.ints ⟨#[115, 104, 97, 112, 101]⟩ [])) DimsQ) := by
  obtain ⟨xa, xc, e1, q1, q2, q3⟩ := hv.vals.form
  simp only [List.map_cons, List.map_nil, List.length_cons, List.length_nil, Nat.zero_add] at e1 q1 q3
  obtain ⟨ua, un, uc⟩ := u
  simp only [Sl.v, Value.slice.injEq] at e1
  obtain ⟨rfl, rfl, rfl⟩ := e1
  obtain ⟨b, off, rfl⟩ := hv.vals.addr (k := 0) (by simp)
  obtain ⟨-, z0⟩ := hv.at 0 (by simp)
  rw [Nat.zero_mul, Nat.add_zero] at z0
  simp only [List.getElem_cons_zero] at z0
  have HX := hide (hv.dims (v0, x) (by simp))
  obtain ⟨vn0, vt0, ⟨d0a, d0n, d0c⟩⟩ := v0
  simp only at z0 HX
  have Z0 := hide z0
  clear hv z0
  have NK := hide hn
  obtain ⟨op, nam, ⟨ia, il, ic⟩, out, ⟨ao, al, cap⟩⟩ := n
  unfold nval
  simp only
  obtain ⟨w0, hw0⟩ : ∃ w0, w0 = w.alloc (.cells #[.string op, .string nam, .slice ia il ic, .string out, .slice ao al cap] 25) := ⟨_, rfl⟩
  have g0 : Hid (w.grownBy w0 none) := by show w.grownBy w0 none; rw [hw0]; exact grown_new _ _
  have hb0 := heap_alloc_new w (.cells #[.string op, .string nam, .slice ia il ic, .string out, .slice ao al cap] 25)
  rw [← hw0] at hb0
  have BX : Hid (∀ wx, w0.grownBy wx none → wx.heap[w.heap.size]? = some (.cells #[.string op, .string nam, .slice ia il ic, .string out, .slice ao al cap] 25 (0, 0))) := fun wx hg => box_kept hb0 hg
  clear hb0 hn
  simp only at hop
  have z0 : (w.alloc (.cells #[.string op, .string nam, .slice ia il ic, .string out, .slice ao al cap] 25)).cell? ⟨b, off + 2, none⟩ = some (.slice d0a d0n d0c) := cell_still Z0.out (grown_new _ _)
  have NI := hide (nints_any ⟨op, nam, ⟨ia, il, ic⟩, out, ⟨ao, al, cap⟩⟩ A ⟨#[115, 104, 97, 112, 101]⟩ ⟨none, 0, 0⟩ [] w0 (NK.out.more g0.out) ⟨none, 0, rfl, Nat.le_refl _, by decide, by simp, fun _ => ⟨rfl, rfl⟩, fun h => (by simp at h), fun z hz => (by simp at hz)⟩)
  unfold nval at NI
  simp only at NI
  simp only [List.mem_cons, List.not_mem_nil, or_false] at hop
  subst hop
  all_goals
    go_enter Tryz.func49, Tryz.ntmps49
    go_wp2_with fail
    rw [← hw0]
    clear hw0
    refine NI.out.mono ?_
    rintro e w1 ⟨⟨l1, l2, l3⟩, rfl, hl, hg1⟩
    have C := hide (reshaped_any ⟨d0a, d0n, d0c⟩ ⟨l1, l2, l3⟩ x _ w1 (HX.out.more (grown_trans g0.out hg1)) hl hf hll)
    have G1 := hide (grown_trans g0.out hg1)
    simp only [Sl.v] at C ⊢
    clear hl hg1 NI
    cases hk : reshapedP x (A.ints ⟨#[115, 104, 97, 112, 101]⟩ []) with
    | error c =>
      rw [hk] at C
      have HK := hide hk
      clear hk
      go_wp2_with (first | (go_at_call 100; refine C.out.mono ?_; rintro e w' ⟨hg, rfl⟩) | fail)
      exact ⟨rfl, ended_err (by first | exact HK.out | rfl) (grown_trans G1.out hg)⟩
    | ok zs =>
      rw [hk] at C
      have HK := hide hk
      clear hk
      go_wp2_with (first | (go_at_call 100; refine C.out.mono ?_; rintro e w' ⟨hg, v, rfl, ⟨s1, s2, s3⟩, rfl, hs⟩; simp only [Sl.v]) | fail)
      go_ret
      exact ended_ok (by first | exact HK.out | rfl) (grown_trans G1.out hg) ⟨⟨s1, s2, s3⟩, rfl, hs⟩

set_option maxRecDepth 100000 in
set_option maxHeartbeats 40000000 in
theorem dims_pad (n : Nod) (A : At) (u : Sl) (v0 : Val) (x : List Int) (w : World) (hop : n.op ∈ ([⟨#[80, 97, 100]⟩] : List ByteArray)) (hn : NodeOk w n A) (hv : ValsIn w u.v [(v0, x)]) (hf : Fine x) : Calls Tryz.prog 49 #[nval n, .slice u.a u.n u.c] w (Ended w (paddedP x (A.ints ⟨#[112, 97, 100, 115]⟩ [])) DimsQ) := by
  obtain ⟨xa, xc, e1, q1, q2, q3⟩ := hv.vals.form
  simp only [List.map_cons, List.map_nil, List.length_cons, List.length_nil, Nat.zero_add] at e1 q1 q3
  obtain ⟨ua, un, uc⟩ := u
  simp only [Sl.v, Value.slice.injEq] at e1
  obtain ⟨rfl, rfl, rfl⟩ := e1
  obtain ⟨b, off, rfl⟩ := hv.vals.addr (k := 0) (by simp)
  obtain ⟨-, z0⟩ := hv.at 0 (by simp)
  rw [Nat.zero_mul, Nat.add_zero] at z0
  simp only [List.getElem_cons_zero] at z0
  have HX := hide (hv.dims (v0, x) (by simp))
  obtain ⟨vn0, vt0, ⟨d0a, d0n, d0c⟩⟩ := v0
  simp only at z0 HX
  have Z0 := hide z0
  clear hv z0
  have NK := hide hn
  obtain ⟨op, nam, ⟨ia, il, ic⟩, out, ⟨ao, al, cap⟩⟩ := n
  unfold nval
  simp only
  obtain ⟨w0, hw0⟩ : ∃ w0, w0 = w.alloc (.cells #[.string op, .string nam, .slice ia il ic, .string out, .slice ao al cap] 25) := ⟨_, rfl⟩
  have g0 : Hid (w.grownBy w0 none) := by show w.grownBy w0 none; rw [hw0]; exact grown_new _ _
  have hb0 := heap_alloc_new w (.cells #[.string op, .string nam, .slice ia il ic, .string out, .slice ao al cap] 25)
  rw [← hw0] at hb0
  have BX : Hid (∀ wx, w0.grownBy wx none → wx.heap[w.heap.size]? = some (.cells #[.string op, .string nam, .slice ia il ic, .string out, .slice ao al cap] 25 (0, 0))) := fun wx hg => box_kept hb0 hg
  clear hb0 hn
  simp only at hop
  have z0 : (w.alloc (.cells #[.string op, .string nam, .slice ia il ic, .string out, .slice ao al cap] 25)).cell? ⟨b, off + 2, none⟩ = some (.slice d0a d0n d0c) := cell_still Z0.out (grown_new _ _)
  have NI := hide (nints_any ⟨op, nam, ⟨ia, il, ic⟩, out, ⟨ao, al, cap⟩⟩ A ⟨#[112, 97, 100, 115]⟩ ⟨none, 0, 0⟩ [] w0 (NK.out.more g0.out) ⟨none, 0, rfl, Nat.le_refl _, by decide, by simp, fun _ => ⟨rfl, rfl⟩, fun h => (by simp at h), fun z hz => (by simp at hz)⟩)
  unfold nval at NI
  simp only at NI
  simp only [List.mem_cons, List.not_mem_nil, or_false] at hop
  subst hop
  all_goals
    go_enter Tryz.func49, Tryz.ntmps49
    go_wp2_with fail
    rw [← hw0]
    clear hw0
    refine NI.out.mono ?_
    rintro e w1 ⟨⟨l1, l2, l3⟩, rfl, hl, hg1⟩
    have C := hide (padded_any ⟨d0a, d0n, d0c⟩ ⟨l1, l2, l3⟩ x _ w1 (HX.out.more (grown_trans g0.out hg1)) hl hf)
    have G1 := hide (grown_trans g0.out hg1)
    simp only [Sl.v] at C ⊢
    clear hl hg1 NI
    cases hk : paddedP x (A.ints ⟨#[112, 97, 100, 115]⟩ []) with
    | error c =>
      rw [hk] at C
      have HK := hide hk
      clear hk
      go_wp2_with (first | (go_at_call 108; refine C.out.mono ?_; rintro e w' ⟨hg, rfl⟩) | fail)
      exact ⟨rfl, ended_err (by first | exact HK.out | rfl) (grown_trans G1.out hg)⟩
    | ok zs =>
      rw [hk] at C
      have HK := hide hk
      clear hk
      go_wp2_with (first | (go_at_call 108; refine C.out.mono ?_; rintro e w' ⟨hg, v, rfl, ⟨s1, s2, s3⟩, rfl, hs⟩; simp only [Sl.v]) | fail)
      go_ret
      exact ended_ok (by first | exact HK.out | rfl) (grown_trans G1.out hg) ⟨⟨s1, s2, s3⟩, rfl, hs⟩

set_option maxRecDepth 100000 in
set_option maxHeartbeats 40000000 in
theorem dims_squeeze (n : Nod) (A : At) (u : Sl) (v0 : Val) (x : List Int) (w : World) (hop : n.op ∈ ([⟨#[83, 113, 117, 101, 101, 122, 101]⟩] : List ByteArray)) (hn : NodeOk w n A) (hv : ValsIn w u.v [(v0, x)]) (hf : Fine x) : Calls Tryz.prog 49 #[nval n, .slice u.a u.n u.c] w (Ended w (squeezedP x (A.ints ⟨#[97, 120, 101, 115]⟩ [])) DimsQ) := by
  obtain ⟨xa, xc, e1, q1, q2, q3⟩ := hv.vals.form
  simp only [List.map_cons, List.map_nil, List.length_cons, List.length_nil, Nat.zero_add] at e1 q1 q3
  obtain ⟨ua, un, uc⟩ := u
  simp only [Sl.v, Value.slice.injEq] at e1
  obtain ⟨rfl, rfl, rfl⟩ := e1
  obtain ⟨b, off, rfl⟩ := hv.vals.addr (k := 0) (by simp)
  obtain ⟨-, z0⟩ := hv.at 0 (by simp)
  rw [Nat.zero_mul, Nat.add_zero] at z0
  simp only [List.getElem_cons_zero] at z0
  have HX := hide (hv.dims (v0, x) (by simp))
  obtain ⟨vn0, vt0, ⟨d0a, d0n, d0c⟩⟩ := v0
  simp only at z0 HX
  have Z0 := hide z0
  clear hv z0
  have NK := hide hn
  obtain ⟨op, nam, ⟨ia, il, ic⟩, out, ⟨ao, al, cap⟩⟩ := n
  unfold nval
  simp only
  obtain ⟨w0, hw0⟩ : ∃ w0, w0 = w.alloc (.cells #[.string op, .string nam, .slice ia il ic, .string out, .slice ao al cap] 25) := ⟨_, rfl⟩
  have g0 : Hid (w.grownBy w0 none) := by show w.grownBy w0 none; rw [hw0]; exact grown_new _ _
  have hb0 := heap_alloc_new w (.cells #[.string op, .string nam, .slice ia il ic, .string out, .slice ao al cap] 25)
  rw [← hw0] at hb0
  have BX : Hid (∀ wx, w0.grownBy wx none → wx.heap[w.heap.size]? = some (.cells #[.string op, .string nam, .slice ia il ic, .string out, .slice ao al cap] 25 (0, 0))) := fun wx hg => box_kept hb0 hg
  clear hb0 hn
  simp only at hop
  have z0 : (w.alloc (.cells #[.string op, .string nam, .slice ia il ic, .string out, .slice ao al cap] 25)).cell? ⟨b, off + 2, none⟩ = some (.slice d0a d0n d0c) := cell_still Z0.out (grown_new _ _)
  have NI := hide (nints_any ⟨op, nam, ⟨ia, il, ic⟩, out, ⟨ao, al, cap⟩⟩ A ⟨#[97, 120, 101, 115]⟩ ⟨none, 0, 0⟩ [] w0 (NK.out.more g0.out) ⟨none, 0, rfl, Nat.le_refl _, by decide, by simp, fun _ => ⟨rfl, rfl⟩, fun h => (by simp at h), fun z hz => (by simp at hz)⟩)
  unfold nval at NI
  simp only at NI
  simp only [List.mem_cons, List.not_mem_nil, or_false] at hop
  subst hop
  all_goals
    go_enter Tryz.func49, Tryz.ntmps49
    go_wp2_with fail
    rw [← hw0]
    clear hw0
    refine NI.out.mono ?_
    rintro e w1 ⟨⟨l1, l2, l3⟩, rfl, hl, hg1⟩
    have C := hide (squeezed_any ⟨d0a, d0n, d0c⟩ ⟨l1, l2, l3⟩ x _ w1 (HX.out.more (grown_trans g0.out hg1)) hl hf)
    have G1 := hide (grown_trans g0.out hg1)
    simp only [Sl.v] at C ⊢
    clear hl hg1 NI
    cases hk : squeezedP x (A.ints ⟨#[97, 120, 101, 115]⟩ []) with
    | error c =>
      rw [hk] at C
      have HK := hide hk
      clear hk
      go_wp2_with (first | (go_at_call 109; refine C.out.mono ?_; rintro e w' ⟨hg, rfl⟩) | fail)
      exact ⟨rfl, ended_err (by first | exact HK.out | rfl) (grown_trans G1.out hg)⟩
    | ok zs =>
      rw [hk] at C
      have HK := hide hk
      clear hk
      go_wp2_with (first | (go_at_call 109; refine C.out.mono ?_; rintro e w' ⟨hg, v, rfl, ⟨s1, s2, s3⟩, rfl, hs⟩; simp only [Sl.v]) | fail)
      go_ret
      exact ended_ok (by first | exact HK.out | rfl) (grown_trans G1.out hg) ⟨⟨s1, s2, s3⟩, rfl, hs⟩

set_option maxRecDepth 100000 in
set_option maxHeartbeats 40000000 in
theorem dims_unsqueeze (n : Nod) (A : At) (u : Sl) (v0 : Val) (x : List Int) (w : World) (hop : n.op ∈ ([⟨#[85, 110, 115, 113, 117, 101, 101, 122, 101]⟩] : List ByteArray)) (hn : NodeOk w n A) (hv : ValsIn w u.v [(v0, x)]) (hf : Fine x) (hll : (A.ints ⟨#[97, 120, 101, 115]⟩ []).length ≤ 100000000) : Calls Tryz.prog 49 #[nval n, .slice u.a u.n u.c] w (Ended w (unsqueezedP x (A.ints ⟨#[97, 120, 101, 115]⟩ [])) DimsQ) := by
  obtain ⟨xa, xc, e1, q1, q2, q3⟩ := hv.vals.form
  simp only [List.map_cons, List.map_nil, List.length_cons, List.length_nil, Nat.zero_add] at e1 q1 q3
  obtain ⟨ua, un, uc⟩ := u
  simp only [Sl.v, Value.slice.injEq] at e1
  obtain ⟨rfl, rfl, rfl⟩ := e1
  obtain ⟨b, off, rfl⟩ := hv.vals.addr (k := 0) (by simp)
  obtain ⟨-, z0⟩ := hv.at 0 (by simp)
  rw [Nat.zero_mul, Nat.add_zero] at z0
  simp only [List.getElem_cons_zero] at z0
  have HX := hide (hv.dims (v0, x) (by simp))
  obtain ⟨vn0, vt0, ⟨d0a, d0n, d0c⟩⟩ := v0
  simp only at z0 HX
  have Z0 := hide z0
  clear hv z0
  have NK := hide hn
  obtain ⟨op, nam, ⟨ia, il, ic⟩, out, ⟨ao, al, cap⟩⟩ := n
  unfold nval
  simp only
  obtain ⟨w0, hw0⟩ : ∃ w0, w0 = w.alloc (.cells #[.string op, .string nam, .slice ia il ic, .string out, .slice ao al cap] 25) := ⟨_, rfl⟩
  have g0 : Hid (w.grownBy w0 none) := by show w.grownBy w0 none; rw [hw0]; exact grown_new _ _
  have hb0 := heap_alloc_new w (.cells #[.string op, .string nam, .slice ia il ic, .string out, .slice ao al cap] 25)
  rw [← hw0] at hb0
  have BX : Hid (∀ wx, w0.grownBy wx none → wx.heap[w.heap.size]? = some (.cells #[.string op, .string nam, .slice ia il ic, .string out, .slice ao al cap] 25 (0, 0))) := fun wx hg => box_kept hb0 hg
  clear hb0 hn
  simp only at hop
  have z0 : (w.alloc (.cells #[.string op, .string nam, .slice ia il ic, .string out, .slice ao al cap] 25)).cell? ⟨b, off + 2, none⟩ = some (.slice d0a d0n d0c) := cell_still Z0.out (grown_new _ _)
  have NI := hide (nints_any ⟨op, nam, ⟨ia, il, ic⟩, out, ⟨ao, al, cap⟩⟩ A ⟨#[97, 120, 101, 115]⟩ ⟨none, 0, 0⟩ [] w0 (NK.out.more g0.out) ⟨none, 0, rfl, Nat.le_refl _, by decide, by simp, fun _ => ⟨rfl, rfl⟩, fun h => (by simp at h), fun z hz => (by simp at hz)⟩)
  unfold nval at NI
  simp only at NI
  simp only [List.mem_cons, List.not_mem_nil, or_false] at hop
  subst hop
  all_goals
    go_enter Tryz.func49, Tryz.ntmps49
    go_wp2_with fail
    rw [← hw0]
    clear hw0
    refine NI.out.mono ?_
    rintro e w1 ⟨⟨l1, l2, l3⟩, rfl, hl, hg1⟩
    have C := hide (unsqueezed_any ⟨d0a, d0n, d0c⟩ ⟨l1, l2, l3⟩ x _ w1 (HX.out.more (grown_trans g0.out hg1)) hl hf hll)
    have G1 := hide (grown_trans g0.out hg1)
    simp only [Sl.v] at C ⊢
    clear hl hg1 NI
    cases hk : unsqueezedP x (A.ints ⟨#[97, 120, 101, 115]⟩ []) with
    | error c =>
      rw [hk] at C
      have HK := hide hk
      clear hk
      go_wp2_with (first | (go_at_call 110; refine C.out.mono ?_; rintro e w' ⟨hg, rfl⟩) | fail)
      exact ⟨rfl, ended_err (by first | exact HK.out | rfl) (grown_trans G1.out hg)⟩
    | ok zs =>
      rw [hk] at C
      have HK := hide hk
      clear hk
      go_wp2_with (first | (go_at_call 110; refine C.out.mono ?_; rintro e w' ⟨hg, v, rfl, ⟨s1, s2, s3⟩, rfl, hs⟩; simp only [Sl.v]) | fail)
      go_ret
      exact ended_ok (by first | exact HK.out | rfl) (grown_trans G1.out hg) ⟨⟨s1, s2, s3⟩, rfl, hs⟩

end Go.Proofs.YtdcbjikjeicgbaaGreatDoor

/- Which dims a node makes: more operators (mkIDm2.py). -/
namespace Go.Proofs.YtdcbjikjeicgbaaGreatDoor
open Go.RowKit

set_option maxRecDepth 100000 in
set_option maxHeartbeats 4000000 in
theorem dims_Expand (n : Nod) (A : At) (u : Sl) (v0 : Val) (x : List Int) (w : World) (hop : n.op = ⟨#[69, 120, 112, 97, 110, 100]⟩) (hn : NodeOk w n A) (hv : ValsIn w u.v [(v0, x)])  : Calls Tryz.prog 49 #[nval n, .slice u.a u.n u.c] w (Ended w (spreadP x ((A.ints ⟨#[115, 104, 97, 112, 101]⟩ []).map wholeP)) DimsQ) := by
  obtain ⟨xa, xc, e1, q1, q2, q3⟩ := hv.vals.form
  simp only [List.map_cons, List.map_nil, List.length_cons, List.length_nil, Nat.zero_add] at e1 q1 q3
  obtain ⟨ua, un, uc⟩ := u
  simp only [Sl.v, Value.slice.injEq] at e1
  obtain ⟨rfl, rfl, rfl⟩ := e1
  obtain ⟨b, off, rfl⟩ := hv.vals.addr (k := 0) (by simp)
  obtain ⟨-, z0⟩ := hv.at 0 (by simp)
  rw [Nat.zero_mul, Nat.add_zero] at z0
  simp only [List.getElem_cons_zero] at z0
  have HX := hide (hv.dims (v0, x) (by simp))
  obtain ⟨vn0, vt0, ⟨d0a, d0n, d0c⟩⟩ := v0
  simp only at z0 HX
  have Z0 := hide z0
  clear hv z0
  have NK := hide hn
  obtain ⟨op, nam, ⟨ia, il, ic⟩, out, ⟨ao, al, cap⟩⟩ := n
  unfold nval
  simp only
  obtain ⟨w0, hw0⟩ : ∃ w0, w0 = w.alloc (.cells #[.string op, .string nam, .slice ia il ic, .string out, .slice ao al cap] 25) := ⟨_, rfl⟩
  have g0 : Hid (w.grownBy w0 none) := by show w.grownBy w0 none; rw [hw0]; exact grown_new _ _
  have hb0 := heap_alloc_new w (.cells #[.string op, .string nam, .slice ia il ic, .string out, .slice ao al cap] 25)
  rw [← hw0] at hb0
  have BX : Hid (∀ wx, w0.grownBy wx none → wx.heap[w.heap.size]? = some (.cells #[.string op, .string nam, .slice ia il ic, .string out, .slice ao al cap] 25 (0, 0))) := fun wx hg => box_kept hb0 hg
  clear hb0 hn
  simp only at hop
  subst hop
  have z0 : (w.alloc (.cells #[.string ⟨#[69, 120, 112, 97, 110, 100]⟩, .string nam, .slice ia il ic, .string out, .slice ao al cap] 25)).cell? ⟨b, off + 2, none⟩ = some (.slice d0a d0n d0c) := cell_still Z0.out (grown_new _ _)
  have NI := hide (nints_any ⟨⟨#[69, 120, 112, 97, 110, 100]⟩, nam, ⟨ia, il, ic⟩, out, ⟨ao, al, cap⟩⟩ A ⟨#[115, 104, 97, 112, 101]⟩ ⟨none, 0, 0⟩ [] w0 (NK.out.more g0.out) ⟨none, 0, rfl, Nat.le_refl _, by decide, by simp, fun _ => ⟨rfl, rfl⟩, fun h => (by simp at h), fun z hz => (by simp at hz)⟩)
  unfold nval at NI
  simp only at NI
  go_enter Tryz.func49, Tryz.ntmps49
  go_wp2_with fail
  rw [← hw0]
  clear hw0
  refine NI.out.mono ?_
  rintro e w1 ⟨⟨l1, l2, l3⟩, rfl, hl, hg1⟩
  have WH := hide (wholes_any _ _ w1 hl)
  have G1 := hide (grown_trans g0.out hg1)
  simp only [Sl.v] at WH ⊢
  clear hl hg1 NI
  go_wp2_with (first | (go_at_call 102; refine WH.out.mono ?_; rintro e w2 ⟨⟨m1, m2, m3⟩, rfl, hm, hg2⟩; simp only) | fail)
  have G2 := hide (grown_trans G1.out hg2)
  have C := hide (spread_any ⟨d0a, d0n, d0c⟩ ⟨m1, m2, m3⟩ x _ w2 (HX.out.more G2.out) hm)
  simp only at C
  clear hm hg2 WH
  cases hk : spreadP x ((A.ints ⟨#[115, 104, 97, 112, 101]⟩ []).map wholeP) with
  | error c =>
    rw [hk] at C
    have HK := hide hk
    clear hk
    refine C.out.mono ?_
    rintro e w' ⟨hg, rfl⟩
    exact ⟨rfl, ended_err (by first | exact HK.out | rfl) (grown_trans G2.out hg)⟩
  | ok zs =>
    rw [hk] at C
    have HK := hide hk
    clear hk
    refine C.out.mono ?_
    rintro e w' ⟨hg, v, rfl, ⟨s1, s2, s3⟩, rfl, hs⟩
    simp only [Sl.v]
    go_wp2
    go_ret
    exact ended_ok (by first | exact HK.out | rfl) (grown_trans G2.out hg) ⟨⟨s1, s2, s3⟩, rfl, hs.ints⟩

set_option maxRecDepth 100000 in
set_option maxHeartbeats 4000000 in
theorem dims_Softmax (n : Nod) (A : At) (u : Sl) (v0 : Val) (x : List Int) (w : World) (hop : n.op = ⟨#[83, 111, 102, 116, 109, 97, 120]⟩) (hn : NodeOk w n A) (hv : ValsIn w u.v [(v0, x)]) (hf : Fine x) : Calls Tryz.prog 49 #[nval n, .slice u.a u.n u.c] w (Ended w ((axesP (alongP A x.length) x.length).bind (fun _ => .ok x)) DimsQ) := by
  obtain ⟨xa, xc, e1, q1, q2, q3⟩ := hv.vals.form
  simp only [List.map_cons, List.map_nil, List.length_cons, List.length_nil, Nat.zero_add] at e1 q1 q3
  obtain ⟨ua, un, uc⟩ := u
  simp only [Sl.v, Value.slice.injEq] at e1
  obtain ⟨rfl, rfl, rfl⟩ := e1
  obtain ⟨b, off, rfl⟩ := hv.vals.addr (k := 0) (by simp)
  obtain ⟨-, z0⟩ := hv.at 0 (by simp)
  rw [Nat.zero_mul, Nat.add_zero] at z0
  simp only [List.getElem_cons_zero] at z0
  have HX := hide (hv.dims (v0, x) (by simp))
  obtain ⟨vn0, vt0, ⟨d0a, d0n, d0c⟩⟩ := v0
  simp only at z0 HX
  have Z0 := hide z0
  clear hv z0
  have NK := hide hn
  obtain ⟨op, nam, ⟨ia, il, ic⟩, out, ⟨ao, al, cap⟩⟩ := n
  unfold nval
  simp only
  obtain ⟨w0, hw0⟩ : ∃ w0, w0 = w.alloc (.cells #[.string op, .string nam, .slice ia il ic, .string out, .slice ao al cap] 25) := ⟨_, rfl⟩
  have g0 : Hid (w.grownBy w0 none) := by show w.grownBy w0 none; rw [hw0]; exact grown_new _ _
  have hb0 := heap_alloc_new w (.cells #[.string op, .string nam, .slice ia il ic, .string out, .slice ao al cap] 25)
  rw [← hw0] at hb0
  have BX : Hid (∀ wx, w0.grownBy wx none → wx.heap[w.heap.size]? = some (.cells #[.string op, .string nam, .slice ia il ic, .string out, .slice ao al cap] 25 (0, 0))) := fun wx hg => box_kept hb0 hg
  clear hb0 hn
  simp only at hop
  subst hop
  have z0 : (w.alloc (.cells #[.string ⟨#[83, 111, 102, 116, 109, 97, 120]⟩, .string nam, .slice ia il ic, .string out, .slice ao al cap] 25)).cell? ⟨b, off + 2, none⟩ = some (.slice d0a d0n d0c) := cell_still Z0.out (grown_new _ _)
  have FEW := hf.few
  obtain ⟨xx, xcc, ex, f1, f2, f3⟩ := HX.out.sl
  simp only [Sl.v, Value.slice.injEq] at ex
  obtain ⟨rfl, rfl, rfl⟩ := ex
  have AL := hide (along_any ⟨⟨#[83, 111, 102, 116, 109, 97, 120]⟩, nam, ⟨ia, il, ic⟩, out, ⟨ao, al, cap⟩⟩ A x.length w0 (NK.out.more g0.out) (by omega))
  unfold nval at AL
  simp only at AL
  go_enter Tryz.func49, Tryz.ntmps49
  go_wp2_with fail
  rw [← hw0]
  clear hw0
  refine AL.out.mono ?_
  rintro e w1 ⟨⟨l1, l2, l3⟩, rfl, hl, hg1⟩
  have C := hide (axesof_any ⟨l1, l2, l3⟩ _ x.length w1 hl (by omega))
  have G1 := hide (grown_trans g0.out hg1)
  simp only [Sl.v] at C ⊢
  clear hl hg1 AL
  cases hk : axesP (alongP A x.length) x.length with
  | error c =>
    rw [hk] at C
    have HK : Hid ((axesP (alongP A x.length) x.length).bind (fun _ => .ok x) = .error c) := by show _ = _; rw [hk]; rfl
    clear hk
    go_wp2_with (first | (go_at_call 97; refine C.out.mono ?_; rintro e w' ⟨hg, rfl⟩) | fail)
    exact ⟨rfl, ended_err (by first | exact HK.out | rfl) (grown_trans G1.out hg)⟩
  | ok is =>
    rw [hk] at C
    have HK : Hid ((axesP (alongP A x.length) x.length).bind (fun _ => .ok x) = .ok x) := by show _ = _; rw [hk]; rfl
    clear hk
    go_wp2_with (first | (go_at_call 97; refine C.out.mono ?_; rintro e w' ⟨hg, v, rfl, B, rfl, -, -⟩) | fail)
    go_ret
    exact ended_ok (by first | exact HK.out | rfl) (grown_trans G1.out hg) ⟨⟨d0a, x.length, d0c⟩, rfl, HX.out.more (grown_trans G1.out hg)⟩

set_option maxRecDepth 100000 in
theorem dims_Constant (n : Nod) (A : At) (u : Sl) (w : World) (hop : n.op = ⟨#[67, 111, 110, 115, 116, 97, 110, 116]⟩) (hn : NodeOk w n A) (D : List Int) (hD : IsInts w (valA A).dv.v D) : Calls Tryz.prog 49 #[nval n, .slice u.a u.n u.c] w (Ended w (.ok D) DimsQ) := by
  obtain ⟨ua, un, uc⟩ := u
  simp only
  have NK := hide hn
  obtain ⟨op, nam, ⟨ia, il, ic⟩, out, ⟨ao, al, cap⟩⟩ := n
  unfold nval
  simp only
  obtain ⟨w0, hw0⟩ : ∃ w0, w0 = w.alloc (.cells #[.string op, .string nam, .slice ia il ic, .string out, .slice ao al cap] 25) := ⟨_, rfl⟩
  have g0 : Hid (w.grownBy w0 none) := by show w.grownBy w0 none; rw [hw0]; exact grown_new _ _
  have hb0 := heap_alloc_new w (.cells #[.string op, .string nam, .slice ia il ic, .string out, .slice ao al cap] 25)
  rw [← hw0] at hb0
  have BX : Hid (∀ wx, w0.grownBy wx none → wx.heap[w.heap.size]? = some (.cells #[.string op, .string nam, .slice ia il ic, .string out, .slice ao al cap] 25 (0, 0))) := fun wx hg => box_kept hb0 hg
  clear hb0 hn
  simp only at hop
  subst hop
  have V0 := hide (attrvalue_any ⟨⟨#[67, 111, 110, 115, 116, 97, 110, 116]⟩, nam, ⟨ia, il, ic⟩, out, ⟨ao, al, cap⟩⟩ A w0 (NK.out.more g0.out))
  unfold nval at V0
  simp only at V0
  have hfl := ten_field1
  have HD := hide hD
  clear hD
  go_enter Tryz.func49, Tryz.ntmps49
  go_wp2_with fail
  rw [← hw0]
  clear hw0
  refine V0.out.mono ?_
  rintro e w1 ⟨rfl, hg1⟩
  go_wp2
  go_ret
  exact ⟨grown_trans g0.out hg1, _, rfl, (valA A).dv, rfl, HD.out.more (grown_trans g0.out hg1)⟩

set_option maxRecDepth 100000 in
set_option maxHeartbeats 4000000 in
theorem dims_BatchNormalization (n : Nod) (A : At) (u : Sl) (p0 p1 : Val × List Int) (rest : List (Val × List Int)) (w : World) (hop : n.op = ⟨#[66, 97, 116, 99, 104, 78, 111, 114, 109, 97, 108, 105, 122, 97, 116, 105, 111, 110]⟩) (hn : NodeOk w n A) (hv : ValsIn w u.v (p0 :: p1 :: rest)) (hr : rest.length ≤ 1000000) : Calls Tryz.prog 49 #[nval n, .slice u.a u.n u.c] w (Ended w (normalizedP p0.2 ((p1 :: rest).map (·.2))) DimsQ) := by
  obtain ⟨xa, xc, e1, q1, q2, q3⟩ := hv.vals.form
  rw [List.length_map] at e1 q1 q3
  obtain ⟨ua, un, uc⟩ := u
  simp only [Sl.v, Value.slice.injEq] at e1
  obtain ⟨rfl, rfl, rfl⟩ := e1
  obtain ⟨b, off, rfl⟩ := hv.vals.addr (k := 0) (by simp)
  obtain ⟨-, z0⟩ := hv.at 0 (by simp)
  rw [Nat.zero_mul, Nat.add_zero] at z0
  simp only [List.getElem_cons_zero] at z0
  have HV := hide hv
  obtain ⟨⟨vn0, vt0, ⟨d0a, d0n, d0c⟩⟩, x⟩ := p0
  simp only at z0
  have Z0 := hide z0
  obtain ⟨m, hm⟩ : ∃ m, m = ((((⟨vn0, vt0, ⟨d0a, d0n, d0c⟩⟩, x) : Val × List Int) :: p1 :: rest) : List (Val × List Int)).length := ⟨_, rfl⟩
  have hm0 : 0 < m := by rw [hm]; simp
  have hm0' : (0 : Int) < (m : Int) := by omega
  have HM := hide hm
  rw [← hm] at q1 q3 ⊢
  clear hv z0 hm
  have NK := hide hn
  obtain ⟨op, nam, ⟨ia, il, ic⟩, out, ⟨ao, al, cap⟩⟩ := n
  unfold nval
  simp only
  obtain ⟨w0, hw0⟩ : ∃ w0, w0 = w.alloc (.cells #[.string op, .string nam, .slice ia il ic, .string out, .slice ao al cap] 25) := ⟨_, rfl⟩
  have g0 : Hid (w.grownBy w0 none) := by show w.grownBy w0 none; rw [hw0]; exact grown_new _ _
  have hb0 := heap_alloc_new w (.cells #[.string op, .string nam, .slice ia il ic, .string out, .slice ao al cap] 25)
  rw [← hw0] at hb0
  have BX : Hid (∀ wx, w0.grownBy wx none → wx.heap[w.heap.size]? = some (.cells #[.string op, .string nam, .slice ia il ic, .string out, .slice ao al cap] 25 (0, 0))) := fun wx hg => box_kept hb0 hg
  clear hb0 hn
  simp only at hop
  subst hop
  have z0 : (w.alloc (.cells #[.string ⟨#[66, 97, 116, 99, 104, 78, 111, 114, 109, 97, 108, 105, 122, 97, 116, 105, 111, 110]⟩, .string nam, .slice ia il ic, .string out, .slice ao al cap] 25)).cell? ⟨b, off + 2, none⟩ = some (.slice d0a d0n d0c) := cell_still Z0.out (grown_new _ _)
  have C := hide (normalized_any ⟨some ⟨b, off, none⟩, m, uc⟩ _ p1 rest w0 (by rw [HM.out]; exact HV.out.more g0.out) hr)
  simp only at C
  go_enter Tryz.func49, Tryz.ntmps49
  go_wp2_with fail
  rw [← hw0]
  clear hw0
  cases hk : normalizedP x ((p1 :: rest).map (·.2)) with
  | error c =>
    rw [hk] at C
    have HK := hide hk
    clear hk
    refine C.out.mono ?_
    rintro e w' ⟨hg, rfl⟩
    exact ⟨rfl, ended_err (by first | exact HK.out | rfl) (grown_trans g0.out hg)⟩
  | ok zs =>
    rw [hk] at C
    have HK := hide hk
    clear hk
    refine C.out.mono ?_
    rintro e w' ⟨hg, v, rfl, ⟨s1, s2, s3⟩, rfl, hs⟩
    simp only [Sl.v]
    go_wp2
    go_ret
    exact ended_ok (by first | exact HK.out | rfl) (grown_trans g0.out hg) ⟨⟨s1, s2, s3⟩, rfl, hs⟩

set_option maxRecDepth 100000 in
set_option maxHeartbeats 4000000 in
theorem dims_Gemm (n : Nod) (A : At) (u : Sl) (p0 p1 : Val × List Int) (rest : List (Val × List Int)) (w : World) (hop : n.op = ⟨#[71, 101, 109, 109]⟩) (hn : NodeOk w n A) (hv : ValsIn w u.v (p0 :: p1 :: rest)) (hr : rest.length ≤ 1) : Calls Tryz.prog 49 #[nval n, .slice u.a u.n u.c] w (Ended w (gemmP A p0.2 p1.2 (rest.head?.map (·.2))) DimsQ) := by
  obtain ⟨xa, xc, e1, q1, q2, q3⟩ := hv.vals.form
  rw [List.length_map] at e1 q1 q3
  obtain ⟨ua, un, uc⟩ := u
  simp only [Sl.v, Value.slice.injEq] at e1
  obtain ⟨rfl, rfl, rfl⟩ := e1
  obtain ⟨b, off, rfl⟩ := hv.vals.addr (k := 0) (by simp)
  obtain ⟨-, z0⟩ := hv.at 0 (by simp)
  rw [Nat.zero_mul, Nat.add_zero] at z0
  simp only [List.getElem_cons_zero] at z0
  have HV := hide hv
  obtain ⟨⟨vn0, vt0, ⟨d0a, d0n, d0c⟩⟩, x⟩ := p0
  simp only at z0
  have Z0 := hide z0
  obtain ⟨m, hm⟩ : ∃ m, m = ((((⟨vn0, vt0, ⟨d0a, d0n, d0c⟩⟩, x) : Val × List Int) :: p1 :: rest) : List (Val × List Int)).length := ⟨_, rfl⟩
  have hm0 : 0 < m := by rw [hm]; simp
  have hm0' : (0 : Int) < (m : Int) := by omega
  have HM := hide hm
  rw [← hm] at q1 q3 ⊢
  clear hv z0 hm
  have NK := hide hn
  obtain ⟨op, nam, ⟨ia, il, ic⟩, out, ⟨ao, al, cap⟩⟩ := n
  unfold nval
  simp only
  obtain ⟨w0, hw0⟩ : ∃ w0, w0 = w.alloc (.cells #[.string op, .string nam, .slice ia il ic, .string out, .slice ao al cap] 25) := ⟨_, rfl⟩
  have g0 : Hid (w.grownBy w0 none) := by show w.grownBy w0 none; rw [hw0]; exact grown_new _ _
  have hb0 := heap_alloc_new w (.cells #[.string op, .string nam, .slice ia il ic, .string out, .slice ao al cap] 25)
  rw [← hw0] at hb0
  have BX : Hid (∀ wx, w0.grownBy wx none → wx.heap[w.heap.size]? = some (.cells #[.string op, .string nam, .slice ia il ic, .string out, .slice ao al cap] 25 (0, 0))) := fun wx hg => box_kept hb0 hg
  clear hb0 hn
  simp only at hop
  subst hop
  have z0 : (w.alloc (.cells #[.string ⟨#[71, 101, 109, 109]⟩, .string nam, .slice ia il ic, .string out, .slice ao al cap] 25)).cell? ⟨b, off + 2, none⟩ = some (.slice d0a d0n d0c) := cell_still Z0.out (grown_new _ _)
  have C := hide (gemm_any ⟨⟨#[71, 101, 109, 109]⟩, nam, ⟨ia, il, ic⟩, out, ⟨ao, al, cap⟩⟩ A ⟨some ⟨b, off, none⟩, m, uc⟩ _ p1 rest w0 (NK.out.more g0.out) (by rw [HM.out]; exact HV.out.more g0.out) hr)
  unfold nval at C
  simp only at C
  go_enter Tryz.func49, Tryz.ntmps49
  go_wp2_with fail
  rw [← hw0]
  clear hw0
  cases hk : gemmP A x p1.2 (rest.head?.map (·.2)) with
  | error c =>
    rw [hk] at C
    have HK := hide hk
    clear hk
    refine C.out.mono ?_
    rintro e w' ⟨hg, rfl⟩
    exact ⟨rfl, ended_err (by first | exact HK.out | rfl) (grown_trans g0.out hg)⟩
  | ok zs =>
    rw [hk] at C
    have HK := hide hk
    clear hk
    refine C.out.mono ?_
    rintro e w' ⟨hg, v, rfl, ⟨s1, s2, s3⟩, rfl, hs⟩
    simp only [Sl.v]
    go_wp2
    go_ret
    exact ended_ok (by first | exact HK.out | rfl) (grown_trans g0.out hg) ⟨⟨s1, s2, s3⟩, rfl, hs⟩

set_option maxRecDepth 100000 in
set_option maxHeartbeats 4000000 in
theorem dims_GlobalAveragePool (n : Nod) (A : At) (u : Sl) (v0 : Val) (x : List Int) (w : World) (hop : n.op = ⟨#[71, 108, 111, 98, 97, 108, 65, 118, 101, 114, 97, 103, 101, 80, 111, 111, 108]⟩) (hn : NodeOk w n A) (hv : ValsIn w u.v [(v0, x)])  : Calls Tryz.prog 49 #[nval n, .slice u.a u.n u.c] w (Ended w ((mustP (decide (x.length = 4))).bind (fun _ => .ok [x.getD 0 0, x.getD 1 0, 1, 1])) DimsQ) := by
  obtain ⟨xa, xc, e1, q1, q2, q3⟩ := hv.vals.form
  simp only [List.map_cons, List.map_nil, List.length_cons, List.length_nil, Nat.zero_add] at e1 q1 q3
  obtain ⟨ua, un, uc⟩ := u
  simp only [Sl.v, Value.slice.injEq] at e1
  obtain ⟨rfl, rfl, rfl⟩ := e1
  obtain ⟨b, off, rfl⟩ := hv.vals.addr (k := 0) (by simp)
  obtain ⟨-, z0⟩ := hv.at 0 (by simp)
  rw [Nat.zero_mul, Nat.add_zero] at z0
  simp only [List.getElem_cons_zero] at z0
  have HX := hide (hv.dims (v0, x) (by simp))
  obtain ⟨vn0, vt0, ⟨d0a, d0n, d0c⟩⟩ := v0
  simp only at z0 HX
  have Z0 := hide z0
  clear hv z0
  have NK := hide hn
  obtain ⟨op, nam, ⟨ia, il, ic⟩, out, ⟨ao, al, cap⟩⟩ := n
  unfold nval
  simp only
  obtain ⟨w0, hw0⟩ : ∃ w0, w0 = w.alloc (.cells #[.string op, .string nam, .slice ia il ic, .string out, .slice ao al cap] 25) := ⟨_, rfl⟩
  have g0 : Hid (w.grownBy w0 none) := by show w.grownBy w0 none; rw [hw0]; exact grown_new _ _
  have hb0 := heap_alloc_new w (.cells #[.string op, .string nam, .slice ia il ic, .string out, .slice ao al cap] 25)
  rw [← hw0] at hb0
  have BX : Hid (∀ wx, w0.grownBy wx none → wx.heap[w.heap.size]? = some (.cells #[.string op, .string nam, .slice ia il ic, .string out, .slice ao al cap] 25 (0, 0))) := fun wx hg => box_kept hb0 hg
  clear hb0 hn
  simp only at hop
  subst hop
  have z0 : (w.alloc (.cells #[.string ⟨#[71, 108, 111, 98, 97, 108, 65, 118, 101, 114, 97, 103, 101, 80, 111, 111, 108]⟩, .string nam, .slice ia il ic, .string out, .slice ao al cap] 25)).cell? ⟨b, off + 2, none⟩ = some (.slice d0a d0n d0c) := cell_still Z0.out (grown_new _ _)
  obtain ⟨xx, xcc, ex, f1, f2, f3⟩ := HX.out.sl
  simp only [Sl.v, Value.slice.injEq] at ex
  obtain ⟨rfl, rfl, rfl⟩ := ex
  by_cases hl : x.length = 4
  · have b0 : ((x.length : Int) == 4) = true := by simp [hl]
    have HK : Hid ((mustP (decide (x.length = 4))).bind (fun _ => .ok [x.getD 0 0, x.getD 1 0, 1, 1]) = .ok [x.getD 0 0, x.getD 1 0, 1, 1]) := by show _ = _; simp [mustP, hl]; rfl
    obtain ⟨xb, xo, rfl, hcx⟩ := HX.out.get (k := 0) (by omega)
    have X0 := hcx 0 (by omega)
    have X1 := hcx 1 (by omega)
    have b0' := HX.out.wf (x.getD 0 0) (getD_mem (by omega))
    have b1' := HX.out.wf (x.getD 1 0) (getD_mem (by omega))
    rw [Nat.add_zero] at X0
    obtain ⟨x0, hx0⟩ : ∃ z, z = x.getD 0 0 := ⟨_, rfl⟩
    obtain ⟨x1, hx1⟩ : ∃ z, z = x.getD 1 0 := ⟨_, rfl⟩
    rw [← hx0] at X0 b0'
    rw [← hx1] at X1 b1'
    have HX0 := hide hx0
    have HX1 := hide hx1
    have y0 := cell_still X0 g0.out
    have y1 := cell_still X1 g0.out
    have l0 : (0 : Int) < (x.length : Int) := by omega
    have l1 : (1 : Int) < (x.length : Int) := by omega
    have m0 : 0 < x.length := by omega
    have m1 : 1 < x.length := by omega
    clear hx0 hx1 hl hcx X0 X1
    go_enter Tryz.func49, Tryz.ntmps49
    go_wp2_with (first | (go_at_call 45; refine (must_yes _).mono ?_; rintro e w' ⟨rfl, rfl⟩) | fail)
    rw [← hw0]
    clear hw0 z0
    go_region_held3 (fun w' => w'.cell? ⟨xb, xo, none⟩ = some (.int .i64 x0) ∧ w'.cell? ⟨xb, xo + 1, none⟩ = some (.int .i64 x1)) (go_keep) (fail)
    go_wp2
    go_ret
    exact ended_ok HK.out (grown_trans (grown_drew g0.out) (grown_new _ _)) ⟨⟨_, 4, 4⟩, rfl, by rw [← HX0.out, ← HX1.out]; exact ints_new _ [x0, x1, 1, 1] 3 (by simp) (fun y hy => by simp at hy; rcases hy with rfl | rfl | rfl | rfl <;> first | assumption | omega)⟩
  · have b0 : ((x.length : Int) == 4) = false := by simpa using (fun h => hl (by omega) : ¬ (x.length : Int) = 4)
    have HK : Hid ((mustP (decide (x.length = 4))).bind (fun _ => .ok [x.getD 0 0, x.getD 1 0, 1, 1]) = .error 4) := by show _ = _; simp [mustP, hl]; rfl
    clear hl
    go_enter Tryz.func49, Tryz.ntmps49
    go_wp2_with (first | (go_at_call 45; refine (must_no _).mono ?_; rintro e w' ⟨rfl, rfl⟩) | fail)
    rw [← hw0]
    exact ⟨rfl, ended_err HK.out g0.out⟩

end Go.Proofs.YtdcbjikjeicgbaaGreatDoor

/- Where: its type and its dims (mkIWhere.py). -/
namespace Go.Proofs.YtdcbjikjeicgbaaGreatDoor
open Go.RowKit

/-- The values behind the first one, as Go cuts them. -/
theorem ValsIn.tail {w : World} {b off n c : Nat} {p : Val × List Int} {l : List (Val × List Int)} (h : ValsIn w (.slice (some ⟨b, off, none⟩) n c) (p :: l)) : ValsIn w (.slice (some ⟨b, off + 3, none⟩) l.length (c - 1)) l := by
  refine ⟨?_, fun q hq => h.dims q (List.mem_cons_of_mem _ hq)⟩
  obtain ⟨ao, cap, e, h1, h2, h3, h4, h5⟩ := h.vals
  cases e
  simp only [List.map_cons, List.length_cons] at h1 h3 h5
  refine ⟨_, c - 1, by rw [List.length_map], by omega, by omega, by omega, (fun h => by cases h), fun hp => ⟨b, off + 3, rfl, fun k hk j hj => ?_⟩⟩
  obtain ⟨b', off', e', hc⟩ := h5 (by omega)
  cases e'
  have := hc (k + 1) (by omega) j hj
  simp only [List.getElem_cons_succ] at this
  rw [show off + 3 + k * 3 + j = off + (k + 1) * 3 + j by omega]
  exact this

set_option maxRecDepth 100000 in
set_option maxHeartbeats 2000000 in
theorem type_Where (n : Nod) (A : At) (u : Sl) (p0 p1 p2 : Val × List Int) (w : World) (hop : n.op = ⟨#[87, 104, 101, 114, 101]⟩) (hn : NodeOk w n A) (hv : ValsIn w u.v [p0, p1, p2]) : Calls Tryz.prog 48 #[nval n, .slice u.a u.n u.c] w (Ended w ((mustP (p0.1.ty == 9)).bind (fun _ => sameP (tysOf [p1, p2]))) fun t v _ => v = .int .i64 t) := by
  obtain ⟨xa, xc, e1, q1, q2, q3⟩ := hv.vals.form
  simp only [List.map_cons, List.map_nil, List.length_cons, List.length_nil, Nat.zero_add, Nat.reduceAdd] at e1 q1 q3
  obtain ⟨ua, un, uc⟩ := u
  simp only [Sl.v, Value.slice.injEq] at e1
  obtain ⟨rfl, rfl, rfl⟩ := e1
  obtain ⟨b, off, rfl⟩ := hv.vals.addr (k := 0) (by simp)
  obtain ⟨z1, -⟩ := hv.at 0 (by simp)
  rw [Nat.zero_mul, Nat.add_zero] at z1
  simp only [List.getElem_cons_zero] at z1
  have HT := hide hv.tail
  simp only [List.length_cons, List.length_nil, Nat.zero_add, Nat.reduceAdd] at HT
  have Z1 := hide z1
  have huc : ¬ uc = 1 := by omega
  have huc2 : 1 ≤ uc := by omega
  obtain ⟨T, hT⟩ : ∃ T, T = p0.1.ty := ⟨_, rfl⟩
  rw [← hT] at Z1 ⊢
  clear hv z1 hT
  have NK := hide hn
  obtain ⟨op, nam, ⟨ia, il, ic⟩, out, ⟨ao, al, cap⟩⟩ := n
  unfold nval
  simp only
  obtain ⟨w0, hw0⟩ : ∃ w0, w0 = w.alloc (.cells #[.string op, .string nam, .slice ia il ic, .string out, .slice ao al cap] 25) := ⟨_, rfl⟩
  have g0 : Hid (w.grownBy w0 none) := by show w.grownBy w0 none; rw [hw0]; exact grown_new _ _
  have hb0 := heap_alloc_new w (.cells #[.string op, .string nam, .slice ia il ic, .string out, .slice ao al cap] 25)
  rw [← hw0] at hb0
  have BX : Hid (∀ wx, w0.grownBy wx none → wx.heap[w.heap.size]? = some (.cells #[.string op, .string nam, .slice ia il ic, .string out, .slice ao al cap] 25 (0, 0))) := fun wx hg => box_kept hb0 hg
  clear hb0 hn
  simp only at hop
  subst hop
  have z2 : (w.alloc (.cells #[.string ⟨#[87, 104, 101, 114, 101]⟩, .string nam, .slice ia il ic, .string out, .slice ao al cap] 25)).cell? ⟨b, off + 1, none⟩ = some (.int .i64 T) := cell_still Z1.out (grown_new _ _)
  have SM := hide (sametype_any ⟨some ⟨b, off + 3, none⟩, 2, uc - 1⟩ [p1, p2] w0 (HT.out.more g0.out) (by simp) (by simp))
  simp only at SM
  cases h1 : (T == 9) with
  | false =>
    go_enter Tryz.func48, Tryz.ntmps48
    go_wp2_with (first | (go_at_call 45; refine (must_no _).mono ?_; rintro e w' ⟨rfl, rfl⟩) | fail)
    exact ⟨rfl, ended_err (by rfl) (by rw [← hw0]; exact g0.out)⟩
  | true =>
    go_enter Tryz.func48, Tryz.ntmps48
    go_wp2_with (first | (go_at_call 45; refine (must_yes _).mono ?_; rintro e w' ⟨rfl, rfl⟩) | fail)
    rw [← hw0]
    clear hw0
    cases hk : sameP ([p1, p2].map (·.1.ty)) with
    | error c =>
      rw [hk] at SM
      have HK : Hid (sameP (tysOf [p1, p2]) = .error c) := hk
      clear hk
      refine SM.out.mono ?_
      rintro e w' ⟨hg, rfl⟩
      exact ⟨rfl, ended_err HK.out (grown_trans g0.out hg)⟩
    | ok t =>
      rw [hk] at SM
      have HK : Hid (sameP (tysOf [p1, p2]) = .ok t) := hk
      clear hk
      refine SM.out.mono ?_
      rintro e w' ⟨hg, v, rfl, rfl⟩
      go_wp2
      go_ret
      exact ended_ok HK.out (grown_trans g0.out hg) rfl

set_option maxRecDepth 100000 in
set_option maxHeartbeats 4000000 in
theorem dims_Where (n : Nod) (A : At) (u : Sl) (v0 v1 v2 : Val) (x y z : List Int) (w : World) (hop : n.op = ⟨#[87, 104, 101, 114, 101]⟩) (hn : NodeOk w n A) (hv : ValsIn w u.v [(v0, x), (v1, y), (v2, z)]) : Calls Tryz.prog 49 #[nval n, .slice u.a u.n u.c] w (Ended w ((spreadP x y).bind (fun l => spreadP l z)) DimsQ) := by
  obtain ⟨xa, xc, e1, q1, q2, q3⟩ := hv.vals.form
  simp only [List.map_cons, List.map_nil, List.length_cons, List.length_nil, Nat.zero_add, Nat.reduceAdd] at e1 q1 q3
  obtain ⟨ua, un, uc⟩ := u
  simp only [Sl.v, Value.slice.injEq] at e1
  obtain ⟨rfl, rfl, rfl⟩ := e1
  obtain ⟨b, off, rfl⟩ := hv.vals.addr (k := 0) (by simp)
  obtain ⟨-, z0⟩ := hv.at 0 (by simp)
  obtain ⟨-, z1⟩ := hv.at 1 (by simp)
  obtain ⟨-, z2⟩ := hv.at 2 (by simp)
  rw [Nat.zero_mul, Nat.add_zero] at z0
  simp only [List.getElem_cons_zero, List.getElem_cons_succ, Nat.one_mul, Nat.reduceMul] at z0 z1 z2
  have HX := hide (hv.dims (v0, x) (by simp))
  have HY := hide (hv.dims (v1, y) (by simp))
  have HZ := hide (hv.dims (v2, z) (by simp))
  obtain ⟨vn0, vt0, ⟨d0a, d0n, d0c⟩⟩ := v0
  obtain ⟨vn1, vt1, d1⟩ := v1
  obtain ⟨vn2, vt2, d2⟩ := v2
  simp only at z0 z1 z2 HX HY HZ
  have Z0 := hide z0
  have Z1 := hide z1
  have Z2 := hide z2
  clear hv z0 z1 z2
  have NK := hide hn
  obtain ⟨op, nam, ⟨ia, il, ic⟩, out, ⟨ao, al, cap⟩⟩ := n
  unfold nval
  simp only
  obtain ⟨w0, hw0⟩ : ∃ w0, w0 = w.alloc (.cells #[.string op, .string nam, .slice ia il ic, .string out, .slice ao al cap] 25) := ⟨_, rfl⟩
  have g0 : Hid (w.grownBy w0 none) := by show w.grownBy w0 none; rw [hw0]; exact grown_new _ _
  have hb0 := heap_alloc_new w (.cells #[.string op, .string nam, .slice ia il ic, .string out, .slice ao al cap] 25)
  rw [← hw0] at hb0
  have BX : Hid (∀ wx, w0.grownBy wx none → wx.heap[w.heap.size]? = some (.cells #[.string op, .string nam, .slice ia il ic, .string out, .slice ao al cap] 25 (0, 0))) := fun wx hg => box_kept hb0 hg
  clear hb0 hn
  simp only at hop
  subst hop
  have z0 : (w.alloc (.cells #[.string ⟨#[87, 104, 101, 114, 101]⟩, .string nam, .slice ia il ic, .string out, .slice ao al cap] 25)).cell? ⟨b, off + 2, none⟩ = some (.slice d0a d0n d0c) := cell_still Z0.out (grown_new _ _)
  have S1 := hide (fun (wx : World) (hg : w0.grownBy wx none) => spread_any ⟨d0a, d0n, d0c⟩ d1 x y wx (HX.out.more (grown_trans g0.out hg)) (HY.out.more (grown_trans g0.out hg)))
  simp only at S1
  have i1 : (1 : Int) < 3 := by decide
  have i2 : (2 : Int) < 3 := by decide
  go_enter Tryz.func49, Tryz.ntmps49
  go_wp2_with fail
  rw [← hw0]
  clear hw0 z0
  have k1 := cell_still Z1.out g0.out
  have k2 := cell_still Z2.out g0.out
  cases hk1 : spreadP x y with
  | error c =>
    rw [hk1] at S1
    have E1 : Hid ((spreadP x y).bind (fun l => spreadP l z) = .error c) := by show _ = _; rw [hk1]; rfl
    refine wp_region_held_drew (S := (fun w' => w'.cell? ⟨b, off + 3 + 2, none⟩ = some (.slice d1.a d1.n d1.c) ∧ w'.cell? ⟨b, off + 6 + 2, none⟩ = some (.slice d2.a d2.n d2.c))) (by kernel_rfl) (by go_keep) (fun hHeld => ?_)
    refine wpAnyH_take (i := 0) (v := ?_) rfl (by kernel_rfl) (by kernel_rfl) (by kernel_rfl) (fun _ _ _ h => h) (Or.inl ⟨by rfl, ?_⟩) (by assumption) ?_
    rotate_left 1
    · (intro w hSw; (try dsimp only at hSw); go_simp; (try with_reducible rfl))
    try simp only [Act.put]
    refine wpAnyH_take (i := 1) (v := ?_) rfl (by kernel_rfl) (by kernel_rfl) (by kernel_rfl) (fun _ _ _ h => h) (Or.inl ⟨by rfl, ?_⟩) (by assumption) ?_
    rotate_left 1
    · (intro w hSw; (try dsimp only at hSw); go_simp; (try with_reducible rfl))
    try simp only [Act.put]
    refine wpAnyH_take (i := 2) (v := ?_) rfl (by kernel_rfl) (by kernel_rfl) (by kernel_rfl) (fun _ _ _ h => h) (Or.inl ⟨by rfl, ?_⟩) (by assumption) ?_
    rotate_left 1
    · (intro w hSw; (try dsimp only at hSw); go_simp; (try with_reducible rfl))
    try simp only [Act.put]
    refine wpAnyH_take (i := 3) (v := ?_) rfl (by kernel_rfl) (by kernel_rfl) (by kernel_rfl) (fun _ _ _ h => h) (Or.inl ⟨by rfl, ?_⟩) (by assumption) ?_
    rotate_left 1
    · (intro w hSw; (try dsimp only at hSw); go_simp; (try with_reducible rfl))
    try simp only [Act.put]
    refine wpAnyH_take (i := 4) (v := ?_) rfl (by kernel_rfl) (by kernel_rfl) (by kernel_rfl) (fun _ _ _ h => h) (Or.inl ⟨by rfl, ?_⟩) (by assumption) ?_
    rotate_left 1
    · (intro w hSw; (try dsimp only at hSw); go_simp; (try with_reducible rfl))
    try simp only [Act.put]
    refine wpAnyH_take (i := 6) (v := ?_) rfl (by kernel_rfl) (by kernel_rfl) (by kernel_rfl) (fun _ _ _ h => h) (Or.inl ⟨by rfl, ?_⟩) (by assumption) ?_
    rotate_left 1
    · (intro w hSw; (try dsimp only at hSw); go_simp; (try with_reducible rfl))
    try simp only [Act.put]
    refine wpAnyH_take (i := 7) (v := ?_) rfl (by kernel_rfl) (by kernel_rfl) (by kernel_rfl) (fun _ _ _ h => h) (Or.inl ⟨by rfl, ?_⟩) (by assumption) ?_
    rotate_left 1
    · (intro w hSw; (try dsimp only at hSw); go_simp; (try with_reducible rfl))
    try simp only [Act.put]
    refine wpAnyH_take (i := 8) (v := ?_) rfl (by kernel_rfl) (by kernel_rfl) (by kernel_rfl) (fun _ _ _ h => h) (Or.inl ⟨by rfl, ?_⟩) (by assumption) ?_
    rotate_left 1
    · (intro w hSw; (try dsimp only at hSw); go_simp; (try with_reducible rfl))
    try simp only [Act.put]
    refine wpAnyH_take (i := 9) (v := ?_) rfl (by kernel_rfl) (by kernel_rfl) (by kernel_rfl) (fun _ _ _ h => h) (Or.inl ⟨by rfl, ?_⟩) (by assumption) ?_
    rotate_left 1
    · (intro w hSw; (try dsimp only at hSw); go_simp; (try with_reducible rfl))
    try simp only [Act.put]
    refine wpAnyH_ready (rs := [5]) (by kernel_rfl) (by simp) ?_
    refine AllReadyH.cons rfl (fun K hK => ?_) ?_
    · skip
      go_simp
      refine (S1.out _ (grown_drew (grown_refl _))).mono ?_
      rintro e wy ⟨hg, rfl⟩
      exact ⟨rfl, ended_err E1.out (grown_trans (grown_drew g0.out) hg)⟩
    exact AllReadyH.nil
  | ok l =>
    rw [hk1] at S1
    cases hk2 : spreadP l z with
    | error c =>
      have E2 : Hid ((spreadP x y).bind (fun l => spreadP l z) = .error c) := by show _ = _; rw [hk1]; exact hk2
      refine wp_region_held_drew (S := (fun w' => w'.cell? ⟨b, off + 3 + 2, none⟩ = some (.slice d1.a d1.n d1.c) ∧ w'.cell? ⟨b, off + 6 + 2, none⟩ = some (.slice d2.a d2.n d2.c))) (by kernel_rfl) (by go_keep) (fun hHeld => ?_)
      refine wpAnyH_take (i := 0) (v := ?_) rfl (by kernel_rfl) (by kernel_rfl) (by kernel_rfl) (fun _ _ _ h => h) (Or.inl ⟨by rfl, ?_⟩) (by assumption) ?_
      rotate_left 1
      · (intro w hSw; (try dsimp only at hSw); go_simp; (try with_reducible rfl))
      try simp only [Act.put]
      refine wpAnyH_take (i := 1) (v := ?_) rfl (by kernel_rfl) (by kernel_rfl) (by kernel_rfl) (fun _ _ _ h => h) (Or.inl ⟨by rfl, ?_⟩) (by assumption) ?_
      rotate_left 1
      · (intro w hSw; (try dsimp only at hSw); go_simp; (try with_reducible rfl))
      try simp only [Act.put]
      refine wpAnyH_take (i := 2) (v := ?_) rfl (by kernel_rfl) (by kernel_rfl) (by kernel_rfl) (fun _ _ _ h => h) (Or.inl ⟨by rfl, ?_⟩) (by assumption) ?_
      rotate_left 1
      · (intro w hSw; (try dsimp only at hSw); go_simp; (try with_reducible rfl))
      try simp only [Act.put]
      refine wpAnyH_take (i := 3) (v := ?_) rfl (by kernel_rfl) (by kernel_rfl) (by kernel_rfl) (fun _ _ _ h => h) (Or.inl ⟨by rfl, ?_⟩) (by assumption) ?_
      rotate_left 1
      · (intro w hSw; (try dsimp only at hSw); go_simp; (try with_reducible rfl))
      try simp only [Act.put]
      refine wpAnyH_take (i := 4) (v := ?_) rfl (by kernel_rfl) (by kernel_rfl) (by kernel_rfl) (fun _ _ _ h => h) (Or.inl ⟨by rfl, ?_⟩) (by assumption) ?_
      rotate_left 1
      · (intro w hSw; (try dsimp only at hSw); go_simp; (try with_reducible rfl))
      try simp only [Act.put]
      refine wpAnyH_take (i := 6) (v := ?_) rfl (by kernel_rfl) (by kernel_rfl) (by kernel_rfl) (fun _ _ _ h => h) (Or.inl ⟨by rfl, ?_⟩) (by assumption) ?_
      rotate_left 1
      · (intro w hSw; (try dsimp only at hSw); go_simp; (try with_reducible rfl))
      try simp only [Act.put]
      refine wpAnyH_take (i := 7) (v := ?_) rfl (by kernel_rfl) (by kernel_rfl) (by kernel_rfl) (fun _ _ _ h => h) (Or.inl ⟨by rfl, ?_⟩) (by assumption) ?_
      rotate_left 1
      · (intro w hSw; (try dsimp only at hSw); go_simp; (try with_reducible rfl))
      try simp only [Act.put]
      refine wpAnyH_take (i := 8) (v := ?_) rfl (by kernel_rfl) (by kernel_rfl) (by kernel_rfl) (fun _ _ _ h => h) (Or.inl ⟨by rfl, ?_⟩) (by assumption) ?_
      rotate_left 1
      · (intro w hSw; (try dsimp only at hSw); go_simp; (try with_reducible rfl))
      try simp only [Act.put]
      refine wpAnyH_take (i := 9) (v := ?_) rfl (by kernel_rfl) (by kernel_rfl) (by kernel_rfl) (fun _ _ _ h => h) (Or.inl ⟨by rfl, ?_⟩) (by assumption) ?_
      rotate_left 1
      · (intro w hSw; (try dsimp only at hSw); go_simp; (try with_reducible rfl))
      try simp only [Act.put]
      refine wpAnyH_ready (rs := [5]) (by kernel_rfl) (by simp) ?_
      refine AllReadyH.cons rfl (fun K hK => ?_) ?_
      · skip
        go_simp
        refine (S1.out _ (grown_drew (grown_refl _))).mono ?_
        rintro e w1 ⟨hg1, v, rfl, ⟨s1, s2, s3⟩, rfl, hs⟩
        have g1 : w.grownBy w1 none := grown_trans (grown_drew g0.out) hg1
        have k1 := cell_still Z1.out g1
        have k2 := cell_still Z2.out g1
        have C2 := spread_any ⟨s1, s2, s3⟩ d2 l z w1 hs.ints (HZ.out.more g1)
        rw [hk2] at C2
        try dsimp only
        refine hK.out _ _ (by first | assumption | go_keep) (fun hHeld => ?_)
        clear hK K
        try simp only [Act.put]
        refine wpAnyH_ready (rs := [10]) (by kernel_rfl) (by simp) ?_
        refine AllReadyH.cons rfl (fun K hK => ?_) ?_
        · skip
          go_simp
          refine C2.mono ?_
          rintro e wy ⟨hg, rfl⟩
          exact ⟨rfl, ended_err (by first | exact E2.out | exact hk2) (grown_trans g1 hg)⟩
        exact AllReadyH.nil
      exact AllReadyH.nil
    | ok zs =>
      have E2 : Hid ((spreadP x y).bind (fun l => spreadP l z) = .ok zs) := by show _ = _; rw [hk1]; exact hk2
      refine wp_region_held_drew (S := (fun w' => w'.cell? ⟨b, off + 3 + 2, none⟩ = some (.slice d1.a d1.n d1.c) ∧ w'.cell? ⟨b, off + 6 + 2, none⟩ = some (.slice d2.a d2.n d2.c))) (by kernel_rfl) (by go_keep) (fun hHeld => ?_)
      refine wpAnyH_take (i := 0) (v := ?_) rfl (by kernel_rfl) (by kernel_rfl) (by kernel_rfl) (fun _ _ _ h => h) (Or.inl ⟨by rfl, ?_⟩) (by assumption) ?_
      rotate_left 1
      · (intro w hSw; (try dsimp only at hSw); go_simp; (try with_reducible rfl))
      try simp only [Act.put]
      refine wpAnyH_take (i := 1) (v := ?_) rfl (by kernel_rfl) (by kernel_rfl) (by kernel_rfl) (fun _ _ _ h => h) (Or.inl ⟨by rfl, ?_⟩) (by assumption) ?_
      rotate_left 1
      · (intro w hSw; (try dsimp only at hSw); go_simp; (try with_reducible rfl))
      try simp only [Act.put]
      refine wpAnyH_take (i := 2) (v := ?_) rfl (by kernel_rfl) (by kernel_rfl) (by kernel_rfl) (fun _ _ _ h => h) (Or.inl ⟨by rfl, ?_⟩) (by assumption) ?_
      rotate_left 1
      · (intro w hSw; (try dsimp only at hSw); go_simp; (try with_reducible rfl))
      try simp only [Act.put]
      refine wpAnyH_take (i := 3) (v := ?_) rfl (by kernel_rfl) (by kernel_rfl) (by kernel_rfl) (fun _ _ _ h => h) (Or.inl ⟨by rfl, ?_⟩) (by assumption) ?_
      rotate_left 1
      · (intro w hSw; (try dsimp only at hSw); go_simp; (try with_reducible rfl))
      try simp only [Act.put]
      refine wpAnyH_take (i := 4) (v := ?_) rfl (by kernel_rfl) (by kernel_rfl) (by kernel_rfl) (fun _ _ _ h => h) (Or.inl ⟨by rfl, ?_⟩) (by assumption) ?_
      rotate_left 1
      · (intro w hSw; (try dsimp only at hSw); go_simp; (try with_reducible rfl))
      try simp only [Act.put]
      refine wpAnyH_take (i := 6) (v := ?_) rfl (by kernel_rfl) (by kernel_rfl) (by kernel_rfl) (fun _ _ _ h => h) (Or.inl ⟨by rfl, ?_⟩) (by assumption) ?_
      rotate_left 1
      · (intro w hSw; (try dsimp only at hSw); go_simp; (try with_reducible rfl))
      try simp only [Act.put]
      refine wpAnyH_take (i := 7) (v := ?_) rfl (by kernel_rfl) (by kernel_rfl) (by kernel_rfl) (fun _ _ _ h => h) (Or.inl ⟨by rfl, ?_⟩) (by assumption) ?_
      rotate_left 1
      · (intro w hSw; (try dsimp only at hSw); go_simp; (try with_reducible rfl))
      try simp only [Act.put]
      refine wpAnyH_take (i := 8) (v := ?_) rfl (by kernel_rfl) (by kernel_rfl) (by kernel_rfl) (fun _ _ _ h => h) (Or.inl ⟨by rfl, ?_⟩) (by assumption) ?_
      rotate_left 1
      · (intro w hSw; (try dsimp only at hSw); go_simp; (try with_reducible rfl))
      try simp only [Act.put]
      refine wpAnyH_take (i := 9) (v := ?_) rfl (by kernel_rfl) (by kernel_rfl) (by kernel_rfl) (fun _ _ _ h => h) (Or.inl ⟨by rfl, ?_⟩) (by assumption) ?_
      rotate_left 1
      · (intro w hSw; (try dsimp only at hSw); go_simp; (try with_reducible rfl))
      try simp only [Act.put]
      refine wpAnyH_ready (rs := [5]) (by kernel_rfl) (by simp) ?_
      refine AllReadyH.cons rfl (fun K hK => ?_) ?_
      · skip
        go_simp
        refine (S1.out _ (grown_drew (grown_refl _))).mono ?_
        rintro e w1 ⟨hg1, v, rfl, ⟨s1, s2, s3⟩, rfl, hs⟩
        have g1 : w.grownBy w1 none := grown_trans (grown_drew g0.out) hg1
        have k1 := cell_still Z1.out g1
        have k2 := cell_still Z2.out g1
        have C2 := spread_any ⟨s1, s2, s3⟩ d2 l z w1 hs.ints (HZ.out.more g1)
        rw [hk2] at C2
        try dsimp only
        refine hK.out _ _ (by first | assumption | go_keep) (fun hHeld => ?_)
        clear hK K
        try simp only [Act.put]
        refine wpAnyH_ready (rs := [10]) (by kernel_rfl) (by simp) ?_
        refine AllReadyH.cons rfl (fun K hK => ?_) ?_
        · skip
          go_simp
          refine C2.mono ?_
          rintro e w2 ⟨hg2, v, rfl, ⟨r1, r2, r3⟩, rfl, hr⟩
          have g2 : w.grownBy w2 none := grown_trans g1 hg2
          have k1 := cell_still Z1.out g2
          have k2 := cell_still Z2.out g2
          try dsimp only
          refine hK.out _ _ (by first | assumption | go_keep) (fun hHeld => ?_)
          clear hK K
          try simp only [Act.put]
          refine wpAnyH_take (i := 11) (v := ?_) rfl (by kernel_rfl) (by kernel_rfl) (by kernel_rfl) (fun _ _ _ h => h) (Or.inl ⟨by rfl, ?_⟩) (by assumption) ?_
          rotate_left 1
          · (intro w hSw; (try dsimp only at hSw); go_simp; (try with_reducible rfl))
          try simp only [Act.put]
          refine wpAnyH_done (by kernel_rfl) ?_ _
          try go_simp
          simp only [Sl.v]
          go_wp2
          go_ret
          exact ended_ok (by first | exact E2.out | exact hk2) g2 ⟨⟨r1, r2, r3⟩, rfl, hr.ints⟩
        exact AllReadyH.nil
      exact AllReadyH.nil
end Go.Proofs.YtdcbjikjeicgbaaGreatDoor

/- Joined dims (Concat), by the walk. -/
namespace Go.Proofs.YtdcbjikjeicgbaaGreatDoor
open Go.RowKit

theorem joinL_step {axis : Nat} {ys : List (List Int)} {k : Nat} (hk : k < ys.length) (dims : List Int) : joinL axis (ys.drop k) dims = (mustP (decide (ys[k].length = dims.length))).bind (fun _ => (mustP (likeP dims axis ys[k])).bind (fun _ => joinL axis (ys.drop (k + 1)) (dims.set axis (dims.getD axis 0 + ys[k].getD axis 0)))) := by
  rw [List.drop_eq_getElem_cons hk]
  rfl

theorem getD_mem2 {l : List Int} {k : Nat} (hk : k < l.length) : l.getD k 0 ∈ l := by
  rw [List.getD, List.getElem?_eq_getElem hk]
  exact List.getElem_mem hk

theorem likeP_bad {dims y : List Int} {axis i : Nat} (hi : i < y.length) (ha : i ≠ axis) (h : y.getD i 0 ≠ dims.getD i 0) : likeP dims axis y = false := by
  unfold likeP
  rw [List.all_eq_false]
  exact ⟨i, List.mem_range.2 hi, by rw [Bool.not_eq_true, Bool.or_eq_false_iff]; exact ⟨by simpa using ha, by simpa using h⟩⟩

theorem likeP_good {dims y : List Int} {axis : Nat} (h : ∀ i, i < y.length → i = axis ∨ y.getD i 0 = dims.getD i 0) : likeP dims axis y = true := by
  unfold likeP
  rw [List.all_eq_true]
  intro i hi
  rcases h i (List.mem_range.1 hi) with h1 | h1
  · simp [h1]
  · rw [Bool.or_eq_true]; exact .inr (by simpa using h1)

set_option maxRecDepth 100000 in
set_option maxHeartbeats 4000000 in
theorem joined_any (n : Nod) (A : At) (u : Sl) (p0 : Val × List Int) (rs : List (Val × List Int)) (w : World) (hn : NodeOk w n A) (hv : ValsIn w u.v (p0 :: rs)) (hr : rs.length ≤ 19) (hf : ∀ p ∈ p0 :: rs, Fine p.2) : Calls Tryz.prog 104 #[nval n, .slice u.a u.n u.c] w (Ended w (joinedP A p0.2 (rs.map (·.2))) DimsQ) := by
  obtain ⟨xa, xc, e1, q1, q2, q3⟩ := hv.vals.form
  rw [List.length_map] at e1 q1 q3
  obtain ⟨ua, un, uc⟩ := u
  simp only [Sl.v, Value.slice.injEq] at e1
  obtain ⟨rfl, rfl, rfl⟩ := e1
  have HV := hide hv
  obtain ⟨b, off, rfl⟩ := hv.vals.addr (k := 0) (by simp)
  obtain ⟨-, z0⟩ := hv.at 0 (by simp)
  rw [Nat.zero_mul, Nat.add_zero] at z0
  simp only [List.getElem_cons_zero] at z0
  have HX := hide (hv.dims p0 (by simp))
  have HF := hide hf
  have FX := hide (hf p0 (by simp))
  obtain ⟨⟨pn0, pt0, ⟨d0a, d0n, d0c⟩⟩, x⟩ := p0
  simp only at z0 HX FX ⊢
  have FEW := FX.out.few
  have PB : Hid (∀ z ∈ x, 1 ≤ z ∧ z ≤ 65536) := fun z hz => ⟨FX.out.pos z hz, FX.out.le_each hz⟩
  obtain ⟨m, hm⟩ : ∃ m, m = ((((⟨pn0, pt0, ⟨d0a, d0n, d0c⟩⟩, x) : Val × List Int) :: rs) : List (Val × List Int)).length := ⟨_, rfl⟩
  have hm1 : m = rs.length + 1 := by rw [hm]; simp
  rw [← hm] at q1 q3 ⊢
  have hm0 : 0 < m := by omega
  have hm0' : (0 : Int) < (m : Int) := by omega
  have hm2 : (1 : Int) ≤ (m : Int) := by omega
  have hm3 : 1 ≤ m := by omega
  have huc2 : 1 ≤ uc := by omega
  have hmr : m - 1 = rs.length := by omega
  have Z0 := hide z0
  have RG := hn.int ⟨#[97, 120, 105, 115]⟩ 0 (by omega)
  have hucr : rs.length + 1 ≤ uc := by omega
  clear hv hm z0 hf
  have NK := hide hn
  obtain ⟨op, nam, ⟨ia, il, ic⟩, out, ⟨ao, al, cap⟩⟩ := n
  unfold nval
  simp only
  obtain ⟨w0, hw0⟩ : ∃ w0, w0 = w.alloc (.cells #[.string op, .string nam, .slice ia il ic, .string out, .slice ao al cap] 25) := ⟨_, rfl⟩
  have g0 : Hid (w.grownBy w0 none) := by show w.grownBy w0 none; rw [hw0]; exact grown_new _ _
  have hb0 := heap_alloc_new w (.cells #[.string op, .string nam, .slice ia il ic, .string out, .slice ao al cap] 25)
  rw [← hw0] at hb0
  have BX : Hid (∀ wx, w0.grownBy wx none → wx.heap[w.heap.size]? = some (.cells #[.string op, .string nam, .slice ia il ic, .string out, .slice ao al cap] 25 (0, 0))) := fun wx hg => box_kept hb0 hg
  clear hb0 hn
  have I0 := hide (fun (wx : World) (hg : w.grownBy wx none) => nint_any ⟨op, nam, ⟨ia, il, ic⟩, out, ⟨ao, al, cap⟩⟩ A ⟨#[97, 120, 105, 115]⟩ 0 wx (NK.out.more hg))
  have CL := hide (cloneI_any ⟨d0a, d0n, d0c⟩ x w0 (HX.out.more g0.out))
  unfold nval at I0
  simp only at I0 CL
  obtain ⟨z, hz⟩ : ∃ z, z = A.int ⟨#[97, 120, 105, 115]⟩ 0 := ⟨_, rfl⟩
  rw [← hz] at I0 RG
  have E0 : Hid (joinedP A x (rs.map (·.2)) = (axisP z x.length).bind (fun axis => joinL axis (rs.map (·.2)) x)) := by show _ = _; rw [hz]; rfl
  have AO := hide (fun wx => axisof_any z x.length wx (by omega) RG.1)
  have z0 : (w.alloc (.cells #[.string op, .string nam, .slice ia il ic, .string out, .slice ao al cap] 25)).cell? ⟨b, off + 2, none⟩ = some (.slice d0a d0n d0c) := cell_still Z0.out (grown_new _ _)
  clear hz hm1
  go_enter Tryz.func104, Tryz.ntmps104
  go_wp2_with fail
  rw [← hw0]
  clear hw0 z0
  refine CL.out.mono ?_
  rintro e w1 ⟨⟨qa, qn, qc⟩, rfl, ho, hg1⟩
  have HO := hide ho
  have hqn : qn = x.length := by obtain ⟨a1, c4, e, -⟩ := ho.ints.sl; simp only [Sl.v, Value.slice.injEq] at e; exact e.2.1
  subst hqn
  simp only
  obtain ⟨n0, n1, n2, n3, n4⟩ := nod_cells (n := ⟨op, nam, ⟨ia, il, ic⟩, out, ⟨ao, al, cap⟩⟩) (BX.out w1 (hg1))
  have G1 := hide (grown_trans g0.out hg1)
  clear ho hg1 CL
  go_wp2_with fail
  refine (I0.out w1 G1.out).mono ?_
  rintro e w2 ⟨rfl, hg2⟩
  have G2 := hide (grown_trans G1.out hg2)
  have HO2 := hide (HO.out.new hg2)
  clear hg2 HO I0 n0 n1 n2 n3 n4
  cases hk : axisP z x.length with
  | error c =>
    rw [hk] at AO
    have E : Hid (joinedP A x (rs.map (·.2)) = .error c) := by show _ = _; rw [E0.out, hk]; rfl
    clear hk
    go_wp2_with (first | (go_at_call 106; refine (AO.out _).mono ?_; rintro e w' ⟨hg, rfl⟩) | fail)
    exact ⟨rfl, ended_err E.out (grown_trans G2.out hg)⟩
  | ok axis =>
    rw [hk] at AO
    have E1 : Hid (joinedP A x (rs.map (·.2)) = joinL axis (rs.map (·.2)) x) := by show _ = _; rw [E0.out, hk]; rfl
    have hax : axis < x.length := by
      unfold axisP at hk
      cases ha : axisO z x.length with
      | none => rw [ha] at hk; cases hk
      | some i => rw [ha] at hk; cases hk; exact axisO_lt ha
    clear hk
    obtain ⟨g, gcap, eo, hbg, hgl, hlc, hcm⟩ := HO2.out.shape (by omega)
    simp only [Sl.v, Value.slice.injEq] at eo
    obtain ⟨rfl, -, rfl⟩ := eo
    have HO3 := hide (HO2.out.base_le g0.out.size)
    have hwg : w.heap.size ≤ g := Nat.le_trans g0.out.size hbg
    simp only [Sl.v] at HO3
    clear HO2
    have hax' : (axis : Int) < (x.length : Int) := by omega
    by_cases huc : uc = 1
    · have hrs0 : rs = [] := List.length_eq_zero_iff.1 (by omega)
      subst hrs0
      have E2 : Hid (joinedP A x (([] : List (Val × List Int)).map (·.2)) = .ok x) := E1.out
      subst huc
      go_wp2_with (first | (go_at_call 106; refine (AO.out _).mono ?_; rintro e w' ⟨-, v, rfl, rfl, rfl⟩) | fail)
      refine wp_loop_rounds 1 ?_
      rw [rounds_succ]
      go_wp2
      go_ret
      exact ended_ok E2.out G2.out ⟨⟨_, _, _⟩, rfl, HO3.out.ints⟩
    · go_wp2_with (first | (go_at_call 106; refine (AO.out _).mono ?_; rintro e w' ⟨-, v, rfl, rfl, rfl⟩) | fail)
      clear AO
      go_loopw [24] (fun i wr => ∃ (k : Nat) (D : List Int), k ≤ rs.length ∧ i = .int .i64 k ∧ Owns wr w.heap.size (.slice (some ⟨g, 0, none⟩) x.length qc) D ∧ D.length = x.length ∧ joinL axis ((rs.map (·.2)).drop k) D = joinL axis (rs.map (·.2)) x ∧ (∀ z ∈ D, 0 ≤ z ∧ z ≤ 65536 + 65536 * k) ∧ w.grownBy wr none) (fun i _ => rs.length - (intOf i).toNat)
      case atStart => exact ⟨0, x, Nat.zero_le _, rfl, HO3.out, rfl, by rw [List.drop_zero], fun z hz => by have := PB.out z hz; omega, G2.out⟩
      case round =>
        obtain ⟨k, D, hk, rfl, ho, hD, hst, hbd, hg⟩ := hrel
        have HG := hide hg
        have HO4 := hide ho
        by_cases hkl : k < rs.length
        · obtain ⟨y0, y1, y2⟩ := (HV.out.more hg).vals.val (k + 1) (by rw [List.length_map]; simp; omega)
          have HY := hide (HV.out.dims (rs[k]) (List.mem_cons_of_mem _ (List.getElem_mem hkl)))
          have FY := hide (HF.out (rs[k]) (List.mem_cons_of_mem _ (List.getElem_mem hkl)))
          simp only [List.map_cons, List.getElem_cons_succ, List.getElem_map] at y0 y1 y2
          have ea : off + (k + 1) * 3 = off + 3 + k * 3 := by omega
          rw [ea] at y0 y1 y2
          rw [joinL_step (by rw [List.length_map]; exact hkl)] at hst
          simp only [List.getElem_map] at hst
          obtain ⟨p, hp⟩ : ∃ p, p = rs[k] := ⟨_, rfl⟩
          rw [← hp] at y0 y1 y2 HY FY hst
          obtain ⟨⟨vn, vt, ⟨da, dn, dc⟩⟩, y⟩ := p
          simp only at y0 y1 y2 HY FY hst
          obtain ⟨yx, ycc, ey, f1, f2, f3⟩ := HY.out.sl
          simp only [Sl.v, Value.slice.injEq] at ey
          obtain ⟨rfl, rfl, rfl⟩ := ey
          have YF := FY.out.few
          obtain ⟨w3, hw3⟩ : ∃ w3, w3 = wr.alloc (.cells #[.string vn, .int .i64 vt, .slice da y.length dc] 31) := ⟨_, rfl⟩
          have g3 : Hid (w.grownBy w3 none) := by show w.grownBy w3 none; rw [hw3]; exact grown_trans hg (grown_new _ _)
          have hb3 := heap_alloc_new wr (.cells #[.string vn, .int .i64 vt, .slice da y.length dc] 31)
          rw [← hw3] at hb3
          have v2 : w3.cell? ⟨wr.heap.size, 2, none⟩ = some (.slice da y.length dc) := (cell_of_row _ _ 2 _ _ (0, 0) hb3).trans rfl
          have HO5 : Hid (Owns w3 w.heap.size (.slice (some ⟨g, 0, none⟩) x.length qc) D) := by show Owns _ _ _ _; rw [hw3]; exact ho.new (grown_new _ _)
          have HST := hide hst
          have HBD := hide hbd
          have HDD := hide hD
          clear hb3 ea hp ho hg hst hbd hD
          go_wp2_with fail
          rw [← hw3]
          clear hw3 y0 y1 y2
          by_cases hyl : y.length = x.length
          · have byl : ((y.length : Int) == (x.length : Int)) = true := by simp [hyl]
            have HYL := hide hyl
            have HST2 : Hid ((mustP (likeP D axis y)).bind (fun _ => joinL axis ((rs.map (·.2)).drop (k + 1)) (D.set axis (D.getD axis 0 + y.getD axis 0))) = joinL axis (rs.map (·.2)) x) := by show _ = _; rw [← HST.out]; simp [mustP, hyl, HDD.out]; rfl
            clear hyl HST
            go_wp2_with (first | (go_at_call 45; refine (must_yes _).mono ?_; rintro e w' ⟨rfl, rfl⟩) | fail)
            go_loopw [38] (fun i wx => w3 = wx ∧ ∃ t : Nat, t ≤ y.length ∧ i = .int .i64 t ∧ ∀ i, i < t → i = axis ∨ y.getD i 0 = D.getD i 0) (fun i _ => y.length - (intOf i).toNat)
            case atStart => exact ⟨rfl, 0, Nat.zero_le _, rfl, fun i h => absurd h (by omega)⟩
            case round =>
              obtain ⟨hw, t, ht, rfl, hall⟩ := hrel
              subst hw
              have HA := hide hall
              have HO6 : Hid (Owns w3 w.heap.size (.slice (some ⟨g, 0, none⟩) D.length qc) D) := by show Owns _ _ _ _; rw [HDD.out]; exact HO5.out
              clear hall byl
              by_cases htl : t < y.length
              · obtain ⟨yb, yo, rfl, hcy⟩ := HY.out.get htl
                have cy := cell_still (hcy t htl) g3.out
                have htx : t < x.length := by have := HYL.out; omega
                have htx' : (t : Int) < (x.length : Int) := by omega
                obtain ⟨cd, fd⟩ := HO6.out.cells (k := t) (by rw [HDD.out]; exact htx)
                obtain ⟨P, hP⟩ : ∃ P, P = y.getD t 0 := ⟨_, rfl⟩
                obtain ⟨Q, hQ⟩ : ∃ Q, Q = D.getD t 0 := ⟨_, rfl⟩
                rw [← hP] at cy
                rw [← hQ] at cd
                have HP := hide hP
                have HQ := hide hQ
                clear hP hQ hcy
                by_cases hta : t = axis
                · have bta : ((t : Int) == (axis : Int)) = true := by simp [hta]
                  have HTA := hide hta
                  clear hta
                  go_wp2_with (first | (go_at_call 45; refine (must_yes _).mono ?_; rintro e w' ⟨rfl, rfl⟩) | fail)
                  go_roundw
                  case rel =>
                    refine ⟨by trivial, t + 1, by omega, by go_num, fun i hi => ?_⟩
                    rcases lt_succ_cases hi with h | rfl
                    · exact HA.out i h
                    · exact .inl HTA.out
                  case measure => simp [intOf]; omega
                · have bta : ((t : Int) == (axis : Int)) = false := by simpa using (fun h => hta (by omega) : ¬ (t : Int) = axis)
                  have HTA := hide hta
                  clear hta
                  by_cases hpq : P = Q
                  · have bpq : (P == Q) = true := by simp [hpq]
                    have HPQ := hide hpq
                    clear hpq
                    go_wp2_with (first | (go_at_call 45; refine (must_yes _).mono ?_; rintro e w' ⟨rfl, rfl⟩) | fail)
                    go_roundw
                    case rel =>
                      refine ⟨by trivial, t + 1, by omega, by go_num, fun i hi => ?_⟩
                      rcases lt_succ_cases hi with h | rfl
                      · exact HA.out i h
                      · exact .inr (by rw [← HP.out, ← HQ.out]; exact HPQ.out)
                    case measure => simp [intOf]; omega
                  · have bpq : (P == Q) = false := by simpa using hpq
                    have E2 : Hid (joinedP A x (rs.map (·.2)) = .error 4) := by
                      show _ = _
                      rw [E1.out, ← HST2.out, likeP_bad htl HTA.out (by rw [← HP.out, ← HQ.out]; exact hpq)]
                      rfl
                    clear hpq
                    go_wp2_with (first | (go_at_call 45; refine (must_no _).mono ?_; rintro e w' ⟨rfl, rfl⟩) | fail)
                    exact ⟨rfl, ended_err E2.out g3.out⟩
              · have hyp : axis < y.length := by have := HYL.out; omega
                obtain ⟨yb, yo, rfl, hcy⟩ := HY.out.get hyp
                have cy := cell_still (hcy axis hyp) g3.out
                have by1 := FY.out.pos _ (getD_mem2 hyp)
                have by2 := FY.out.le_each (getD_mem2 hyp)
                obtain ⟨cd, fd⟩ := HO6.out.cells (k := axis) (by rw [HDD.out]; exact hax)
                have bd := HBD.out (D.getD axis 0) (getD_mem2 (by rw [HDD.out]; exact hax))
                have HST3 : Hid (joinL axis ((rs.map (·.2)).drop (k + 1)) (D.set axis (D.getD axis 0 + y.getD axis 0)) = joinL axis (rs.map (·.2)) x) := by
                  show _ = _
                  rw [← HST2.out, likeP_good (fun i hi => HA.out i (by omega))]
                  rfl
                obtain ⟨P, hP⟩ : ∃ P, P = y.getD axis 0 := ⟨_, rfl⟩
                obtain ⟨Q, hQ⟩ : ∃ Q, Q = D.getD axis 0 := ⟨_, rfl⟩
                rw [← hP] at cy by1 by2 HST3
                rw [← hQ] at cd bd HST3
                have hk19 : (k : Int) ≤ 19 := by omega
                obtain ⟨so, sg⟩ := HO6.out.put axis (Q + P) (by omega)
                have SO : Hid (Owns (w3.setCell ⟨g, axis, none⟩ (.int .i64 (Q + P))) w.heap.size (.slice (some ⟨g, 0, none⟩) x.length qc) (D.set axis (Q + P))) := by show Owns _ _ _ _; rw [← HDD.out]; exact so
                have SG := hide (grown_drop g3.out sg hwg)
                have HB : Hid (∀ z ∈ D.set axis (Q + P), 0 ≤ z ∧ z ≤ 65536 + 65536 * ((k + 1 : Nat) : Int)) := fun z hz => by
                  rcases List.mem_or_eq_of_mem_set hz with h1 | rfl
                  · have := HBD.out z h1; omega
                  · omega
                have hyp' : (axis : Int) < (y.length : Int) := by omega
                clear hP hQ hcy so sg
                go_wp2_with fail
                go_region
                go_wp2_with fail
                go_roundw
                case rel => exact ⟨k + 1, _, by omega, by go_num, SO.out.new (grown_drew (grown_refl _)), by rw [List.length_set]; exact HDD.out, HST3.out, HB.out, grown_drew SG.out⟩
                case measure => simp [intOf]; omega
          · have byl : ((y.length : Int) == (x.length : Int)) = false := by simpa using (fun h => hyl (by omega) : ¬ (y.length : Int) = x.length)
            have E2 : Hid (joinedP A x (rs.map (·.2)) = .error 4) := by show _ = _; rw [E1.out, ← HST.out]; simp [mustP, hyl, HDD.out]; rfl
            clear hyl
            rw [byl]
            refine (must_no _).mono ?_
            rintro e w' ⟨rfl, rfl⟩
            exact ⟨rfl, ended_err E2.out g3.out⟩
        · have E2 : Hid (joinedP A x (rs.map (·.2)) = .ok D) := by
            show _ = _
            rw [E1.out, ← hst, List.drop_of_length_le (by rw [List.length_map]; omega)]
            rfl
          clear ho hg hst hbd
          go_wp2
          go_ret
          exact ended_ok E2.out HG.out ⟨⟨_, _, _⟩, rfl, HO4.out.ints⟩
end Go.Proofs.YtdcbjikjeicgbaaGreatDoor

/- The dims of a Concat. -/
namespace Go.Proofs.YtdcbjikjeicgbaaGreatDoor
open Go.RowKit

set_option maxRecDepth 100000 in
set_option maxHeartbeats 4000000 in
theorem dims_Concat (n : Nod) (A : At) (u : Sl) (p0 : Val × List Int) (rs : List (Val × List Int)) (w : World) (hop : n.op = ⟨#[67, 111, 110, 99, 97, 116]⟩) (hn : NodeOk w n A) (hv : ValsIn w u.v (p0 :: rs)) (hr : rs.length ≤ 19) (hf : ∀ p ∈ p0 :: rs, Fine p.2) : Calls Tryz.prog 49 #[nval n, .slice u.a u.n u.c] w (Ended w (joinedP A p0.2 (rs.map (·.2))) DimsQ) := by
  obtain ⟨xa, xc, e1, q1, q2, q3⟩ := hv.vals.form
  rw [List.length_map] at e1 q1 q3
  obtain ⟨ua, un, uc⟩ := u
  simp only [Sl.v, Value.slice.injEq] at e1
  obtain ⟨rfl, rfl, rfl⟩ := e1
  obtain ⟨b, off, rfl⟩ := hv.vals.addr (k := 0) (by simp)
  obtain ⟨-, z0⟩ := hv.at 0 (by simp)
  rw [Nat.zero_mul, Nat.add_zero] at z0
  simp only [List.getElem_cons_zero] at z0
  have HV := hide hv
  have HF := hide hf
  obtain ⟨⟨vn0, vt0, ⟨d0a, d0n, d0c⟩⟩, x⟩ := p0
  simp only at z0
  have Z0 := hide z0
  obtain ⟨m, hm⟩ : ∃ m, m = ((((⟨vn0, vt0, ⟨d0a, d0n, d0c⟩⟩, x) : Val × List Int) :: rs) : List (Val × List Int)).length := ⟨_, rfl⟩
  have hm0 : 0 < m := by rw [hm]; simp
  have hm0' : (0 : Int) < (m : Int) := by omega
  have HM := hide hm
  rw [← hm] at q1 q3 ⊢
  clear hv z0 hm hf
  have NK := hide hn
  obtain ⟨op, nam, ⟨ia, il, ic⟩, out, ⟨ao, al, cap⟩⟩ := n
  unfold nval
  simp only
  obtain ⟨w0, hw0⟩ : ∃ w0, w0 = w.alloc (.cells #[.string op, .string nam, .slice ia il ic, .string out, .slice ao al cap] 25) := ⟨_, rfl⟩
  have g0 : Hid (w.grownBy w0 none) := by show w.grownBy w0 none; rw [hw0]; exact grown_new _ _
  have hb0 := heap_alloc_new w (.cells #[.string op, .string nam, .slice ia il ic, .string out, .slice ao al cap] 25)
  rw [← hw0] at hb0
  have BX : Hid (∀ wx, w0.grownBy wx none → wx.heap[w.heap.size]? = some (.cells #[.string op, .string nam, .slice ia il ic, .string out, .slice ao al cap] 25 (0, 0))) := fun wx hg => box_kept hb0 hg
  clear hb0 hn
  simp only at hop
  subst hop
  have z0 : (w.alloc (.cells #[.string ⟨#[67, 111, 110, 99, 97, 116]⟩, .string nam, .slice ia il ic, .string out, .slice ao al cap] 25)).cell? ⟨b, off + 2, none⟩ = some (.slice d0a d0n d0c) := cell_still Z0.out (grown_new _ _)
  have C := hide (joined_any ⟨⟨#[67, 111, 110, 99, 97, 116]⟩, nam, ⟨ia, il, ic⟩, out, ⟨ao, al, cap⟩⟩ A ⟨some ⟨b, off, none⟩, m, uc⟩ _ rs w0 (NK.out.more g0.out) (by rw [HM.out]; exact HV.out.more g0.out) hr HF.out)
  unfold nval at C
  simp only at C
  go_enter Tryz.func49, Tryz.ntmps49
  go_wp2_with fail
  rw [← hw0]
  clear hw0
  cases hk : joinedP A x (rs.map (·.2)) with
  | error c =>
    rw [hk] at C
    have HK := hide hk
    clear hk
    refine C.out.mono ?_
    rintro e w' ⟨hg, rfl⟩
    exact ⟨rfl, ended_err (by first | exact HK.out | rfl) (grown_trans g0.out hg)⟩
  | ok zs =>
    rw [hk] at C
    have HK := hide hk
    clear hk
    refine C.out.mono ?_
    rintro e w' ⟨hg, v, rfl, ⟨s1, s2, s3⟩, rfl, hs⟩
    simp only [Sl.v]
    go_wp2
    go_ret
    exact ended_ok (by first | exact HK.out | rfl) (grown_trans g0.out hg) ⟨⟨s1, s2, s3⟩, rfl, hs⟩
end Go.Proofs.YtdcbjikjeicgbaaGreatDoor
