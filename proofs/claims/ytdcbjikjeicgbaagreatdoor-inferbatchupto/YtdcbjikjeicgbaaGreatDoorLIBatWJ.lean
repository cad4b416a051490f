/- Of two the type and the dims are the same in either order: the law, by the walk (mkIBat.py). -/
import Derived.Test.YtdcbjikjeicgbaaGreatDoorIBatJ
import Derived.Test.YtdcbjikjeicgbaaGreatDoorPartU
import Derived.Deep.RegionHeld3
namespace Go.Proofs.YtdcbjikjeicgbaaGreatDoor
open Go.RowKit

set_option maxRecDepth 100000 in
set_option maxHeartbeats 6400000 in
theorem ibat_len (n : Nod) (ins : List ByteArray) (A : At) (u : Sl) (vs : List (Val × List Int)) (w : World) (hl : Laid w) (hn : NodeAll w n ins A) (hv : ValsIn w u.v vs) (h : vs.length ≠ 2) :
    Calls Tryz.prog 7 #[nval n, .slice u.a u.n u.c] w fun e w' => e = .returned (.bool true) ∧ Below w.heap.size w w' := by
  have OO := hide (fun (wx : World) (hx : w.grownBy wx none) => out_of n ins A u vs wx (hl.more hx) (hn.more hx) (hv.more hx))
  have LV := hide (fun (wx : World) (hx : w.grownBy wx none) => ilive_any wx (hl.more hx))
  obtain ⟨w0, hw0⟩ : ∃ w0, w0 = w.alloc (.cells #[.string n.op, .string n.name, .slice n.iv.a n.iv.n n.iv.c, .string n.out, .slice n.av.a n.av.n n.av.c] 25) := ⟨_, rfl⟩
  have g0 : Hid (w.grownBy w0 none) := by show w.grownBy w0 none; rw [hw0]; exact grown_new _ _
  have hb0 := heap_alloc_new w (.cells #[.string n.op, .string n.name, .slice n.iv.a n.iv.n n.iv.c, .string n.out, .slice n.av.a n.av.n n.av.c] 25)
  obtain ⟨k0, k1, k2, k3, k4⟩ := nod_cells (n := n) hb0
  rw [← hw0] at hb0
  have BX : Hid (∀ wx, w0.grownBy wx none → wx.heap[w.heap.size]? = some (.cells #[.string n.op, .string n.name, .slice n.iv.a n.iv.n n.iv.c, .string n.out, .slice n.av.a n.av.n n.av.c] 25 (0, 0))) := fun wx hg => box_kept hb0 hg
  clear hb0
  obtain ⟨xa, xc, e1, q1, q2, q3⟩ := hv.vals.form
  rw [List.length_map] at e1 q1 q3
  obtain ⟨iv', icc, ei, j1, j2, j3⟩ := hn.node.ins.form
  clear OO BX hl hn hv
  obtain ⟨op, nam, ⟨ia, il, ic⟩, out, ⟨ao, al, cap⟩⟩ := n
  obtain ⟨ua, un, uc⟩ := u
  simp only [Sl.v, Value.slice.injEq] at e1 ei
  obtain ⟨rfl, rfl, rfl⟩ := e1
  obtain ⟨rfl, rfl, rfl⟩ := ei
  unfold nval
  simp only at k0 k1 k2 k3 k4 hw0 ⊢
  have b1 : ((vs.length : Int) != 2) = true := by simpa using (fun e => h (by omega) : ¬ (vs.length : Int) = 2)
  clear h
  go_enter Tryz.func7, Tryz.ntmps7
  go_wp2_with fail
  rw [← hw0]
  clear hw0 k0 k1 k2 k3 k4
  refine (LV.out w0 g0.out).mono ?_
  rintro e w3 ⟨rfl, hg3⟩
  go_wp2
  go_ret
  exact ⟨rfl, grown_below (grown_trans g0.out hg3)⟩

set_option maxRecDepth 100000 in
set_option maxHeartbeats 6400000 in
theorem ibat_ins (n : Nod) (ins : List ByteArray) (A : At) (u : Sl) (vs : List (Val × List Int)) (w : World) (hl : Laid w) (hn : NodeAll w n ins A) (hv : ValsIn w u.v vs) (h0 : vs.length = 2) (h : ins.length ≠ 2) :
    Calls Tryz.prog 7 #[nval n, .slice u.a u.n u.c] w fun e w' => e = .returned (.bool true) ∧ Below w.heap.size w w' := by
  have OO := hide (fun (wx : World) (hx : w.grownBy wx none) => out_of n ins A u vs wx (hl.more hx) (hn.more hx) (hv.more hx))
  have LV := hide (fun (wx : World) (hx : w.grownBy wx none) => ilive_any wx (hl.more hx))
  obtain ⟨w0, hw0⟩ : ∃ w0, w0 = w.alloc (.cells #[.string n.op, .string n.name, .slice n.iv.a n.iv.n n.iv.c, .string n.out, .slice n.av.a n.av.n n.av.c] 25) := ⟨_, rfl⟩
  have g0 : Hid (w.grownBy w0 none) := by show w.grownBy w0 none; rw [hw0]; exact grown_new _ _
  have hb0 := heap_alloc_new w (.cells #[.string n.op, .string n.name, .slice n.iv.a n.iv.n n.iv.c, .string n.out, .slice n.av.a n.av.n n.av.c] 25)
  obtain ⟨k0, k1, k2, k3, k4⟩ := nod_cells (n := n) hb0
  rw [← hw0] at hb0
  have BX : Hid (∀ wx, w0.grownBy wx none → wx.heap[w.heap.size]? = some (.cells #[.string n.op, .string n.name, .slice n.iv.a n.iv.n n.iv.c, .string n.out, .slice n.av.a n.av.n n.av.c] 25 (0, 0))) := fun wx hg => box_kept hb0 hg
  clear hb0
  obtain ⟨xa, xc, e1, q1, q2, q3⟩ := hv.vals.form
  rw [List.length_map] at e1 q1 q3
  obtain ⟨iv', icc, ei, j1, j2, j3⟩ := hn.node.ins.form
  clear OO BX hl hn hv
  obtain ⟨op, nam, ⟨ia, il, ic⟩, out, ⟨ao, al, cap⟩⟩ := n
  obtain ⟨ua, un, uc⟩ := u
  simp only [Sl.v, Value.slice.injEq] at e1 ei
  obtain ⟨rfl, rfl, rfl⟩ := e1
  obtain ⟨rfl, rfl, rfl⟩ := ei
  unfold nval
  simp only at k0 k1 k2 k3 k4 hw0 ⊢
  have b1 : ((vs.length : Int) != 2) = false := by simp [h0]
  have b2 : ((ins.length : Int) != 2) = true := by simpa using (fun e => h (by omega) : ¬ (ins.length : Int) = 2)
  clear h h0
  go_enter Tryz.func7, Tryz.ntmps7
  go_wp2_with fail
  rw [← hw0]
  clear hw0 k0 k1 k2 k3 k4
  refine (LV.out w0 g0.out).mono ?_
  rintro e w3 ⟨rfl, hg3⟩
  go_wp2
  go_ret
  exact ⟨rfl, grown_below (grown_trans g0.out hg3)⟩

set_option maxRecDepth 100000 in
set_option maxHeartbeats 6400000 in
theorem ibat_MatMul (n : Nod) (ins : List ByteArray) (A : At) (u : Sl) (vs : List (Val × List Int)) (w : World) (hl : Laid w) (hn : NodeAll w n ins A) (hv : ValsIn w u.v vs) (h0 : vs.length = 2) (h1 : ins.length = 2)  (h : n.op.toList = [77, 97, 116, 77, 117, 108]) :
    Calls Tryz.prog 7 #[nval n, .slice u.a u.n u.c] w fun e w' => e = .returned (.bool true) ∧ Below w.heap.size w w' := by
  have OO := hide (fun (wx : World) (hx : w.grownBy wx none) => out_of n ins A u vs wx (hl.more hx) (hn.more hx) (hv.more hx))
  have LV := hide (fun (wx : World) (hx : w.grownBy wx none) => ilive_any wx (hl.more hx))
  obtain ⟨w0, hw0⟩ : ∃ w0, w0 = w.alloc (.cells #[.string n.op, .string n.name, .slice n.iv.a n.iv.n n.iv.c, .string n.out, .slice n.av.a n.av.n n.av.c] 25) := ⟨_, rfl⟩
  have g0 : Hid (w.grownBy w0 none) := by show w.grownBy w0 none; rw [hw0]; exact grown_new _ _
  have hb0 := heap_alloc_new w (.cells #[.string n.op, .string n.name, .slice n.iv.a n.iv.n n.iv.c, .string n.out, .slice n.av.a n.av.n n.av.c] 25)
  obtain ⟨k0, k1, k2, k3, k4⟩ := nod_cells (n := n) hb0
  rw [← hw0] at hb0
  have BX : Hid (∀ wx, w0.grownBy wx none → wx.heap[w.heap.size]? = some (.cells #[.string n.op, .string n.name, .slice n.iv.a n.iv.n n.iv.c, .string n.out, .slice n.av.a n.av.n n.av.c] 25 (0, 0))) := fun wx hg => box_kept hb0 hg
  clear hb0
  obtain ⟨xa, xc, e1, q1, q2, q3⟩ := hv.vals.form
  rw [List.length_map] at e1 q1 q3
  obtain ⟨iv', icc, ei, j1, j2, j3⟩ := hn.node.ins.form
  clear OO BX hl hn hv
  obtain ⟨op, nam, ⟨ia, il, ic⟩, out, ⟨ao, al, cap⟩⟩ := n
  obtain ⟨ua, un, uc⟩ := u
  simp only [Sl.v, Value.slice.injEq] at e1 ei
  obtain ⟨rfl, rfl, rfl⟩ := e1
  obtain ⟨rfl, rfl, rfl⟩ := ei
  unfold nval
  simp only at k0 k1 k2 k3 k4 hw0 ⊢
  simp only at h 
  have b1 : ((vs.length : Int) != 2) = false := by simp [h0]
  have b2 : ((ins.length : Int) != 2) = false := by simp [h1]
  have d0 : (op.toList == [77, 97, 116, 77, 117, 108]) = true := by simp [h]
  clear h h0 h1 
  go_enter Tryz.func7, Tryz.ntmps7
  go_wp2_with fail
  rw [← hw0]
  clear hw0 k0 k1 k2 k3 k4
  refine (LV.out w0 g0.out).mono ?_
  rintro e w3 ⟨rfl, hg3⟩
  go_wp2
  go_ret
  exact ⟨rfl, grown_below (grown_trans g0.out hg3)⟩

set_option maxRecDepth 100000 in
set_option maxHeartbeats 6400000 in
theorem ibat_Gemm (n : Nod) (ins : List ByteArray) (A : At) (u : Sl) (vs : List (Val × List Int)) (w : World) (hl : Laid w) (hn : NodeAll w n ins A) (hv : ValsIn w u.v vs) (h0 : vs.length = 2) (h1 : ins.length = 2) (m0 : n.op.toList ≠ [77, 97, 116, 77, 117, 108]) (h : n.op.toList = [71, 101, 109, 109]) :
    Calls Tryz.prog 7 #[nval n, .slice u.a u.n u.c] w fun e w' => e = .returned (.bool true) ∧ Below w.heap.size w w' := by
  have OO := hide (fun (wx : World) (hx : w.grownBy wx none) => out_of n ins A u vs wx (hl.more hx) (hn.more hx) (hv.more hx))
  have LV := hide (fun (wx : World) (hx : w.grownBy wx none) => ilive_any wx (hl.more hx))
  obtain ⟨w0, hw0⟩ : ∃ w0, w0 = w.alloc (.cells #[.string n.op, .string n.name, .slice n.iv.a n.iv.n n.iv.c, .string n.out, .slice n.av.a n.av.n n.av.c] 25) := ⟨_, rfl⟩
  have g0 : Hid (w.grownBy w0 none) := by show w.grownBy w0 none; rw [hw0]; exact grown_new _ _
  have hb0 := heap_alloc_new w (.cells #[.string n.op, .string n.name, .slice n.iv.a n.iv.n n.iv.c, .string n.out, .slice n.av.a n.av.n n.av.c] 25)
  obtain ⟨k0, k1, k2, k3, k4⟩ := nod_cells (n := n) hb0
  rw [← hw0] at hb0
  have BX : Hid (∀ wx, w0.grownBy wx none → wx.heap[w.heap.size]? = some (.cells #[.string n.op, .string n.name, .slice n.iv.a n.iv.n n.iv.c, .string n.out, .slice n.av.a n.av.n n.av.c] 25 (0, 0))) := fun wx hg => box_kept hb0 hg
  clear hb0
  obtain ⟨xa, xc, e1, q1, q2, q3⟩ := hv.vals.form
  rw [List.length_map] at e1 q1 q3
  obtain ⟨iv', icc, ei, j1, j2, j3⟩ := hn.node.ins.form
  clear OO BX hl hn hv
  obtain ⟨op, nam, ⟨ia, il, ic⟩, out, ⟨ao, al, cap⟩⟩ := n
  obtain ⟨ua, un, uc⟩ := u
  simp only [Sl.v, Value.slice.injEq] at e1 ei
  obtain ⟨rfl, rfl, rfl⟩ := e1
  obtain ⟨rfl, rfl, rfl⟩ := ei
  unfold nval
  simp only at k0 k1 k2 k3 k4 hw0 ⊢
  simp only at h m0
  have b1 : ((vs.length : Int) != 2) = false := by simp [h0]
  have b2 : ((ins.length : Int) != 2) = false := by simp [h1]
  have d0 : (op.toList == [77, 97, 116, 77, 117, 108]) = false := by simpa using m0
  have d1 : (op.toList == [71, 101, 109, 109]) = true := by simp [h]
  clear h h0 h1 m0
  go_enter Tryz.func7, Tryz.ntmps7
  go_wp2_with fail
  rw [← hw0]
  clear hw0 k0 k1 k2 k3 k4
  refine (LV.out w0 g0.out).mono ?_
  rintro e w3 ⟨rfl, hg3⟩
  go_wp2
  go_ret
  exact ⟨rfl, grown_below (grown_trans g0.out hg3)⟩

set_option maxRecDepth 100000 in
set_option maxHeartbeats 6400000 in
theorem ibat_Conv (n : Nod) (ins : List ByteArray) (A : At) (u : Sl) (vs : List (Val × List Int)) (w : World) (hl : Laid w) (hn : NodeAll w n ins A) (hv : ValsIn w u.v vs) (h0 : vs.length = 2) (h1 : ins.length = 2) (m0 : n.op.toList ≠ [77, 97, 116, 77, 117, 108]) (m1 : n.op.toList ≠ [71, 101, 109, 109]) (h : n.op.toList = [67, 111, 110, 118]) :
    Calls Tryz.prog 7 #[nval n, .slice u.a u.n u.c] w fun e w' => e = .returned (.bool true) ∧ Below w.heap.size w w' := by
  have OO := hide (fun (wx : World) (hx : w.grownBy wx none) => out_of n ins A u vs wx (hl.more hx) (hn.more hx) (hv.more hx))
  have LV := hide (fun (wx : World) (hx : w.grownBy wx none) => ilive_any wx (hl.more hx))
  obtain ⟨w0, hw0⟩ : ∃ w0, w0 = w.alloc (.cells #[.string n.op, .string n.name, .slice n.iv.a n.iv.n n.iv.c, .string n.out, .slice n.av.a n.av.n n.av.c] 25) := ⟨_, rfl⟩
  have g0 : Hid (w.grownBy w0 none) := by show w.grownBy w0 none; rw [hw0]; exact grown_new _ _
  have hb0 := heap_alloc_new w (.cells #[.string n.op, .string n.name, .slice n.iv.a n.iv.n n.iv.c, .string n.out, .slice n.av.a n.av.n n.av.c] 25)
  obtain ⟨k0, k1, k2, k3, k4⟩ := nod_cells (n := n) hb0
  rw [← hw0] at hb0
  have BX : Hid (∀ wx, w0.grownBy wx none → wx.heap[w.heap.size]? = some (.cells #[.string n.op, .string n.name, .slice n.iv.a n.iv.n n.iv.c, .string n.out, .slice n.av.a n.av.n n.av.c] 25 (0, 0))) := fun wx hg => box_kept hb0 hg
  clear hb0
  obtain ⟨xa, xc, e1, q1, q2, q3⟩ := hv.vals.form
  rw [List.length_map] at e1 q1 q3
  obtain ⟨iv', icc, ei, j1, j2, j3⟩ := hn.node.ins.form
  clear OO BX hl hn hv
  obtain ⟨op, nam, ⟨ia, il, ic⟩, out, ⟨ao, al, cap⟩⟩ := n
  obtain ⟨ua, un, uc⟩ := u
  simp only [Sl.v, Value.slice.injEq] at e1 ei
  obtain ⟨rfl, rfl, rfl⟩ := e1
  obtain ⟨rfl, rfl, rfl⟩ := ei
  unfold nval
  simp only at k0 k1 k2 k3 k4 hw0 ⊢
  simp only at h m0 m1
  have b1 : ((vs.length : Int) != 2) = false := by simp [h0]
  have b2 : ((ins.length : Int) != 2) = false := by simp [h1]
  have d0 : (op.toList == [77, 97, 116, 77, 117, 108]) = false := by simpa using m0
  have d1 : (op.toList == [71, 101, 109, 109]) = false := by simpa using m1
  have d2 : (op.toList == [67, 111, 110, 118]) = true := by simp [h]
  clear h h0 h1 m0 m1
  go_enter Tryz.func7, Tryz.ntmps7
  go_wp2_with fail
  rw [← hw0]
  clear hw0 k0 k1 k2 k3 k4
  refine (LV.out w0 g0.out).mono ?_
  rintro e w3 ⟨rfl, hg3⟩
  go_wp2
  go_ret
  exact ⟨rfl, grown_below (grown_trans g0.out hg3)⟩

set_option maxRecDepth 100000 in
set_option maxHeartbeats 6400000 in
theorem ibat_Gather (n : Nod) (ins : List ByteArray) (A : At) (u : Sl) (vs : List (Val × List Int)) (w : World) (hl : Laid w) (hn : NodeAll w n ins A) (hv : ValsIn w u.v vs) (h0 : vs.length = 2) (h1 : ins.length = 2) (m0 : n.op.toList ≠ [77, 97, 116, 77, 117, 108]) (m1 : n.op.toList ≠ [71, 101, 109, 109]) (m2 : n.op.toList ≠ [67, 111, 110, 118]) (h : n.op.toList = [71, 97, 116, 104, 101, 114]) :
    Calls Tryz.prog 7 #[nval n, .slice u.a u.n u.c] w fun e w' => e = .returned (.bool true) ∧ Below w.heap.size w w' := by
  have OO := hide (fun (wx : World) (hx : w.grownBy wx none) => out_of n ins A u vs wx (hl.more hx) (hn.more hx) (hv.more hx))
  have LV := hide (fun (wx : World) (hx : w.grownBy wx none) => ilive_any wx (hl.more hx))
  obtain ⟨w0, hw0⟩ : ∃ w0, w0 = w.alloc (.cells #[.string n.op, .string n.name, .slice n.iv.a n.iv.n n.iv.c, .string n.out, .slice n.av.a n.av.n n.av.c] 25) := ⟨_, rfl⟩
  have g0 : Hid (w.grownBy w0 none) := by show w.grownBy w0 none; rw [hw0]; exact grown_new _ _
  have hb0 := heap_alloc_new w (.cells #[.string n.op, .string n.name, .slice n.iv.a n.iv.n n.iv.c, .string n.out, .slice n.av.a n.av.n n.av.c] 25)
  obtain ⟨k0, k1, k2, k3, k4⟩ := nod_cells (n := n) hb0
  rw [← hw0] at hb0
  have BX : Hid (∀ wx, w0.grownBy wx none → wx.heap[w.heap.size]? = some (.cells #[.string n.op, .string n.name, .slice n.iv.a n.iv.n n.iv.c, .string n.out, .slice n.av.a n.av.n n.av.c] 25 (0, 0))) := fun wx hg => box_kept hb0 hg
  clear hb0
  obtain ⟨xa, xc, e1, q1, q2, q3⟩ := hv.vals.form
  rw [List.length_map] at e1 q1 q3
  obtain ⟨iv', icc, ei, j1, j2, j3⟩ := hn.node.ins.form
  clear OO BX hl hn hv
  obtain ⟨op, nam, ⟨ia, il, ic⟩, out, ⟨ao, al, cap⟩⟩ := n
  obtain ⟨ua, un, uc⟩ := u
  simp only [Sl.v, Value.slice.injEq] at e1 ei
  obtain ⟨rfl, rfl, rfl⟩ := e1
  obtain ⟨rfl, rfl, rfl⟩ := ei
  unfold nval
  simp only at k0 k1 k2 k3 k4 hw0 ⊢
  simp only at h m0 m1 m2
  have b1 : ((vs.length : Int) != 2) = false := by simp [h0]
  have b2 : ((ins.length : Int) != 2) = false := by simp [h1]
  have d0 : (op.toList == [77, 97, 116, 77, 117, 108]) = false := by simpa using m0
  have d1 : (op.toList == [71, 101, 109, 109]) = false := by simpa using m1
  have d2 : (op.toList == [67, 111, 110, 118]) = false := by simpa using m2
  have d3 : (op.toList == [71, 97, 116, 104, 101, 114]) = true := by simp [h]
  clear h h0 h1 m0 m1 m2
  go_enter Tryz.func7, Tryz.ntmps7
  go_wp2_with fail
  rw [← hw0]
  clear hw0 k0 k1 k2 k3 k4
  refine (LV.out w0 g0.out).mono ?_
  rintro e w3 ⟨rfl, hg3⟩
  go_wp2
  go_ret
  exact ⟨rfl, grown_below (grown_trans g0.out hg3)⟩

set_option maxRecDepth 100000 in
set_option maxHeartbeats 6400000 in
theorem ibat_Concat (n : Nod) (ins : List ByteArray) (A : At) (u : Sl) (vs : List (Val × List Int)) (w : World) (hl : Laid w) (hn : NodeAll w n ins A) (hv : ValsIn w u.v vs) (h0 : vs.length = 2) (h1 : ins.length = 2) (m0 : n.op.toList ≠ [77, 97, 116, 77, 117, 108]) (m1 : n.op.toList ≠ [71, 101, 109, 109]) (m2 : n.op.toList ≠ [67, 111, 110, 118]) (m3 : n.op.toList ≠ [71, 97, 116, 104, 101, 114]) (h : n.op.toList = [67, 111, 110, 99, 97, 116]) :
    Calls Tryz.prog 7 #[nval n, .slice u.a u.n u.c] w fun e w' => e = .returned (.bool true) ∧ Below w.heap.size w w' := by
  have OO := hide (fun (wx : World) (hx : w.grownBy wx none) => out_of n ins A u vs wx (hl.more hx) (hn.more hx) (hv.more hx))
  have LV := hide (fun (wx : World) (hx : w.grownBy wx none) => ilive_any wx (hl.more hx))
  obtain ⟨w0, hw0⟩ : ∃ w0, w0 = w.alloc (.cells #[.string n.op, .string n.name, .slice n.iv.a n.iv.n n.iv.c, .string n.out, .slice n.av.a n.av.n n.av.c] 25) := ⟨_, rfl⟩
  have g0 : Hid (w.grownBy w0 none) := by show w.grownBy w0 none; rw [hw0]; exact grown_new _ _
  have hb0 := heap_alloc_new w (.cells #[.string n.op, .string n.name, .slice n.iv.a n.iv.n n.iv.c, .string n.out, .slice n.av.a n.av.n n.av.c] 25)
  obtain ⟨k0, k1, k2, k3, k4⟩ := nod_cells (n := n) hb0
  rw [← hw0] at hb0
  have BX : Hid (∀ wx, w0.grownBy wx none → wx.heap[w.heap.size]? = some (.cells #[.string n.op, .string n.name, .slice n.iv.a n.iv.n n.iv.c, .string n.out, .slice n.av.a n.av.n n.av.c] 25 (0, 0))) := fun wx hg => box_kept hb0 hg
  clear hb0
  obtain ⟨xa, xc, e1, q1, q2, q3⟩ := hv.vals.form
  rw [List.length_map] at e1 q1 q3
  obtain ⟨iv', icc, ei, j1, j2, j3⟩ := hn.node.ins.form
  clear OO BX hl hn hv
  obtain ⟨op, nam, ⟨ia, il, ic⟩, out, ⟨ao, al, cap⟩⟩ := n
  obtain ⟨ua, un, uc⟩ := u
  simp only [Sl.v, Value.slice.injEq] at e1 ei
  obtain ⟨rfl, rfl, rfl⟩ := e1
  obtain ⟨rfl, rfl, rfl⟩ := ei
  unfold nval
  simp only at k0 k1 k2 k3 k4 hw0 ⊢
  simp only at h m0 m1 m2 m3
  have b1 : ((vs.length : Int) != 2) = false := by simp [h0]
  have b2 : ((ins.length : Int) != 2) = false := by simp [h1]
  have d0 : (op.toList == [77, 97, 116, 77, 117, 108]) = false := by simpa using m0
  have d1 : (op.toList == [71, 101, 109, 109]) = false := by simpa using m1
  have d2 : (op.toList == [67, 111, 110, 118]) = false := by simpa using m2
  have d3 : (op.toList == [71, 97, 116, 104, 101, 114]) = false := by simpa using m3
  have d4 : (op.toList == [67, 111, 110, 99, 97, 116]) = true := by simp [h]
  clear h h0 h1 m0 m1 m2 m3
  go_enter Tryz.func7, Tryz.ntmps7
  go_wp2_with fail
  rw [← hw0]
  clear hw0 k0 k1 k2 k3 k4
  refine (LV.out w0 g0.out).mono ?_
  rintro e w3 ⟨rfl, hg3⟩
  go_wp2
  go_ret
  exact ⟨rfl, grown_below (grown_trans g0.out hg3)⟩

/-- Two values, in either order. -/
theorem vals_two {w : World} {p q : Val × List Int} (hp : IsInts w p.1.dv.v p.2) (hq : IsInts w q.1.dv.v q.2) : ValsIn (w.alloc (.cells #[.string q.1.name, .int .i64 q.1.ty, .slice q.1.dv.a q.1.dv.n q.1.dv.c, .string p.1.name, .int .i64 p.1.ty, .slice p.1.dv.a p.1.dv.n p.1.dv.c] 31)) (.slice (some ⟨w.heap.size, 0, none⟩) 2 2) [q, p] := by
  refine ⟨lit_isLG (te := 31) (bytes := 48) (xs := [q.1, p.1]) vcells_len (heap_alloc_new w _) rfl rfl (Nat.le_of_ble_eq_true rfl) (Nat.le_of_ble_eq_true rfl), fun x hx => ?_⟩
  simp only [List.mem_cons, List.not_mem_nil, or_false] at hx
  rcases hx with rfl | rfl
  · exact hq.more (grown_new _ _)
  · exact hp.more (grown_new _ _)

set_option maxRecDepth 100000 in
set_option maxHeartbeats 16000000 in
theorem ibat_two (n : Nod) (ins : List ByteArray) (A : At) (u : Sl) (p q : Val × List Int) (w : World) (hl : Laid w) (hn : NodeAll w n ins A) (hv : ValsIn w u.v [p, q]) (h1 : ins.length = 2) (m0 : n.op.toList ≠ [77, 97, 116, 77, 117, 108]) (m1 : n.op.toList ≠ [71, 101, 109, 109]) (m2 : n.op.toList ≠ [67, 111, 110, 118]) (m3 : n.op.toList ≠ [71, 97, 116, 104, 101, 114]) (m4 : n.op.toList ≠ [67, 111, 110, 99, 97, 116]) :
    Calls Tryz.prog 7 #[nval n, .slice u.a u.n u.c] w fun e w' => e = .returned (.bool true) ∧ Below w.heap.size w w' := by
  obtain ⟨vs, hvs⟩ : ∃ vs, vs = [p, q] := ⟨_, rfl⟩
  rw [← hvs] at hv
  have OO := hide (fun (wx : World) (hx : w.grownBy wx none) => out_of n ins A u vs wx (hl.more hx) (hn.more hx) (hv.more hx))
  have LV := hide (fun (wx : World) (hx : w.grownBy wx none) => ilive_any wx (hl.more hx))
  obtain ⟨w0, hw0⟩ : ∃ w0, w0 = w.alloc (.cells #[.string n.op, .string n.name, .slice n.iv.a n.iv.n n.iv.c, .string n.out, .slice n.av.a n.av.n n.av.c] 25) := ⟨_, rfl⟩
  have g0 : Hid (w.grownBy w0 none) := by show w.grownBy w0 none; rw [hw0]; exact grown_new _ _
  have hb0 := heap_alloc_new w (.cells #[.string n.op, .string n.name, .slice n.iv.a n.iv.n n.iv.c, .string n.out, .slice n.av.a n.av.n n.av.c] 25)
  obtain ⟨k0, k1, k2, k3, k4⟩ := nod_cells (n := n) hb0
  rw [← hw0] at hb0
  have BX : Hid (∀ wx, w0.grownBy wx none → wx.heap[w.heap.size]? = some (.cells #[.string n.op, .string n.name, .slice n.iv.a n.iv.n n.iv.c, .string n.out, .slice n.av.a n.av.n n.av.c] 25 (0, 0))) := fun wx hg => box_kept hb0 hg
  clear hb0
  have O2 := hide (fun (wx : World) (hx : w.grownBy wx none) (s : Sl) (hs : ValsIn wx s.v [q, p]) => out_of n ins A s [q, p] wx (hl.more hx) (hn.more hx) hs)
  rw [hvs] at OO hv
  clear hvs vs
  have HP := hide (hv.dims p (by simp))
  have HQ := hide (hv.dims q (by simp))
  have SW : Hid (∀ r, outF n ins A [p, q] = .ok r → outF n ins A [q, p] = .ok r) := fun r hr => ((outF_ok hr).turned m0 m1 m2 m3 m4).eq
  have WS : Hid (∀ r, outF n ins A [q, p] = .ok r → outF n ins A [p, q] = .ok r) := fun r hr => ((outF_ok hr).turned m0 m1 m2 m3 m4).eq
  have NE : Hid (∀ c, outF n ins A [p, q] = .error c → c ≠ 0) := fun c hc => outF_err hc
  have NE2 : Hid (∀ c, outF n ins A [q, p] = .error c → c ≠ 0) := fun c hc => outF_err hc
  obtain ⟨R1, hR1⟩ : ∃ R1, R1 = outF n ins A [p, q] := ⟨_, rfl⟩
  obtain ⟨R2, hR2⟩ : ∃ R2, R2 = outF n ins A [q, p] := ⟨_, rfl⟩
  rw [← hR1] at SW WS NE OO
  rw [← hR2] at SW WS NE2 O2
  clear hR1 hR2
  obtain ⟨xa, xc, e1, q1, q2, q3⟩ := hv.vals.form
  simp only [List.map_cons, List.map_nil, List.length_cons, List.length_nil, Nat.zero_add, Nat.reduceAdd] at e1 q1 q3
  obtain ⟨iv', icc, ei, j1, j2, j3⟩ := hn.node.ins.form
  obtain ⟨ua, un, uc⟩ := u
  simp only [Sl.v, Value.slice.injEq] at e1
  obtain ⟨rfl, rfl, rfl⟩ := e1
  obtain ⟨b, off, rfl⟩ := hv.vals.addr (k := 0) (by simp)
  have HC := hide (fun (wx : World) (hx : w.grownBy wx none) => (hv.more hx).vals.val 0 (by simp))
  have HD := hide (fun (wx : World) (hx : w.grownBy wx none) => (hv.more hx).vals.val 1 (by simp))
  simp only [List.map_cons, List.map_nil, List.getElem_cons_zero, List.getElem_cons_succ, Nat.zero_mul, Nat.one_mul, Nat.add_zero] at HC HD
  have d0 : (n.op.toList == [77, 97, 116, 77, 117, 108]) = false := by simpa using m0
  have d1 : (n.op.toList == [71, 101, 109, 109]) = false := by simpa using m1
  have d2 : (n.op.toList == [67, 111, 110, 118]) = false := by simpa using m2
  have d3 : (n.op.toList == [71, 97, 116, 104, 101, 114]) = false := by simpa using m3
  have d4 : (n.op.toList == [67, 111, 110, 99, 97, 116]) = false := by simpa using m4
  obtain ⟨op, nam, ⟨ia, il, ic⟩, out, ⟨ao, al, cap⟩⟩ := n
  simp only [Sl.v, Value.slice.injEq] at ei
  obtain ⟨rfl, rfl, rfl⟩ := ei
  obtain ⟨pp, pd⟩ := p
  obtain ⟨qq, qd⟩ := q
  obtain ⟨pn, pt, ⟨pa, pl, pc⟩⟩ := pp
  obtain ⟨qn, qt, ⟨qa, ql, qc⟩⟩ := qq
  unfold nval at OO O2 ⊢
  simp only at OO O2 BX HP HQ HC HD d0 d1 d2 d3 d4 k0 k1 k2 k3 k4 hw0 ⊢
  have b2 : ((ins.length : Int) != 2) = false := by simp [h1]
  clear hl hn hv h1 m0 m1 m2 m3 m4
  have O1 := hide (OO.out w0 g0.out)
  clear OO
  go_enter Tryz.func7, Tryz.ntmps7
  go_wp2_with fail
  rw [← hw0]
  clear hw0 k0 k1 k2 k3 k4 d0 d1 d2 d3 d4
  refine O1.out.mono ?_
  rintro e w1 hat
  obtain ⟨an, ⟨aa, al1, ac⟩, rfl, hai, hg1, -, -⟩ := att_res hat
  have HAI := hide hai
  obtain ⟨e1, e2, e3⟩ := two_same SW.out WS.out NE.out NE2.out
  obtain ⟨t1, ht1⟩ : ∃ t, t = tyR R1 := ⟨_, rfl⟩
  obtain ⟨t2, ht2⟩ : ∃ t, t = tyR R2 := ⟨_, rfl⟩
  obtain ⟨c1, hc1⟩ : ∃ t, t = erR R1 := ⟨_, rfl⟩
  obtain ⟨c2, hc2⟩ : ∃ t, t = erR R2 := ⟨_, rfl⟩
  rw [← ht1, ← ht2] at e1
  rw [← hc1, ← hc2] at e3
  rw [← ht1, ← hc1]
  have HE2 := hide e2
  have HT2 := hide ht2
  have HC2 := hide hc2
  have bt : (t1 == t2) = true := by simp [e1]
  clear hat hai e1 e2 ht1 ht2 hc1 hc2
  simp only at HAI ⊢
  obtain ⟨W1, hW1⟩ : ∃ W1, W1 = w1.alloc (.cells #[.string an, .int .i64 t1, .slice aa al1 ac] 31) := ⟨_, rfl⟩
  have B1 := heap_alloc_new w1 (.cells #[.string an, .int .i64 t1, .slice aa al1 ac] 31)
  rw [← hW1] at B1
  have BA : Hid (∀ wx, W1.grownBy wx none → wx.heap[w1.heap.size]? = some (.cells #[.string an, .int .i64 t1, .slice aa al1 ac] 31 (0, 0))) := fun wx hg => box_kept B1 hg
  have Z1 : Hid (W1.heap.size = w1.heap.size + 1) := by show _ = _; rw [hW1]; simp
  have G11 : Hid (w1.grownBy W1 none) := by show w1.grownBy W1 none; rw [hW1]; exact grown_new _ _
  have G10 := hide (grown_trans hg1 G11.out)
  have G1 := hide (grown_trans g0.out G10.out)
  have GD := hide (grown_drew G1.out)
  have GD0 := hide (grown_drew G10.out)
  have GDA := hide (grown_drew (grown_refl W1))
  clear B1 hg1
  have VT : Hid (∀ (V : World) (B : Nat), w.grownBy V none → V.heap.size = B → ValsIn (V.alloc (.cells #[.string qn, .int .i64 qt, .slice qa ql qc, .string pn, .int .i64 pt, .slice pa pl pc] 31)) (.slice (some ⟨B, 0, none⟩) 2 2) [(⟨qn, qt, ⟨qa, ql, qc⟩⟩, qd), (⟨pn, pt, ⟨pa, pl, pc⟩⟩, pd)]) := fun V B hV hB => by rw [← hB]; exact vals_two (p := (⟨pn, pt, ⟨pa, pl, pc⟩⟩, pd)) (q := (⟨qn, qt, ⟨qa, ql, qc⟩⟩, qd)) (HP.out.more hV) (HQ.out.more hV)
  obtain ⟨n0, n1, n2, n3, n4⟩ := nod_cells (n := ⟨op, nam, ⟨ia, ins.length, ic⟩, out, ⟨ao, al, cap⟩⟩) (BX.out W1 G10.out)
  obtain ⟨y0, y1, y2⟩ := HC.out W1 G1.out
  obtain ⟨y3, y4, y5⟩ := HD.out W1 G1.out
  have i1 : (1 : Int) < 2 := by decide
  have hb1 : b < W1.heap.size := World.block_lt_of_cell? W1 _ y0
  have hb2 : w.heap.size < W1.heap.size := World.block_lt_of_cell? W1 _ n0
  have e1 : W1.heap.size ≠ b := by omega
  have e2 : b ≠ W1.heap.size := by omega
  have e4 : W1.heap.size + 1 ≠ b := by omega
  have e5 : b ≠ W1.heap.size + 1 := by omega
  have e6 : W1.heap.size ≠ w.heap.size := by omega
  have e7 : w.heap.size ≠ W1.heap.size := by omega
  have e8 : W1.heap.size + 1 ≠ w.heap.size := by omega
  have e9 : w.heap.size ≠ W1.heap.size + 1 := by omega
  clear hb1 hb2
  go_wp2_with fail
  rw [← hW1]
  clear hW1
  go_region_held3 (fun w' => w'.cell? ⟨w.heap.size, 0, none⟩ = some (.string op) ∧ w'.cell? ⟨w.heap.size, 1, none⟩ = some (.string nam) ∧ w'.cell? ⟨w.heap.size, 2, none⟩ = some (.slice ia ins.length ic) ∧ w'.cell? ⟨w.heap.size, 3, none⟩ = some (.string out) ∧ w'.cell? ⟨w.heap.size, 4, none⟩ = some (.slice ao al cap) ∧ w'.cell? ⟨b, off, none⟩ = some (.string pn) ∧ w'.cell? ⟨b, off + 1, none⟩ = some (.int .i64 pt) ∧ w'.cell? ⟨b, off + 2, none⟩ = some (.slice pa pl pc) ∧ w'.cell? ⟨b, off + 3, none⟩ = some (.string qn) ∧ w'.cell? ⟨b, off + 3 + 1, none⟩ = some (.int .i64 qt) ∧ w'.cell? ⟨b, off + 3 + 2, none⟩ = some (.slice qa ql qc)) (go_keep) (first | (go_at_call 10; refine (O2.out _ (by first | exact grown_trans GD.out (grown_new _ _) | exact grown_trans (grown_trans GD.out (grown_new _ _)) (grown_new _ _)) ⟨some ⟨_, 0, none⟩, 2, 2⟩ (by first | exact VT.out _ _ GD.out (by simp) | exact (VT.out _ _ GD.out (by simp)).more (grown_new _ _) | exact VT.out _ _ (grown_trans GD.out (grown_new _ _)) (by simp))).mono ?_; rintro e v2 hat; obtain ⟨bn, ⟨ba, bl, bc⟩, rfl, hbi, hg2, hbo, -⟩ := att_res hat; have HBO := hide hbo; clear hbo; rw [← HT2.out, ← HC2.out]; have GVA : W1.grownBy v2 none := (by first | exact grown_trans (grown_trans GDA.out (grown_new _ _)) hg2 | exact grown_trans (grown_trans (grown_trans GDA.out (grown_new _ _)) (grown_new _ _)) hg2); have HBI := hide hbi; obtain ⟨n0, n1, n2, n3, n4⟩ := nod_cells (n := ⟨op, nam, ⟨ia, ins.length, ic⟩, out, ⟨ao, al, cap⟩⟩) (BX.out v2 (grown_trans G10.out GVA)); obtain ⟨y0, y1, y2⟩ := HC.out v2 (grown_trans G1.out GVA); obtain ⟨y3, y4, y5⟩ := HD.out v2 (grown_trans G1.out GVA); clear hat hbi; (try (have ZA : v2.heap[W1.heap.size + 1]? = some (.cells #[.string ⟨#[]⟩, .int .i64 0, .slice none 0 0] 31 (0, 0)) := (by have h := box_kept (heap_alloc_new (W1.drew.alloc (.cells #[.string qn, .int .i64 qt, .slice qa ql qc, .string pn, .int .i64 pt, .slice pa pl pc] 31)) (.cells #[.string ⟨#[]⟩, .int .i64 0, .slice none 0 0] 31)) hg2; simpa using h); have ZA0 := (cell_of_row _ _ 0 _ _ (0, 0) ZA).trans rfl; have ZA1 := (cell_of_row _ _ 1 _ _ (0, 0) ZA).trans rfl; have ZA2 := (cell_of_row _ _ 2 _ _ (0, 0) ZA).trans rfl; obtain ⟨ZA3, ZA4, ZA5⟩ := ten_frozen ZA)); (try (have ZB : v2.heap[W1.heap.size]? = some (.cells #[.string ⟨#[]⟩, .int .i64 0, .slice none 0 0] 31 (0, 0)) := (by have h := box_kept (heap_alloc_new W1.drew (.cells #[.string ⟨#[]⟩, .int .i64 0, .slice none 0 0] 31)) (grown_trans (grown_new _ _) hg2); simpa using h); have ZB0 := (cell_of_row _ _ 0 _ _ (0, 0) ZB).trans rfl; have ZB1 := (cell_of_row _ _ 1 _ _ (0, 0) ZB).trans rfl; have ZB2 := (cell_of_row _ _ 2 _ _ (0, 0) ZB).trans rfl; obtain ⟨ZB3, ZB4, ZB5⟩ := ten_frozen ZB))) | fail)
  · have GV := hide GVA
    obtain ⟨F, hF⟩ : ∃ F, F = v2.alloc (.cells #[.string bn, .int .i64 t2, .slice ba bl bc] 31) := ⟨_, rfl⟩
    have FB : Hid (F.heap[v2.heap.size]? = some (.cells #[.string bn, .int .i64 t2, .slice ba bl bc] 31 (0, 0))) := by show _ = _; rw [hF]; exact heap_alloc_new v2 _
    have FG : Hid (W1.grownBy F none) := by show W1.grownBy F none; rw [hF]; exact grown_trans GV.out (grown_new _ _)
    have FBI : Hid (IsInts F (Sl.v ⟨ba, bl, bc⟩) (dmR R2)) := by show IsInts F _ _; rw [hF]; exact HBI.out.more (grown_new _ _)
    rw [← hF]
    clear hF GVA n0 n1 n2 n3 n4 y0 y1 y2 y3 y4 y5 e1 e2 e4 e5 e6 e7 e8 e9
    obtain ⟨a0, a1, a2⟩ : F.cell? ⟨w1.heap.size, 0, none⟩ = some (.string an) ∧ F.cell? ⟨w1.heap.size, 1, none⟩ = some (.int .i64 t1) ∧ F.cell? ⟨w1.heap.size, 2, none⟩ = some (.slice aa al1 ac) := ⟨(cell_of_row _ _ 0 _ _ (0, 0) (BA.out F FG.out)).trans rfl, (cell_of_row _ _ 1 _ _ (0, 0) (BA.out F FG.out)).trans rfl, (cell_of_row _ _ 2 _ _ (0, 0) (BA.out F FG.out)).trans rfl⟩
    have b0 := (cell_of_row _ _ 0 _ _ (0, 0) FB.out).trans rfl
    have b1 := (cell_of_row _ _ 1 _ _ (0, 0) FB.out).trans rfl
    have b3 := (cell_of_row _ _ 2 _ _ (0, 0) FB.out).trans rfl
    have SA := hide (same_any _ _ (dmR R1) (dmR R2) F (HAI.out.more (grown_trans G11.out FG.out)) FBI.out)
    rw [decide_eq_true HE2.out] at SA
    simp only [Sl.v] at SA
    go_wp2_with (first | (go_at_call 20; refine SA.out.mono ?_; rintro e w5 ⟨rfl, hg5⟩) | fail)
    refine (LV.out w5 (grown_trans (grown_trans G1.out FG.out) hg5)).mono ?_
    rintro e w6 ⟨rfl, hg6⟩
    go_wp2
    go_ret
    exact ⟨rfl, grown_below (grown_trans (grown_trans (grown_trans G1.out FG.out) hg5) hg6)⟩
  · have GV := hide GVA
    obtain ⟨hX, gX⟩ := store3t (.string bn) (.int .i64 t2) (.slice ba bl bc) ZA
    obtain ⟨F, hF⟩ : ∃ F, F = ((v2.setCell ⟨W1.heap.size + 1, 0, none⟩ (.string bn)).setCell ⟨W1.heap.size + 1, 1, none⟩ (.int .i64 t2)).setCell ⟨W1.heap.size + 1, 2, none⟩ (.slice ba bl bc) := ⟨_, rfl⟩
    rw [← hF] at hX gX ⊢
    have FB := hide hX
    have FG := hide (grown_drop GV.out gX (by omega))
    have FBI : Hid (IsInts F (Sl.v ⟨ba, bl, bc⟩) (dmR R2)) := HBI.out.kept fun b' hb' e' => gX.block b' hb' (fun e3 => HBO.out b' (by have e4 := Option.some.inj e3; simp; omega) e')
    clear hF hX gX GVA ZA ZA0 ZA1 ZA2 ZA3 ZA4 ZA5 n0 n1 n2 n3 n4 y0 y1 y2 y3 y4 y5 e1 e2 e4 e5 e6 e7 e8 e9
    obtain ⟨a0, a1, a2⟩ : F.cell? ⟨w1.heap.size, 0, none⟩ = some (.string an) ∧ F.cell? ⟨w1.heap.size, 1, none⟩ = some (.int .i64 t1) ∧ F.cell? ⟨w1.heap.size, 2, none⟩ = some (.slice aa al1 ac) := ⟨(cell_of_row _ _ 0 _ _ (0, 0) (BA.out F FG.out)).trans rfl, (cell_of_row _ _ 1 _ _ (0, 0) (BA.out F FG.out)).trans rfl, (cell_of_row _ _ 2 _ _ (0, 0) (BA.out F FG.out)).trans rfl⟩
    have b0 := (cell_of_row _ _ 0 _ _ (0, 0) FB.out).trans rfl
    have b1 := (cell_of_row _ _ 1 _ _ (0, 0) FB.out).trans rfl
    have b3 := (cell_of_row _ _ 2 _ _ (0, 0) FB.out).trans rfl
    have SA := hide (same_any _ _ (dmR R1) (dmR R2) F (HAI.out.more (grown_trans G11.out FG.out)) FBI.out)
    rw [decide_eq_true HE2.out] at SA
    simp only [Sl.v] at SA
    go_wp2_with (first | (go_at_call 20; refine SA.out.mono ?_; rintro e w5 ⟨rfl, hg5⟩) | fail)
    refine (LV.out w5 (grown_trans (grown_trans G1.out FG.out) hg5)).mono ?_
    rintro e w6 ⟨rfl, hg6⟩
    go_wp2
    go_ret
    exact ⟨rfl, grown_below (grown_trans (grown_trans (grown_trans G1.out FG.out) hg5) hg6)⟩
  · have GV := hide GVA
    obtain ⟨hX, gX⟩ := store3t (.string bn) (.int .i64 t2) (.slice ba bl bc) ZB
    obtain ⟨F, hF⟩ : ∃ F, F = ((v2.setCell ⟨W1.heap.size, 0, none⟩ (.string bn)).setCell ⟨W1.heap.size, 1, none⟩ (.int .i64 t2)).setCell ⟨W1.heap.size, 2, none⟩ (.slice ba bl bc) := ⟨_, rfl⟩
    rw [← hF] at hX gX ⊢
    have FB := hide hX
    have FG := hide (grown_drop GV.out gX (by omega))
    have FBI : Hid (IsInts F (Sl.v ⟨ba, bl, bc⟩) (dmR R2)) := HBI.out.kept fun b' hb' e' => gX.block b' hb' (fun e3 => HBO.out b' (by have e4 := Option.some.inj e3; simp; omega) e')
    clear hF hX gX GVA ZB ZB0 ZB1 ZB2 ZB3 ZB4 ZB5 n0 n1 n2 n3 n4 y0 y1 y2 y3 y4 y5 e1 e2 e4 e5 e6 e7 e8 e9
    obtain ⟨a0, a1, a2⟩ : F.cell? ⟨w1.heap.size, 0, none⟩ = some (.string an) ∧ F.cell? ⟨w1.heap.size, 1, none⟩ = some (.int .i64 t1) ∧ F.cell? ⟨w1.heap.size, 2, none⟩ = some (.slice aa al1 ac) := ⟨(cell_of_row _ _ 0 _ _ (0, 0) (BA.out F FG.out)).trans rfl, (cell_of_row _ _ 1 _ _ (0, 0) (BA.out F FG.out)).trans rfl, (cell_of_row _ _ 2 _ _ (0, 0) (BA.out F FG.out)).trans rfl⟩
    have b0 := (cell_of_row _ _ 0 _ _ (0, 0) FB.out).trans rfl
    have b1 := (cell_of_row _ _ 1 _ _ (0, 0) FB.out).trans rfl
    have b3 := (cell_of_row _ _ 2 _ _ (0, 0) FB.out).trans rfl
    have SA := hide (same_any _ _ (dmR R1) (dmR R2) F (HAI.out.more (grown_trans G11.out FG.out)) FBI.out)
    rw [decide_eq_true HE2.out] at SA
    simp only [Sl.v] at SA
    go_wp2_with (first | (go_at_call 20; refine SA.out.mono ?_; rintro e w5 ⟨rfl, hg5⟩) | fail)
    refine (LV.out w5 (grown_trans (grown_trans G1.out FG.out) hg5)).mono ?_
    rintro e w6 ⟨rfl, hg6⟩
    go_wp2
    go_ret
    exact ⟨rfl, grown_below (grown_trans (grown_trans (grown_trans G1.out FG.out) hg5) hg6)⟩

theorem ibat_walk (n : Nod) (ins : List ByteArray) (A : At) (u : Sl) (vs : List (Val × List Int)) (w : World) (hl : Laid w) (hn : NodeAll w n ins A) (_hf : A.xs.length ≤ 1048576) (_hi : ins.length ≤ 1048576) (hv : ValsIn w u.v vs) (_hvl : vs.length ≤ 1048576) :
    Calls Tryz.prog 7 #[nval n, .slice u.a u.n u.c] w fun e w' => e = .returned (.bool true) ∧ Below w.heap.size w w' := by
  by_cases h0 : vs.length = 2
  · by_cases h1 : ins.length = 2
    · by_cases m0 : n.op.toList = [77, 97, 116, 77, 117, 108]
      · exact ibat_MatMul n ins A u vs w hl hn hv h0 h1 m0
      · by_cases m1 : n.op.toList = [71, 101, 109, 109]
        · exact ibat_Gemm n ins A u vs w hl hn hv h0 h1 m0 m1
        · by_cases m2 : n.op.toList = [67, 111, 110, 118]
          · exact ibat_Conv n ins A u vs w hl hn hv h0 h1 m0 m1 m2
          · by_cases m3 : n.op.toList = [71, 97, 116, 104, 101, 114]
            · exact ibat_Gather n ins A u vs w hl hn hv h0 h1 m0 m1 m2 m3
            · by_cases m4 : n.op.toList = [67, 111, 110, 99, 97, 116]
              · exact ibat_Concat n ins A u vs w hl hn hv h0 h1 m0 m1 m2 m3 m4
              · obtain ⟨p, q, rfl⟩ := len_two h0
                exact ibat_two n ins A u p q w hl hn hv h1 m0 m1 m2 m3 m4
    · exact ibat_ins n ins A u vs w hl hn hv h0 h1
  · exact ibat_len n ins A u vs w hl hn hv h0
end Go.Proofs.YtdcbjikjeicgbaaGreatDoor
