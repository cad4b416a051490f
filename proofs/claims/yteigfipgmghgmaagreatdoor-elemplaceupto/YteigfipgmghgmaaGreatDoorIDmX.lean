/- Which dims a node makes, an operator at a time (mkIDm.py). -/
import Derived.Test.YteigfipgmghgmaaGreatDoorITy
namespace Go.Proofs.YteigfipgmghgmaaGreatDoor
open Go.RowKit

set_option maxRecDepth 100000 in
set_option maxHeartbeats 40000000 in
theorem dims_x (n : Nod) (A : At) (u : Sl) (v0 : Val) (x : List Int) (w : World) (hop : n.op ∈ ([⟨#[73, 100, 101, 110, 116, 105, 116, 121]⟩, ⟨#[78, 101, 103]⟩, ⟨#[65, 98, 115]⟩, ⟨#[78, 111, 116]⟩, ⟨#[82, 101, 108, 117]⟩, ⟨#[83, 113, 114, 116]⟩, ⟨#[70, 108, 111, 111, 114]⟩, ⟨#[69, 120, 112]⟩, ⟨#[83, 105, 103, 109, 111, 105, 100]⟩, ⟨#[84, 97, 110, 104]⟩, ⟨#[67, 108, 105, 112]⟩, ⟨#[67, 97, 115, 116]⟩] : List ByteArray)) (hn : NodeOk w n A) (hv : ValsIn w u.v [(v0, x)])  : Calls Tryz.prog 75 #[nval n, .slice u.a u.n u.c] w (Ended w (.ok x) DimsQ) := by
  obtain ⟨xa, xc, e1, q1, q2, q3⟩ := hv.vals.form
  simp only [List.map_cons, List.map_nil, List.length_cons, List.length_nil, Nat.zero_add] at e1 q1 q3
  obtain ⟨ua, un, uc⟩ := u
  simp only [Sl.v, Value.slice.injEq] at e1
  obtain ⟨rfl, rfl, rfl⟩ := e1
  obtain ⟨b, off, rfl⟩ := hv.vals.addr (k := 0) (by simp)
  obtain ⟨-, z0⟩ := hv.at 0 (by simp)
  rw [Nat.zero_mul, Nat.add_zero] at z0
  simp only [List.getElem_cons_zero] at z0
  have HX := hide (hv.dims (v0, x) (by simp))
  obtain ⟨vn0, vt0, ⟨d0a, d0n, d0c⟩⟩ := v0
  simp only at z0 HX
  have Z0 := hide z0
  clear hv z0
  have NK := hide hn
  obtain ⟨op, nam, ⟨ia, il, ic⟩, out, ⟨ao, al, cap⟩⟩ := n
  unfold nval
  simp only
  obtain ⟨w0, hw0⟩ : ∃ w0, w0 = w.alloc (.cells #[.string op, .string nam, .slice ia il ic, .string out, .slice ao al cap] 25) := ⟨_, rfl⟩
  have g0 : Hid (w.grownBy w0 none) := by show w.grownBy w0 none; rw [hw0]; exact grown_new _ _
  have hb0 := heap_alloc_new w (.cells #[.string op, .string nam, .slice ia il ic, .string out, .slice ao al cap] 25)
  rw [← hw0] at hb0
  have BX : Hid (∀ wx, w0.grownBy wx none → wx.heap[w.heap.size]? = some (.cells #[.string op, .string nam, .slice ia il ic, .string out, .slice ao al cap] 25 (0, 0))) := fun wx hg => box_kept hb0 hg
  clear hb0 hn
  simp only at hop
  have z0 : (w.alloc (.cells #[.string op, .string nam, .slice ia il ic, .string out, .slice ao al cap] 25)).cell? ⟨b, off + 2, none⟩ = some (.slice d0a d0n d0c) := cell_still Z0.out (grown_new _ _)
  simp only [List.mem_cons, List.not_mem_nil, or_false] at hop
  rcases hop with rfl | rfl | rfl | rfl | rfl | rfl | rfl | rfl | rfl | rfl | rfl | rfl
  all_goals
    go_enter Tryz.func75, Tryz.ntmps75
    go_wp2
    go_ret
    exact ended_ok rfl (by rw [← hw0]; exact g0.out) ⟨⟨d0a, d0n, d0c⟩, rfl, HX.out.more (grown_new _ _)⟩

set_option maxRecDepth 100000 in
set_option maxHeartbeats 40000000 in
theorem dims_two (n : Nod) (A : At) (u : Sl) (v0 v1 : Val) (x y : List Int) (w : World) (hop : n.op ∈ ([⟨#[65, 100, 100]⟩, ⟨#[83, 117, 98]⟩, ⟨#[77, 117, 108]⟩, ⟨#[68, 105, 118]⟩, ⟨#[77, 97, 120]⟩, ⟨#[77, 105, 110]⟩, ⟨#[65, 110, 100]⟩, ⟨#[79, 114]⟩, ⟨#[88, 111, 114]⟩, ⟨#[69, 113, 117, 97, 108]⟩, ⟨#[76, 101, 115, 115]⟩, ⟨#[71, 114, 101, 97, 116, 101, 114]⟩] : List ByteArray)) (hn : NodeOk w n A) (hv : ValsIn w u.v [(v0, x), (v1, y)])  : Calls Tryz.prog 75 #[nval n, .slice u.a u.n u.c] w (Ended w (spreadP x y) DimsQ) := by
  obtain ⟨xa, xc, e1, q1, q2, q3⟩ := hv.vals.form
  simp only [List.map_cons, List.map_nil, List.length_cons, List.length_nil, Nat.zero_add, Nat.reduceAdd] at e1 q1 q3
  obtain ⟨ua, un, uc⟩ := u
  simp only [Sl.v, Value.slice.injEq] at e1
  obtain ⟨rfl, rfl, rfl⟩ := e1
  obtain ⟨b, off, rfl⟩ := hv.vals.addr (k := 0) (by simp)
  obtain ⟨-, z0⟩ := hv.at 0 (by simp)
  rw [Nat.zero_mul, Nat.add_zero] at z0
  simp only [List.getElem_cons_zero] at z0
  have HX := hide (hv.dims (v0, x) (by simp))
  obtain ⟨-, z1⟩ := hv.at 1 (by simp)
  rw [Nat.one_mul] at z1
  simp only [List.getElem_cons_zero, List.getElem_cons_succ] at z1
  have HY := hide (hv.dims (v1, y) (by simp))
  obtain ⟨vn1, vt1, ⟨d1a, d1n, d1c⟩⟩ := v1
  simp only at z1 HY
  have Z1 := hide z1
  clear z1
  obtain ⟨vn0, vt0, ⟨d0a, d0n, d0c⟩⟩ := v0
  simp only at z0 HX
  have Z0 := hide z0
  clear hv z0
  have NK := hide hn
  obtain ⟨op, nam, ⟨ia, il, ic⟩, out, ⟨ao, al, cap⟩⟩ := n
  unfold nval
  simp only
  obtain ⟨w0, hw0⟩ : ∃ w0, w0 = w.alloc (.cells #[.string op, .string nam, .slice ia il ic, .string out, .slice ao al cap] 25) := ⟨_, rfl⟩
  have g0 : Hid (w.grownBy w0 none) := by show w.grownBy w0 none; rw [hw0]; exact grown_new _ _
  have hb0 := heap_alloc_new w (.cells #[.string op, .string nam, .slice ia il ic, .string out, .slice ao al cap] 25)
  rw [← hw0] at hb0
  have BX : Hid (∀ wx, w0.grownBy wx none → wx.heap[w.heap.size]? = some (.cells #[.string op, .string nam, .slice ia il ic, .string out, .slice ao al cap] 25 (0, 0))) := fun wx hg => box_kept hb0 hg
  clear hb0 hn
  simp only at hop
  have z0 : (w.alloc (.cells #[.string op, .string nam, .slice ia il ic, .string out, .slice ao al cap] 25)).cell? ⟨b, off + 2, none⟩ = some (.slice d0a d0n d0c) := cell_still Z0.out (grown_new _ _)
  have z1 : (w.alloc (.cells #[.string op, .string nam, .slice ia il ic, .string out, .slice ao al cap] 25)).cell? ⟨b, off + 3 + 2, none⟩ = some (.slice d1a d1n d1c) := cell_still Z1.out (grown_new _ _)
  have C := hide (spread_any ⟨d0a, d0n, d0c⟩ ⟨d1a, d1n, d1c⟩ x y w0 (HX.out.more g0.out) (HY.out.more g0.out))
  simp only at C
  simp only [List.mem_cons, List.not_mem_nil, or_false] at hop
  rcases hop with rfl | rfl | rfl | rfl | rfl | rfl | rfl | rfl | rfl | rfl | rfl | rfl
  all_goals
    go_enter Tryz.func75, Tryz.ntmps75
    go_wp2_with fail
    rw [← hw0]
    clear hw0
    cases hk : spreadP x y with
    | error c =>
      rw [hk] at C
      have HK := hide hk
      clear hk
      refine C.out.mono ?_
      rintro e w' ⟨hg, rfl⟩
      exact ⟨rfl, ended_err (by first | exact HK.out | rfl) (grown_trans g0.out hg)⟩
    | ok zs =>
      rw [hk] at C
      have HK := hide hk
      clear hk
      refine C.out.mono ?_
      rintro e w' ⟨hg, v, rfl, ⟨s1, s2, s3⟩, rfl, hs⟩
      simp only [Sl.v]
      go_wp2
      go_ret
      exact ended_ok (by first | exact HK.out | rfl) (grown_trans g0.out hg) ⟨⟨s1, s2, s3⟩, rfl, hs.ints⟩

end Go.Proofs.YteigfipgmghgmaaGreatDoor
