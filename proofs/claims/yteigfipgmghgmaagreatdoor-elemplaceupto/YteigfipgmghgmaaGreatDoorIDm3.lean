/- The dims of a Concat. -/
import Derived.Test.YteigfipgmghgmaaGreatDoorIJoin
namespace Go.Proofs.YteigfipgmghgmaaGreatDoor
open Go.RowKit

set_option maxRecDepth 100000 in
set_option maxHeartbeats 4000000 in
theorem dims_Concat (n : Nod) (A : At) (u : Sl) (p0 : Val × List Int) (rs : List (Val × List Int)) (w : World) (hop : n.op = ⟨#[67, 111, 110, 99, 97, 116]⟩) (hn : NodeOk w n A) (hv : ValsIn w u.v (p0 :: rs)) (hr : rs.length ≤ 19) (hf : ∀ p ∈ p0 :: rs, Fine p.2) : Calls Tryz.prog 75 #[nval n, .slice u.a u.n u.c] w (Ended w (joinedP A p0.2 (rs.map (·.2))) DimsQ) := by
  obtain ⟨xa, xc, e1, q1, q2, q3⟩ := hv.vals.form
  rw [List.length_map] at e1 q1 q3
  obtain ⟨ua, un, uc⟩ := u
  simp only [Sl.v, Value.slice.injEq] at e1
  obtain ⟨rfl, rfl, rfl⟩ := e1
  obtain ⟨b, off, rfl⟩ := hv.vals.addr (k := 0) (by simp)
  obtain ⟨-, z0⟩ := hv.at 0 (by simp)
  rw [Nat.zero_mul, Nat.add_zero] at z0
  simp only [List.getElem_cons_zero] at z0
  have HV := hide hv
  have HF := hide hf
  obtain ⟨⟨vn0, vt0, ⟨d0a, d0n, d0c⟩⟩, x⟩ := p0
  simp only at z0
  have Z0 := hide z0
  obtain ⟨m, hm⟩ : ∃ m, m = ((((⟨vn0, vt0, ⟨d0a, d0n, d0c⟩⟩, x) : Val × List Int) :: rs) : List (Val × List Int)).length := ⟨_, rfl⟩
  have hm0 : 0 < m := by rw [hm]; simp
  have hm0' : (0 : Int) < (m : Int) := by omega
  have HM := hide hm
  rw [← hm] at q1 q3 ⊢
  clear hv z0 hm hf
  have NK := hide hn
  obtain ⟨op, nam, ⟨ia, il, ic⟩, out, ⟨ao, al, cap⟩⟩ := n
  unfold nval
  simp only
  obtain ⟨w0, hw0⟩ : ∃ w0, w0 = w.alloc (.cells #[.string op, .string nam, .slice ia il ic, .string out, .slice ao al cap] 25) := ⟨_, rfl⟩
  have g0 : Hid (w.grownBy w0 none) := by show w.grownBy w0 none; rw [hw0]; exact grown_new _ _
  have hb0 := heap_alloc_new w (.cells #[.string op, .string nam, .slice ia il ic, .string out, .slice ao al cap] 25)
  rw [← hw0] at hb0
  have BX : Hid (∀ wx, w0.grownBy wx none → wx.heap[w.heap.size]? = some (.cells #[.string op, .string nam, .slice ia il ic, .string out, .slice ao al cap] 25 (0, 0))) := fun wx hg => box_kept hb0 hg
  clear hb0 hn
  simp only at hop
  subst hop
  have z0 : (w.alloc (.cells #[.string ⟨#[67, 111, 110, 99, 97, 116]⟩, .string nam, .slice ia il ic, .string out, .slice ao al cap] 25)).cell? ⟨b, off + 2, none⟩ = some (.slice d0a d0n d0c) := cell_still Z0.out (grown_new _ _)
  have C := hide (joined_any ⟨⟨#[67, 111, 110, 99, 97, 116]⟩, nam, ⟨ia, il, ic⟩, out, ⟨ao, al, cap⟩⟩ A ⟨some ⟨b, off, none⟩, m, uc⟩ _ rs w0 (NK.out.more g0.out) (by rw [HM.out]; exact HV.out.more g0.out) hr HF.out)
  unfold nval at C
  simp only at C
  go_enter Tryz.func75, Tryz.ntmps75
  go_wp2_with fail
  rw [← hw0]
  clear hw0
  cases hk : joinedP A x (rs.map (·.2)) with
  | error c =>
    rw [hk] at C
    have HK := hide hk
    clear hk
    refine C.out.mono ?_
    rintro e w' ⟨hg, rfl⟩
    exact ⟨rfl, ended_err (by first | exact HK.out | rfl) (grown_trans g0.out hg)⟩
  | ok zs =>
    rw [hk] at C
    have HK := hide hk
    clear hk
    refine C.out.mono ?_
    rintro e w' ⟨hg, v, rfl, ⟨s1, s2, s3⟩, rfl, hs⟩
    simp only [Sl.v]
    go_wp2
    go_ret
    exact ended_ok (by first | exact HK.out | rfl) (grown_trans g0.out hg) ⟨⟨s1, s2, s3⟩, rfl, hs⟩
end Go.Proofs.YteigfipgmghgmaaGreatDoor
