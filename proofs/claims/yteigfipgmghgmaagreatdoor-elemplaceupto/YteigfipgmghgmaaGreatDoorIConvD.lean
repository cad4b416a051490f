/- The dims of a Conv. -/
import Derived.Test.YteigfipgmghgmaaGreatDoorIConv2
import Derived.Test.YteigfipgmghgmaaGreatDoorIConv3
namespace Go.Proofs.YteigfipgmghgmaaGreatDoor
open Go.RowKit

set_option maxRecDepth 100000 in
set_option maxHeartbeats 4000000 in
theorem convl_any (n : Nod) (A : At) (u : Sl) (p0 p1 : Val × List Int) (rest : List (Val × List Int)) (w : World) (hn : NodeOk w n A) (hv : ValsIn w u.v (p0 :: p1 :: rest)) (hl : ¬ (p0.2.length = 4 ∧ p1.2.length = 4)) : Calls Tryz.prog 125 #[nval n, .slice u.a u.n u.c] w (Ended w (.error 4 : R (List Int)) DimsQ) := by
  obtain ⟨xa, xc, e1, q1, q2, q3⟩ := hv.vals.form
  rw [List.length_map] at e1 q1 q3
  obtain ⟨ua, un, uc⟩ := u
  simp only [Sl.v, Value.slice.injEq] at e1
  obtain ⟨rfl, rfl, rfl⟩ := e1
  obtain ⟨b, off, rfl⟩ := hv.vals.addr (k := 0) (by simp)
  obtain ⟨-, z0⟩ := hv.at 0 (by simp)
  obtain ⟨-, z1⟩ := hv.at 1 (by simp)
  rw [Nat.zero_mul, Nat.add_zero] at z0
  simp only [List.getElem_cons_zero, List.getElem_cons_succ, Nat.one_mul] at z0 z1
  have HX := hide (hv.dims p0 (by simp))
  have HK := hide (hv.dims p1 (by simp))
  obtain ⟨⟨vn0, vt0, ⟨d0a, d0n, d0c⟩⟩, x⟩ := p0
  obtain ⟨⟨vn1, vt1, ⟨d1a, d1n, d1c⟩⟩, k⟩ := p1
  simp only at z0 z1 HX HK hl
  obtain ⟨xx, xcc, ex, f1, f2, f3⟩ := HX.out.sl
  simp only [Sl.v, Value.slice.injEq] at ex
  obtain ⟨rfl, rfl, rfl⟩ := ex
  obtain ⟨kx, kcc, ek, g1, g2, g3⟩ := HK.out.sl
  simp only [Sl.v, Value.slice.injEq] at ek
  obtain ⟨rfl, rfl, rfl⟩ := ek
  obtain ⟨m, hm⟩ : ∃ m, m = ((((⟨vn0, vt0, ⟨d0a, x.length, d0c⟩⟩, x) : Val × List Int) :: (⟨vn1, vt1, ⟨d1a, k.length, d1c⟩⟩, k) :: rest) : List (Val × List Int)).length := ⟨_, rfl⟩
  have hm0 : 0 < m := by rw [hm]; simp
  have hm1 : 1 < m := by rw [hm]; simp
  have hm0' : (0 : Int) < (m : Int) := by omega
  have hm1' : (1 : Int) < (m : Int) := by omega
  rw [← hm] at q1 q3 ⊢
  have Z0 := hide z0
  have Z1 := hide z1
  clear hv z0 z1 hm
  have NK := hide hn
  obtain ⟨op, nam, ⟨ia, il, ic⟩, out, ⟨ao, al, cap⟩⟩ := n
  unfold nval
  simp only
  obtain ⟨w0, hw0⟩ : ∃ w0, w0 = w.alloc (.cells #[.string op, .string nam, .slice ia il ic, .string out, .slice ao al cap] 25) := ⟨_, rfl⟩
  have g0 : Hid (w.grownBy w0 none) := by show w.grownBy w0 none; rw [hw0]; exact grown_new _ _
  have hb0 := heap_alloc_new w (.cells #[.string op, .string nam, .slice ia il ic, .string out, .slice ao al cap] 25)
  rw [← hw0] at hb0
  have BX : Hid (∀ wx, w0.grownBy wx none → wx.heap[w.heap.size]? = some (.cells #[.string op, .string nam, .slice ia il ic, .string out, .slice ao al cap] 25 (0, 0))) := fun wx hg => box_kept hb0 hg
  clear hb0 hn
  have y0 := cell_still Z0.out g0.out
  have y1 := cell_still Z1.out g0.out
  by_cases hx4 : x.length = 4
  · have bx : ((x.length : Int) == 4) = true := by simp [hx4]
    have bk : ((k.length : Int) == 4) = false := by simpa using (fun h => hl ⟨hx4, by omega⟩ : ¬ (k.length : Int) = 4)
    clear hl hx4
    go_enter Tryz.func125, Tryz.ntmps125
    go_wp2_with fail
    rw [← hw0]
    clear hw0
    go_quiet (fail)
    go_wp2_with (first | (go_at_call 71; refine (must_no _).mono ?_; rintro e w' ⟨rfl, rfl⟩) | fail)
    exact ⟨rfl, ended_err rfl (grown_drewQ g0.out _)⟩
  · have bx : ((x.length : Int) == 4) = false := by simpa using (fun h => hx4 (by omega) : ¬ (x.length : Int) = 4)
    clear hl hx4
    go_enter Tryz.func125, Tryz.ntmps125
    go_wp2_with fail
    rw [← hw0]
    clear hw0
    go_quiet (fail)
    go_wp2_with (first | (go_at_call 71; refine (must_no _).mono ?_; rintro e w' ⟨rfl, rfl⟩) | fail)
    exact ⟨rfl, ended_err rfl (grown_drewQ g0.out _)⟩

theorem convP_bad {A : At} {x k : List Int} {z : Option (List Int)} (h : ¬ (x.length = 4 ∧ k.length = 4)) : convolvedP A x k z = .error 4 := by
  unfold convolvedP
  rw [decide_eq_false h]
  rfl

theorem convP_two {A : At} {x k : List Int} (h : x.length = 4 ∧ k.length = 4) : convolvedP A x k none = convT A x k := by
  unfold convolvedP
  rw [decide_eq_true h]
  rfl

theorem convP_three {A : At} {x k z : List Int} (h : x.length = 4 ∧ k.length = 4) (hz : z.length = 1 ∧ z.getD 0 0 = k.getD 0 0) : convolvedP A x k (some z) = convT A x k := by
  unfold convolvedP
  simp only
  rw [decide_eq_true h, decide_eq_true hz]
  rfl

theorem convP_third {A : At} {x k z : List Int} (h : x.length = 4 ∧ k.length = 4) (hz : ¬ (z.length = 1 ∧ z.getD 0 0 = k.getD 0 0)) : convolvedP A x k (some z) = .error 4 := by
  unfold convolvedP
  simp only
  rw [decide_eq_true h, decide_eq_false hz]
  rfl

theorem conv_any (n : Nod) (A : At) (u : Sl) (p0 p1 : Val × List Int) (rest : List (Val × List Int)) (w : World) (hn : NodeOk w n A) (hv : ValsIn w u.v (p0 :: p1 :: rest)) (hr : rest.length ≤ 1) (hf : ∀ p ∈ p0 :: p1 :: rest, Fine p.2) : Calls Tryz.prog 125 #[nval n, .slice u.a u.n u.c] w (Ended w (convolvedP A p0.2 p1.2 (rest.head?.map (·.2))) DimsQ) := by
  by_cases h4 : p0.2.length = 4 ∧ p1.2.length = 4
  · match rest, hr with
    | [], _ =>
      show Calls _ _ _ _ (Ended w (convolvedP A p0.2 p1.2 none) DimsQ)
      rw [convP_two h4]
      exact conv2_any n A u p0 p1 w hn hv h4.1 h4.2 (hf p0 (by simp)) (hf p1 (by simp))
    | [p2], _ =>
      show Calls _ _ _ _ (Ended w (convolvedP A p0.2 p1.2 (some p2.2)) DimsQ)
      by_cases hz : p2.2.length = 1 ∧ p2.2.getD 0 0 = p1.2.getD 0 0
      · rw [convP_three h4 hz]
        exact conv3_any n A u p0 p1 p2 w hn hv h4.1 h4.2 (hf p0 (by simp)) (hf p1 (by simp)) hz
      · rw [convP_third h4 hz]
        exact convz_any n A u p0 p1 p2 w hn hv h4.1 h4.2 hz
  · rw [convP_bad h4]
    exact convl_any n A u p0 p1 rest w hn hv h4

set_option maxRecDepth 100000 in
set_option maxHeartbeats 4000000 in
theorem dims_Conv (n : Nod) (A : At) (u : Sl) (p0 p1 : Val × List Int) (rest : List (Val × List Int)) (w : World) (hop : n.op = ⟨#[67, 111, 110, 118]⟩) (hn : NodeOk w n A) (hv : ValsIn w u.v (p0 :: p1 :: rest)) (hr : rest.length ≤ 1) (hf : ∀ p ∈ p0 :: p1 :: rest, Fine p.2) : Calls Tryz.prog 75 #[nval n, .slice u.a u.n u.c] w (Ended w (convolvedP A p0.2 p1.2 (rest.head?.map (·.2))) DimsQ) := by
  obtain ⟨xa, xc, e1, q1, q2, q3⟩ := hv.vals.form
  rw [List.length_map] at e1 q1 q3
  obtain ⟨ua, un, uc⟩ := u
  simp only [Sl.v, Value.slice.injEq] at e1
  obtain ⟨rfl, rfl, rfl⟩ := e1
  obtain ⟨b, off, rfl⟩ := hv.vals.addr (k := 0) (by simp)
  obtain ⟨-, z0⟩ := hv.at 0 (by simp)
  rw [Nat.zero_mul, Nat.add_zero] at z0
  simp only [List.getElem_cons_zero] at z0
  have HV := hide hv
  have HF := hide hf
  clear hf
  obtain ⟨⟨vn0, vt0, ⟨d0a, d0n, d0c⟩⟩, x⟩ := p0
  simp only at z0
  have Z0 := hide z0
  obtain ⟨m, hm⟩ : ∃ m, m = ((((⟨vn0, vt0, ⟨d0a, d0n, d0c⟩⟩, x) : Val × List Int) :: p1 :: rest) : List (Val × List Int)).length := ⟨_, rfl⟩
  have hm0 : 0 < m := by rw [hm]; simp
  have hm0' : (0 : Int) < (m : Int) := by omega
  have HM := hide hm
  rw [← hm] at q1 q3 ⊢
  clear hv z0 hm
  have NK := hide hn
  obtain ⟨op, nam, ⟨ia, il, ic⟩, out, ⟨ao, al, cap⟩⟩ := n
  unfold nval
  simp only
  obtain ⟨w0, hw0⟩ : ∃ w0, w0 = w.alloc (.cells #[.string op, .string nam, .slice ia il ic, .string out, .slice ao al cap] 25) := ⟨_, rfl⟩
  have g0 : Hid (w.grownBy w0 none) := by show w.grownBy w0 none; rw [hw0]; exact grown_new _ _
  have hb0 := heap_alloc_new w (.cells #[.string op, .string nam, .slice ia il ic, .string out, .slice ao al cap] 25)
  rw [← hw0] at hb0
  have BX : Hid (∀ wx, w0.grownBy wx none → wx.heap[w.heap.size]? = some (.cells #[.string op, .string nam, .slice ia il ic, .string out, .slice ao al cap] 25 (0, 0))) := fun wx hg => box_kept hb0 hg
  clear hb0 hn
  simp only at hop
  subst hop
  have z0 : (w.alloc (.cells #[.string ⟨#[67, 111, 110, 118]⟩, .string nam, .slice ia il ic, .string out, .slice ao al cap] 25)).cell? ⟨b, off + 2, none⟩ = some (.slice d0a d0n d0c) := cell_still Z0.out (grown_new _ _)
  have C := hide (conv_any ⟨⟨#[67, 111, 110, 118]⟩, nam, ⟨ia, il, ic⟩, out, ⟨ao, al, cap⟩⟩ A ⟨some ⟨b, off, none⟩, m, uc⟩ _ p1 rest w0 (NK.out.more g0.out) (by rw [HM.out]; exact HV.out.more g0.out) hr HF.out)
  unfold nval at C
  simp only at C
  go_enter Tryz.func75, Tryz.ntmps75
  go_wp2_with fail
  rw [← hw0]
  clear hw0
  cases hk : convolvedP A x p1.2 (rest.head?.map (·.2)) with
  | error c =>
    rw [hk] at C
    have HK := hide hk
    clear hk
    refine C.out.mono ?_
    rintro e w' ⟨hg, rfl⟩
    exact ⟨rfl, ended_err (by first | exact HK.out | rfl) (grown_trans g0.out hg)⟩
  | ok zs =>
    rw [hk] at C
    have HK := hide hk
    clear hk
    refine C.out.mono ?_
    rintro e w' ⟨hg, v, rfl, ⟨s1, s2, s3⟩, rfl, hs⟩
    simp only [Sl.v]
    go_wp2
    go_ret
    exact ended_ok (by first | exact HK.out | rfl) (grown_trans g0.out hg) ⟨⟨s1, s2, s3⟩, rfl, hs⟩

end Go.Proofs.YteigfipgmghgmaaGreatDoor
