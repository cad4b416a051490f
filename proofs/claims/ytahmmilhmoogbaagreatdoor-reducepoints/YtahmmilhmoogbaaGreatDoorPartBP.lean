/- Joined texts: IDm2. -/
import Derived.Test.YtahmmilhmoogbaaGreatDoorPartBD
import Derived.Test.YtahmmilhmoogbaaGreatDoorPartAU
import Derived.BigQuiet
import Derived.Deep.RegionHeld3
import Derived.Deep.AppendLies
namespace Go.Proofs.YtahmmilhmoogbaaGreatDoor

open Go.RowKit

set_option maxRecDepth 100000 in
set_option maxHeartbeats 4000000 in
theorem dims_Softmax (n : Nod) (A : At) (u : Sl) (v0 : Val) (x : List Int) (w : World) (hop : n.op = ⟨#[83, 111, 102, 116, 109, 97, 120]⟩) (hn : NodeOk w n A) (hv : ValsIn w u.v [(v0, x)]) (hf : Fine x) : Calls Tryz.prog 81 #[nval n, .slice u.a u.n u.c] w (Ended w ((axesP (alongP A x.length) x.length).bind (fun _ => .ok x)) DimsQ) := by
  obtain ⟨xa, xc, e1, q1, q2, q3⟩ := hv.vals.form
  simp only [List.map_cons, List.map_nil, List.length_cons, List.length_nil, Nat.zero_add] at e1 q1 q3
  obtain ⟨ua, un, uc⟩ := u
  simp only [Sl.v, Value.slice.injEq] at e1
  obtain ⟨rfl, rfl, rfl⟩ := e1
  obtain ⟨b, off, rfl⟩ := hv.vals.addr (k := 0) (by simp)
  obtain ⟨-, z0⟩ := hv.at 0 (by simp)
  rw [Nat.zero_mul, Nat.add_zero] at z0
  simp only [List.getElem_cons_zero] at z0
  have HX := hide (hv.dims (v0, x) (by simp))
  obtain ⟨vn0, vt0, ⟨d0a, d0n, d0c⟩⟩ := v0
  simp only at z0 HX
  have Z0 := hide z0
  clear hv z0
  have NK := hide hn
  obtain ⟨op, nam, ⟨ia, il, ic⟩, out, ⟨ao, al, cap⟩⟩ := n
  unfold nval
  simp only
  obtain ⟨w0, hw0⟩ : ∃ w0, w0 = w.alloc (.cells #[.string op, .string nam, .slice ia il ic, .string out, .slice ao al cap] 35) := ⟨_, rfl⟩
  have g0 : Hid (w.grownBy w0 none) := by show w.grownBy w0 none; rw [hw0]; exact grown_new _ _
  have hb0 := heap_alloc_new w (.cells #[.string op, .string nam, .slice ia il ic, .string out, .slice ao al cap] 35)
  rw [← hw0] at hb0
  have BX : Hid (∀ wx, w0.grownBy wx none → wx.heap[w.heap.size]? = some (.cells #[.string op, .string nam, .slice ia il ic, .string out, .slice ao al cap] 35 (0, 0))) := fun wx hg => box_kept hb0 hg
  clear hb0 hn
  simp only at hop
  subst hop
  have z0 : (w.alloc (.cells #[.string ⟨#[83, 111, 102, 116, 109, 97, 120]⟩, .string nam, .slice ia il ic, .string out, .slice ao al cap] 35)).cell? ⟨b, off + 2, none⟩ = some (.slice d0a d0n d0c) := cell_still Z0.out (grown_new _ _)
  have FEW := hf.few
  obtain ⟨xx, xcc, ex, f1, f2, f3⟩ := HX.out.sl
  simp only [Sl.v, Value.slice.injEq] at ex
  obtain ⟨rfl, rfl, rfl⟩ := ex
  have AL := hide (along_any ⟨⟨#[83, 111, 102, 116, 109, 97, 120]⟩, nam, ⟨ia, il, ic⟩, out, ⟨ao, al, cap⟩⟩ A x.length w0 (NK.out.more g0.out) (by omega))
  unfold nval at AL
  simp only at AL
  go_enter Tryz.func81, Tryz.ntmps81
  go_wp2_with fail
  rw [← hw0]
  clear hw0
  refine AL.out.mono ?_
  rintro e w1 ⟨⟨l1, l2, l3⟩, rfl, hl, hg1⟩
  have C := hide (axesof_any ⟨l1, l2, l3⟩ _ x.length w1 hl (by omega))
  have G1 := hide (grown_trans g0.out hg1)
  simp only [Sl.v] at C ⊢
  clear hl hg1 AL
  cases hk : axesP (alongP A x.length) x.length with
  | error c =>
    rw [hk] at C
    have HK : Hid ((axesP (alongP A x.length) x.length).bind (fun _ => .ok x) = .error c) := by show _ = _; rw [hk]; rfl
    clear hk
    go_wp2_with (first | (go_at_call 106; refine C.out.mono ?_; rintro e w' ⟨hg, rfl⟩) | fail)
    exact ⟨rfl, ended_err (by first | exact HK.out | rfl) (grown_trans G1.out hg)⟩
  | ok is =>
    rw [hk] at C
    have HK : Hid ((axesP (alongP A x.length) x.length).bind (fun _ => .ok x) = .ok x) := by show _ = _; rw [hk]; rfl
    clear hk
    go_wp2_with (first | (go_at_call 106; refine C.out.mono ?_; rintro e w' ⟨hg, v, rfl, B, rfl, -, -⟩) | fail)
    go_ret
    exact ended_ok (by first | exact HK.out | rfl) (grown_trans G1.out hg) ⟨⟨d0a, x.length, d0c⟩, rfl, HX.out.more (grown_trans G1.out hg)⟩

end Go.Proofs.YtahmmilhmoogbaaGreatDoor
