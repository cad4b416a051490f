/- Joined texts: ITy, IValue, ITy2. -/
import Derived.Test.YtaoplfpigjkgpaaGreatDoorPartBA
import Derived.Test.YtaoplfpigjkgpaaGreatDoorPartBD
import Derived.Deep.RegionHeld3
import Derived.BigQuiet
namespace Go.Proofs.YtaoplfpigjkgpaaGreatDoor

open Go.RowKit

theorem ValsIn.at {w : World} {b off n c : Nat} {vs : List (Val × List Int)} (h : ValsIn w (.slice (some ⟨b, off, none⟩) n c) vs) (k : Nat) (hk : k < vs.length) : w.cell? ⟨b, off + k * 3 + 1, none⟩ = some (.int .i64 (vs[k].1.ty)) ∧ w.cell? ⟨b, off + k * 3 + 2, none⟩ = some (.slice vs[k].1.dv.a vs[k].1.dv.n vs[k].1.dv.c) := by
  obtain ⟨-, h1, h2⟩ := h.vals.val k (by rw [List.length_map]; exact hk)
  rw [List.getElem_map] at h1 h2
  exact ⟨h1, h2⟩

def tysOf (vs : List (Val × List Int)) : List Int := vs.map (·.1.ty)

end Go.Proofs.YtaoplfpigjkgpaaGreatDoor

namespace Go.Proofs.YtaoplfpigjkgpaaGreatDoor

open Go.RowKit

def vinP : List (Val × List Int) → R Unit
  | [] => .ok ()
  | p :: l => (typP p.1.ty).bind (fun _ => (countP p.2).bind (fun _ => vinP l))

def thenP (t : Int) : List ByteArray → R Unit
  | [] => .ok ()
  | o :: l => (mustP (oneOK o.toList t)).bind (fun _ => thenP t l)

theorem vinP_step {vs : List (Val × List Int)} {k : Nat} (hk : k < vs.length) : vinP (vs.drop k) = (typP vs[k].1.ty).bind (fun _ => (countP vs[k].2).bind (fun _ => vinP (vs.drop (k + 1)))) := by
  rw [List.drop_eq_getElem_cons hk]
  rfl

theorem thenP_step {t : Int} {os : List ByteArray} {k : Nat} (hk : k < os.length) : thenP t (os.drop k) = (mustP (oneOK os[k].toList t)).bind (fun _ => thenP t (os.drop (k + 1))) := by
  rw [List.drop_eq_getElem_cons hk]
  rfl

theorem valInfo : (Tryz.prog.info? 50).map (·.size) = some 3 := by kernel_rfl

theorem ret_val {fn : Func} {p : Tmp} (h : fn.results = #[.cell p 50]) (tmps : Array Value) (w : World) (B : Nat) (hp : tmps.getD p undef = .pointer (some ⟨B, 0, none⟩)) {a0 a1 a2 : Value}
    (hb : w.heap[B]? = some (.cells #[a0, a1, a2] 50 (0, 0))) : (results fn tmps).run Tryz.prog w = .ok (.agg #[a0, a1, a2]) w :=
  results_cell_row h tmps w B 50 #[a0, a1, a2] (0, 0) _ hp hb Tryz.underlying50 rfl (by rw [valInfo]; rfl)

set_option maxRecDepth 100000 in
set_option maxHeartbeats 2000000 in
theorem newvalue_any (nm : ByteArray) (t : Int) (u : Sl) (ds : List Int) (w : World) (hd : IsInts w u.v ds) (hs : nm.size ≤ 281474976710656) : Calls Tryz.prog 96 #[.string nm, .int .i64 t, .slice u.a u.n u.c] w fun e w' => ∃ s : Sl, e = .returned (.agg #[.string nm, .int .i64 t, .slice s.a s.n s.c]) ∧ Owns w' w.heap.size s.v ds ∧ w.grownBy w' none := by
  obtain ⟨w0, hw0⟩ : ∃ w0, w0 = w.alloc (.cells #[.string ⟨#[]⟩, .int .i64 0, .slice none 0 0] 50) := ⟨_, rfl⟩
  have g0 : Hid (w.grownBy w0 none) := by show w.grownBy w0 none; rw [hw0]; exact grown_new _ _
  have hb0 := heap_alloc_new w (.cells #[.string ⟨#[]⟩, .int .i64 0, .slice none 0 0] 50)
  rw [← hw0] at hb0
  have BX : Hid (∀ wx, w0.grownBy wx none → wx.heap[w.heap.size]? = some (.cells #[.string ⟨#[]⟩, .int .i64 0, .slice none 0 0] 50 (0, 0))) := fun wx hg => box_kept hb0 hg
  have SC := hide (strclone_any nm w0 hs)
  have HD := hide hd
  clear hb0 hd
  go_enter Tryz.func96, Tryz.ntmps96
  go_wp2_with fail
  rw [← hw0]
  clear hw0
  refine SC.out.mono ?_
  rintro e w1 ⟨rfl, hg1⟩
  have CL := hide (cloneI_any u ds w1 (HD.out.more (grown_trans g0.out hg1)))
  go_wp2_with (first | (go_at_call 77; refine CL.out.mono ?_; rintro e w2 ⟨⟨s1, s2, s3⟩, rfl, ho, hg2⟩; simp only; have g2 := grown_trans hg1 hg2; have B2 := BX.out w2 g2; obtain ⟨f0, f1, f2⟩ := ten_frozen B2; have c0 := (cell_of_row _ _ 0 _ _ (0, 0) B2).trans rfl; have c1 := (cell_of_row _ _ 1 _ _ (0, 0) B2).trans rfl; have c2 := (cell_of_row _ _ 2 _ _ (0, 0) B2).trans rfl) | fail)
  obtain ⟨hX, gX⟩ := store3t (.string nm) (.int .i64 t) (.slice s1 s2 s3) B2
  have gf : w.grownBy _ none := grown_drop (grown_trans g0.out g2) gX (Nat.le_refl _)
  refine bodyPost_ret (ret_val rfl _ _ w.heap.size rfl hX) rfl ?_
  refine ⟨⟨s1, s2, s3⟩, rfl, ?_, gf⟩
  have hb : w.heap.size < w1.heap.size := by have := (BX.out w1 hg1); exact (Array.getElem?_eq_some_iff.1 this).1
  have h := (ho.base_le (b' := w.heap.size + 1) (by omega)).more gX (by
    rcases ho.1.2 with ⟨e, -⟩ | ⟨gg, cap, cur, e, hgg, -⟩
    · exact .inl (by rw [e]; rfl)
    · exact .inr (by rw [e]; simp [Value.ownBlock]; omega))
  exact h.base_le (by omega)

end Go.Proofs.YtaoplfpigjkgpaaGreatDoor

namespace Go.Proofs.YtaoplfpigjkgpaaGreatDoor

open Go.RowKit

set_option maxRecDepth 100000 in
set_option maxHeartbeats 2000000 in
theorem type_Gather (n : Nod) (A : At) (u : Sl) (vs : List (Val × List Int)) (w : World) (hop : n.op = ⟨#[71, 97, 116, 104, 101, 114]⟩) (hn : NodeOk w n A) (hv : ValsIn w u.v vs) (hl : vs.length = 2) (_hf : vs.length ≤ 1000000) (_ht : ∀ s ∈ tysOf vs, isTypeP s = true) : Calls Tryz.prog 92 #[nval n, .slice u.a u.n u.c] w (Ended w ((mustP ((tysOf vs).getD 1 0 == 6 || (tysOf vs).getD 1 0 == 7)).bind (fun _ => .ok ((tysOf vs).getD 0 0))) fun t v _ => v = .int .i64 t) := by
  obtain ⟨xa, xc, e1, p1, p2, p3⟩ := hv.vals.form
  rw [List.length_map] at e1 p1 p3
  obtain ⟨ua, un, uc⟩ := u
  simp only [Sl.v, Value.slice.injEq] at e1
  obtain ⟨rfl, rfl, rfl⟩ := e1
  have HV := hide hv
  obtain ⟨b, off, rfl⟩ := hv.vals.addr (k := 0) (by rw [List.length_map]; omega)
  obtain ⟨z1, -⟩ := hv.at 0 (by omega)
  rw [Nat.zero_mul, Nat.add_zero] at z1
  obtain ⟨y1, -⟩ := hv.at 1 (by omega)
  have hT : (tysOf vs).getD 0 0 = vs[0].1.ty := by unfold tysOf; rw [List.getD, List.getElem?_eq_getElem (by rw [List.length_map]; omega)]; simp
  have hU : (tysOf vs).getD 1 0 = vs[1].1.ty := by unfold tysOf; rw [List.getD, List.getElem?_eq_getElem (by rw [List.length_map]; omega)]; simp
  obtain ⟨T, hT0⟩ : ∃ T, T = vs[0].1.ty := ⟨_, rfl⟩
  obtain ⟨U, hU0⟩ : ∃ U, U = vs[1].1.ty := ⟨_, rfl⟩
  rw [← hT0] at z1 hT
  rw [← hU0] at y1 hU
  rw [hT, hU]
  have Z1 := hide z1
  have Y1 := hide y1
  have hp : (0 : Int) < (vs.length : Int) := by omega
  have hp2 : 0 < vs.length := by omega
  have hq : (1 : Int) < (vs.length : Int) := by omega
  have hq2 : 1 < vs.length := by omega
  clear hv _ht hT hT0 z1 hU hU0 y1 hl _hf
  have NK := hide hn
  obtain ⟨op, nam, ⟨ia, il, ic⟩, out, ⟨ao, al, cap⟩⟩ := n
  unfold nval
  simp only
  obtain ⟨w0, hw0⟩ : ∃ w0, w0 = w.alloc (.cells #[.string op, .string nam, .slice ia il ic, .string out, .slice ao al cap] 25) := ⟨_, rfl⟩
  have g0 : Hid (w.grownBy w0 none) := by show w.grownBy w0 none; rw [hw0]; exact grown_new _ _
  have hb0 := heap_alloc_new w (.cells #[.string op, .string nam, .slice ia il ic, .string out, .slice ao al cap] 25)
  rw [← hw0] at hb0
  have BX : Hid (∀ wx, w0.grownBy wx none → wx.heap[w.heap.size]? = some (.cells #[.string op, .string nam, .slice ia il ic, .string out, .slice ao al cap] 25 (0, 0))) := fun wx hg => box_kept hb0 hg
  clear hb0 hn
  simp only at hop
  subst hop
  have z2 : (w.alloc (.cells #[.string ⟨#[71, 97, 116, 104, 101, 114]⟩, .string nam, .slice ia il ic, .string out, .slice ao al cap] 25)).cell? ⟨b, off + 1, none⟩ = some (.int .i64 T) := cell_still Z1.out (grown_new _ _)
  have y2 : (w.alloc (.cells #[.string ⟨#[71, 97, 116, 104, 101, 114]⟩, .string nam, .slice ia il ic, .string out, .slice ao al cap] 25)).cell? ⟨b, off + 3 + 1, none⟩ = some (.int .i64 U) := by have h := cell_still Y1.out (grown_new w (.cells #[.string ⟨#[71, 97, 116, 104, 101, 114]⟩, .string nam, .slice ia il ic, .string out, .slice ao al cap] 25)); rw [Nat.one_mul] at h; exact h
  cases h1 : (U == 6) with
  | true =>
    go_enter Tryz.func92, Tryz.ntmps92
    go_wp2_with (first | (go_at_call 89; refine (must_yes _).mono ?_; rintro e w' ⟨rfl, rfl⟩) | fail)
    go_ret
    exact ended_ok (by rfl) (by rw [← hw0]; exact g0.out) rfl
  | false =>
    cases h2 : (U == 7) with
    | true =>
      go_enter Tryz.func92, Tryz.ntmps92
      go_wp2_with (first | (go_at_call 89; refine (must_yes _).mono ?_; rintro e w' ⟨rfl, rfl⟩) | fail)
      go_ret
      exact ended_ok (by rfl) (by rw [← hw0]; exact g0.out) rfl
    | false =>
      go_enter Tryz.func92, Tryz.ntmps92
      go_wp2_with (first | (go_at_call 89; refine (must_no _).mono ?_; rintro e w' ⟨rfl, rfl⟩) | fail)
      exact ⟨rfl, ended_err (by rfl) (by rw [← hw0]; exact g0.out)⟩

end Go.Proofs.YtaoplfpigjkgpaaGreatDoor
