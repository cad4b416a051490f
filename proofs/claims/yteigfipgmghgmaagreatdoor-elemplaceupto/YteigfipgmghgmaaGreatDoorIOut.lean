/- Out: a closure that may give up, and what recovers it, by the walk. -/
import Derived.Test.YteigfipgmghgmaaGreatDoorIValue
import Derived.Defers
import Derived.Recover
namespace Go.Proofs.YteigfipgmghgmaaGreatDoor
open Go.RowKit

/-- What valueOf answers: a value under the node's name. -/
def ValQ (out : ByteArray) (base : Nat) (r : Int × List Int) (v : Value) (w' : World) : Prop := ∃ s : Sl, v = .agg #[.string out, .int .i64 r.1, .slice s.a s.n s.c] ∧ Owns w' base s.v r.2

set_option maxRecDepth 100000 in
set_option maxHeartbeats 2000000 in
theorem out1_any (n : Nod) (u : Sl) (r : R (Int × List Int)) (w : World) (pn pi : Nat) (hn : w.heap[pn]? = some (.cells #[.string n.op, .string n.name, .slice n.iv.a n.iv.n n.iv.c, .string n.out, .slice n.av.a n.av.n n.av.c] 25 (0, 0))) (hi : w.heap[pi]? = some (.cells #[.slice u.a u.n u.c] 66 (0, 0)))
    (VO : ∀ wx, w.grownBy wx none → Calls Tryz.prog 48 #[nval n, .slice u.a u.n u.c] wx (Ended wx r (ValQ n.out wx.heap.size))) :
    Calls Tryz.prog 47 #[.pointer (some ⟨pn, 0, none⟩), .pointer (some ⟨pi, 0, none⟩)] w (Ended w r (ValQ n.out w.heap.size)) := by
  have HVO := hide VO
  obtain ⟨op, nam, ⟨ia, il, ic⟩, out, ⟨ao, al, cap⟩⟩ := n
  obtain ⟨ua, un, uc⟩ := u
  unfold nval at HVO
  simp only at HVO hn hi ⊢
  clear VO
  have V0 : (.cells #[.string ⟨#[]⟩, .int .i64 0, .slice none 0 0] 53 : Obj) = .cells #[.string ⟨#[]⟩, .int .i64 0, .slice none 0 0] 53 := rfl
  obtain ⟨w0, hw0⟩ : ∃ w0, w0 = w.alloc (.cells #[.string ⟨#[]⟩, .int .i64 0, .slice none 0 0] 53) := ⟨_, rfl⟩
  have g0 : Hid (w.grownBy w0 none) := by show w.grownBy w0 none; rw [hw0]; exact grown_new _ _
  have hb0 := heap_alloc_new w (.cells #[.string ⟨#[]⟩, .int .i64 0, .slice none 0 0] 53)
  rw [← hw0] at hb0
  have BX : Hid (∀ wx, w0.grownBy wx none → wx.heap[w.heap.size]? = some (.cells #[.string ⟨#[]⟩, .int .i64 0, .slice none 0 0] 53 (0, 0))) := fun wx hg => box_kept hb0 hg
  have hn1 := box_kept hn g0.out
  have hi1 := box_kept hi g0.out
  rw [hw0] at hn1 hi1
  obtain ⟨n0, n1, n2, n3, n4⟩ := nod_cells (n := ⟨op, nam, ⟨ia, il, ic⟩, out, ⟨ao, al, cap⟩⟩) hn1
  have i0 := one_cell hi1
  simp only at n0 n1 n2 n3 n4
  clear hb0 hn hi hn1 hi1 V0
  go_enter Tryz.func47, Tryz.ntmps47
  go_wp2_with fail
  rw [← hw0]
  clear hw0 n0 n1 n2 n3 n4 i0
  have V1 := hide (HVO.out w0 g0.out)
  cases r with
  | error c =>
    refine V1.out.mono ?_
    rintro e w1 ⟨hg, rfl⟩
    exact ⟨rfl, ended_err rfl (grown_trans g0.out hg)⟩
  | ok rr =>
    refine V1.out.mono ?_
    rintro e w1 ⟨hg, v, rfl, ⟨s1, s2, s3⟩, rfl, ho⟩
    simp only
    have B1 := BX.out w1 hg
    obtain ⟨f0, f1, f2⟩ := ten_frozen B1
    have c0 := (cell_of_row _ _ 0 _ _ (0, 0) B1).trans rfl
    have c1 := (cell_of_row _ _ 1 _ _ (0, 0) B1).trans rfl
    have c2 := (cell_of_row _ _ 2 _ _ (0, 0) B1).trans rfl
    obtain ⟨hX, gX⟩ := store3t (.string out) (.int .i64 rr.1) (.slice s1 s2 s3) B1
    have gf := hide (grown_drop (grown_trans g0.out hg) gX (Nat.le_refl _))
    have HX := hide hX
    have hb : w.heap.size + 1 ≤ w0.heap.size := (Array.getElem?_eq_some_iff.1 (BX.out w0 (grown_refl _))).1
    have HO := hide (((ho.base_le (b' := w.heap.size + 1) hb).more gX (by
      rcases ho.1.2 with ⟨e, -⟩ | ⟨gg, cap', cur, e, hgg, -⟩
      · exact .inl (by rw [e]; rfl)
      · exact .inr (by rw [e]; simp [Value.ownBlock]; omega))).base_le (b' := w.heap.size) (by omega))
    clear hX gX ho
    go_wp2
    refine bodyPost_ret (ret_val rfl _ _ w.heap.size rfl HX.out) rfl ?_
    exact ended_ok rfl gf.out ⟨⟨s1, s2, s3⟩, rfl, HO.out⟩

/-- How Out ends: a value and no error, or the zero value and the error's number. -/
def AttQ (out : ByteArray) (w : World) (r : R (Int × List Int)) (e : Ending) (w' : World) : Prop := w.grownBy w' none ∧ match r with
  | .ok rr => ∃ s : Sl, e = .returned (.tuple #[.agg #[.string out, .int .i64 rr.1, .slice s.a s.n s.c], .int .i64 0]) ∧ Owns w' w.heap.size s.v rr.2
  | .error c => e = .returned (.tuple #[.agg #[.string ⟨#[]⟩, .int .i64 0, .slice none 0 0], .int .i64 c])

theorem assert_errno (c : Int) (w : World) : (Instr.typeAssert (.iface 33 (.int .i64 c)) 20 33 false).run Tryz.prog w = .ok (.int .i64 c) w := by kernel_rfl

/-- The closure that recovers, in a frame that returns: it turns nothing. -/
theorem catch_idle (p : Addr) (w : World) :
    CallsD Tryz.prog 68 #[.pointer (some p)] .returning w fun e u' w' => e = .returned (.tuple #[]) ∧ u' = .returning ∧ w' = w := by
  refine callsD_of_wpS Tryz.func68 rfl fun c₀ cs hu => ?_
  apply wpS_seq
  apply wpS_region
  simp [wpOpsS, go_sem, recoverD, hu, Tryz.ntmps68, Exit.thenS]
  apply wpS_seq
  apply wpS_region
  simp [wpOpsS, go_sem, Exit.thenS]
  refine wpS_cond (t := false) (by simp [Act.eval, Array.replicate]) ?_
  simp only [Bool.false_eq_true, if_false]
  refine wpS_of_wp (wp_skip ?_)
  cases c₀
  simp_all [bodyPostS, results, Tryz.results68]

set_option maxRecDepth 100000 in
/-- In a frame that panics with an error's number: the number is laid down. -/
theorem catch_panicking (p : Addr) (x c : Int) (older : List PanicEntry) (w : World) (hc : w.cell? p = some (.int .i64 x)) (hz : w.frozen? p = false) :
    CallsD Tryz.prog 68 #[.pointer (some p)] (.panicking ({ v := .iface 33 (.int .i64 c), recovered := false } :: older)) w fun e u' w' => e = .returned (.tuple #[]) ∧ u' = .panicking ({ v := .iface 33 (.int .i64 c), recovered := true } :: older) ∧ w' = w.setCell p (.int .i64 c) := by
  refine callsD_of_wpS Tryz.func68 rfl fun c₀ cs hu => ?_
  apply wpS_seq
  apply wpS_region
  simp [wpOpsS, go_sem, recoverD, hu, Tryz.ntmps68, Exit.thenS]
  apply wpS_seq
  apply wpS_region
  simp [wpOpsS, go_sem, Exit.thenS]
  refine wpS_cond (t := true) (by simp [Act.eval, Array.replicate]) ?_
  simp only [if_true]
  apply wpS_region
  have ha := assert_errno c w
  simp [wpOpsS, go_sem, hc, hz, ha, bodyPostS, results, Tryz.results68]

set_option maxRecDepth 100000 in
set_option maxHeartbeats 2000000 in
theorem attempt_any (out : ByteArray) (r : R (Int × List Int)) (w : World) (pn pi : Nat) (HC : ∀ wx, w.grownBy wx none → Calls Tryz.prog 47 #[.pointer (some ⟨pn, 0, none⟩), .pointer (some ⟨pi, 0, none⟩)] wx (Ended wx r (ValQ out wx.heap.size))) :
    Calls Tryz.prog 46 #[.func (.func 47) #[] #[.pointer (some ⟨pn, 0, none⟩), .pointer (some ⟨pi, 0, none⟩)]] w (AttQ out w r) := by
  have hmf : ∀ (fn : Fn) (first cap : Array Value) (w : World), (Instr.makeFunc fn first cap).run Tryz.prog w = .ok (.func fn first cap) w := fun _ _ _ _ => rfl
  have H := hide HC
  clear HC
  go_enter_defers Tryz.func46, Tryz.ntmps46
  obtain ⟨w0, hw0⟩ : ∃ w0, w0 = (w.alloc (.cells #[.string ⟨#[]⟩, .int .i64 0, .slice none 0 0] 53)).alloc (.cells #[.int .i64 0] 33) := ⟨_, rfl⟩
  have g0 : Hid (w.grownBy w0 none) := by show w.grownBy w0 none; rw [hw0]; exact grown_trans (grown_new _ _) (grown_new _ _)
  have hbx := two_boxes w (.cells #[.string ⟨#[]⟩, .int .i64 0, .slice none 0 0] 53) (.cells #[.int .i64 0] 33)
  rw [← hw0] at hbx
  have BX : Hid (∀ wx, w0.grownBy wx none → wx.heap[w.heap.size]? = some (.cells #[.string ⟨#[]⟩, .int .i64 0, .slice none 0 0] 53 (0, 0)) ∧ wx.heap[w.heap.size + 1]? = some (.cells #[.int .i64 0] 33 (0, 0))) := fun wx hg => ⟨box_kept hbx.1 hg, box_kept hbx.2 hg⟩
  clear hbx
  go_wp2_with fail
  rw [← hw0]
  clear hw0
  have H1 := hide (H.out w0 g0.out)
  clear H
  cases r with
  | error c =>
    refine H1.out.mono ?_
    rintro e w1 ⟨hg, rfl⟩
    obtain ⟨B1, B2⟩ := BX.out w1 hg
    refine leaves_cons (f := 68) (args := #[.pointer (some ⟨w.heap.size + 1, 0, none⟩)]) (by simp) (by simp [go_sem]) ?_
    refine (catch_panicking ⟨w.heap.size + 1, 0, none⟩ 0 c [] w1 (one_cell B2) (frozen_of_row w1 _ 0 _ _ B2)).mono ?_
    rintro e u' w'' ⟨rfl, rfl, rfl⟩
    have h2 := heap_setCell_same w1 (w.heap.size + 1) 0 _ _ (.int .i64 c) B2
    have h1 : (w1.setCell ⟨w.heap.size + 1, 0, none⟩ (.int .i64 c)).heap[w.heap.size]? = some (.cells #[.string ⟨#[]⟩, .int .i64 0, .slice none 0 0] 53 (0, 0)) := by
      rw [← B1]
      exact Below.heap_setCell _ _ _ _ (by simp)
    have k0 := (cell_of_row _ _ 0 _ _ (0, 0) h1).trans rfl
    have k1 := (cell_of_row _ _ 1 _ _ (0, 0) h1).trans rfl
    have k2 := (cell_of_row _ _ 2 _ _ (0, 0) h1).trans rfl
    have k3 := (cell_of_row _ _ 0 _ _ (0, 0) h2).trans rfl
    have gf : w.grownBy (w1.setCell ⟨w.heap.size + 1, 0, none⟩ (.int .i64 c)) none := grown_drop (B := w.heap.size + 1) (grown_trans g0.out hg) ⟨rfl, rfl, rfl, by simp [World.setCell], fun k _ hk => Below.heap_setCell _ _ _ _ (fun e => hk (by rw [e]))⟩ (by omega)
    obtain ⟨wf, hwf⟩ : ∃ wf, wf = w1.setCell ⟨w.heap.size + 1, 0, none⟩ (.int .i64 c) := ⟨_, rfl⟩
    rw [← hwf] at k0 k1 k2 k3 gf ⊢
    clear hwf h1 h2 B1 B2
    simp [Leaves, settle, results, Tryz.results46, go_sem, k0, k1, k2, k3]
    exact ⟨gf, rfl⟩
  | ok rr =>
    refine H1.out.mono ?_
    rintro e w1 ⟨hg, v, rfl, ⟨s1, s2, s3⟩, rfl, ho⟩
    simp only
    obtain ⟨B1, B2⟩ := BX.out w1 hg
    obtain ⟨f0, f1, f2⟩ := ten_frozen B1
    have c0 := (cell_of_row _ _ 0 _ _ (0, 0) B1).trans rfl
    have c1 := (cell_of_row _ _ 1 _ _ (0, 0) B1).trans rfl
    have c2 := (cell_of_row _ _ 2 _ _ (0, 0) B1).trans rfl
    have e0 := one_cell B2
    have e1 := frozen_of_row w1 (w.heap.size + 1) 0 _ _ B2
    obtain ⟨hX, gX⟩ := store3t (.string out) (.int .i64 rr.1) (.slice s1 s2 s3) B1
    have B3 := (gX.block (w.heap.size + 1) (Array.getElem?_eq_some_iff.1 B2).1 (by simp)).trans B2
    have e0x := one_cell B3
    have e1x := frozen_of_row _ (w.heap.size + 1) 0 _ _ B3
    have h2 := heap_setCell_same _ (w.heap.size + 1) 0 _ _ (.int .i64 0) B3
    have gs : ∀ x : World, x.grownBy (x.setCell ⟨w.heap.size + 1, 0, none⟩ (.int .i64 0)) (some (w.heap.size + 1)) := fun x => ⟨rfl, rfl, rfl, by simp [World.setCell], fun k _ hk => Below.heap_setCell _ _ _ _ (fun e => hk (by rw [e]))⟩
    have gy := gs (((w1.setCell ⟨w.heap.size, 0, none⟩ (.string out)).setCell ⟨w.heap.size, 1, none⟩ (.int .i64 rr.1)).setCell ⟨w.heap.size, 2, none⟩ (.slice s1 s2 s3))
    have h1 := (gy.block w.heap.size (Array.getElem?_eq_some_iff.1 hX).1 (by simp)).trans hX
    have gf := grown_drop (grown_drop (grown_trans g0.out hg) gX (Nat.le_refl _)) gy (by omega)
    have hb : w.heap.size + 2 ≤ w0.heap.size := by have := (Array.getElem?_eq_some_iff.1 (BX.out w0 (grown_refl _)).2).1; omega
    have hne : ∀ B, B < w.heap.size + 2 → (Sl.v ⟨s1, s2, s3⟩).ownBlock = none ∨ (Sl.v ⟨s1, s2, s3⟩).ownBlock ≠ some B := fun B hB => by
      rcases ho.1.2 with ⟨e, -⟩ | ⟨gg, cap', cur, e, hgg, -⟩
      · exact .inl (by rw [e]; rfl)
      · exact .inr (by rw [e]; simp [Value.ownBlock]; omega)
    have HO := hide ((((ho.base_le (b' := w.heap.size) (by omega)).more gX (hne _ (by omega))).more gy (hne _ (by omega))))
    have GF := hide gf
    have H1x := hide h1
    have H2x := hide h2
    clear gs gy h1 h2 gf hX gX hne
    go_wp2
    refine leaves_cons (f := 68) (args := #[.pointer (some ⟨w.heap.size + 1, 0, none⟩)]) (by simp) (by simp [go_sem]) ?_
    refine (catch_idle ⟨w.heap.size + 1, 0, none⟩ _).mono ?_
    rintro e u' w'' ⟨rfl, rfl, rfl⟩
    have k0 := (cell_of_row _ _ 0 _ _ (0, 0) H1x.out).trans rfl
    have k1 := (cell_of_row _ _ 1 _ _ (0, 0) H1x.out).trans rfl
    have k2 := (cell_of_row _ _ 2 _ _ (0, 0) H1x.out).trans rfl
    have k3 := (cell_of_row _ _ 0 _ _ (0, 0) H2x.out).trans rfl
    obtain ⟨wf, hwf⟩ : ∃ wf, wf = ((((w1.setCell ⟨w.heap.size, 0, none⟩ (.string out)).setCell ⟨w.heap.size, 1, none⟩ (.int .i64 rr.1)).setCell ⟨w.heap.size, 2, none⟩ (.slice s1 s2 s3)).setCell ⟨w.heap.size + 1, 0, none⟩ (.int .i64 0)) := ⟨_, rfl⟩
    have hO := HO.out
    have hG := GF.out
    rw [← hwf] at k0 k1 k2 k3 hO hG ⊢
    clear hwf H1x H2x B1 B2 B3 HO GF c0 c1 c2 f0 f1 f2 e0 e1 e0x e1x
    simp [Leaves, settle, results, Tryz.results46, go_sem, k0, k1, k2, k3]
    exact ⟨hG, ⟨s1, s2, s3⟩, rfl, hO⟩

theorem three_boxes (w : World) (o o' o2 : Obj) : (((w.alloc o).alloc o').alloc o2).heap[w.heap.size]? = some o ∧ (((w.alloc o).alloc o').alloc o2).heap[w.heap.size + 1]? = some o' ∧ (((w.alloc o).alloc o').alloc o2).heap[w.heap.size + 2]? = some o2 := by
  obtain ⟨h1, h2⟩ := two_boxes w o o'
  have g := grown_new ((w.alloc o).alloc o') o2
  refine ⟨box_kept h1 g, box_kept h2 g, ?_⟩
  have h3 := heap_alloc_new ((w.alloc o).alloc o') o2
  simpa using h3

theorem ret_valt {fn : Func} {p u : Tmp} (h : fn.results = #[.cell p 53, .tmp u]) (tmps : Array Value) (w : World) (B : Nat) (hp : tmps.getD p undef = .pointer (some ⟨B, 0, none⟩)) {a0 a1 a2 : Value}
    (hb : w.heap[B]? = some (.cells #[a0, a1, a2] 53 (0, 0))) : (results fn tmps).run Tryz.prog w = .ok (.tuple #[.agg #[a0, a1, a2], tmps.getD u undef]) w := by
  have hl := run_loadVar_row (P := Tryz.prog) w B _ 53 #[a0, a1, a2] (0, 0) _ hb Tryz.underlying53 rfl (by rw [valInfo]; rfl)
  rw [results_cell_tmp h, hp]
  simp [asAddr, hl, Result.andThen]

set_option maxRecDepth 100000 in
set_option maxHeartbeats 2000000 in
theorem out_any (n : Nod) (u : Sl) (r : R (Int × List Int)) (w : World) (VO : ∀ wx, w.grownBy wx none → Calls Tryz.prog 48 #[nval n, .slice u.a u.n u.c] wx (Ended wx r (ValQ n.out wx.heap.size))) :
    Calls Tryz.prog 27 #[nval n, .slice u.a u.n u.c] w (AttQ n.out w r) := by
  have hmf : ∀ (fn : Fn) (first cap : Array Value) (w : World), (Instr.makeFunc fn first cap).run Tryz.prog w = .ok (.func fn first cap) w := fun _ _ _ _ => rfl
  have HVO := hide VO
  obtain ⟨w0, hw0⟩ : ∃ w0, w0 = ((w.alloc (.cells #[.string n.op, .string n.name, .slice n.iv.a n.iv.n n.iv.c, .string n.out, .slice n.av.a n.av.n n.av.c] 25)).alloc (.cells #[.slice u.a u.n u.c] 66)).alloc (.cells #[.string ⟨#[]⟩, .int .i64 0, .slice none 0 0] 53) := ⟨_, rfl⟩
  have g0 : Hid (w.grownBy w0 none) := by show w.grownBy w0 none; rw [hw0]; exact grown_trans (grown_trans (grown_new _ _) (grown_new _ _)) (grown_new _ _)
  have hbx := three_boxes w (.cells #[.string n.op, .string n.name, .slice n.iv.a n.iv.n n.iv.c, .string n.out, .slice n.av.a n.av.n n.av.c] 25) (.cells #[.slice u.a u.n u.c] 66) (.cells #[.string ⟨#[]⟩, .int .i64 0, .slice none 0 0] 53)
  rw [← hw0] at hbx
  have AT := hide (attempt_any n.out r w0 w.heap.size (w.heap.size + 1) (fun wx hx => out1_any n u r wx w.heap.size (w.heap.size + 1) (box_kept hbx.1 hx) (box_kept hbx.2.1 hx) (fun wy hy => HVO.out wy (grown_trans g0.out (grown_trans hx hy)))))
  have BX : Hid (∀ wx, w0.grownBy wx none → wx.heap[w.heap.size + 2]? = some (.cells #[.string ⟨#[]⟩, .int .i64 0, .slice none 0 0] 53 (0, 0))) := fun wx hg => box_kept hbx.2.2 hg
  clear VO HVO hbx
  obtain ⟨op, nam, ⟨ia, il, ic⟩, out, ⟨ao, al, cap⟩⟩ := n
  obtain ⟨ua, un, uc⟩ := u
  unfold nval
  simp only at AT hw0 ⊢
  go_enter Tryz.func27, Tryz.ntmps27
  go_wp2_with fail
  rw [← hw0]
  clear hw0
  refine AT.out.mono ?_
  have fin : ∀ (w1 : World) (a0 a1 a2 : Value), w0.grownBy w1 none → (((w1.setCell ⟨w.heap.size + 2, 0, none⟩ a0).setCell ⟨w.heap.size + 2, 1, none⟩ a1).setCell ⟨w.heap.size + 2, 2, none⟩ a2).heap[w.heap.size + 2]? = some (.cells #[a0, a1, a2] 53 (0, 0)) ∧ w1.grownBy (((w1.setCell ⟨w.heap.size + 2, 0, none⟩ a0).setCell ⟨w.heap.size + 2, 1, none⟩ a1).setCell ⟨w.heap.size + 2, 2, none⟩ a2) (some (w.heap.size + 2)) := fun w1 a0 a1 a2 hg => store3t a0 a1 a2 (BX.out w1 hg)
  have FIN := hide fin
  clear fin
  rintro e w1 ⟨hg, hq⟩
  have B1 := BX.out w1 hg
  obtain ⟨f0, f1, f2⟩ := ten_frozen B1
  have c0 := (cell_of_row _ _ 0 _ _ (0, 0) B1).trans rfl
  have c1 := (cell_of_row _ _ 1 _ _ (0, 0) B1).trans rfl
  have c2 := (cell_of_row _ _ 2 _ _ (0, 0) B1).trans rfl
  have HG := hide hg
  clear B1 hg
  cases r with
  | error c =>
    obtain rfl := hq
    obtain ⟨hX, gX⟩ := FIN.out w1 (.string ⟨#[]⟩) (.int .i64 0) (.slice none 0 0) HG.out
    have HX := hide hX
    have GX := hide (grown_drop (grown_trans g0.out HG.out) gX (by omega))
    clear hX gX
    go_wp2
    refine bodyPost_ret (ret_valt rfl _ _ (w.heap.size + 2) rfl HX.out) rfl ?_
    exact ⟨GX.out, rfl⟩
  | ok rr =>
    obtain ⟨⟨s1, s2, s3⟩, rfl, ho⟩ := hq
    obtain ⟨hX, gX⟩ := FIN.out w1 (.string out) (.int .i64 rr.1) (.slice s1 s2 s3) HG.out
    have hb : w.heap.size + 3 ≤ w0.heap.size := by have := (Array.getElem?_eq_some_iff.1 (BX.out w0 (grown_refl _))).1; omega
    have HO := hide ((ho.base_le (b' := w.heap.size) (by omega)).more gX (by
      rcases ho.1.2 with ⟨e, -⟩ | ⟨gg, cap', cur, e, hgg, -⟩
      · exact .inl (by rw [e]; rfl)
      · exact .inr (by rw [e]; simp [Value.ownBlock]; omega)))
    have HX := hide hX
    have GX := hide (grown_drop (grown_trans g0.out HG.out) gX (by omega))
    clear hX gX ho
    simp only
    go_wp2
    refine bodyPost_ret (ret_valt rfl _ _ (w.heap.size + 2) rfl HX.out) rfl ?_
    exact ⟨GX.out, ⟨s1, s2, s3⟩, rfl, HO.out⟩
end Go.Proofs.YteigfipgmghgmaaGreatDoor
