/- Joined texts: IOut, ETen, EEv, LnTimes, RdPick, LnPile, LnBlock. -/
import Derived.Test.YtkefdkboejimeaaGreatDoorRartAY
import Derived.Defers
import Derived.Recover
import Derived.Test.YtkefdkboejimeaaGreatDoorRartAI
import Derived.Deep.AppendLies
import Derived.Test.YtkefdkboejimeaaGreatDoorRartAB
import Derived.Test.YtkefdkboejimeaaGreatDoorRartAV
import Derived.Test.YtkefdkboejimeaaGreatDoorRartAT
import Derived.Deep.RegionHeld3
namespace Go.Proofs.YtkefdkboejimeaaGreatDoor

open Go.RowKit

def ValQ (out : ByteArray) (base : Nat) (r : Int × List Int) (v : Value) (w' : World) : Prop := ∃ s : Sl, v = .agg #[.string out, .int .i64 r.1, .slice s.a s.n s.c] ∧ Owns w' base s.v r.2

set_option maxRecDepth 100000 in
set_option maxHeartbeats 2000000 in
theorem out1_any (n : Nod) (u : Sl) (r : R (Int × List Int)) (w : World) (pn pi : Nat) (hn : w.heap[pn]? = some (.cells #[.string n.op, .string n.name, .slice n.iv.a n.iv.n n.iv.c, .string n.out, .slice n.av.a n.av.n n.av.c] 35 (0, 0))) (hi : w.heap[pi]? = some (.cells #[.slice u.a u.n u.c] 82 (0, 0)))
    (VO : ∀ wx, w.grownBy wx none → Calls Tryz.prog 95 #[nval n, .slice u.a u.n u.c] wx (Ended wx r (ValQ n.out wx.heap.size))) :
    Calls Tryz.prog 94 #[.pointer (some ⟨pn, 0, none⟩), .pointer (some ⟨pi, 0, none⟩)] w (Ended w r (ValQ n.out w.heap.size)) := by
  have HVO := hide VO
  obtain ⟨op, nam, ⟨ia, il, ic⟩, out, ⟨ao, al, cap⟩⟩ := n
  obtain ⟨ua, un, uc⟩ := u
  unfold nval at HVO
  simp only at HVO hn hi ⊢
  clear VO
  have V0 : (.cells #[.string ⟨#[]⟩, .int .i64 0, .slice none 0 0] 53 : Obj) = .cells #[.string ⟨#[]⟩, .int .i64 0, .slice none 0 0] 53 := rfl
  obtain ⟨w0, hw0⟩ : ∃ w0, w0 = w.alloc (.cells #[.string ⟨#[]⟩, .int .i64 0, .slice none 0 0] 53) := ⟨_, rfl⟩
  have g0 : Hid (w.grownBy w0 none) := by show w.grownBy w0 none; rw [hw0]; exact grown_new _ _
  have hb0 := heap_alloc_new w (.cells #[.string ⟨#[]⟩, .int .i64 0, .slice none 0 0] 53)
  rw [← hw0] at hb0
  have BX : Hid (∀ wx, w0.grownBy wx none → wx.heap[w.heap.size]? = some (.cells #[.string ⟨#[]⟩, .int .i64 0, .slice none 0 0] 53 (0, 0))) := fun wx hg => box_kept hb0 hg
  have hn1 := box_kept hn g0.out
  have hi1 := box_kept hi g0.out
  rw [hw0] at hn1 hi1
  obtain ⟨n0, n1, n2, n3, n4⟩ := nod_cells (n := ⟨op, nam, ⟨ia, il, ic⟩, out, ⟨ao, al, cap⟩⟩) hn1
  have i0 := one_cell hi1
  simp only at n0 n1 n2 n3 n4
  clear hb0 hn hi hn1 hi1 V0
  go_enter Tryz.func94, Tryz.ntmps94
  go_wp2_with fail
  rw [← hw0]
  clear hw0 n0 n1 n2 n3 n4 i0
  have V1 := hide (HVO.out w0 g0.out)
  cases r with
  | error c =>
    refine V1.out.mono ?_
    rintro e w1 ⟨hg, rfl⟩
    exact ⟨rfl, ended_err rfl (grown_trans g0.out hg)⟩
  | ok rr =>
    refine V1.out.mono ?_
    rintro e w1 ⟨hg, v, rfl, ⟨s1, s2, s3⟩, rfl, ho⟩
    simp only
    have B1 := BX.out w1 hg
    obtain ⟨f0, f1, f2⟩ := ten_frozen B1
    have c0 := (cell_of_row _ _ 0 _ _ (0, 0) B1).trans rfl
    have c1 := (cell_of_row _ _ 1 _ _ (0, 0) B1).trans rfl
    have c2 := (cell_of_row _ _ 2 _ _ (0, 0) B1).trans rfl
    obtain ⟨hX, gX⟩ := store3t (.string out) (.int .i64 rr.1) (.slice s1 s2 s3) B1
    have gf := hide (grown_drop (grown_trans g0.out hg) gX (Nat.le_refl _))
    have HX := hide hX
    have hb : w.heap.size + 1 ≤ w0.heap.size := (Array.getElem?_eq_some_iff.1 (BX.out w0 (grown_refl _))).1
    have HO := hide (((ho.base_le (b' := w.heap.size + 1) hb).more gX (by
      rcases ho.1.2 with ⟨e, -⟩ | ⟨gg, cap', cur, e, hgg, -⟩
      · exact .inl (by rw [e]; rfl)
      · exact .inr (by rw [e]; simp [Value.ownBlock]; omega))).base_le (b' := w.heap.size) (by omega))
    clear hX gX ho
    go_wp2
    refine bodyPost_ret (ret_val rfl _ _ w.heap.size rfl HX.out) rfl ?_
    exact ended_ok rfl gf.out ⟨⟨s1, s2, s3⟩, rfl, HO.out⟩

def AttQ (out : ByteArray) (w : World) (r : R (Int × List Int)) (e : Ending) (w' : World) : Prop := w.grownBy w' none ∧ match r with
  | .ok rr => ∃ s : Sl, e = .returned (.tuple #[.agg #[.string out, .int .i64 rr.1, .slice s.a s.n s.c], .int .i64 0]) ∧ Owns w' w.heap.size s.v rr.2
  | .error c => e = .returned (.tuple #[.agg #[.string ⟨#[]⟩, .int .i64 0, .slice none 0 0], .int .i64 c])

theorem assert_errno (c : Int) (w : World) : (Instr.typeAssert (.iface 29 (.int .i64 c)) 20 29 false).run Tryz.prog w = .ok (.int .i64 c) w := by kernel_rfl

theorem catch_idle (p : Addr) (w : World) :
    CallsD Tryz.prog 115 #[.pointer (some p)] .returning w fun e u' w' => e = .returned (.tuple #[]) ∧ u' = .returning ∧ w' = w := by
  refine callsD_of_wpS Tryz.func115 rfl fun c₀ cs hu => ?_
  apply wpS_seq
  apply wpS_region
  simp [wpOpsS, go_sem, recoverD, hu, Tryz.ntmps115, Exit.thenS]
  apply wpS_seq
  apply wpS_region
  simp [wpOpsS, go_sem, Exit.thenS]
  refine wpS_cond (t := false) (by simp [Act.eval, Array.replicate]) ?_
  simp only [Bool.false_eq_true, if_false]
  refine wpS_of_wp (wp_skip ?_)
  cases c₀
  simp_all [bodyPostS, results, Tryz.results115]

set_option maxRecDepth 100000 in
theorem catch_panicking (p : Addr) (x c : Int) (older : List PanicEntry) (w : World) (hc : w.cell? p = some (.int .i64 x)) (hz : w.frozen? p = false) :
    CallsD Tryz.prog 115 #[.pointer (some p)] (.panicking ({ v := .iface 29 (.int .i64 c), recovered := false } :: older)) w fun e u' w' => e = .returned (.tuple #[]) ∧ u' = .panicking ({ v := .iface 29 (.int .i64 c), recovered := true } :: older) ∧ w' = w.setCell p (.int .i64 c) := by
  refine callsD_of_wpS Tryz.func115 rfl fun c₀ cs hu => ?_
  apply wpS_seq
  apply wpS_region
  simp [wpOpsS, go_sem, recoverD, hu, Tryz.ntmps115, Exit.thenS]
  apply wpS_seq
  apply wpS_region
  simp [wpOpsS, go_sem, Exit.thenS]
  refine wpS_cond (t := true) (by simp [Act.eval, Array.replicate]) ?_
  simp only [if_true]
  apply wpS_region
  have ha := assert_errno c w
  simp [wpOpsS, go_sem, hc, hz, ha, bodyPostS, results, Tryz.results115]

set_option maxRecDepth 100000 in
set_option maxHeartbeats 2000000 in
theorem attempt_any (out : ByteArray) (r : R (Int × List Int)) (w : World) (pn pi : Nat) (HC : ∀ wx, w.grownBy wx none → Calls Tryz.prog 94 #[.pointer (some ⟨pn, 0, none⟩), .pointer (some ⟨pi, 0, none⟩)] wx (Ended wx r (ValQ out wx.heap.size))) :
    Calls Tryz.prog 93 #[.func (.func 94) #[] #[.pointer (some ⟨pn, 0, none⟩), .pointer (some ⟨pi, 0, none⟩)]] w (AttQ out w r) := by
  have hmf : ∀ (fn : Fn) (first cap : Array Value) (w : World), (Instr.makeFunc fn first cap).run Tryz.prog w = .ok (.func fn first cap) w := fun _ _ _ _ => rfl
  have H := hide HC
  clear HC
  go_enter_defers Tryz.func93, Tryz.ntmps93
  obtain ⟨w0, hw0⟩ : ∃ w0, w0 = (w.alloc (.cells #[.string ⟨#[]⟩, .int .i64 0, .slice none 0 0] 53)).alloc (.cells #[.int .i64 0] 29) := ⟨_, rfl⟩
  have g0 : Hid (w.grownBy w0 none) := by show w.grownBy w0 none; rw [hw0]; exact grown_trans (grown_new _ _) (grown_new _ _)
  have hbx := two_boxes w (.cells #[.string ⟨#[]⟩, .int .i64 0, .slice none 0 0] 53) (.cells #[.int .i64 0] 29)
  rw [← hw0] at hbx
  have BX : Hid (∀ wx, w0.grownBy wx none → wx.heap[w.heap.size]? = some (.cells #[.string ⟨#[]⟩, .int .i64 0, .slice none 0 0] 53 (0, 0)) ∧ wx.heap[w.heap.size + 1]? = some (.cells #[.int .i64 0] 29 (0, 0))) := fun wx hg => ⟨box_kept hbx.1 hg, box_kept hbx.2 hg⟩
  clear hbx
  go_wp2_with fail
  rw [← hw0]
  clear hw0
  have H1 := hide (H.out w0 g0.out)
  clear H
  cases r with
  | error c =>
    refine H1.out.mono ?_
    rintro e w1 ⟨hg, rfl⟩
    obtain ⟨B1, B2⟩ := BX.out w1 hg
    refine leaves_cons (f := 115) (args := #[.pointer (some ⟨w.heap.size + 1, 0, none⟩)]) (by simp) (by simp [go_sem]) ?_
    refine (catch_panicking ⟨w.heap.size + 1, 0, none⟩ 0 c [] w1 (one_cell B2) (frozen_of_row w1 _ 0 _ _ B2)).mono ?_
    rintro e u' w'' ⟨rfl, rfl, rfl⟩
    have h2 := heap_setCell_same w1 (w.heap.size + 1) 0 _ _ (.int .i64 c) B2
    have h1 : (w1.setCell ⟨w.heap.size + 1, 0, none⟩ (.int .i64 c)).heap[w.heap.size]? = some (.cells #[.string ⟨#[]⟩, .int .i64 0, .slice none 0 0] 53 (0, 0)) := by
      rw [← B1]
      exact Below.heap_setCell _ _ _ _ (by simp)
    have k0 := (cell_of_row _ _ 0 _ _ (0, 0) h1).trans rfl
    have k1 := (cell_of_row _ _ 1 _ _ (0, 0) h1).trans rfl
    have k2 := (cell_of_row _ _ 2 _ _ (0, 0) h1).trans rfl
    have k3 := (cell_of_row _ _ 0 _ _ (0, 0) h2).trans rfl
    have gf : w.grownBy (w1.setCell ⟨w.heap.size + 1, 0, none⟩ (.int .i64 c)) none := grown_drop (B := w.heap.size + 1) (grown_trans g0.out hg) ⟨rfl, rfl, rfl, by simp [World.setCell], fun k _ hk => Below.heap_setCell _ _ _ _ (fun e => hk (by rw [e]))⟩ (by omega)
    obtain ⟨wf, hwf⟩ : ∃ wf, wf = w1.setCell ⟨w.heap.size + 1, 0, none⟩ (.int .i64 c) := ⟨_, rfl⟩
    rw [← hwf] at k0 k1 k2 k3 gf ⊢
    clear hwf h1 h2 B1 B2
    simp [Leaves, settle, results, Tryz.results93, go_sem, k0, k1, k2, k3]
    exact ⟨gf, rfl⟩
  | ok rr =>
    refine H1.out.mono ?_
    rintro e w1 ⟨hg, v, rfl, ⟨s1, s2, s3⟩, rfl, ho⟩
    simp only
    obtain ⟨B1, B2⟩ := BX.out w1 hg
    obtain ⟨f0, f1, f2⟩ := ten_frozen B1
    have c0 := (cell_of_row _ _ 0 _ _ (0, 0) B1).trans rfl
    have c1 := (cell_of_row _ _ 1 _ _ (0, 0) B1).trans rfl
    have c2 := (cell_of_row _ _ 2 _ _ (0, 0) B1).trans rfl
    have e0 := one_cell B2
    have e1 := frozen_of_row w1 (w.heap.size + 1) 0 _ _ B2
    obtain ⟨hX, gX⟩ := store3t (.string out) (.int .i64 rr.1) (.slice s1 s2 s3) B1
    have B3 := (gX.block (w.heap.size + 1) (Array.getElem?_eq_some_iff.1 B2).1 (by simp)).trans B2
    have e0x := one_cell B3
    have e1x := frozen_of_row _ (w.heap.size + 1) 0 _ _ B3
    have h2 := heap_setCell_same _ (w.heap.size + 1) 0 _ _ (.int .i64 0) B3
    have gs : ∀ x : World, x.grownBy (x.setCell ⟨w.heap.size + 1, 0, none⟩ (.int .i64 0)) (some (w.heap.size + 1)) := fun x => ⟨rfl, rfl, rfl, by simp [World.setCell], fun k _ hk => Below.heap_setCell _ _ _ _ (fun e => hk (by rw [e]))⟩
    have gy := gs (((w1.setCell ⟨w.heap.size, 0, none⟩ (.string out)).setCell ⟨w.heap.size, 1, none⟩ (.int .i64 rr.1)).setCell ⟨w.heap.size, 2, none⟩ (.slice s1 s2 s3))
    have h1 := (gy.block w.heap.size (Array.getElem?_eq_some_iff.1 hX).1 (by simp)).trans hX
    have gf := grown_drop (grown_drop (grown_trans g0.out hg) gX (Nat.le_refl _)) gy (by omega)
    have hb : w.heap.size + 2 ≤ w0.heap.size := by have := (Array.getElem?_eq_some_iff.1 (BX.out w0 (grown_refl _)).2).1; omega
    have hne : ∀ B, B < w.heap.size + 2 → (Sl.v ⟨s1, s2, s3⟩).ownBlock = none ∨ (Sl.v ⟨s1, s2, s3⟩).ownBlock ≠ some B := fun B hB => by
      rcases ho.1.2 with ⟨e, -⟩ | ⟨gg, cap', cur, e, hgg, -⟩
      · exact .inl (by rw [e]; rfl)
      · exact .inr (by rw [e]; simp [Value.ownBlock]; omega)
    have HO := hide ((((ho.base_le (b' := w.heap.size) (by omega)).more gX (hne _ (by omega))).more gy (hne _ (by omega))))
    have GF := hide gf
    have H1x := hide h1
    have H2x := hide h2
    clear gs gy h1 h2 gf hX gX hne
    go_wp2
    refine leaves_cons (f := 115) (args := #[.pointer (some ⟨w.heap.size + 1, 0, none⟩)]) (by simp) (by simp [go_sem]) ?_
    refine (catch_idle ⟨w.heap.size + 1, 0, none⟩ _).mono ?_
    rintro e u' w'' ⟨rfl, rfl, rfl⟩
    have k0 := (cell_of_row _ _ 0 _ _ (0, 0) H1x.out).trans rfl
    have k1 := (cell_of_row _ _ 1 _ _ (0, 0) H1x.out).trans rfl
    have k2 := (cell_of_row _ _ 2 _ _ (0, 0) H1x.out).trans rfl
    have k3 := (cell_of_row _ _ 0 _ _ (0, 0) H2x.out).trans rfl
    obtain ⟨wf, hwf⟩ : ∃ wf, wf = ((((w1.setCell ⟨w.heap.size, 0, none⟩ (.string out)).setCell ⟨w.heap.size, 1, none⟩ (.int .i64 rr.1)).setCell ⟨w.heap.size, 2, none⟩ (.slice s1 s2 s3)).setCell ⟨w.heap.size + 1, 0, none⟩ (.int .i64 0)) := ⟨_, rfl⟩
    have hO := HO.out
    have hG := GF.out
    rw [← hwf] at k0 k1 k2 k3 hO hG ⊢
    clear hwf H1x H2x B1 B2 B3 HO GF c0 c1 c2 f0 f1 f2 e0 e1 e0x e1x
    simp [Leaves, settle, results, Tryz.results93, go_sem, k0, k1, k2, k3]
    exact ⟨hG, ⟨s1, s2, s3⟩, rfl, hO⟩

theorem three_boxes (w : World) (o o' o2 : Obj) : (((w.alloc o).alloc o').alloc o2).heap[w.heap.size]? = some o ∧ (((w.alloc o).alloc o').alloc o2).heap[w.heap.size + 1]? = some o' ∧ (((w.alloc o).alloc o').alloc o2).heap[w.heap.size + 2]? = some o2 := by
  obtain ⟨h1, h2⟩ := two_boxes w o o'
  have g := grown_new ((w.alloc o).alloc o') o2
  refine ⟨box_kept h1 g, box_kept h2 g, ?_⟩
  have h3 := heap_alloc_new ((w.alloc o).alloc o') o2
  simpa using h3

theorem ret_valt {fn : Func} {p u : Tmp} (h : fn.results = #[.cell p 53, .tmp u]) (tmps : Array Value) (w : World) (B : Nat) (hp : tmps.getD p undef = .pointer (some ⟨B, 0, none⟩)) {a0 a1 a2 : Value}
    (hb : w.heap[B]? = some (.cells #[a0, a1, a2] 53 (0, 0))) : (results fn tmps).run Tryz.prog w = .ok (.tuple #[.agg #[a0, a1, a2], tmps.getD u undef]) w := by
  have hl := run_loadVar_row (P := Tryz.prog) w B _ 53 #[a0, a1, a2] (0, 0) _ hb Tryz.underlying53 rfl (by rw [valInfo]; rfl)
  rw [results_cell_tmp h, hp]
  simp [asAddr, hl, Result.andThen]

set_option maxRecDepth 100000 in
set_option maxHeartbeats 2000000 in
theorem out_any (n : Nod) (u : Sl) (r : R (Int × List Int)) (w : World) (VO : ∀ wx, w.grownBy wx none → Calls Tryz.prog 95 #[nval n, .slice u.a u.n u.c] wx (Ended wx r (ValQ n.out wx.heap.size))) :
    Calls Tryz.prog 53 #[nval n, .slice u.a u.n u.c] w (AttQ n.out w r) := by
  have hmf : ∀ (fn : Fn) (first cap : Array Value) (w : World), (Instr.makeFunc fn first cap).run Tryz.prog w = .ok (.func fn first cap) w := fun _ _ _ _ => rfl
  have HVO := hide VO
  obtain ⟨w0, hw0⟩ : ∃ w0, w0 = ((w.alloc (.cells #[.string n.op, .string n.name, .slice n.iv.a n.iv.n n.iv.c, .string n.out, .slice n.av.a n.av.n n.av.c] 35)).alloc (.cells #[.slice u.a u.n u.c] 82)).alloc (.cells #[.string ⟨#[]⟩, .int .i64 0, .slice none 0 0] 53) := ⟨_, rfl⟩
  have g0 : Hid (w.grownBy w0 none) := by show w.grownBy w0 none; rw [hw0]; exact grown_trans (grown_trans (grown_new _ _) (grown_new _ _)) (grown_new _ _)
  have hbx := three_boxes w (.cells #[.string n.op, .string n.name, .slice n.iv.a n.iv.n n.iv.c, .string n.out, .slice n.av.a n.av.n n.av.c] 35) (.cells #[.slice u.a u.n u.c] 82) (.cells #[.string ⟨#[]⟩, .int .i64 0, .slice none 0 0] 53)
  rw [← hw0] at hbx
  have AT := hide (attempt_any n.out r w0 w.heap.size (w.heap.size + 1) (fun wx hx => out1_any n u r wx w.heap.size (w.heap.size + 1) (box_kept hbx.1 hx) (box_kept hbx.2.1 hx) (fun wy hy => HVO.out wy (grown_trans g0.out (grown_trans hx hy)))))
  have BX : Hid (∀ wx, w0.grownBy wx none → wx.heap[w.heap.size + 2]? = some (.cells #[.string ⟨#[]⟩, .int .i64 0, .slice none 0 0] 53 (0, 0))) := fun wx hg => box_kept hbx.2.2 hg
  clear VO HVO hbx
  obtain ⟨op, nam, ⟨ia, il, ic⟩, out, ⟨ao, al, cap⟩⟩ := n
  obtain ⟨ua, un, uc⟩ := u
  unfold nval
  simp only at AT hw0 ⊢
  go_enter Tryz.func53, Tryz.ntmps53
  go_wp2_with fail
  rw [← hw0]
  clear hw0
  refine AT.out.mono ?_
  have fin : ∀ (w1 : World) (a0 a1 a2 : Value), w0.grownBy w1 none → (((w1.setCell ⟨w.heap.size + 2, 0, none⟩ a0).setCell ⟨w.heap.size + 2, 1, none⟩ a1).setCell ⟨w.heap.size + 2, 2, none⟩ a2).heap[w.heap.size + 2]? = some (.cells #[a0, a1, a2] 53 (0, 0)) ∧ w1.grownBy (((w1.setCell ⟨w.heap.size + 2, 0, none⟩ a0).setCell ⟨w.heap.size + 2, 1, none⟩ a1).setCell ⟨w.heap.size + 2, 2, none⟩ a2) (some (w.heap.size + 2)) := fun w1 a0 a1 a2 hg => store3t a0 a1 a2 (BX.out w1 hg)
  have FIN := hide fin
  clear fin
  rintro e w1 ⟨hg, hq⟩
  have B1 := BX.out w1 hg
  obtain ⟨f0, f1, f2⟩ := ten_frozen B1
  have c0 := (cell_of_row _ _ 0 _ _ (0, 0) B1).trans rfl
  have c1 := (cell_of_row _ _ 1 _ _ (0, 0) B1).trans rfl
  have c2 := (cell_of_row _ _ 2 _ _ (0, 0) B1).trans rfl
  have HG := hide hg
  clear B1 hg
  cases r with
  | error c =>
    obtain rfl := hq
    obtain ⟨hX, gX⟩ := FIN.out w1 (.string ⟨#[]⟩) (.int .i64 0) (.slice none 0 0) HG.out
    have HX := hide hX
    have GX := hide (grown_drop (grown_trans g0.out HG.out) gX (by omega))
    clear hX gX
    go_wp2
    refine bodyPost_ret (ret_valt rfl _ _ (w.heap.size + 2) rfl HX.out) rfl ?_
    exact ⟨GX.out, rfl⟩
  | ok rr =>
    obtain ⟨⟨s1, s2, s3⟩, rfl, ho⟩ := hq
    obtain ⟨hX, gX⟩ := FIN.out w1 (.string out) (.int .i64 rr.1) (.slice s1 s2 s3) HG.out
    have hb : w.heap.size + 3 ≤ w0.heap.size := by have := (Array.getElem?_eq_some_iff.1 (BX.out w0 (grown_refl _))).1; omega
    have HO := hide ((ho.base_le (b' := w.heap.size) (by omega)).more gX (by
      rcases ho.1.2 with ⟨e, -⟩ | ⟨gg, cap', cur, e, hgg, -⟩
      · exact .inl (by rw [e]; rfl)
      · exact .inr (by rw [e]; simp [Value.ownBlock]; omega)))
    have HX := hide hX
    have GX := hide (grown_drop (grown_trans g0.out HG.out) gX (by omega))
    clear hX gX ho
    simp only
    go_wp2
    refine bodyPost_ret (ret_valt rfl _ _ (w.heap.size + 2) rfl HX.out) rfl ?_
    exact ⟨GX.out, ⟨s1, s2, s3⟩, rfl, HO.out⟩

end Go.Proofs.YtkefdkboejimeaaGreatDoor

namespace Go.Proofs.YtkefdkboejimeaaGreatDoor

open Go.RowKit

structure Ten where
  ty : Int
  dv : Sl
  tv : Sl

abbrev Tq := List Int × List Int

def tcells (t : Ten) : List Value := [.int .i64 t.ty, .slice t.dv.a t.dv.n t.dv.c, .slice t.tv.a t.tv.n t.tv.c]

theorem tcells_len (t : Ten) : (tcells t).length = 3 := rfl

abbrev IsTens (w : World) (v : Value) (ts : List Ten) : Prop := IsL 56 3 tcells w v ts

def tval (t : Ten) : Value := .agg #[.int .i64 t.ty, .slice t.dv.a t.dv.n t.dv.c, .slice t.tv.a t.tv.n t.tv.c]

structure TensIn (w : World) (v : Value) (ps : List (Ten × Tq)) : Prop where
  vals : IsTens w v (ps.map (·.1))
  has : ∀ p ∈ ps, IsInts w p.1.dv.v p.2.1 ∧ IsInts w p.1.tv.v p.2.2

theorem TensIn.more {w w' : World} {v : Value} {ps : List (Ten × Tq)} (h : TensIn w v ps) (hg : w.grownBy w' none) : TensIn w' v ps := ⟨h.vals.more hg, fun p hp => ⟨(h.has p hp).1.more hg, (h.has p hp).2.more hg⟩⟩

theorem TensIn.at {w : World} {b off n c : Nat} {ps : List (Ten × Tq)} (h : TensIn w (.slice (some ⟨b, off, none⟩) n c) ps) (k : Nat) (hk : k < ps.length) : w.cell? ⟨b, off + k * 3, none⟩ = some (.int .i64 ps[k].1.ty) ∧ w.cell? ⟨b, off + k * 3 + 1, none⟩ = some (.slice ps[k].1.dv.a ps[k].1.dv.n ps[k].1.dv.c) ∧ w.cell? ⟨b, off + k * 3 + 2, none⟩ = some (.slice ps[k].1.tv.a ps[k].1.tv.n ps[k].1.tv.c) := by
  have hk' : k < (ps.map (·.1)).length := by rw [List.length_map]; exact hk
  have h0 := h.vals.at k hk' 0 (by omega)
  have h1 := h.vals.at k hk' 1 (by omega)
  have h2 := h.vals.at k hk' 2 (by omega)
  rw [List.getElem_map] at h0 h1 h2
  exact ⟨h0, h1, h2⟩

def okT (p : Ten × Tq) : Bool := pbE p.1.ty p.2.1 p.2.2 == 0

def nodeP (ps : List (Ten × Tq)) (r : R (Int × List Int)) : R (Int × List Int) := if ps.all okT = true then r else .error 1

theorem nodeP_bad {ps : List (Ten × Tq)} {r : R (Int × List Int)} {k : Nat} (hk : k < ps.length) (h : okT ps[k] = false) : nodeP ps r = .error 1 := by
  unfold nodeP
  rw [if_neg]
  intro e
  rw [List.all_eq_true] at e
  rw [e ps[k] (List.getElem_mem hk)] at h
  cases h

theorem nodeP_good {ps : List (Ten × Tq)} {r : R (Int × List Int)} (h : (ps.take ps.length).all okT = true) : nodeP ps r = r := by
  unfold nodeP
  rw [List.take_of_length_le (Nat.le_refl _)] at h
  rw [if_pos h]

theorem infoValE : (Tryz.prog.info? 53).map (fun i => (i.zero, i.size, i.bytes)) = some (some (.agg #[.string ⟨#[]⟩, .int .i64 0, .slice none 0 0]), 3, 48) := by kernel_rfl

theorem vcell_oneE (v : Val) : ∀ u ∈ vcells v, u.oneCell' = true := by
  intro u hu
  simp only [vcells, List.mem_cons, List.not_mem_nil, or_false] at hu
  rcases hu with rfl | rfl | rfl <;> rfl

theorem att_cast {out : ByteArray} {w w' : World} {X Y : R (Int × List Int)} {e : Ending} (h : X = Y) (hq : AttQ out w Y e w') : AttQ out w X e w' := by rw [h]; exact hq

def valOfT (p : Ten × Tq) : Val := ⟨⟨#[]⟩, p.1.ty, p.1.dv⟩

theorem owns_row_atE {α : Type} {te : TypeId} {size n : Nat} {f : α → List Value} {w : World} {base : Nat} {v : Value} {xs : List α} (h : OwnsL te size f w base v xs) (hn : xs.length = n) : w.ownsRow base te size v n (xs.flatMap f) := by
  subst hn
  exact h

theorem owns_at_rowE {α : Type} {te : TypeId} {size n : Nat} {f : α → List Value} {w : World} {base : Nat} {v : Value} {xs : List α} {y : α} (hn : xs.length = n) (h : w.ownsRow base te size v (n + 1) (xs.flatMap f ++ f y)) : OwnsL te size f w base v (xs ++ [y]) := by
  subst hn
  unfold OwnsL
  rw [List.length_append, List.flatMap_append]
  simpa using h

set_option maxRecDepth 100000 in
set_option maxHeartbeats 4000000 in
theorem bnode_any (n : Nod) (u : Sl) (ps : List (Ten × Tq)) (R0 : R (Int × List Int)) (w : World) (hv : TensIn w u.v ps) (hl : ps.length ≤ 1000000)
    (OC : ∀ (wx : World) (s : Sl) (vs : List (Val × List Int)), w.grownBy wx none → ValsIn wx s.v vs → vs.map (·.1.ty) = ps.map (·.1.ty) → vs.map (·.2) = ps.map (·.2.1) → Calls Tryz.prog 53 #[nval n, .slice s.a s.n s.c] wx (AttQ n.out wx R0)) :
    Calls Tryz.prog 24 #[nval n, .slice u.a u.n u.c] w (AttQ n.out w (nodeP ps R0)) := by
  obtain ⟨i0, hi, hz0, hz1, hz2⟩ := info_parts infoValE
  obtain ⟨xa, xc, e1, p1, p2, p3⟩ := hv.vals.form
  rw [List.length_map] at e1 p1 p3
  obtain ⟨ua, un, uc⟩ := u
  simp only [Sl.v, Value.slice.injEq] at e1
  obtain ⟨rfl, rfl, rfl⟩ := e1
  have HV := hide hv
  have HOC := hide OC
  clear hv OC
  obtain ⟨w0, hw0⟩ : ∃ w0, w0 = (w.alloc (.cells #[.string n.op, .string n.name, .slice n.iv.a n.iv.n n.iv.c, .string n.out, .slice n.av.a n.av.n n.av.c] 35)).alloc (.cells #[.string ⟨#[]⟩, .int .i64 0, .slice none 0 0] 53) := ⟨_, rfl⟩
  have g0 : Hid (w.grownBy w0 none) := by show w.grownBy w0 none; rw [hw0]; exact grown_trans (grown_new _ _) (grown_new _ _)
  have hbx := two_boxes w (.cells #[.string n.op, .string n.name, .slice n.iv.a n.iv.n n.iv.c, .string n.out, .slice n.av.a n.av.n n.av.c] 35) (.cells #[.string ⟨#[]⟩, .int .i64 0, .slice none 0 0] 53)
  rw [← hw0] at hbx
  have BN : Hid (∀ wx, w0.grownBy wx none → wx.heap[w.heap.size]? = some (.cells #[.string n.op, .string n.name, .slice n.iv.a n.iv.n n.iv.c, .string n.out, .slice n.av.a n.av.n n.av.c] 35 (0, 0))) := fun wx hg => box_kept hbx.1 hg
  have BX : Hid (∀ wx, w0.grownBy wx none → wx.heap[w.heap.size + 1]? = some (.cells #[.string ⟨#[]⟩, .int .i64 0, .slice none 0 0] 53 (0, 0))) := fun wx hg => box_kept hbx.2 hg
  have Z0 : Hid (w.heap.size + 1 < w0.heap.size) := (Array.getElem?_eq_some_iff.1 hbx.2).1
  clear hbx
  obtain ⟨op, nam, ⟨ia, il, ic⟩, out, ⟨ao, al, cap⟩⟩ := n
  unfold nval at HOC ⊢
  simp only at HOC BN hw0 ⊢
  go_enter Tryz.func24, Tryz.ntmps24
  go_wp2_with fail
  rw [← hw0]
  clear hw0
  go_loopw [6, 11] (fun l i wr => w0.grownBy wr none ∧ ∃ (k : Nat) (va : Option Addr) (vc : Nat), k ≤ ps.length ∧ i = .int .i64 k ∧ l = .slice va k vc ∧ (ps.take k).all okT = true ∧ OwnsL 53 3 vcells wr w0.heap.size (.slice va k vc) ((ps.take k).map valOfT)) (fun _ i _ => ps.length - (intOf i).toNat)
  case atStart => exact ⟨grown_refl _, 0, none, 0, Nat.zero_le _, rfl, rfl, rfl, OwnsL.nil ..⟩
  case round =>
    obtain ⟨hg, k, va, vc, hk, rfl, rfl, hall, hown⟩ := hrel
    have HG := hide hg
    have HO := hide hown
    have HAL := hide hall
    clear hown hall
    by_cases hlt : k < ps.length
    · obtain ⟨b, off, rfl⟩ := HV.out.vals.addr (k := k) (by rw [List.length_map]; exact hlt)
      obtain ⟨a0, a1, a2⟩ := (HV.out.more (grown_trans g0.out hg)).at k hlt
      have HH := hide (HV.out.has ps[k] (List.getElem_mem hlt))
      have HT : Hid ((ps.take (k + 1)).all okT = ((ps.take k).all okT && okT ps[k])) := by
        show _ = _
        rw [List.take_add_one, List.all_append, List.getElem?_eq_getElem hlt]
        simp
      have HM : Hid ((ps.take (k + 1)).map valOfT = (ps.take k).map valOfT ++ [valOfT ps[k]]) := by
        show _ = _
        rw [List.take_add_one, List.map_append, List.getElem?_eq_getElem hlt]
        rfl
      have HBAD : Hid (okT ps[k] = false → nodeP ps R0 = .error 1) := fun h => nodeP_bad hlt h
      obtain ⟨p, hp⟩ : ∃ p, p = ps[k] := ⟨_, rfl⟩
      rw [← hp] at a0 a1 a2 HH HT HM HBAD
      obtain ⟨⟨ty, ⟨da, dn, dc⟩, ⟨ta, tn, tc⟩⟩, ⟨ds, ts⟩⟩ := p
      simp only at a0 a1 a2 HH
      obtain ⟨w1, hw1⟩ : ∃ w1, w1 = wr.alloc (.cells #[.int .i64 ty, .slice da dn dc, .slice ta tn tc] 25) := ⟨_, rfl⟩
      have B1 := heap_alloc_new wr (.cells #[.int .i64 ty, .slice da dn dc, .slice ta tn tc] 25)
      have c0 := (cell_of_row _ _ 0 _ _ (0, 0) B1).trans rfl
      have c1 := (cell_of_row _ _ 1 _ _ (0, 0) B1).trans rfl
      have c2 := (cell_of_row _ _ 2 _ _ (0, 0) B1).trans rfl
      rw [← hw1] at B1
      have BT := hide B1
      have g1 : Hid (wr.grownBy w1 none) := by show wr.grownBy w1 none; rw [hw1]; exact grown_new _ _
      have PC := hide (pbcheck_any ty _ _ ds ts w1 ((HH.out.1.more (grown_trans g0.out hg)).more g1.out) ((HH.out.2.more (grown_trans g0.out hg)).more g1.out))
      simp only [Sl.v] at PC
      clear B1 hp hg
      go_wp2_with fail
      rw [← hw1]
      clear hw1 a0 a1 a2 c0 c1 c2
      refine PC.out.mono ?_
      rintro e w2 ⟨rfl, hg2⟩
      have G2 := hide (grown_trans (grown_trans HG.out g1.out) hg2)
      by_cases hok : pbE ty ds ts = 0
      · have bo : (pbE ty ds ts != 0) = false := by simp [hok]
        have HOK := hide hok
        have B2 := box_kept BT.out hg2
        have c0 := (cell_of_row _ _ 0 _ _ (0, 0) B2).trans rfl
        have c1 := (cell_of_row _ _ 1 _ _ (0, 0) B2).trans rfl
        have KL : Hid (((ps.take k).map valOfT).length = k) := by show _ = _; rw [List.length_map, List.length_take]; omega
        have OW : Hid (∀ o, (w2.alloc o).ownsRow w0.heap.size 53 3 (.slice va k vc) k (((ps.take k).map valOfT).flatMap vcells)) := fun o => owns_row_atE ((HO.out.more (grown_trans g1.out hg2)).more (grown_new _ _)) KL.out
        have hsz : w0.heap.size ≤ w2.heap.size := G2.out.size
        clear hok B2 hg2 PC
        go_wp2_with (at_builtin; refine wpList_append_lies _ rfl (.tmp 19) (.tmp 25) 82 rfl w0.heap.size 53 i0 (.agg #[.string ⟨#[]⟩, .int .i64 0, .slice none 0 0]) 3 48 Tryz.underlying82 hi hz0 hz1 hz2 rfl (by decide) (.slice va k vc) k (((ps.take k).map valOfT).flatMap vcells) rfl (by exact OW.out _) ⟨w2.heap.size, 0, none⟩ 1 1 (vcells ⟨⟨#[]⟩, ty, ⟨da, dn, dc⟩⟩) rfl rfl (by exact World.news_of_block (by have h := heap_alloc_new w2 (.cells #[.string ⟨#[]⟩, .int .i64 ty, .slice da dn dc] 53); simpa using h)) (vcell_oneE _) (by omega) (by simp only [maxLen]; omega) (by omega) (by simp; omega) (w2.heap.size + 1) (by simp) ?_; intro gg cap8 w8 hown8 hgrow hat hlt8)
        have ST : Hid (w0.grownBy w8 none ∧ OwnsL 53 3 vcells w8 w0.heap.size (.slice (some ⟨gg, 0, none⟩) (k + 1) cap8) ((ps.take (k + 1)).map valOfT) ∧ (ps.take (k + 1)).all okT = true) := ⟨grown_trans_row (grown_trans G2.out (grown_new _ _)) hgrow (fun r e => (World.ownsRow.lt HO.out r e).1), by rw [HM.out]; exact owns_at_rowE KL.out hown8, by rw [HT.out, HAL.out]; simp [okT, HOK.out]⟩
        clear hown8 hgrow hat hlt8 c0 c1
        go_wp2_with fail
        go_roundw
        case rel => exact ⟨ST.out.1, k + 1, _, _, by omega, by go_num, rfl, ST.out.2.2, ST.out.2.1⟩
        case measure => simp [intOf]; omega
      · have bo : (pbE ty ds ts != 0) = true := by simpa using hok
        have E : Hid (nodeP ps R0 = .error 1) := HBAD.out (by simpa [okT] using hok)
        have B1 := BX.out w2 G2.out
        obtain ⟨f0, f1, f2⟩ := ten_frozen B1
        have c0 := (cell_of_row _ _ 0 _ _ (0, 0) B1).trans rfl
        have c1 := (cell_of_row _ _ 1 _ _ (0, 0) B1).trans rfl
        have c2 := (cell_of_row _ _ 2 _ _ (0, 0) B1).trans rfl
        obtain ⟨hX, gX⟩ := store3t (.string ⟨#[]⟩) (.int .i64 0) (.slice none 0 0) B1
        have HX := hide hX
        have GX := hide (grown_drop (grown_trans g0.out G2.out) gX (by omega))
        clear hX gX B1 hok hg2
        go_wp2
        refine bodyPost_ret (ret_valt rfl _ _ (w.heap.size + 1) rfl HX.out) rfl ?_
        exact att_cast E.out ⟨GX.out, rfl⟩
    · obtain rfl : k = ps.length := by omega
      have E := hide (nodeP_good (r := R0) HAL.out)
      have HOF := HO.out
      rw [List.take_of_length_le (Nat.le_refl _)] at HOF
      have VI : ValsIn wr (Sl.v ⟨va, ps.length, vc⟩) (ps.map (fun p => (valOfT p, p.2.1))) := ⟨by rw [List.map_map]; exact HOF.isL (bytes := 48) vcells_len (by rw [List.length_map]; omega), fun q hq => by
        obtain ⟨p, hp, rfl⟩ := List.mem_map.1 hq
        exact ((HV.out.has p hp).1).more (grown_trans g0.out hg)⟩
      have O1 := hide (HOC.out wr ⟨va, ps.length, vc⟩ _ (grown_trans g0.out hg) VI (by rw [List.map_map]; rfl) (by rw [List.map_map]; rfl))
      obtain ⟨n0, n1, n2, n3, n4⟩ := nod_cells (n := ⟨op, nam, ⟨ia, il, ic⟩, out, ⟨ao, al, cap⟩⟩) (BN.out wr hg)
      clear HOF VI hg
      simp only at O1
      go_wp2_with fail
      refine O1.out.mono ?_
      rintro e w1 ⟨hg1, hq⟩
      have B1 := BX.out w1 (grown_trans HG.out hg1)
      obtain ⟨f0, f1, f2⟩ := ten_frozen B1
      have c0 := (cell_of_row _ _ 0 _ _ (0, 0) B1).trans rfl
      have c1 := (cell_of_row _ _ 1 _ _ (0, 0) B1).trans rfl
      have c2 := (cell_of_row _ _ 2 _ _ (0, 0) B1).trans rfl
      have G1 := hide (grown_trans (grown_trans g0.out HG.out) hg1)
      have HG1 := hide hg1
      have FB := hide (fun (a0 a1 a2 : Value) => store3t a0 a1 a2 B1)
      clear hg1 B1 n0 n1 n2 n3 n4
      cases R0 with
      | error c =>
        obtain rfl := hq
        obtain ⟨hX, gX⟩ := FB.out (.string ⟨#[]⟩) (.int .i64 0) (.slice none 0 0)
        have HX := hide hX
        have GX := hide (grown_drop G1.out gX (by omega))
        clear hX gX
        go_wp2
        refine bodyPost_ret (ret_valt rfl _ _ (w.heap.size + 1) rfl HX.out) rfl ?_
        exact att_cast E.out ⟨GX.out, rfl⟩
      | ok rr =>
        obtain ⟨⟨s1, s2, s3⟩, rfl, ho⟩ := hq
        obtain ⟨hX, gX⟩ := FB.out (.string out) (.int .i64 rr.1) (.slice s1 s2 s3)
        have hsz := HG.out.size
        have hz := Z0.out
        have HO2 := hide ((ho.base_le (b' := w.heap.size) (by have := g0.out.size; omega)).more gX (by
          rcases ho.1.2 with ⟨e, -⟩ | ⟨gg, cap', cur, e, hgg, -⟩
          · exact .inl (by rw [e]; rfl)
          · exact .inr (by rw [e]; simp [Value.ownBlock]; omega)))
        have HX := hide hX
        have GX := hide (grown_drop G1.out gX (by omega))
        clear hX gX ho hsz hz
        simp only
        go_wp2
        refine bodyPost_ret (ret_valt rfl _ _ (w.heap.size + 1) rfl HX.out) rfl ?_
        exact att_cast E.out ⟨GX.out, ⟨s1, s2, s3⟩, rfl, HO2.out⟩

end Go.Proofs.YtkefdkboejimeaaGreatDoor

namespace Go.Proofs.YtkefdkboejimeaaGreatDoor

open Go.RowKit

def OwnsE (w : World) (base : Nat) (v : Value) (zs : List Int) : Prop :=
  w.ownsRow base 2 1 v zs.length (zs.map (Value.int .i64)) ∧ zs.length * 8 ≤ 140737488351232 ∧ (∀ z ∈ zs, -9223372036854775808 ≤ z ∧ z ≤ 9223372036854775807)

theorem OwnsE.ints {w : World} {base : Nat} {v : Value} {zs : List Int} (h : OwnsE w base v zs) : IsInts w v zs := by
  obtain ⟨hr, hle, hwf⟩ := h
  have hr0 := hr
  rcases hr.2 with ⟨rfl, h0⟩ | ⟨g, cap, cur, rfl, _, _, hnc, hcm, _, _⟩
  · obtain rfl : zs = [] := List.length_eq_zero_iff.1 h0
    exact ⟨none, 0, rfl, by simp, by simp, by simp, fun _ => ⟨rfl, rfl⟩, fun h => by simp at h, fun z hz => by simp at hz⟩
  · refine ⟨_, cap, rfl, hnc, by simpa [maxLen] using hcm, hle, (fun h => by cases h), fun _ => ⟨g, 0, rfl, fun t ht => ?_⟩, hwf⟩
    rw [Nat.zero_add, hr0.cellAt t (by omega)]
    simp [List.getD, ht]

theorem OwnsE.more {w w' : World} {base : Nat} {v : Value} {zs : List Int} (h : OwnsE w base v zs) {row : Option Nat} (hg : w.grownBy w' row) (hne : v.ownBlock = none ∨ v.ownBlock ≠ row) : OwnsE w' base v zs := ⟨h.1.kept hg hne, h.2⟩

theorem OwnsE.put {w : World} {base g n c : Nat} {zs : List Int} (h : OwnsE w base (.slice (some ⟨g, 0, none⟩) n c) zs) (hn : zs.length = n) {k : Nat} (hk : k < n) (z : Int) (hz : -9223372036854775808 ≤ z ∧ z ≤ 9223372036854775807) :
    w.cell? ⟨g, k, none⟩ = some (.int .i64 (zs.getD k 0)) ∧ w.frozen? ⟨g, k, none⟩ = false ∧ OwnsE (w.setCell ⟨g, k, none⟩ (.int .i64 z)) base (.slice (some ⟨g, 0, none⟩) n c) (zs.set k z) ∧ w.grownBy (w.setCell ⟨g, k, none⟩ (.int .i64 z)) (some g) := by
  subst hn
  have hr := h.1
  obtain ⟨s1, s2⟩ := hr.stored k (.int .i64 z)
  refine ⟨?_, hr.frozenAt k, ⟨?_, by rw [List.length_set]; exact h.2.1, fun y hy => ?_⟩, s2⟩
  · rw [hr.cellAt k (by omega)]
    simp [List.getD, hk]
  · rw [List.length_set, List.map_set]
    exact s1
  · rcases List.mem_or_eq_of_mem_set hy with hy | rfl
    · exact h.2.2 y hy
    · exact hz

def scellS (s : Sl) : List Value := [.slice s.a s.n s.c]

theorem scellS_len (s : Sl) : (scellS s).length = 1 := rfl

abbrev IsCols (w : World) (v : Value) (cs : List Sl) : Prop := IsL 24 1 scellS w v cs

def EvQ (w : World) (r : R (List Int)) (e : Ending) (w' : World) : Prop := w.grownBy w' none ∧ match r with
  | .ok l => ∃ u : Sl, e = .returned (.tuple #[.slice u.a u.n u.c, .int .i64 0]) ∧ OwnsE w' w.heap.size u.v l
  | .error c => e = .returned (.tuple #[.slice none 0 0, .int .i64 c])

theorem info64E : (Tryz.prog.info? 2).map (fun i => (i.zero, i.size, i.bytes)) = some (some (.int .i64 0), 1, 8) := by kernel_rfl

end Go.Proofs.YtkefdkboejimeaaGreatDoor

namespace Go.Proofs.YtkefdkboejimeaaGreatDoor

open Go.RowKit

structure Blk (w : World) (v : Value) (rs : List (Sl × List Int)) (k : Nat) : Prop where
  cols : IsCols w v (rs.map (·.1))
  has : ∀ r ∈ rs, IsInts w r.1.v r.2 ∧ r.2.length = k

theorem Blk.more {w w' : World} {v : Value} {rs : List (Sl × List Int)} {k : Nat} (h : Blk w v rs k) (hg : w.grownBy w' none) : Blk w' v rs k := ⟨h.cols.more hg, fun r hr => ⟨(h.has r hr).1.more hg, (h.has r hr).2⟩⟩

theorem Blk.sl {w : World} {v : Value} {rs : List (Sl × List Int)} {k : Nat} (h : Blk w v rs k) : ∃ a c, v = .slice a rs.length c ∧ rs.length ≤ c ∧ c ≤ 9223372036854775807 := by
  obtain ⟨a, c, e, h1, h2, -⟩ := h.cols.form
  rw [List.length_map] at e h1
  exact ⟨a, c, e, h1, h2⟩

theorem Blk.row {w : World} {ao : Option Addr} {n c : Nat} {rs : List (Sl × List Int)} {k : Nat} (h : Blk w (.slice ao n c) rs k) {i : Nat} (hi : i < rs.length) : ∃ b off, ao = some ⟨b, off, none⟩ ∧ w.cell? ⟨b, off + i, none⟩ = some (.slice rs[i].1.a rs[i].1.n rs[i].1.c) := by
  obtain ⟨b, off, rfl⟩ := h.cols.addr (k := i) (by rw [List.length_map]; exact hi)
  have hc := h.cols.at i (by rw [List.length_map]; exact hi) 0 (by omega)
  rw [List.getElem_map] at hc
  exact ⟨b, off, rfl, by simpa [scellS] using hc⟩

theorem ownsE_snoc {w : World} {base : Nat} {v : Value} {zs : List Int} {z : Int} {n : Nat} (hn : zs.length = n) (h : w.ownsRow base 2 1 v (n + 1) (zs.map (Value.int .i64) ++ [Value.int .i64 z])) (hl : n ≤ 1000000) (hz : ∀ y ∈ zs, -9223372036854775808 ≤ y ∧ y ≤ 9223372036854775807) (hz' : -9223372036854775808 ≤ z ∧ z ≤ 9223372036854775807) : OwnsE w base v (zs ++ [z]) := by
  subst hn
  refine ⟨by rw [List.length_append, List.map_append]; exact h, by rw [List.length_append, List.length_singleton]; omega, fun y hy => ?_⟩
  rcases List.mem_append.1 hy with hy | hy
  · exact hz y hy
  · rw [List.mem_singleton.1 hy]; exact hz'

theorem ownsE_at {w : World} {base n : Nat} {v : Value} {zs : List Int} (h : OwnsE w base v zs) (hn : zs.length = n) : w.ownsRow base 2 1 v n (zs.map (Value.int .i64)) := by
  subst hn
  exact h.1

theorem ownsE_nil {w : World} {base : Nat} {v : Value} (h : w.ownsRow base 2 1 v 0 []) : OwnsE w base v [] := ⟨h, by simp, fun z hz => by simp at hz⟩

theorem int_one (z : Int) : ∀ u ∈ [Value.int .i64 z], u.oneCell' = true := by
  intro u hu
  rw [List.mem_singleton.1 hu]
  rfl

end Go.Proofs.YtkefdkboejimeaaGreatDoor

namespace Go.Proofs.YtkefdkboejimeaaGreatDoor

open Go.RowKit

def pickL (xs ns : List Int) : List Int := ns.map fun z => xs.getD z.toNat 0

end Go.Proofs.YtkefdkboejimeaaGreatDoor

namespace Go.Proofs.YtkefdkboejimeaaGreatDoor

open Go.RowKit

theorem ownsL_putS {w : World} {te base g n c : Nat} {xs : List Sl} (h : OwnsL te 1 scellS w base (.slice (some ⟨g, 0, none⟩) n c) xs) (hn : xs.length = n) {k : Nat} (hk : k < n) (s : Sl) :
    (∃ q : Sl, w.cell? ⟨g, k, none⟩ = some (.slice q.a q.n q.c)) ∧ w.frozen? ⟨g, k, none⟩ = false ∧ OwnsL te 1 scellS (w.setCell ⟨g, k, none⟩ (.slice s.a s.n s.c)) base (.slice (some ⟨g, 0, none⟩) n c) (xs.set k s) ∧ w.grownBy (w.setCell ⟨g, k, none⟩ (.slice s.a s.n s.c)) (some g) := by
  subst hn
  have e : ∀ ys : List Sl, ys.flatMap scellS = ys.map (fun s => Value.slice s.a s.n s.c) := fun ys => by
    induction ys with
    | nil => rfl
    | cons y ys ih => rw [List.flatMap_cons, List.map_cons, ih]; rfl
  unfold OwnsL at h ⊢
  rw [e] at h ⊢
  obtain ⟨s1, s2⟩ := h.stored k (.slice s.a s.n s.c)
  refine ⟨⟨xs[k], ?_⟩, h.frozenAt k, ?_, s2⟩
  · rw [h.cellAt k (by omega)]
    simp [hk]
  · rw [List.length_set, List.map_set]
    exact s1

theorem infoSl64 : (Tryz.prog.info? 23).map (fun i => (i.zero, i.size, i.bytes)) = some (some (.slice none 0 0), 1, 24) := by kernel_rfl

theorem made_nils {w : World} {te base n : Nat} {v : Value} (h : w.ownsRow base te 1 v n (madeCells (Value.slice none 0 0).cells (n * 1)).toList) : OwnsL te 1 scellS w base v (List.replicate n ⟨none, 0, 0⟩) := by
  unfold OwnsL
  have e : ∀ m : Nat, (List.replicate m (⟨none, 0, 0⟩ : Sl)).flatMap scellS = List.replicate m (Value.slice none 0 0) := fun m => by
    induction m with
    | zero => rfl
    | succ m ih => rw [List.replicate_succ, List.flatMap_cons, ih]; rfl
  rw [List.length_replicate, e]
  have e2 : (madeCells (Value.slice none 0 0).cells (n * 1)).toList = List.replicate n (Value.slice none 0 0) := by
    rw [Nat.mul_one]
    simp [madeCells, Value.cells, Nat.mod_one]
    exact List.ext_getElem (by simp) fun i h1 h2 => by simp
  rw [← e2]
  exact h

theorem ints_part {w : World} {b off n c : Nat} {zs : List Int} (h : IsInts w (.slice (some ⟨b, off, none⟩) n c) zs) (p m c' : Nat) (hp : p + m ≤ zs.length) (hc : p + c' ≤ c) (hm : m ≤ c') : IsInts w (.slice (some ⟨b, off + p, none⟩) m c') ((zs.drop p).take m) := by
  obtain ⟨a, c0, e, h1, h2, h3, -, h5, h6⟩ := h
  simp only [Value.slice.injEq] at e
  obtain ⟨rfl, -, rfl⟩ := e
  have hl : ((zs.drop p).take m).length = m := by rw [List.length_take, List.length_drop]; omega
  refine ⟨_, _, by rw [hl], by rw [hl]; exact hm, by omega, by rw [hl]; omega, (fun h => by cases h), fun _ => ⟨b, off + p, rfl, fun t ht => ?_⟩, fun z hz => h6 z (List.mem_of_mem_drop (List.mem_of_mem_take hz))⟩
  rw [hl] at ht
  obtain ⟨b', off', e', hcell⟩ := h5 (by omega)
  simp only [Option.some.injEq, Addr.mk.injEq] at e'
  obtain ⟨rfl, rfl, -⟩ := e'
  rw [Nat.add_assoc, hcell (p + t) (by omega)]
  congr 2
  simp only [List.getD]
  rw [List.getElem?_take_of_lt ht, List.getElem?_drop]

end Go.Proofs.YtkefdkboejimeaaGreatDoor

namespace Go.Proofs.YtkefdkboejimeaaGreatDoor

open Go.RowKit

theorem wrap64_id {x : Int} (h1 : 0 ≤ x) (h2 : x ≤ 1000000) : wrap64 x = x := by
  unfold wrap64
  omega

end Go.Proofs.YtkefdkboejimeaaGreatDoor
