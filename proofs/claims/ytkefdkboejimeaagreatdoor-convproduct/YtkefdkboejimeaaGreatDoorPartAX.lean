/- A part. -/
import Derived.Test.YtkefdkboejimeaaGreatDoorPartAW
import Derived.Defers
import Derived.Recover
import Derived.Test.YtkefdkboejimeaaGreatDoorPartAI
import Derived.Deep.AppendLies
import Derived.Test.YtkefdkboejimeaaGreatDoorPartAB
import Derived.Test.YtkefdkboejimeaaGreatDoorPartAT
import Derived.Test.YtkefdkboejimeaaGreatDoorPartAR
import Derived.Deep.RegionHeld3
set_option maxHeartbeats 8000000
set_option maxRecDepth 100000
namespace Go.Proofs.YtkefdkboejimeaaGreatDoor
open Go.RowKit
def ValQ (out : ByteArray) (base : Nat) (r : Int × List Int) (v : Value) (w' : World) : Prop := ∃ s : Sl, v = .agg #[.string out, .int .i64 r.1, .slice s.a s.n s.c] ∧ Owns w' base s.v r.2
theorem jne (n : Nod) (u : Sl) (r : R (Int × List Int)) (w : World) (pn pi : Nat) (hn : w.heap[pn]? = some (.cells #[.string n.op, .string n.name, .slice n.iv.a n.iv.n n.iv.c, .string n.out, .slice n.av.a n.av.n n.av.c] 35 (0, 0))) (hi : w.heap[pi]? = some (.cells #[.slice u.a u.n u.c] 82 (0, 0)))
    (VO : ∀ wx, w.grownBy wx none → Calls Tryz.prog 95 #[jaL n, .slice u.a u.n u.c] wx (jbj wx r (ValQ n.out wx.heap.size))) :
    Calls Tryz.prog 94 #[.pointer (some ⟨pn, 0, none⟩), .pointer (some ⟨pi, 0, none⟩)] w (jbj w r (ValQ n.out w.heap.size)) := by
     have HVO := jae VO
     obtain ⟨op, nam, ⟨ia, il, ic⟩, out, ⟨ao, al, cap⟩⟩ := n
     obtain ⟨ua, un, uc⟩ := u
     unfold jaL at HVO
     simp only at HVO hn hi ⊢
     clear VO
     have V0 : (.cells #[.string ⟨#[]⟩, .int .i64 0, .slice none 0 0] 53 : Obj) = .cells #[.string ⟨#[]⟩, .int .i64 0, .slice none 0 0] 53 := rfl
     obtain ⟨w0, hw0⟩ : ∃ w0, w0 = w.alloc (.cells #[.string ⟨#[]⟩, .int .i64 0, .slice none 0 0] 53) := ⟨_, rfl⟩
     have g0 : Hid (w.grownBy w0 none) := by show w.grownBy w0 none; rw [hw0]; exact jab _ _
     have hb0 := heap_alloc_new w (.cells #[.string ⟨#[]⟩, .int .i64 0, .slice none 0 0] 53)
     rw [← hw0] at hb0
     have BX : Hid (∀ wx, w0.grownBy wx none → wx.heap[w.heap.size]? = some (.cells #[.string ⟨#[]⟩, .int .i64 0, .slice none 0 0] 53 (0, 0))) := fun wx hg => jad hb0 hg
     have hn1 := jad hn g0.out
     have hi1 := jad hi g0.out
     rw [hw0] at hn1 hi1
     obtain ⟨n0, n1, n2, n3, n4⟩ := jai (n := ⟨op, nam, ⟨ia, il, ic⟩, out, ⟨ao, al, cap⟩⟩) hn1
     have i0 := jaA hi1
     simp only at n0 n1 n2 n3 n4
     clear hb0 hn hi hn1 hi1 V0
     go_enter Tryz.func94, Tryz.ntmps94
     go_wp2_with fail
     rw [← hw0]
     clear hw0 n0 n1 n2 n3 n4 i0
     have V1 := jae (HVO.out w0 g0.out)
     cases r with
     | error c =>
      refine V1.out.mono ?_
      rintro e w1 ⟨hg, rfl⟩
      exact ⟨rfl, jam rfl (jaa g0.out hg)⟩
     | ok rr =>
      refine V1.out.mono ?_
      rintro e w1 ⟨hg, v, rfl, ⟨s1, s2, s3⟩, rfl, ho⟩
      simp only
      have B1 := BX.out w1 hg
      obtain ⟨f0, f1, f2⟩ := jaJ B1
      have c0 := (cell_of_row _ _ 0 _ _ (0, 0) B1).trans rfl
      have c1 := (cell_of_row _ _ 1 _ _ (0, 0) B1).trans rfl
      have c2 := (cell_of_row _ _ 2 _ _ (0, 0) B1).trans rfl
      obtain ⟨hX, gX⟩ := ja5 (.string out) (.int .i64 rr.1) (.slice s1 s2 s3) B1
      have gf := jae (jas (jaa g0.out hg) gX (Nat.le_refl _))
      have HX := jae hX
      have hb : w.heap.size + 1 ≤ w0.heap.size := (Array.getElem?_eq_some_iff.1 (BX.out w0 (jaf _))).1
      have HO := jae (((ho.base_le (b' := w.heap.size + 1) hb).more gX (by
       rcases ho.1.2 with ⟨e, -⟩ | ⟨gg, cap', cur, e, hgg, -⟩
       ·exact .inl (by rw [e]; rfl)
       ·exact .inr (by rw [e]; simp [Value.ownBlock]; omega))).base_le (b' := w.heap.size) (by omega))
      clear hX gX ho
      go_wp2
      refine bodyPost_ret (jhO rfl _ _ w.heap.size rfl HX.out) rfl ?_
      exact jbc rfl gf.out ⟨⟨s1, s2, s3⟩, rfl, HO.out⟩
def jju (out : ByteArray) (w : World) (r : R (Int × List Int)) (e : Ending) (w' : World) : Prop := w.grownBy w' none ∧ match r with
 | .ok rr => ∃ s : Sl, e = .returned (.tuple #[.agg #[.string out, .int .i64 rr.1, .slice s.a s.n s.c], .int .i64 0]) ∧ Owns w' w.heap.size s.v rr.2
 | .error c => e = .returned (.tuple #[.agg #[.string ⟨#[]⟩, .int .i64 0, .slice none 0 0], .int .i64 c])
theorem jgJ (c : Int) (w : World) : (Instr.typeAssert (.iface 29 (.int .i64 c)) 20 29 false).run Tryz.prog w = .ok (.int .i64 c) w := by kernel_rfl
theorem jjv (p : Addr) (w : World) :
    CallsD Tryz.prog 115 #[.pointer (some p)] .returning w fun e u' w' => e = .returned (.tuple #[]) ∧ u' = .returning ∧ w' = w := by
     refine callsD_of_wpS Tryz.func115 rfl fun c₀ cs hu => ?_
     apply wpS_seq
     apply wpS_region
     simp [wpOpsS, go_sem, recoverD, hu, Tryz.ntmps115, Exit.thenS]
     apply wpS_seq
     apply wpS_region
     simp [wpOpsS, go_sem, Exit.thenS]
     refine wpS_cond (t := false) (by simp [Act.eval, Array.replicate]) ?_
     simp only [Bool.false_eq_true, if_false]
     refine wpS_of_wp (wp_skip ?_)
     cases c₀
     simp_all [bodyPostS, results, Tryz.results115]
theorem jeS (p : Addr) (x c : Int) (older : List PanicEntry) (w : World) (hc : w.cell? p = some (.int .i64 x)) (hz : w.frozen? p = false) :
    CallsD Tryz.prog 115 #[.pointer (some p)] (.panicking ({ v := .iface 29 (.int .i64 c), recovered := false } :: older)) w fun e u' w' => e = .returned (.tuple #[]) ∧ u' = .panicking ({ v := .iface 29 (.int .i64 c), recovered := true } :: older) ∧ w' = w.setCell p (.int .i64 c) := by
     refine callsD_of_wpS Tryz.func115 rfl fun c₀ cs hu => ?_
     apply wpS_seq
     apply wpS_region
     simp [wpOpsS, go_sem, recoverD, hu, Tryz.ntmps115, Exit.thenS]
     apply wpS_seq
     apply wpS_region
     simp [wpOpsS, go_sem, Exit.thenS]
     refine wpS_cond (t := true) (by simp [Act.eval, Array.replicate]) ?_
     simp only [if_true]
     apply wpS_region
     have ha := jgJ c w
     simp [wpOpsS, go_sem, hc, hz, ha, bodyPostS, results, Tryz.results115]
theorem jhT (out : ByteArray) (r : R (Int × List Int)) (w : World) (pn pi : Nat) (HC : ∀ wx, w.grownBy wx none → Calls Tryz.prog 94 #[.pointer (some ⟨pn, 0, none⟩), .pointer (some ⟨pi, 0, none⟩)] wx (jbj wx r (ValQ out wx.heap.size))) :
    Calls Tryz.prog 93 #[.func (.func 94) #[] #[.pointer (some ⟨pn, 0, none⟩), .pointer (some ⟨pi, 0, none⟩)]] w (jju out w r) := by
     have hmf : ∀ (fn : Fn) (first cap : Array Value) (w : World), (Instr.makeFunc fn first cap).run Tryz.prog w = .ok (.func fn first cap) w := fun _ _ _ _ => rfl
     have H := jae HC
     clear HC
     go_enter_defers Tryz.func93, Tryz.ntmps93
     obtain ⟨w0, hw0⟩ : ∃ w0, w0 = (w.alloc (.cells #[.string ⟨#[]⟩, .int .i64 0, .slice none 0 0] 53)).alloc (.cells #[.int .i64 0] 29) := ⟨_, rfl⟩
     have g0 : Hid (w.grownBy w0 none) := by show w.grownBy w0 none; rw [hw0]; exact jaa (jab _ _) (jab _ _)
     have hbx := jax w (.cells #[.string ⟨#[]⟩, .int .i64 0, .slice none 0 0] 53) (.cells #[.int .i64 0] 29)
     rw [← hw0] at hbx
     have BX : Hid (∀ wx, w0.grownBy wx none → wx.heap[w.heap.size]? = some (.cells #[.string ⟨#[]⟩, .int .i64 0, .slice none 0 0] 53 (0, 0)) ∧ wx.heap[w.heap.size + 1]? = some (.cells #[.int .i64 0] 29 (0, 0))) := fun wx hg => ⟨jad hbx.1 hg, jad hbx.2 hg⟩
     clear hbx
     go_wp2_with fail
     rw [← hw0]
     clear hw0
     have H1 := jae (H.out w0 g0.out)
     clear H
     cases r with
     | error c =>
      refine H1.out.mono ?_
      rintro e w1 ⟨hg, rfl⟩
      obtain ⟨B1, B2⟩ := BX.out w1 hg
      refine leaves_cons (f := 115) (args := #[.pointer (some ⟨w.heap.size + 1, 0, none⟩)]) (by simp) (by simp [go_sem]) ?_
      refine (jeS ⟨w.heap.size + 1, 0, none⟩ 0 c [] w1 (jaA B2) (frozen_of_row w1 _ 0 _ _ B2)).mono ?_
      rintro e u' w'' ⟨rfl, rfl, rfl⟩
      have h2 := heap_setCell_same w1 (w.heap.size + 1) 0 _ _ (.int .i64 c) B2
      have h1 : (w1.setCell ⟨w.heap.size + 1, 0, none⟩ (.int .i64 c)).heap[w.heap.size]? = some (.cells #[.string ⟨#[]⟩, .int .i64 0, .slice none 0 0] 53 (0, 0)) := by
       rw [← B1]
       exact Below.heap_setCell _ _ _ _ (by simp)
      have k0 := (cell_of_row _ _ 0 _ _ (0, 0) h1).trans rfl
      have k1 := (cell_of_row _ _ 1 _ _ (0, 0) h1).trans rfl
      have k2 := (cell_of_row _ _ 2 _ _ (0, 0) h1).trans rfl
      have k3 := (cell_of_row _ _ 0 _ _ (0, 0) h2).trans rfl
      have gf : w.grownBy (w1.setCell ⟨w.heap.size + 1, 0, none⟩ (.int .i64 c)) none := jas (B := w.heap.size + 1) (jaa g0.out hg) ⟨rfl, rfl, rfl, by simp [World.setCell], fun k _ hk => Below.heap_setCell _ _ _ _ (fun e => hk (by rw [e]))⟩ (by omega)
      obtain ⟨wf, hwf⟩ : ∃ wf, wf = w1.setCell ⟨w.heap.size + 1, 0, none⟩ (.int .i64 c) := ⟨_, rfl⟩
      rw [← hwf] at k0 k1 k2 k3 gf ⊢
      clear hwf h1 h2 B1 B2
      simp [Leaves, settle, results, Tryz.results93, go_sem, k0, k1, k2, k3]
      exact ⟨gf, rfl⟩
     | ok rr =>
      refine H1.out.mono ?_
      rintro e w1 ⟨hg, v, rfl, ⟨s1, s2, s3⟩, rfl, ho⟩
      simp only
      obtain ⟨B1, B2⟩ := BX.out w1 hg
      obtain ⟨f0, f1, f2⟩ := jaJ B1
      have c0 := (cell_of_row _ _ 0 _ _ (0, 0) B1).trans rfl
      have c1 := (cell_of_row _ _ 1 _ _ (0, 0) B1).trans rfl
      have c2 := (cell_of_row _ _ 2 _ _ (0, 0) B1).trans rfl
      have e0 := jaA B2
      have e1 := frozen_of_row w1 (w.heap.size + 1) 0 _ _ B2
      obtain ⟨hX, gX⟩ := ja5 (.string out) (.int .i64 rr.1) (.slice s1 s2 s3) B1
      have B3 := (gX.block (w.heap.size + 1) (Array.getElem?_eq_some_iff.1 B2).1 (by simp)).trans B2
      have e0x := jaA B3
      have e1x := frozen_of_row _ (w.heap.size + 1) 0 _ _ B3
      have h2 := heap_setCell_same _ (w.heap.size + 1) 0 _ _ (.int .i64 0) B3
      have gs : ∀ x : World, x.grownBy (x.setCell ⟨w.heap.size + 1, 0, none⟩ (.int .i64 0)) (some (w.heap.size + 1)) := fun x => ⟨rfl, rfl, rfl, by simp [World.setCell], fun k _ hk => Below.heap_setCell _ _ _ _ (fun e => hk (by rw [e]))⟩
      have gy := gs (((w1.setCell ⟨w.heap.size, 0, none⟩ (.string out)).setCell ⟨w.heap.size, 1, none⟩ (.int .i64 rr.1)).setCell ⟨w.heap.size, 2, none⟩ (.slice s1 s2 s3))
      have h1 := (gy.block w.heap.size (Array.getElem?_eq_some_iff.1 hX).1 (by simp)).trans hX
      have gf := jas (jas (jaa g0.out hg) gX (Nat.le_refl _)) gy (by omega)
      have hb : w.heap.size + 2 ≤ w0.heap.size := by have := (Array.getElem?_eq_some_iff.1 (BX.out w0 (jaf _)).2).1; omega
      have hne : ∀ B, B < w.heap.size + 2 → (Sl.v ⟨s1, s2, s3⟩).ownBlock = none ∨ (Sl.v ⟨s1, s2, s3⟩).ownBlock ≠ some B := fun B hB => by
       rcases ho.1.2 with ⟨e, -⟩ | ⟨gg, cap', cur, e, hgg, -⟩
       ·exact .inl (by rw [e]; rfl)
       ·exact .inr (by rw [e]; simp [Value.ownBlock]; omega)
      have HO := jae ((((ho.base_le (b' := w.heap.size) (by omega)).more gX (hne _ (by omega))).more gy (hne _ (by omega))))
      have GF := jae gf
      have H1x := jae h1
      have H2x := jae h2
      clear gs gy h1 h2 gf hX gX hne
      go_wp2
      refine leaves_cons (f := 115) (args := #[.pointer (some ⟨w.heap.size + 1, 0, none⟩)]) (by simp) (by simp [go_sem]) ?_
      refine (jjv ⟨w.heap.size + 1, 0, none⟩ _).mono ?_
      rintro e u' w'' ⟨rfl, rfl, rfl⟩
      have k0 := (cell_of_row _ _ 0 _ _ (0, 0) H1x.out).trans rfl
      have k1 := (cell_of_row _ _ 1 _ _ (0, 0) H1x.out).trans rfl
      have k2 := (cell_of_row _ _ 2 _ _ (0, 0) H1x.out).trans rfl
      have k3 := (cell_of_row _ _ 0 _ _ (0, 0) H2x.out).trans rfl
      obtain ⟨wf, hwf⟩ : ∃ wf, wf = ((((w1.setCell ⟨w.heap.size, 0, none⟩ (.string out)).setCell ⟨w.heap.size, 1, none⟩ (.int .i64 rr.1)).setCell ⟨w.heap.size, 2, none⟩ (.slice s1 s2 s3)).setCell ⟨w.heap.size + 1, 0, none⟩ (.int .i64 0)) := ⟨_, rfl⟩
      have hO := HO.out
      have hG := GF.out
      rw [← hwf] at k0 k1 k2 k3 hO hG ⊢
      clear hwf H1x H2x B1 B2 B3 HO GF c0 c1 c2 f0 f1 f2 e0 e1 e0x e1x
      simp [Leaves, settle, results, Tryz.results93, go_sem, k0, k1, k2, k3]
      exact ⟨hG, ⟨s1, s2, s3⟩, rfl, hO⟩
theorem jhU (w : World) (o o' o2 : Obj) : (((w.alloc o).alloc o').alloc o2).heap[w.heap.size]? = some o ∧ (((w.alloc o).alloc o').alloc o2).heap[w.heap.size + 1]? = some o' ∧ (((w.alloc o).alloc o').alloc o2).heap[w.heap.size + 2]? = some o2 := by
 obtain ⟨h1, h2⟩ := jax w o o'
 have g := jab ((w.alloc o).alloc o') o2
 refine ⟨jad h1 g, jad h2 g, ?_⟩
 have h3 := heap_alloc_new ((w.alloc o).alloc o') o2
 simpa using h3
theorem jdx {fn : Func} {p u : Tmp} (h : fn.results = #[.cell p 53, .tmp u]) (tmps : Array Value) (w : World) (B : Nat) (hp : tmps.getD p undef = .pointer (some ⟨B, 0, none⟩)) {a0 a1 a2 : Value}
    (hb : w.heap[B]? = some (.cells #[a0, a1, a2] 53 (0, 0))) : (results fn tmps).run Tryz.prog w = .ok (.tuple #[.agg #[a0, a1, a2], tmps.getD u undef]) w := by
     have hl := run_loadVar_row (P := Tryz.prog) w B _ 53 #[a0, a1, a2] (0, 0) _ hb Tryz.underlying53 rfl (by rw [jk6]; rfl)
     rw [results_cell_tmp h, hp]
     simp [asAddr, hl, Result.andThen]
theorem jf0 (n : Nod) (u : Sl) (r : R (Int × List Int)) (w : World) (VO : ∀ wx, w.grownBy wx none → Calls Tryz.prog 95 #[jaL n, .slice u.a u.n u.c] wx (jbj wx r (ValQ n.out wx.heap.size))) :
    Calls Tryz.prog 53 #[jaL n, .slice u.a u.n u.c] w (jju n.out w r) := by
     have hmf : ∀ (fn : Fn) (first cap : Array Value) (w : World), (Instr.makeFunc fn first cap).run Tryz.prog w = .ok (.func fn first cap) w := fun _ _ _ _ => rfl
     have HVO := jae VO
     obtain ⟨w0, hw0⟩ : ∃ w0, w0 = ((w.alloc (.cells #[.string n.op, .string n.name, .slice n.iv.a n.iv.n n.iv.c, .string n.out, .slice n.av.a n.av.n n.av.c] 35)).alloc (.cells #[.slice u.a u.n u.c] 82)).alloc (.cells #[.string ⟨#[]⟩, .int .i64 0, .slice none 0 0] 53) := ⟨_, rfl⟩
     have g0 : Hid (w.grownBy w0 none) := by show w.grownBy w0 none; rw [hw0]; exact jaa (jaa (jab _ _) (jab _ _)) (jab _ _)
     have hbx := jhU w (.cells #[.string n.op, .string n.name, .slice n.iv.a n.iv.n n.iv.c, .string n.out, .slice n.av.a n.av.n n.av.c] 35) (.cells #[.slice u.a u.n u.c] 82) (.cells #[.string ⟨#[]⟩, .int .i64 0, .slice none 0 0] 53)
     rw [← hw0] at hbx
     have AT := jae (jhT n.out r w0 w.heap.size (w.heap.size + 1) (fun wx hx => jne n u r wx w.heap.size (w.heap.size + 1) (jad hbx.1 hx) (jad hbx.2.1 hx) (fun wy hy => HVO.out wy (jaa g0.out (jaa hx hy)))))
     have BX : Hid (∀ wx, w0.grownBy wx none → wx.heap[w.heap.size + 2]? = some (.cells #[.string ⟨#[]⟩, .int .i64 0, .slice none 0 0] 53 (0, 0))) := fun wx hg => jad hbx.2.2 hg
     clear VO HVO hbx
     obtain ⟨op, nam, ⟨ia, il, ic⟩, out, ⟨ao, al, cap⟩⟩ := n
     obtain ⟨ua, un, uc⟩ := u
     unfold jaL
     simp only at AT hw0 ⊢
     go_enter Tryz.func53, Tryz.ntmps53
     go_wp2_with fail
     rw [← hw0]
     clear hw0
     refine AT.out.mono ?_
     have fin : ∀ (w1 : World) (a0 a1 a2 : Value), w0.grownBy w1 none → (((w1.setCell ⟨w.heap.size + 2, 0, none⟩ a0).setCell ⟨w.heap.size + 2, 1, none⟩ a1).setCell ⟨w.heap.size + 2, 2, none⟩ a2).heap[w.heap.size + 2]? = some (.cells #[a0, a1, a2] 53 (0, 0)) ∧ w1.grownBy (((w1.setCell ⟨w.heap.size + 2, 0, none⟩ a0).setCell ⟨w.heap.size + 2, 1, none⟩ a1).setCell ⟨w.heap.size + 2, 2, none⟩ a2) (some (w.heap.size + 2)) := fun w1 a0 a1 a2 hg => ja5 a0 a1 a2 (BX.out w1 hg)
     have FIN := jae fin
     clear fin
     rintro e w1 ⟨hg, hq⟩
     have B1 := BX.out w1 hg
     obtain ⟨f0, f1, f2⟩ := jaJ B1
     have c0 := (cell_of_row _ _ 0 _ _ (0, 0) B1).trans rfl
     have c1 := (cell_of_row _ _ 1 _ _ (0, 0) B1).trans rfl
     have c2 := (cell_of_row _ _ 2 _ _ (0, 0) B1).trans rfl
     have HG := jae hg
     clear B1 hg
     cases r with
     | error c =>
      obtain rfl := hq
      obtain ⟨hX, gX⟩ := FIN.out w1 (.string ⟨#[]⟩) (.int .i64 0) (.slice none 0 0) HG.out
      have HX := jae hX
      have GX := jae (jas (jaa g0.out HG.out) gX (by omega))
      clear hX gX
      go_wp2
      refine bodyPost_ret (jdx rfl _ _ (w.heap.size + 2) rfl HX.out) rfl ?_
      exact ⟨GX.out, rfl⟩
     | ok rr =>
      obtain ⟨⟨s1, s2, s3⟩, rfl, ho⟩ := hq
      obtain ⟨hX, gX⟩ := FIN.out w1 (.string out) (.int .i64 rr.1) (.slice s1 s2 s3) HG.out
      have hb : w.heap.size + 3 ≤ w0.heap.size := by have := (Array.getElem?_eq_some_iff.1 (BX.out w0 (jaf _))).1; omega
      have HO := jae ((ho.base_le (b' := w.heap.size) (by omega)).more gX (by
       rcases ho.1.2 with ⟨e, -⟩ | ⟨gg, cap', cur, e, hgg, -⟩
       ·exact .inl (by rw [e]; rfl)
       ·exact .inr (by rw [e]; simp [Value.ownBlock]; omega)))
      have HX := jae hX
      have GX := jae (jas (jaa g0.out HG.out) gX (by omega))
      clear hX gX ho
      simp only
      go_wp2
      refine bodyPost_ret (jdx rfl _ _ (w.heap.size + 2) rfl HX.out) rfl ?_
      exact ⟨GX.out, ⟨s1, s2, s3⟩, rfl, HO.out⟩
end Go.Proofs.YtkefdkboejimeaaGreatDoor
namespace Go.Proofs.YtkefdkboejimeaaGreatDoor
open Go.RowKit
structure Ten where
 ty : Int
 dv : Sl
 tv : Sl
abbrev Tq := List Int × List Int
def jk8 (t : Ten) : List Value := [.int .i64 t.ty, .slice t.dv.a t.dv.n t.dv.c, .slice t.tv.a t.tv.n t.tv.c]
theorem jjw (t : Ten) : (jk8 t).length = 3 := rfl
abbrev jpY (w : World) (v : Value) (ts : List Ten) : Prop := IsL 56 3 jk8 w v ts
def jdL (t : Ten) : Value := .agg #[.int .i64 t.ty, .slice t.dv.a t.dv.n t.dv.c, .slice t.tv.a t.tv.n t.tv.c]
structure TensIn (w : World) (v : Value) (ps : List (Ten × Tq)) : Prop where
 vals : jpY w v (ps.map (·.1))
 has : ∀ p ∈ ps, IsInts w p.1.dv.v p.2.1 ∧ IsInts w p.1.tv.v p.2.2
theorem TensIn.more {w w' : World} {v : Value} {ps : List (Ten × Tq)} (h : TensIn w v ps) (hg : w.grownBy w' none) : TensIn w' v ps := ⟨h.vals.more hg, fun p hp => ⟨(h.has p hp).1.more hg, (h.has p hp).2.more hg⟩⟩
theorem TensIn.at {w : World} {b off n c : Nat} {ps : List (Ten × Tq)} (h : TensIn w (.slice (some ⟨b, off, none⟩) n c) ps) (k : Nat) (hk : k < ps.length) : w.cell? ⟨b, off + k * 3, none⟩ = some (.int .i64 ps[k].1.ty) ∧ w.cell? ⟨b, off + k * 3 + 1, none⟩ = some (.slice ps[k].1.dv.a ps[k].1.dv.n ps[k].1.dv.c) ∧ w.cell? ⟨b, off + k * 3 + 2, none⟩ = some (.slice ps[k].1.tv.a ps[k].1.tv.n ps[k].1.tv.c) := by
 have hk' : k < (ps.map (·.1)).length := by rw [List.length_map]; exact hk
 have h0 := h.vals.at k hk' 0 (by omega)
 have h1 := h.vals.at k hk' 1 (by omega)
 have h2 := h.vals.at k hk' 2 (by omega)
 rw [List.getElem_map] at h0 h1 h2
 exact ⟨h0, h1, h2⟩
def okT (p : Ten × Tq) : Bool := pbE p.1.ty p.2.1 p.2.2 == 0
def jcC (ps : List (Ten × Tq)) (r : R (Int × List Int)) : R (Int × List Int) := if ps.all okT = true then r else .error 1
theorem jk9 {ps : List (Ten × Tq)} {r : R (Int × List Int)} {k : Nat} (hk : k < ps.length) (h : okT ps[k] = false) : jcC ps r = .error 1 := by
 unfold jcC
 rw [if_neg]
 intro e
 rw [List.all_eq_true] at e
 rw [e ps[k] (List.getElem_mem hk)] at h
 cases h
theorem jjx {ps : List (Ten × Tq)} {r : R (Int × List Int)} (h : (ps.take ps.length).all okT = true) : jcC ps r = r := by
 unfold jcC
 rw [List.take_of_length_le (Nat.le_refl _)] at h
 rw [if_pos h]
theorem jnf : (Tryz.prog.info? 53).map (fun i => (i.zero, i.size, i.bytes)) = some (some (.agg #[.string ⟨#[]⟩, .int .i64 0, .slice none 0 0]), 3, 48) := by kernel_rfl
theorem jjy (v : Val) : ∀ u ∈ jdf v, u.oneCell' = true := by
 intro u hu
 simp only [jdf, List.mem_cons, List.not_mem_nil, or_false] at hu
 rcases hu with rfl | rfl | rfl <;> rfl
theorem jf1 {out : ByteArray} {w w' : World} {X Y : R (Int × List Int)} {e : Ending} (h : X = Y) (hq : jju out w Y e w') : jju out w X e w' := by rw [h]; exact hq
def jdy (p : Ten × Tq) : Val := ⟨⟨#[]⟩, p.1.ty, p.1.dv⟩
theorem jgK {α : Type} {te : TypeId} {size n : Nat} {f : α → List Value} {w : World} {base : Nat} {v : Value} {xs : List α} (h : jaU te size f w base v xs) (hn : xs.length = n) : w.ownsRow base te size v n (xs.flatMap f) := by
 subst hn
 exact h
theorem jgL {α : Type} {te : TypeId} {size n : Nat} {f : α → List Value} {w : World} {base : Nat} {v : Value} {xs : List α} {y : α} (hn : xs.length = n) (h : w.ownsRow base te size v (n + 1) (xs.flatMap f ++ f y)) : jaU te size f w base v (xs ++ [y]) := by
 subst hn
 unfold jaU
 rw [List.length_append, List.flatMap_append]
 simpa using h
theorem jdz (n : Nod) (u : Sl) (ps : List (Ten × Tq)) (R0 : R (Int × List Int)) (w : World) (hv : TensIn w u.v ps) (hl : ps.length ≤ 1000000)
    (OC : ∀ (wx : World) (s : Sl) (vs : List (Val × List Int)), w.grownBy wx none → ValsIn wx s.v vs → vs.map (·.1.ty) = ps.map (·.1.ty) → vs.map (·.2) = ps.map (·.2.1) → Calls Tryz.prog 53 #[jaL n, .slice s.a s.n s.c] wx (jju n.out wx R0)) :
    Calls Tryz.prog 24 #[jaL n, .slice u.a u.n u.c] w (jju n.out w (jcC ps R0)) := by
     obtain ⟨i0, hi, hz0, hz1, hz2⟩ := info_parts jnf
     obtain ⟨xa, xc, e1, p1, p2, p3⟩ := hv.vals.form
     rw [List.length_map] at e1 p1 p3
     obtain ⟨ua, un, uc⟩ := u
     simp only [Sl.v, Value.slice.injEq] at e1
     obtain ⟨rfl, rfl, rfl⟩ := e1
     have HV := jae hv
     have HOC := jae OC
     clear hv OC
     obtain ⟨w0, hw0⟩ : ∃ w0, w0 = (w.alloc (.cells #[.string n.op, .string n.name, .slice n.iv.a n.iv.n n.iv.c, .string n.out, .slice n.av.a n.av.n n.av.c] 35)).alloc (.cells #[.string ⟨#[]⟩, .int .i64 0, .slice none 0 0] 53) := ⟨_, rfl⟩
     have g0 : Hid (w.grownBy w0 none) := by show w.grownBy w0 none; rw [hw0]; exact jaa (jab _ _) (jab _ _)
     have hbx := jax w (.cells #[.string n.op, .string n.name, .slice n.iv.a n.iv.n n.iv.c, .string n.out, .slice n.av.a n.av.n n.av.c] 35) (.cells #[.string ⟨#[]⟩, .int .i64 0, .slice none 0 0] 53)
     rw [← hw0] at hbx
     have BN : Hid (∀ wx, w0.grownBy wx none → wx.heap[w.heap.size]? = some (.cells #[.string n.op, .string n.name, .slice n.iv.a n.iv.n n.iv.c, .string n.out, .slice n.av.a n.av.n n.av.c] 35 (0, 0))) := fun wx hg => jad hbx.1 hg
     have BX : Hid (∀ wx, w0.grownBy wx none → wx.heap[w.heap.size + 1]? = some (.cells #[.string ⟨#[]⟩, .int .i64 0, .slice none 0 0] 53 (0, 0))) := fun wx hg => jad hbx.2 hg
     have Z0 : Hid (w.heap.size + 1 < w0.heap.size) := (Array.getElem?_eq_some_iff.1 hbx.2).1
     clear hbx
     obtain ⟨op, nam, ⟨ia, il, ic⟩, out, ⟨ao, al, cap⟩⟩ := n
     unfold jaL at HOC ⊢
     simp only at HOC BN hw0 ⊢
     go_enter Tryz.func24, Tryz.ntmps24
     go_wp2_with fail
     rw [← hw0]
     clear hw0
     go_loopw [6, 11] (fun l i wr => w0.grownBy wr none ∧ ∃ (k : Nat) (va : Option Addr) (vc : Nat), k ≤ ps.length ∧ i = .int .i64 k ∧ l = .slice va k vc ∧ (ps.take k).all okT = true ∧ jaU 53 3 jdf wr w0.heap.size (.slice va k vc) ((ps.take k).map jdy)) (fun _ i _ => ps.length - (intOf i).toNat)
     case atStart => exact ⟨jaf _, 0, none, 0, Nat.zero_le _, rfl, rfl, rfl, jaU.nil ..⟩
     case round =>
      obtain ⟨hg, k, va, vc, hk, rfl, rfl, hall, hown⟩ := hrel
      have HG := jae hg
      have HO := jae hown
      have HAL := jae hall
      clear hown hall
      by_cases hlt : k < ps.length
      ·obtain ⟨b, off, rfl⟩ := HV.out.vals.addr (k := k) (by rw [List.length_map]; exact hlt)
       obtain ⟨a0, a1, a2⟩ := (HV.out.more (jaa g0.out hg)).at k hlt
       have HH := jae (HV.out.has ps[k] (List.getElem_mem hlt))
       have HT : Hid ((ps.take (k + 1)).all okT = ((ps.take k).all okT && okT ps[k])) := by
        show _ = _
        rw [List.take_add_one, List.all_append, List.getElem?_eq_getElem hlt]
        simp
       have HM : Hid ((ps.take (k + 1)).map jdy = (ps.take k).map jdy ++ [jdy ps[k]]) := by
        show _ = _
        rw [List.take_add_one, List.map_append, List.getElem?_eq_getElem hlt]
        rfl
       have HBAD : Hid (okT ps[k] = false → jcC ps R0 = .error 1) := fun h => jk9 hlt h
       obtain ⟨p, hp⟩ : ∃ p, p = ps[k] := ⟨_, rfl⟩
       rw [← hp] at a0 a1 a2 HH HT HM HBAD
       obtain ⟨⟨ty, ⟨da, dn, dc⟩, ⟨ta, tn, tc⟩⟩, ⟨ds, ts⟩⟩ := p
       simp only at a0 a1 a2 HH
       obtain ⟨w1, hw1⟩ : ∃ w1, w1 = wr.alloc (.cells #[.int .i64 ty, .slice da dn dc, .slice ta tn tc] 25) := ⟨_, rfl⟩
       have B1 := heap_alloc_new wr (.cells #[.int .i64 ty, .slice da dn dc, .slice ta tn tc] 25)
       have c0 := (cell_of_row _ _ 0 _ _ (0, 0) B1).trans rfl
       have c1 := (cell_of_row _ _ 1 _ _ (0, 0) B1).trans rfl
       have c2 := (cell_of_row _ _ 2 _ _ (0, 0) B1).trans rfl
       rw [← hw1] at B1
       have BT := jae B1
       have g1 : Hid (wr.grownBy w1 none) := by show wr.grownBy w1 none; rw [hw1]; exact jab _ _
       have PC := jae (jey ty _ _ ds ts w1 ((HH.out.1.more (jaa g0.out hg)).more g1.out) ((HH.out.2.more (jaa g0.out hg)).more g1.out))
       simp only [Sl.v] at PC
       clear B1 hp hg
       go_wp2_with fail
       rw [← hw1]
       clear hw1 a0 a1 a2 c0 c1 c2
       refine PC.out.mono ?_
       rintro e w2 ⟨rfl, hg2⟩
       have G2 := jae (jaa (jaa HG.out g1.out) hg2)
       by_cases hok : pbE ty ds ts = 0
       ·have bo : (pbE ty ds ts != 0) = false := by simp [hok]
        have HOK := jae hok
        have B2 := jad BT.out hg2
        have c0 := (cell_of_row _ _ 0 _ _ (0, 0) B2).trans rfl
        have c1 := (cell_of_row _ _ 1 _ _ (0, 0) B2).trans rfl
        have KL : Hid (((ps.take k).map jdy).length = k) := by show _ = _; rw [List.length_map, List.length_take]; omega
        have OW : Hid (∀ o, (w2.alloc o).ownsRow w0.heap.size 53 3 (.slice va k vc) k (((ps.take k).map jdy).flatMap jdf)) := fun o => jgK ((HO.out.more (jaa g1.out hg2)).more (jab _ _)) KL.out
        have hsz : w0.heap.size ≤ w2.heap.size := G2.out.size
        clear hok B2 hg2 PC
        go_wp2_with (at_builtin; refine wpList_append_lies _ rfl (.tmp 19) (.tmp 25) 82 rfl w0.heap.size 53 i0 (.agg #[.string ⟨#[]⟩, .int .i64 0, .slice none 0 0]) 3 48 Tryz.underlying82 hi hz0 hz1 hz2 rfl (by decide) (.slice va k vc) k (((ps.take k).map jdy).flatMap jdf) rfl (by exact OW.out _) ⟨w2.heap.size, 0, none⟩ 1 1 (jdf ⟨⟨#[]⟩, ty, ⟨da, dn, dc⟩⟩) rfl rfl (by exact World.news_of_block (by have h := heap_alloc_new w2 (.cells #[.string ⟨#[]⟩, .int .i64 ty, .slice da dn dc] 53); simpa using h)) (jjy _) (by omega) (by simp only [maxLen]; omega) (by omega) (by simp; omega) (w2.heap.size + 1) (by simp) ?_; intro gg cap8 w8 hown8 hgrow hat hlt8)
        have ST : Hid (w0.grownBy w8 none ∧ jaU 53 3 jdf w8 w0.heap.size (.slice (some ⟨gg, 0, none⟩) (k + 1) cap8) ((ps.take (k + 1)).map jdy) ∧ (ps.take (k + 1)).all okT = true) := ⟨jah (jaa G2.out (jab _ _)) hgrow (fun r e => (World.ownsRow.lt HO.out r e).1), by rw [HM.out]; exact jgL KL.out hown8, by rw [HT.out, HAL.out]; simp [okT, HOK.out]⟩
        clear hown8 hgrow hat hlt8 c0 c1
        go_wp2_with fail
        go_roundw
        case rel => exact ⟨ST.out.1, k + 1, _, _, by omega, by go_num, rfl, ST.out.2.2, ST.out.2.1⟩
        case measure => simp [intOf]; omega
       ·have bo : (pbE ty ds ts != 0) = true := by simpa using hok
        have E : Hid (jcC ps R0 = .error 1) := HBAD.out (by simpa [okT] using hok)
        have B1 := BX.out w2 G2.out
        obtain ⟨f0, f1, f2⟩ := jaJ B1
        have c0 := (cell_of_row _ _ 0 _ _ (0, 0) B1).trans rfl
        have c1 := (cell_of_row _ _ 1 _ _ (0, 0) B1).trans rfl
        have c2 := (cell_of_row _ _ 2 _ _ (0, 0) B1).trans rfl
        obtain ⟨hX, gX⟩ := ja5 (.string ⟨#[]⟩) (.int .i64 0) (.slice none 0 0) B1
        have HX := jae hX
        have GX := jae (jas (jaa g0.out G2.out) gX (by omega))
        clear hX gX B1 hok hg2
        go_wp2
        refine bodyPost_ret (jdx rfl _ _ (w.heap.size + 1) rfl HX.out) rfl ?_
        exact jf1 E.out ⟨GX.out, rfl⟩
      ·obtain rfl : k = ps.length := by omega
       have E := jae (jjx (r := R0) HAL.out)
       have HOF := HO.out
       rw [List.take_of_length_le (Nat.le_refl _)] at HOF
       have VI : ValsIn wr (Sl.v ⟨va, ps.length, vc⟩) (ps.map (fun p => (jdy p, p.2.1))) := ⟨by rw [List.map_map]; exact HOF.isL (bytes := 48) jjf (by rw [List.length_map]; omega), fun q hq => by
        obtain ⟨p, hp, rfl⟩ := List.mem_map.1 hq
        exact ((HV.out.has p hp).1).more (jaa g0.out hg)⟩
       have O1 := jae (HOC.out wr ⟨va, ps.length, vc⟩ _ (jaa g0.out hg) VI (by rw [List.map_map]; rfl) (by rw [List.map_map]; rfl))
       obtain ⟨n0, n1, n2, n3, n4⟩ := jai (n := ⟨op, nam, ⟨ia, il, ic⟩, out, ⟨ao, al, cap⟩⟩) (BN.out wr hg)
       clear HOF VI hg
       simp only at O1
       go_wp2_with fail
       refine O1.out.mono ?_
       rintro e w1 ⟨hg1, hq⟩
       have B1 := BX.out w1 (jaa HG.out hg1)
       obtain ⟨f0, f1, f2⟩ := jaJ B1
       have c0 := (cell_of_row _ _ 0 _ _ (0, 0) B1).trans rfl
       have c1 := (cell_of_row _ _ 1 _ _ (0, 0) B1).trans rfl
       have c2 := (cell_of_row _ _ 2 _ _ (0, 0) B1).trans rfl
       have G1 := jae (jaa (jaa g0.out HG.out) hg1)
       have HG1 := jae hg1
       have FB := jae (fun (a0 a1 a2 : Value) => ja5 a0 a1 a2 B1)
       clear hg1 B1 n0 n1 n2 n3 n4
       cases R0 with
       | error c =>
        obtain rfl := hq
        obtain ⟨hX, gX⟩ := FB.out (.string ⟨#[]⟩) (.int .i64 0) (.slice none 0 0)
        have HX := jae hX
        have GX := jae (jas G1.out gX (by omega))
        clear hX gX
        go_wp2
        refine bodyPost_ret (jdx rfl _ _ (w.heap.size + 1) rfl HX.out) rfl ?_
        exact jf1 E.out ⟨GX.out, rfl⟩
       | ok rr =>
        obtain ⟨⟨s1, s2, s3⟩, rfl, ho⟩ := hq
        obtain ⟨hX, gX⟩ := FB.out (.string out) (.int .i64 rr.1) (.slice s1 s2 s3)
        have hsz := HG.out.size
        have hz := Z0.out
        have HO2 := jae ((ho.base_le (b' := w.heap.size) (by have := g0.out.size; omega)).more gX (by
         rcases ho.1.2 with ⟨e, -⟩ | ⟨gg, cap', cur, e, hgg, -⟩
         ·exact .inl (by rw [e]; rfl)
         ·exact .inr (by rw [e]; simp [Value.ownBlock]; omega)))
        have HX := jae hX
        have GX := jae (jas G1.out gX (by omega))
        clear hX gX ho hsz hz
        simp only
        go_wp2
        refine bodyPost_ret (jdx rfl _ _ (w.heap.size + 1) rfl HX.out) rfl ?_
        exact jf1 E.out ⟨GX.out, ⟨s1, s2, s3⟩, rfl, HO2.out⟩
end Go.Proofs.YtkefdkboejimeaaGreatDoor
namespace Go.Proofs.YtkefdkboejimeaaGreatDoor
open Go.RowKit
def jaI (w : World) (base : Nat) (v : Value) (zs : List Int) : Prop :=
 w.ownsRow base 2 1 v zs.length (zs.map (Value.int .i64)) ∧ zs.length * 8 ≤ 140737488351232 ∧ (∀ z ∈ zs, -9223372036854775808 ≤ z ∧ z ≤ 9223372036854775807)
theorem jaI.ints {w : World} {base : Nat} {v : Value} {zs : List Int} (h : jaI w base v zs) : IsInts w v zs := by
 obtain ⟨hr, hle, hwf⟩ := h
 have hr0 := hr
 rcases hr.2 with ⟨rfl, h0⟩ | ⟨g, cap, cur, rfl, _, _, hnc, hcm, _, _⟩
 ·obtain rfl : zs = [] := List.length_eq_zero_iff.1 h0
  exact ⟨none, 0, rfl, by simp, by simp, by simp, fun _ => ⟨rfl, rfl⟩, fun h => by simp at h, fun z hz => by simp at hz⟩
 ·refine ⟨_, cap, rfl, hnc, by simpa [maxLen] using hcm, hle, (fun h => by cases h), fun _ => ⟨g, 0, rfl, fun t ht => ?_⟩, hwf⟩
  rw [Nat.zero_add, hr0.cellAt t (by omega)]
  simp [List.getD, ht]
theorem jaI.more {w w' : World} {base : Nat} {v : Value} {zs : List Int} (h : jaI w base v zs) {row : Option Nat} (hg : w.grownBy w' row) (hne : v.ownBlock = none ∨ v.ownBlock ≠ row) : jaI w' base v zs := ⟨h.1.kept hg hne, h.2⟩
theorem jaI.put {w : World} {base g n c : Nat} {zs : List Int} (h : jaI w base (.slice (some ⟨g, 0, none⟩) n c) zs) (hn : zs.length = n) {k : Nat} (hk : k < n) (z : Int) (hz : -9223372036854775808 ≤ z ∧ z ≤ 9223372036854775807) :
    w.cell? ⟨g, k, none⟩ = some (.int .i64 (zs.getD k 0)) ∧ w.frozen? ⟨g, k, none⟩ = false ∧ jaI (w.setCell ⟨g, k, none⟩ (.int .i64 z)) base (.slice (some ⟨g, 0, none⟩) n c) (zs.set k z) ∧ w.grownBy (w.setCell ⟨g, k, none⟩ (.int .i64 z)) (some g) := by
     subst hn
     have hr := h.1
     obtain ⟨s1, s2⟩ := hr.stored k (.int .i64 z)
     refine ⟨?_, hr.frozenAt k, ⟨?_, by rw [List.length_set]; exact h.2.1, fun y hy => ?_⟩, s2⟩
     ·rw [hr.cellAt k (by omega)]
      simp [List.getD, hk]
     ·rw [List.length_set, List.map_set]
      exact s1
     ·rcases List.mem_or_eq_of_mem_set hy with hy | rfl
      ·exact h.2.2 y hy
      ·exact hz
def jco (s : Sl) : List Value := [.slice s.a s.n s.c]
theorem jfv (s : Sl) : (jco s).length = 1 := rfl
abbrev jpZ (w : World) (v : Value) (cs : List Sl) : Prop := IsL 24 1 jco w v cs
def EvQ (w : World) (r : R (List Int)) (e : Ending) (w' : World) : Prop := w.grownBy w' none ∧ match r with
 | .ok l => ∃ u : Sl, e = .returned (.tuple #[.slice u.a u.n u.c, .int .i64 0]) ∧ jaI w' w.heap.size u.v l
 | .error c => e = .returned (.tuple #[.slice none 0 0, .int .i64 c])
theorem jp0 {w w' : World} {r : R (List Int)} {l : List Int} {e : Ending} (h : r = .ok l) (hg : w.grownBy w' none) (hq : ∃ u : Sl, e = .returned (.tuple #[.slice u.a u.n u.c, .int .i64 0]) ∧ jaI w' w.heap.size u.v l) : EvQ w r e w' := by rw [h]; exact ⟨hg, hq⟩
theorem jp1 {l : List Int} {k : Nat} (hk : k < l.length) : l.getD k 0 ∈ l := by
 rw [List.getD, List.getElem?_eq_getElem hk]
 exact List.getElem_mem hk
theorem jdk : (Tryz.prog.info? 2).map (fun i => (i.zero, i.size, i.bytes)) = some (some (.int .i64 0), 1, 8) := by kernel_rfl
end Go.Proofs.YtkefdkboejimeaaGreatDoor
namespace Go.Proofs.YtkefdkboejimeaaGreatDoor
open Go.RowKit
structure Blk (w : World) (v : Value) (rs : List (Sl × List Int)) (k : Nat) : Prop where
 cols : jpZ w v (rs.map (·.1))
 has : ∀ r ∈ rs, IsInts w r.1.v r.2 ∧ r.2.length = k
theorem Blk.more {w w' : World} {v : Value} {rs : List (Sl × List Int)} {k : Nat} (h : Blk w v rs k) (hg : w.grownBy w' none) : Blk w' v rs k := ⟨h.cols.more hg, fun r hr => ⟨(h.has r hr).1.more hg, (h.has r hr).2⟩⟩
theorem Blk.sl {w : World} {v : Value} {rs : List (Sl × List Int)} {k : Nat} (h : Blk w v rs k) : ∃ a c, v = .slice a rs.length c ∧ rs.length ≤ c ∧ c ≤ 9223372036854775807 := by
 obtain ⟨a, c, e, h1, h2, -⟩ := h.cols.form
 rw [List.length_map] at e h1
 exact ⟨a, c, e, h1, h2⟩
theorem Blk.row {w : World} {ao : Option Addr} {n c : Nat} {rs : List (Sl × List Int)} {k : Nat} (h : Blk w (.slice ao n c) rs k) {i : Nat} (hi : i < rs.length) : ∃ b off, ao = some ⟨b, off, none⟩ ∧ w.cell? ⟨b, off + i, none⟩ = some (.slice rs[i].1.a rs[i].1.n rs[i].1.c) := by
 obtain ⟨b, off, rfl⟩ := h.cols.addr (k := i) (by rw [List.length_map]; exact hi)
 have hc := h.cols.at i (by rw [List.length_map]; exact hi) 0 (by omega)
 rw [List.getElem_map] at hc
 exact ⟨b, off, rfl, by simpa [jco] using hc⟩
theorem jdY {w : World} {base : Nat} {v : Value} {zs : List Int} {z : Int} {n : Nat} (hn : zs.length = n) (h : w.ownsRow base 2 1 v (n + 1) (zs.map (Value.int .i64) ++ [Value.int .i64 z])) (hl : n ≤ 1000000) (hz : ∀ y ∈ zs, -9223372036854775808 ≤ y ∧ y ≤ 9223372036854775807) (hz' : -9223372036854775808 ≤ z ∧ z ≤ 9223372036854775807) : jaI w base v (zs ++ [z]) := by
 subst hn
 refine ⟨by rw [List.length_append, List.map_append]; exact h, by rw [List.length_append, List.length_singleton]; omega, fun y hy => ?_⟩
 rcases List.mem_append.1 hy with hy | hy
 ·exact hz y hy
 ·rw [List.mem_singleton.1 hy]; exact hz'
theorem jc3 {w : World} {base n : Nat} {v : Value} {zs : List Int} (h : jaI w base v zs) (hn : zs.length = n) : w.ownsRow base 2 1 v n (zs.map (Value.int .i64)) := by
 subst hn
 exact h.1
theorem jcT {w : World} {base : Nat} {v : Value} (h : w.ownsRow base 2 1 v 0 []) : jaI w base v [] := ⟨h, by simp, fun z hz => by simp at hz⟩
theorem jhV (z : Int) : ∀ u ∈ [Value.int .i64 z], u.oneCell' = true := by
 intro u hu
 rw [List.mem_singleton.1 hu]
 rfl
def jfj (rs cs : List (Sl × List Int)) (i j : Nat) : List Int := tms ((rs.take i).map (·.2)) (cs.map (·.2)) ++ (cs.take j).map (fun c => jcI 0 (rs.getD i (⟨none, 0, 0⟩, [])).2 c.2)
theorem jla (rs cs : List (Sl × List Int)) : jfj rs cs 0 0 = [] := by simp [jfj, tms]
theorem jlb (rs cs : List (Sl × List Int)) (i j : Nat) (hi : i < rs.length) (hj : j < cs.length) : jfj rs cs i (j + 1) = jfj rs cs i j ++ [jcI 0 rs[i].2 cs[j].2] := by
 unfold jfj
 rw [List.take_add_one, List.getElem?_eq_getElem hj, Option.toList_some, List.map_append, ← List.append_assoc]
 simp only [List.map_cons, List.map_nil, List.getD, List.getElem?_eq_getElem hi, Option.getD_some]
theorem jng (rs cs : List (Sl × List Int)) (i : Nat) (hi : i < rs.length) : jfj rs cs i cs.length = jfj rs cs (i + 1) 0 := by
 unfold jfj
 rw [List.take_of_length_le (Nat.le_refl _), List.take_add_one, List.getElem?_eq_getElem hi, Option.toList_some, List.map_append]
 unfold tms
 rw [List.flatMap_append]
 simp only [List.take_zero, List.map_nil, List.append_nil, List.map_cons, List.flatMap_cons, List.flatMap_nil, List.map_map, List.getD, List.getElem?_eq_getElem hi, Option.getD_some]
 rfl
theorem jnh (rs cs : List (Sl × List Int)) : jfj rs cs rs.length 0 = tms (rs.map (·.2)) (cs.map (·.2)) := by
 unfold jfj
 rw [List.take_of_length_le (Nat.le_refl _)]
 simp
theorem jni (rs cs : List (Sl × List Int)) (i j : Nat) (hi : i ≤ rs.length) (hj : j ≤ cs.length) : (jfj rs cs i j).length = i * cs.length + j := by
 unfold jfj
 rw [List.length_append, jbL, List.length_map, List.length_map, List.length_map, List.length_take, List.length_take, Nat.min_eq_left hi, Nat.min_eq_left hj]
theorem jnj (rs cs : List (Sl × List Int)) (i j : Nat) : ∀ z ∈ jfj rs cs i j, -9223372036854775808 ≤ z ∧ z ≤ 9223372036854775807 := by
 intro z hz
 unfold jfj at hz
 rcases List.mem_append.1 hz with hz | hz
 ·have := jhu _ _ z hz; omega
 ·obtain ⟨c, -, rfl⟩ := List.mem_map.1 hz
  have := jfJ (rs.getD i (⟨none, 0, 0⟩, [])).2 c.2
  omega
theorem jlc (b c : Sl) (rs cs : List (Sl × List Int)) (k : Nat) (w : World) (hb : Blk w b.v rs k) (hc : Blk w c.v cs k) (hn : rs.length * cs.length ≤ 65536) (hr1 : rs.length ≤ 65536) : Calls Tryz.prog 89 #[.slice b.a b.n b.c, .slice c.a c.n c.c] w fun e w' => ∃ u : Sl, e = .returned u.v ∧ jaI w' w.heap.size u.v (tms (rs.map (·.2)) (cs.map (·.2))) ∧ w.grownBy w' none := by
 obtain ⟨i0, hi0, hz0, hz1, hz2⟩ := info_parts jdk
 obtain ⟨xa, xc, ex, x1, x2⟩ := hb.sl
 obtain ⟨ya, yc, ey, y1, y2⟩ := hc.sl
 obtain ⟨ba, bn, bc⟩ := b
 obtain ⟨ca, cn, cc⟩ := c
 simp only [Sl.v, Value.slice.injEq] at ex ey
 obtain ⟨rfl, rfl, rfl⟩ := ex
 obtain ⟨rfl, rfl, rfl⟩ := ey
 simp only
 have HB := jae hb
 have HC := jae hc
 obtain ⟨N, hN⟩ : ∃ N, N = rs.length * cs.length := ⟨_, rfl⟩
 have hw : wrap64 ((rs.length : Int) * (cs.length : Int)) = (N : Int) := by
  rw [← Int.natCast_mul, ← hN]
  unfold wrap64
  omega
 have hN' : N ≤ 65536 := by omega
 have hb4 : i0.bytes * N ≤ 281474976710656 := by rw [hz2]; omega
 have hb5 : N ≤ maxLen := by simp only [maxLen]; omega
 have HNE := jae hN
 clear hb hc hN hn
 go_enter Tryz.func89, Tryz.ntmps89
 go_wp2_with (first | (refine wpList_make_own _ rfl _ _ 23 rfl w.heap.size 2 i0 (.int .i64 0) 1 Tryz.underlying23 hi0 hz0 hz1 .i64 .i64 _ N rfl rfl hw hb4 hb5 (Nat.le_refl _) ?_; intro w1 hown1 hg1) | fail)
 have O1 := jae (jcT hown1)
 have G1 := jae hg1
 clear hown1 hg1
 go_loopw [5, 18] (fun d i wr => w.grownBy wr none ∧ ∃ (t : Nat) (da : Option Addr) (dc : Nat), t ≤ rs.length ∧ i = .int .i64 t ∧ d = .slice da (t * cs.length) dc ∧ jaI wr w.heap.size (.slice da (t * cs.length) dc) (jfj rs cs t 0)) (fun _ i _ => rs.length - (intOf i).toNat)
 case atStart => exact ⟨G1.out, 0, _, _, Nat.zero_le _, rfl, by rw [Nat.zero_mul], by rw [Nat.zero_mul, jla]; exact O1.out⟩
 case round =>
  obtain ⟨hg, t, da, dc, ht, rfl, rfl, ho⟩ := hrel
  obtain ⟨wo, hwo⟩ : ∃ wo, wo = wr := ⟨_, rfl⟩
  obtain rfl := hwo
  have HG := jae hg
  have HO := jae ho
  obtain ⟨T, hT⟩ : ∃ T, T = t * cs.length := ⟨_, rfl⟩
  rw [← hT] at HO ⊢
  by_cases hlt : t < rs.length
  ·obtain ⟨p, off, rfl, hcell⟩ := (HB.out.more hg).row hlt
   have HR := jae (HB.out.has rs[t] (List.getElem_mem hlt))
   have HST := jae (fun j hj => jlb rs cs t j hlt hj)
   obtain ⟨⟨⟨ra, rn, rc⟩, rl⟩, hrow⟩ : ∃ r, r = rs[t] := ⟨_, rfl⟩
   rw [← hrow] at hcell HR HST
   simp only at hcell HR HST
   have HTE : Hid (T = t * cs.length) := hT
   have TB : Hid (t * cs.length + cs.length ≤ N) := by
    show _ ≤ _
    rw [HNE.out, show t * cs.length + cs.length = (t + 1) * cs.length from by rw [Nat.add_mul]; omega]
    exact Nat.mul_le_mul_right _ hlt
   clear hrow hg ho hT
   go_wp2_with fail
   go_loopw [5, 24] (fun d i wr => w.grownBy wr none ∧ ∃ (j D : Nat) (da : Option Addr) (dc : Nat), j ≤ cs.length ∧ D = T + j ∧ i = .int .i64 j ∧ d = .slice da D dc ∧ jaI wr w.heap.size (.slice da D dc) (jfj rs cs t j)) (fun _ i _ => cs.length - (intOf i).toNat)
   case atStart => exact ⟨HG.out, 0, T, _, _, Nat.zero_le _, rfl, rfl, rfl, HO.out⟩
   case round =>
    obtain ⟨hg, j, D, ea, ec, hj, hD, rfl, rfl, ho⟩ := hrel
    have HG2 := jae hg
    have HO2 := jae ho
    have HD := jae hD
    clear ho hD
    by_cases hjl : j < cs.length
    ·obtain ⟨p2, off2, rfl, hcell2⟩ := (HC.out.more hg).row hjl
     have HR2 := jae (HC.out.has cs[j] (List.getElem_mem hjl))
     have HS := jae (HST.out j hjl)
     obtain ⟨⟨⟨sa, sn, sc⟩, sl⟩, hcol⟩ : ∃ r, r = cs[j] := ⟨_, rfl⟩
     rw [← hcol] at hcell2 HR2 HS
     simp only at hcell2 HR2 HS
     have PC := jae (jgE ⟨ra, rn, rc⟩ ⟨sa, sn, sc⟩ rl sl wr (HR.out.1.more hg) (HR2.out.1.more hg) (by rw [HR.out.2, HR2.out.2]; exact Nat.le_refl _))
     have ZR := jae (jfJ rl sl)
     obtain ⟨z, hz⟩ : ∃ z, z = jcI 0 rl sl := ⟨_, rfl⟩
     rw [← hz] at PC HS ZR
     simp only at PC
     have DL : Hid (D ≤ 65536) := by
      show D ≤ 65536
      have h1 := HD.out
      have h2 := HTE.out
      have h3 := TB.out
      omega
     have LN : Hid ((jfj rs cs t j).length = D) := by
      show _ = _
      rw [jni _ _ _ _ (by omega) (by omega), HD.out, HTE.out]
     clear hcol hg hz
     go_wp2_with fail
     refine PC.out.mono ?_
     rintro e w3 ⟨rfl, hg3⟩
     have G3 := jae (jaa HG2.out hg3)
     have hsz : w.heap.size ≤ w3.heap.size := G3.out.size
     have OW : Hid (∀ o, (w3.alloc o).ownsRow w.heap.size 2 1 (.slice ea D ec) D ((jfj rs cs t j).map (Value.int .i64))) := fun o => jc3 ((HO2.out.more hg3 (by cases (Value.slice ea D ec).ownBlock <;> simp)).more (jab _ o) (by cases (Value.slice ea D ec).ownBlock <;> simp)) LN.out
     have hd2 := DL.out
     clear hg3
     go_wp2_with (at_builtin; refine wpList_append_lies _ rfl (.tmp 28) (.tmp 32) 23 rfl w.heap.size 2 i0 (.int .i64 0) 1 8 Tryz.underlying23 hi0 hz0 hz1 hz2 rfl (by decide) (.slice ea D ec) D ((jfj rs cs t j).map (Value.int .i64)) rfl (by exact OW.out _) ⟨w3.heap.size, 0, none⟩ 1 1 [.int .i64 z] rfl rfl (by exact World.news_of_block (by have h := heap_alloc_new w3 (.cells #[.int .i64 z] 2); simpa using h)) (jhV z) (by omega) (by simp only [maxLen]; omega) (by omega) (by simp; omega) (w3.heap.size + 1) (by simp) ?_; intro gg cap8 w8 hown8 hgrow hat hlt8)
     have ST : Hid (w.grownBy w8 none ∧ jaI w8 w.heap.size (.slice (some ⟨gg, 0, none⟩) (D + 1) cap8) (jfj rs cs t (j + 1))) := ⟨jah (jaa G3.out (jab _ _)) hgrow (fun r e => (World.ownsRow.lt HO2.out.1 r e).1), by rw [HS.out]; exact jdY LN.out hown8 (by omega) (jnj _ _ _ _) (by have := ZR.out; omega)⟩
     clear hown8 hgrow hat hlt8
     go_wp2_with fail
     go_roundw
     case rel => exact ⟨ST.out.1, j + 1, D + 1, _, _, by omega, by have := HD.out; omega, by go_num, rfl, ST.out.2⟩
     case measure => simp [intOf]; omega
    ·obtain rfl : j = cs.length := by omega
     have E : Hid (D = (t + 1) * cs.length) := by show _ = _; rw [HD.out, HTE.out, Nat.add_mul]; omega
     have OE : Hid (jaI wr w.heap.size (.slice ea D ec) (jfj rs cs (t + 1) 0)) := by show jaI _ _ _ _; rw [← jng rs cs t hlt]; exact HO2.out
     clear hg
     go_wp2_with fail
     go_roundw
     case rel =>
      have e1 := E.out
      subst e1
      exact ⟨HG2.out, t + 1, _, _, by omega, by go_num, rfl, OE.out⟩
     case measure => simp [intOf]; omega
  ·obtain rfl : t = rs.length := by omega
   have OE : Hid (jaI wo w.heap.size (.slice da T dc) (tms (rs.map (·.2)) (cs.map (·.2)))) := by show jaI _ _ _ _; rw [← jnh]; exact HO.out
   clear hg ho hT
   go_wp2
   go_ret
   exact ⟨⟨_, _, _⟩, rfl, OE.out, HG.out⟩
end Go.Proofs.YtkefdkboejimeaaGreatDoor
namespace Go.Proofs.YtkefdkboejimeaaGreatDoor
open Go.RowKit
def pickL (xs ns : List Int) : List Int := ns.map fun z => xs.getD z.toNat 0
end Go.Proofs.YtkefdkboejimeaaGreatDoor
namespace Go.Proofs.YtkefdkboejimeaaGreatDoor
open Go.RowKit
def jpB (ah : Sl) (h k : Int) (d : Sl) : Value := .agg #[.slice ah.a ah.n ah.c, .int .i64 h, .int .i64 k, .slice d.a d.n d.c]
theorem jnk : (Tryz.prog.info? 128).map (·.size) = some 4 := by kernel_rfl
theorem jnl {fn : Func} {p : Tmp} (h : fn.results = #[.cell p 128]) (tmps : Array Value) (w : World) (B : Nat) (hp : tmps.getD p undef = .pointer (some ⟨B, 0, none⟩)) {a0 a1 a2 a3 : Value}
    (hb : w.heap[B]? = some (.cells #[a0, a1, a2, a3] 128 (0, 0))) : (results fn tmps).run Tryz.prog w = .ok (.agg #[a0, a1, a2, a3]) w :=
     results_cell_row h tmps w B 128 #[a0, a1, a2, a3] (0, 0) _ hp hb Tryz.underlying128 rfl (by rw [jnk]; rfl)
theorem jld {w3 : World} {B : Nat} {z0 z1 z2 z3 : Value} {t : TypeId} (a b c d : Value) (hb : w3.heap[B]? = some (.cells #[z0, z1, z2, z3] t (0, 0))) :
    ((((w3.setCell ⟨B, 0, none⟩ a).setCell ⟨B, 1, none⟩ b).setCell ⟨B, 2, none⟩ c).setCell ⟨B, 3, none⟩ d).heap[B]? = some (.cells #[a, b, c, d] t (0, 0)) ∧ w3.grownBy ((((w3.setCell ⟨B, 0, none⟩ a).setCell ⟨B, 1, none⟩ b).setCell ⟨B, 2, none⟩ c).setCell ⟨B, 3, none⟩ d) (some B) := by
     have h1 := heap_setCell_same w3 B 0 _ _ a hb
     have h2 := heap_setCell_same _ B 1 _ _ b h1
     have h3 := heap_setCell_same _ B 2 _ _ c h2
     have h4 := heap_setCell_same _ B 3 _ _ d h3
     have g : ∀ (x : World) (j : Nat) (v : Value), x.grownBy (x.setCell ⟨B, j, none⟩ v) (some B) := fun x j v =>
      ⟨rfl, rfl, rfl, by simp [World.setCell], fun k _ hk => Below.heap_setCell _ _ _ _ (fun e => hk (by rw [e]))⟩
     exact ⟨by simpa using h4, jaP (jaP (jaP (g w3 0 a) (g _ 1 b)) (g _ 2 c)) (g _ 3 d)⟩
theorem jaB {w : World} {B : Nat} {a0 a1 a2 a3 : Value} {t : TypeId} (hb : w.heap[B]? = some (.cells #[a0, a1, a2, a3] t (0, 0))) :
    w.cell? ⟨B, 0, none⟩ = some a0 ∧ w.cell? ⟨B, 1, none⟩ = some a1 ∧ w.cell? ⟨B, 2, none⟩ = some a2 ∧ w.cell? ⟨B, 3, none⟩ = some a3 ∧ w.frozen? ⟨B, 0, none⟩ = false ∧ w.frozen? ⟨B, 1, none⟩ = false ∧ w.frozen? ⟨B, 2, none⟩ = false ∧ w.frozen? ⟨B, 3, none⟩ = false :=
     ⟨(cell_of_row _ _ 0 _ _ (0, 0) hb).trans rfl, (cell_of_row _ _ 1 _ _ (0, 0) hb).trans rfl, (cell_of_row _ _ 2 _ _ (0, 0) hb).trans rfl, (cell_of_row _ _ 3 _ _ (0, 0) hb).trans rfl, frozen_of_row w B 0 _ _ hb, frozen_of_row w B 1 _ _ hb, frozen_of_row w B 2 _ _ hb, frozen_of_row w B 3 _ _ hb⟩
theorem jfw (t : Ten) (ds : List Int) (n : Nat) (w : World) (hd : IsInts w t.dv.v ds) (hn : ds.length = n + 2) : Calls Tryz.prog 85 #[jdL t] w fun e w' => e = .returned (jpB ⟨t.dv.a, n, t.dv.c⟩ (ds.getD n 0) (ds.getD (n + 1) 0) t.tv) ∧ w.grownBy w' none := by
 obtain ⟨ty, ⟨da, dn, dc⟩, ⟨ta, tn, tc⟩⟩ := t
 obtain ⟨ux, uc, eu, c1, c2, c3⟩ := hd.sl
 simp only [Sl.v, Value.slice.injEq] at eu
 obtain ⟨rfl, rfl, rfl⟩ := eu
 obtain ⟨b, off, rfl, hc⟩ := hd.get (k := 0) (by omega)
 have q0 := hc n (by omega)
 have q1 := hc (n + 1) (by omega)
 have hbl := jeo hd (by intro e; rw [e] at hn; simp at hn) b rfl
 unfold jdL jpB
 simp only
 obtain ⟨x, hx⟩ : ∃ x, x = ds.getD n 0 := ⟨_, rfl⟩
 obtain ⟨y, hy⟩ : ∃ y, y = ds.getD (n + 1) 0 := ⟨_, rfl⟩
 rw [← hx] at q0 ⊢
 rw [← hy] at q1 ⊢
 obtain ⟨w0, hw0⟩ : ∃ w0, w0 = (w.alloc (.cells #[.int .i64 ty, .slice (some ⟨b, off, none⟩) ds.length dc, .slice ta tn tc] 25)).alloc (.cells #[.slice none 0 0, .int .i64 0, .int .i64 0, .slice none 0 0] 128) := ⟨_, rfl⟩
 have g0 : w.grownBy w0 none := by rw [hw0]; exact jaa (jab _ _) (jab _ _)
 have hbx := jax w (.cells #[.int .i64 ty, .slice (some ⟨b, off, none⟩) ds.length dc, .slice ta tn tc] 25) (.cells #[.slice none 0 0, .int .i64 0, .int .i64 0, .slice none 0 0] 128)
 rw [← hw0] at hbx
 obtain ⟨e0, e1, e2⟩ := jal hbx.1
 obtain ⟨p0, p1, p2, p3, f0, f1, f2, f3⟩ := jaB hbx.2
 replace q0 := jac q0 g0
 replace q1 := jac q1 g0
 obtain ⟨hX, gX⟩ := jld (.slice (some ⟨b, off, none⟩) n dc) (.int .i64 x) (.int .i64 y) (.slice ta tn tc) hbx.2
 have gX' := jas g0 gX (by omega)
 have HX := jae hX
 have GX := jae gX'
 rw [hn] at e1 c1 hw0 hbx ⊢
 have i1 : (n : Int) + 2 - 2 = n := by omega
 have i2 : (n : Int) < (n : Int) + 2 := by omega
 have i3 : n < n + 2 := by omega
 have i4 : (n : Int) + 1 < (n : Int) + 2 := by omega
 have i5 : n + 1 < n + 2 := by omega
 have i6 : n ≤ dc := by omega
 have kw : IntKind.i64.wrap ((n : Int) + 1) = (n : Int) + 1 := by rw [jbA]; unfold wrap64; omega
 have k2 : (0 : Int) ≤ (n : Int) + 1 := by omega
 have k3 : ((n : Int) + 1).toNat = n + 1 := by omega
 have y1 : b ≠ w.heap.size + 1 := by omega
 have y1' := y1.symm
 have y2 : w.heap.size ≠ w.heap.size + 1 := by omega
 have y2' := y2.symm
 clear hx hy hd hc hX gX gX' hbx hn c3
 go_enter Tryz.func85, Tryz.ntmps85
 go_wp2_with fail
 rw [← hw0]
 clear hw0
 go_region_held3 (fun w' => w'.cell? ⟨w.heap.size, 1, none⟩ = some (.slice (some ⟨b, off, none⟩) (n + 2) dc) ∧ w'.cell? ⟨w.heap.size, 2, none⟩ = some (.slice ta tn tc) ∧ w'.cell? ⟨b, off + n, none⟩ = some (.int .i64 x) ∧ w'.cell? ⟨b, off + (n + 1), none⟩ = some (.int .i64 y)) (go_keep) (fail)
 go_wp2
 refine bodyPost_ret (jnl rfl _ _ (w.heap.size + 1) rfl HX.out) rfl ?_
 exact ⟨rfl, jag GX.out⟩
theorem jfx {w : World} {te base g n c : Nat} {xs : List Sl} (h : jaU te 1 jco w base (.slice (some ⟨g, 0, none⟩) n c) xs) (hn : xs.length = n) {k : Nat} (hk : k < n) (s : Sl) :
    (∃ q : Sl, w.cell? ⟨g, k, none⟩ = some (.slice q.a q.n q.c)) ∧ w.frozen? ⟨g, k, none⟩ = false ∧ jaU te 1 jco (w.setCell ⟨g, k, none⟩ (.slice s.a s.n s.c)) base (.slice (some ⟨g, 0, none⟩) n c) (xs.set k s) ∧ w.grownBy (w.setCell ⟨g, k, none⟩ (.slice s.a s.n s.c)) (some g) := by
     subst hn
     have e : ∀ ys : List Sl, ys.flatMap jco = ys.map (fun s => Value.slice s.a s.n s.c) := fun ys => by
      induction ys with
      | nil => rfl
      | cons y ys ih => rw [List.flatMap_cons, List.map_cons, ih]; rfl
     unfold jaU at h ⊢
     rw [e] at h ⊢
     obtain ⟨s1, s2⟩ := h.stored k (.slice s.a s.n s.c)
     refine ⟨⟨xs[k], ?_⟩, h.frozenAt k, ?_, s2⟩
     ·rw [h.cellAt k (by omega)]
      simp [hk]
     ·rw [List.length_set, List.map_set]
      exact s1
theorem jiB : (Tryz.prog.info? 23).map (fun i => (i.zero, i.size, i.bytes)) = some (some (.slice none 0 0), 1, 24) := by kernel_rfl
theorem jgM {w : World} {te base n : Nat} {v : Value} (h : w.ownsRow base te 1 v n (madeCells (Value.slice none 0 0).cells (n * 1)).toList) : jaU te 1 jco w base v (List.replicate n ⟨none, 0, 0⟩) := by
 unfold jaU
 have e : ∀ m : Nat, (List.replicate m (⟨none, 0, 0⟩ : Sl)).flatMap jco = List.replicate m (Value.slice none 0 0) := fun m => by
  induction m with
  | zero => rfl
  | succ m ih => rw [List.replicate_succ, List.flatMap_cons, ih]; rfl
 rw [List.length_replicate, e]
 have e2 : (madeCells (Value.slice none 0 0).cells (n * 1)).toList = List.replicate n (Value.slice none 0 0) := by
  rw [Nat.mul_one]
  simp [madeCells, Value.cells, Nat.mod_one]
  exact List.ext_getElem (by simp) fun i h1 h2 => by simp
 rw [← e2]
 exact h
theorem jgN {w : World} {b off n c : Nat} {zs : List Int} (h : IsInts w (.slice (some ⟨b, off, none⟩) n c) zs) (p m c' : Nat) (hp : p + m ≤ zs.length) (hc : p + c' ≤ c) (hm : m ≤ c') : IsInts w (.slice (some ⟨b, off + p, none⟩) m c') ((zs.drop p).take m) := by
 obtain ⟨a, c0, e, h1, h2, h3, -, h5, h6⟩ := h
 simp only [Value.slice.injEq] at e
 obtain ⟨rfl, -, rfl⟩ := e
 have hl : ((zs.drop p).take m).length = m := by rw [List.length_take, List.length_drop]; omega
 refine ⟨_, _, by rw [hl], by rw [hl]; exact hm, by omega, by rw [hl]; omega, (fun h => by cases h), fun _ => ⟨b, off + p, rfl, fun t ht => ?_⟩, fun z hz => h6 z (List.mem_of_mem_drop (List.mem_of_mem_take hz))⟩
 rw [hl] at ht
 obtain ⟨b', off', e', hcell⟩ := h5 (by omega)
 simp only [Option.some.injEq, Addr.mk.injEq] at e'
 obtain ⟨rfl, rfl, -⟩ := e'
 rw [Nat.add_assoc, hcell (p + t) (by omega)]
 congr 2
 simp only [List.getD]
 rw [List.getElem?_take_of_lt ht, List.getElem?_drop]
end Go.Proofs.YtkefdkboejimeaaGreatDoor
namespace Go.Proofs.YtkefdkboejimeaaGreatDoor
open Go.RowKit
theorem jdA {x : Int} (h1 : 0 ≤ x) (h2 : x ≤ 1000000) : wrap64 x = x := by
 unfold wrap64
 omega
theorem jnm (zs : List Int) (i h k r : Nat) (hr : r < h) : (blk zs i h k).take (r + 1) = (blk zs i h k).take r ++ [((zs.drop (i * (h * k))).drop (r * k)).take k] := by
 rw [List.take_add_one, List.getElem?_eq_getElem (by rw [jaR]; exact hr)]
 simp [blk]
theorem jgO (ah : Sl) (h k i : Nat) (d : Sl) (zs : List Int) (w : World) (hd : IsInts w d.v zs) (h1 : 1 ≤ h) (k1 : 1 ≤ k) (hl : i * (h * k) + h * k ≤ zs.length) (hz : zs.length ≤ 65536) : Calls Tryz.prog 88 #[jpB ah h k d, .int .i64 i] w fun e w' => ∃ (u : Sl) (rs : List (Sl × List Int)), e = .returned u.v ∧ Blk w' u.v rs k ∧ rs.map (·.2) = blk zs i h k ∧ w.grownBy w' none := by
 obtain ⟨i0, hi0, hz0, hz1, hz2⟩ := info_parts jiB
 obtain ⟨ux, uc, eu, c1, c2, c3⟩ := hd.sl
 obtain ⟨da, dn, dc⟩ := d
 simp only [Sl.v, Value.slice.injEq] at eu
 obtain ⟨rfl, rfl, rfl⟩ := eu
 obtain ⟨aa, an, ac⟩ := ah
 obtain ⟨S, hS⟩ : ∃ S, S = h * k := ⟨_, rfl⟩
 have hS1 : 1 ≤ S := by rw [hS]; exact Nat.mul_le_mul h1 k1
 have hSh : h ≤ S := by rw [hS]; exact Nat.le_mul_of_pos_right _ k1
 rw [← hS] at hl
 obtain ⟨P, hP⟩ : ∃ P, P = i * S := ⟨_, rfl⟩
 rw [← hP] at hl
 obtain ⟨b, off, rfl, hc⟩ := hd.get (k := 0) (by omega)
 have hS3 : S ≤ 1000000 := by omega
 have hP3 : P ≤ 1000000 := by omega
 unfold jpB
 simp only
 have HD := jae hd
 obtain ⟨w0, hw0⟩ : ∃ w0, w0 = w.alloc (.cells #[.slice aa an ac, .int .i64 h, .int .i64 k, .slice (some ⟨b, off, none⟩) zs.length dc] 128) := ⟨_, rfl⟩
 have g0 : w.grownBy w0 none := by rw [hw0]; exact jab _ _
 have hb0 := heap_alloc_new w (.cells #[.slice aa an ac, .int .i64 h, .int .i64 k, .slice (some ⟨b, off, none⟩) zs.length dc] 128)
 rw [← hw0] at hb0
 obtain ⟨p0, p1, p2, p3, -, -, -, -⟩ := jaB hb0
 have BX : Hid (∀ wx, w0.grownBy wx none → wx.heap[w.heap.size]? = some (.cells #[.slice aa an ac, .int .i64 h, .int .i64 k, .slice (some ⟨b, off, none⟩) zs.length dc] 128 (0, 0))) := fun wx hg => jad hb0 hg
 have Z0 : Hid (w0.heap.size = w.heap.size + 1) := by show _ = _; rw [hw0]; simp
 have j2 : P ≤ zs.length := by omega
 obtain ⟨C, hC⟩ : ∃ C, dc = P + C := ⟨dc - P, by omega⟩
 have j3 : ¬ C = 0 := by omega
 have j4 : S ≤ C := by omega
 have hb4 : i0.bytes * h ≤ 281474976710656 := by rw [hz2]; omega
 have hb5 : h ≤ maxLen := by simp only [maxLen]; omega
 have G0 := jae g0
 have w1 : wrap64 ((h : Int) * (k : Int)) = (S : Int) := by
  rw [← Int.natCast_mul, ← hS]
  exact jdA (Int.natCast_nonneg _) (Int.ofNat_le.2 hS3)
 have w2 : wrap64 ((i : Int) * (S : Int)) = (P : Int) := by
  rw [← Int.natCast_mul, ← hP]
  exact jdA (Int.natCast_nonneg _) (Int.ofNat_le.2 hP3)
 have hb6 : w.heap.size ≤ w0.heap.size := g0.size
 rw [hw0] at hb6
 have HS := jae hS
 have HLL := jae hl
 have HSH := jae hSh
 subst hC
 have HP := jae hP
 have HZ := jae hz
 clear hd hc hb0 hS hP hz hl hSh hS1 c3 hS3 hP3
 go_enter Tryz.func88, Tryz.ntmps88
 go_wp2_with (refine wpList_make_full _ rfl (.tmp 23) (.tmp 23) 132 rfl w.heap.size 23 i0 (.slice none 0 0) 1 Tryz.underlying132 hi0 hz0 hz1 .i64 .i64 _ _ h rfl rfl rfl rfl hb4 hb5 hb6 ?_; intro w3 hown3 hg3)
 rw [← hw0] at hg3
 have O3 := jae (jgM hown3)
 have G3 := jae hg3
 have L3 : Hid (w.heap.size + 1 < w3.heap.size) := by
  have := (World.ownsRow.lt hown3 (w.alloc (.cells #[.slice aa an ac, .int .i64 h, .int .i64 k, .slice (some ⟨b, off, none⟩) zs.length (P + C)] 128)).heap.size rfl).2
  rw [← hw0, Z0.out] at this
  exact this
 rw [← hw0, Z0.out] at O3
 clear hown3 hg3 p0 p1 p2 p3 hb4 hb5 hb6 j2 w1 w2 hw0
 go_loopw [27] (fun x wr => w0.grownBy wr none ∧ ∃ (r : Nat) (rs : List (Sl × List Int)), r ≤ h ∧ rs.length = r ∧ x = .int .i64 r ∧ rs.map (·.2) = (blk zs i h k).take r ∧ (∀ q ∈ rs, IsInts w q.1.v q.2 ∧ q.2.length = k) ∧ jaU 23 1 jco wr w.heap.size (.slice (some ⟨w.heap.size + 1, 0, none⟩) h h) (rs.map (·.1) ++ List.replicate (h - r) ⟨none, 0, 0⟩)) (fun x _ => h - (intOf x).toNat)
 case atStart => exact ⟨G3.out, 0, [], Nat.zero_le _, rfl, rfl, rfl, (fun q hq => by cases hq), by simpa using O3.out⟩
 case round =>
  obtain ⟨hg, r, rs, hr, hrl, rfl, hm, hin, ho⟩ := hrel
  have HG := jae hg
  have HRL := jae hrl
  have HM := jae hm
  have HIN := jae hin
  have HO := jae ho
  clear hrl hm hin ho
  by_cases hlt : r < h
  ·obtain ⟨-, -, p2, -, -, -, -, -⟩ := jaB (BX.out wr hg)
   obtain ⟨R, hR⟩ : ∃ R, R = r * k := ⟨_, rfl⟩
   have hRS : R + k ≤ S := by
    rw [HS.out, hR, show r * k + k = (r + 1) * k from by rw [Nat.add_mul]; omega]
    exact Nat.mul_le_mul_right _ hlt
   obtain ⟨C2, hC2⟩ : ∃ C2, C = R + C2 := ⟨C - R, by omega⟩
   have e1 : ¬ C2 = 0 := by omega
   have e2 : k ≤ C2 := by omega
   have e3 : R ≤ S := by omega
   have hR3 : R ≤ 1000000 := by have := HZ.out; have := HLL.out; omega
   have IP := jae (jgN (show IsInts w (.slice (some ⟨b, off, none⟩) zs.length (P + C)) zs from HD.out) (P + R) k C2 (by have := HLL.out; omega) (by omega) e2)
   have EL : Hid ((zs.drop (P + R)).take k = ((zs.drop (i * (h * k))).drop (r * k)).take k) := by show _ = _; rw [List.drop_drop, ← HS.out, ← HP.out, ← hR]
   have TK := jae (jnm zs i h k r hlt)
   rw [← EL.out] at TK
   have hrl' := HRL.out
   obtain ⟨⟨q0, q1⟩, q2, q3, q4⟩ := jfx HO.out (by rw [List.length_append, List.length_map, List.length_replicate]; omega) hlt ⟨some ⟨b, off + P + R, none⟩, k, C2⟩
   obtain ⟨qa, qn, qc⟩ := q0
   have ES : Hid ((rs.map (·.1) ++ List.replicate (h - r) (⟨none, 0, 0⟩ : Sl)).set r ⟨some ⟨b, off + P + R, none⟩, k, C2⟩ = (rs ++ [((⟨some ⟨b, off + P + R, none⟩, k, C2⟩ : Sl), (zs.drop (P + R)).take k)]).map (·.1) ++ List.replicate (h - (r + 1)) ⟨none, 0, 0⟩) := by
    show _ = _
    rw [List.set_append_right _ _ (by rw [List.length_map]; omega), List.length_map, hrl', Nat.sub_self, show h - r = (h - (r + 1)) + 1 from by omega, List.replicate_succ, List.set_cons_zero, List.map_append, List.append_assoc]
    rfl
   rw [ES.out] at q3
   have NX := jae q3
   have GX := jae (jas (jaa G0.out hg) q4 (by omega))
   have GX0 := jae (jas hg q4 (by rw [Z0.out]; exact Nat.le_refl _))
   have y1 : w.heap.size ≠ w.heap.size + 1 := by omega
   have y1' := y1.symm
   have r1 : (r : Int) < (h : Int) := by omega
   have r5 : r < 70000 := by have := HZ.out; have := HLL.out; have := HSH.out; omega
   have LK : Hid (((zs.drop (P + R)).take k).length = k) := by
    show _ = _
    rw [List.length_take, List.length_drop]
    have := HLL.out
    omega
   have w3' : wrap64 ((r : Int) * (k : Int)) = (R : Int) := by
    rw [← Int.natCast_mul, ← hR]
    exact jdA (Int.natCast_nonneg _) (Int.ofNat_le.2 hR3)
   have w4 : IntKind.i64.wrap ((r : Int) * (k : Int)) = (R : Int) := by rw [jbA]; exact w3'
   clear hR hRS hR3 q3 q4 hg hrl' ES
   simp only at q1
   subst hC2
   go_wp2_with fail
   go_region_held3 (fun w' => w'.cell? ⟨w.heap.size, 2, none⟩ = some (.int .i64 k)) (go_keep) (fail)
   go_wp2_with fail
   go_roundw
   case rel =>
    refine ⟨jag GX0.out, r + 1, rs ++ [((⟨some ⟨b, off + P + R, none⟩, k, C2⟩ : Sl), (zs.drop (P + R)).take k)], hlt, by rw [List.length_append, HRL.out]; rfl, by clear w3' w4; go_num, ?_, ?_, World.ownsRow.drew NX.out⟩
    ·rw [List.map_append, HM.out, TK.out]
     rfl
    ·intro q hq
     rcases List.mem_append.1 hq with hq | hq
     ·exact HIN.out q hq
     ·rw [List.mem_singleton.1 hq]
      exact ⟨by have := IP.out; rw [← Nat.add_assoc] at this; exact this, LK.out⟩
   case measure => clear w3' w4; simp [intOf]; omega
  ·obtain rfl : r = h := by omega
   have BL : Hid (Blk wr (.slice (some ⟨w.heap.size + 1, 0, none⟩) r r) rs k) := by
    refine ⟨?_, fun q hq => ⟨(HIN.out q hq).1.more (jaa G0.out hg), (HIN.out q hq).2⟩⟩
    have h2 := HO.out
    rw [Nat.sub_self, List.replicate_zero, List.append_nil] at h2
    exact h2.isL (bytes := 24) jfv (by rw [List.length_map, HRL.out]; have := HZ.out; have := HLL.out; have := HSH.out; omega)
   have EM : Hid (rs.map (·.2) = blk zs i r k) := by
    show _ = _
    rw [HM.out, List.take_of_length_le (by rw [jaR]; exact Nat.le_refl _)]
   clear hg
   go_wp2
   go_ret
   exact ⟨⟨_, _, _⟩, rs, rfl, BL.out, EM.out, jaa G0.out HG.out⟩
end Go.Proofs.YtkefdkboejimeaaGreatDoor
