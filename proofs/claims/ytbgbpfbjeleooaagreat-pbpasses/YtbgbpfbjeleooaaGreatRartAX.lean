/- A part. -/
import Derived.Test.YtbgbpfbjeleooaaGreatRartAW
set_option maxHeartbeats 6400000
set_option maxRecDepth 100000
namespace Go.Proofs.YtbgbpfbjeleooaaGreat.Pd
open Go.RowKit
open Wr (Fld)
def jcv (a : Atr) : R Atr :=
 if a.kind = 1 then .ok ⟨a.name, a.kind, a.f, 0, ⟨#[]⟩, 0, ⟨none, 0, 0⟩, ⟨none, 0, 0⟩, ⟨none, 0, 0⟩⟩
 else if a.kind = 2 then .ok ⟨a.name, a.kind, 0, a.i, ⟨#[]⟩, 0, ⟨none, 0, 0⟩, ⟨none, 0, 0⟩, ⟨none, 0, 0⟩⟩
 else if a.kind = 3 then .ok ⟨a.name, a.kind, 0, 0, a.s, 0, ⟨none, 0, 0⟩, ⟨none, 0, 0⟩, ⟨none, 0, 0⟩⟩
 else if a.kind = 4 then .ok ⟨a.name, a.kind, 0, 0, ⟨#[]⟩, a.ty, a.dv, a.tv, ⟨none, 0, 0⟩⟩
 else if a.kind = 7 then .ok ⟨a.name, a.kind, 0, 0, ⟨#[]⟩, 0, ⟨none, 0, 0⟩, ⟨none, 0, 0⟩, a.iv⟩
 else .error 5
theorem jbm (x : World) (B : Nat) (cs : Array Value) : x.grownBy (x.setRow B cs) (some B) := ⟨rfl, rfl, rfl, by simp, fun k _ hk => setRow_other _ _ _ _ (fun e => hk (by rw [e]))⟩
theorem jbl : (Tryz.prog.info? 78).map (·.size) = some 9 := by kernel_rfl
theorem jcu {fn : Func} {p : Tmp} (h : fn.results = #[.cell p 78]) (tmps : Array Value) (w : World) (B : Nat) (hp : tmps.getD p undef = .pointer (some ⟨B, 0, none⟩)) {z0 z1 z2 z3 z4 z5 z6 z7 z8 : Value}
    (hb : w.heap[B]? = some (.cells #[z0, z1, z2, z3, z4, z5, z6, z7, z8] 78 (0, 0))) : (results fn tmps).run Tryz.prog w = .ok (.agg #[z0, z1, z2, z3, z4, z5, z6, z7, z8]) w :=
     results_cell_row h tmps w B 78 #[z0, z1, z2, z3, z4, z5, z6, z7, z8] (0, 0) _ hp hb Tryz.underlying78 rfl (by rw [jbl]; rfl)
theorem jaD {w : World} {B : Nat} {z0 z1 z2 z3 z4 z5 z6 z7 z8 : Value} {t : TypeId} (hb : w.heap[B]? = some (.cells #[z0, z1, z2, z3, z4, z5, z6, z7, z8] t (0, 0))) :
    (w.cell? ⟨B, 0, none⟩ = some z0 ∧ w.cell? ⟨B, 1, none⟩ = some z1 ∧ w.cell? ⟨B, 2, none⟩ = some z2 ∧ w.cell? ⟨B, 3, none⟩ = some z3 ∧ w.cell? ⟨B, 4, none⟩ = some z4 ∧ w.cell? ⟨B, 5, none⟩ = some z5 ∧ w.cell? ⟨B, 6, none⟩ = some z6 ∧ w.cell? ⟨B, 7, none⟩ = some z7 ∧ w.cell? ⟨B, 8, none⟩ = some z8) ∧ w.frozen? ⟨B, 0, none⟩ = false ∧ w.frozen? ⟨B, 1, none⟩ = false ∧ w.frozen? ⟨B, 2, none⟩ = false ∧ w.frozen? ⟨B, 3, none⟩ = false ∧ w.frozen? ⟨B, 4, none⟩ = false ∧ w.frozen? ⟨B, 5, none⟩ = false ∧ w.frozen? ⟨B, 6, none⟩ = false ∧ w.frozen? ⟨B, 7, none⟩ = false ∧ w.frozen? ⟨B, 8, none⟩ = false :=
     ⟨⟨(cell_of_row _ _ 0 _ _ (0, 0) hb).trans rfl, (cell_of_row _ _ 1 _ _ (0, 0) hb).trans rfl, (cell_of_row _ _ 2 _ _ (0, 0) hb).trans rfl, (cell_of_row _ _ 3 _ _ (0, 0) hb).trans rfl, (cell_of_row _ _ 4 _ _ (0, 0) hb).trans rfl, (cell_of_row _ _ 5 _ _ (0, 0) hb).trans rfl, (cell_of_row _ _ 6 _ _ (0, 0) hb).trans rfl, (cell_of_row _ _ 7 _ _ (0, 0) hb).trans rfl, (cell_of_row _ _ 8 _ _ (0, 0) hb).trans rfl⟩, frozen_of_row w B 0 _ _ hb, frozen_of_row w B 1 _ _ hb, frozen_of_row w B 2 _ _ hb, frozen_of_row w B 3 _ _ hb, frozen_of_row w B 4 _ _ hb, frozen_of_row w B 5 _ _ hb, frozen_of_row w B 6 _ _ hb, frozen_of_row w B 7 _ _ hb, frozen_of_row w B 8 _ _ hb⟩
theorem jko (a : Atr) (w : World) (h : a.kind = 1) : Calls Tryz.prog 136 #[jcn a] w (jbA w (jcv a) fun b v _ => v = jcn b) := by
 obtain ⟨nm, kd, ff, ii, ss, ty, ⟨da, dn, dc⟩, ⟨ta, tn, tc⟩, ⟨va, vn, vc⟩⟩ := a
 unfold jcn
 simp only at *
 obtain ⟨R0, hR0⟩ : ∃ r, r = jcv ⟨nm, kd, ff, ii, ss, ty, ⟨da, dn, dc⟩, ⟨ta, tn, tc⟩, ⟨va, vn, vc⟩⟩ := ⟨_, rfl⟩
 rw [← hR0]
 have HR := jac hR0
 clear hR0
 subst h
 have G0 : Hid (w.grownBy ((((w.alloc (.cells #[.string nm, .int .i64 1, .int .i64 ff, .int .i64 ii, .string ss, .int .i64 ty, .slice da dn dc, .slice ta tn tc, .slice va vn vc] 78)).alloc (.cells #[.string ⟨#[]⟩, .int .i64 0, .int .i64 0, .int .i64 0, .string ⟨#[]⟩, .int .i64 0, .slice none 0 0, .slice none 0 0, .slice none 0 0] 78)).alloc (.cells #[.string ⟨#[]⟩, .int .i64 0, .int .i64 0, .int .i64 0, .string ⟨#[]⟩, .int .i64 0, .slice none 0 0, .slice none 0 0, .slice none 0 0] 78))) none) := jaa (jaa (jab _ _) (jab _ _)) (jab _ _)
 have H3 := jbM w #[.string nm, .int .i64 1, .int .i64 ff, .int .i64 ii, .string ss, .int .i64 ty, .slice da dn dc, .slice ta tn tc, .slice va vn vc] #[.string ⟨#[]⟩, .int .i64 0, .int .i64 0, .int .i64 0, .string ⟨#[]⟩, .int .i64 0, .slice none 0 0, .slice none 0 0, .slice none 0 0] #[.string ⟨#[]⟩, .int .i64 0, .int .i64 0, .int .i64 0, .string ⟨#[]⟩, .int .i64 0, .slice none 0 0, .slice none 0 0, .slice none 0 0] 78 78 78
 have H2 := jbu w #[.string nm, .int .i64 1, .int .i64 ff, .int .i64 ii, .string ss, .int .i64 ty, .slice da dn dc, .slice ta tn tc, .slice va vn vc] #[.string ⟨#[]⟩, .int .i64 0, .int .i64 0, .int .i64 0, .string ⟨#[]⟩, .int .i64 0, .slice none 0 0, .slice none 0 0, .slice none 0 0] #[.string ⟨#[]⟩, .int .i64 0, .int .i64 0, .int .i64 0, .string ⟨#[]⟩, .int .i64 0, .slice none 0 0, .slice none 0 0, .slice none 0 0] 78 78 78
 have H1 := jbL w #[.string nm, .int .i64 1, .int .i64 ff, .int .i64 ii, .string ss, .int .i64 ty, .slice da dn dc, .slice ta tn tc, .slice va vn vc] #[.string ⟨#[]⟩, .int .i64 0, .int .i64 0, .int .i64 0, .string ⟨#[]⟩, .int .i64 0, .slice none 0 0, .slice none 0 0, .slice none 0 0] #[.string ⟨#[]⟩, .int .i64 0, .int .i64 0, .int .i64 0, .string ⟨#[]⟩, .int .i64 0, .slice none 0 0, .slice none 0 0, .slice none 0 0] 78 78 78
 have X3 := setRow_heap _ (w.heap.size + 1 + 1) _ #[.string nm, .int .i64 1, .int .i64 0, .int .i64 0, .string ⟨#[]⟩, .int .i64 0, .slice none 0 0, .slice none 0 0, .slice none 0 0] _ _ H3
 have gr := jbm ((((w.alloc (.cells #[.string nm, .int .i64 1, .int .i64 ff, .int .i64 ii, .string ss, .int .i64 ty, .slice da dn dc, .slice ta tn tc, .slice va vn vc] 78)).alloc (.cells #[.string ⟨#[]⟩, .int .i64 0, .int .i64 0, .int .i64 0, .string ⟨#[]⟩, .int .i64 0, .slice none 0 0, .slice none 0 0, .slice none 0 0] 78)).alloc (.cells #[.string ⟨#[]⟩, .int .i64 0, .int .i64 0, .int .i64 0, .string ⟨#[]⟩, .int .i64 0, .slice none 0 0, .slice none 0 0, .slice none 0 0] 78))) (w.heap.size + 1 + 1) #[.string nm, .int .i64 1, .int .i64 0, .int .i64 0, .string ⟨#[]⟩, .int .i64 0, .slice none 0 0, .slice none 0 0, .slice none 0 0]
 have sz : ((((w.alloc (.cells #[.string nm, .int .i64 1, .int .i64 ff, .int .i64 ii, .string ss, .int .i64 ty, .slice da dn dc, .slice ta tn tc, .slice va vn vc] 78)).alloc (.cells #[.string ⟨#[]⟩, .int .i64 0, .int .i64 0, .int .i64 0, .string ⟨#[]⟩, .int .i64 0, .slice none 0 0, .slice none 0 0, .slice none 0 0] 78)).alloc (.cells #[.string ⟨#[]⟩, .int .i64 0, .int .i64 0, .int .i64 0, .string ⟨#[]⟩, .int .i64 0, .slice none 0 0, .slice none 0 0, .slice none 0 0] 78))).heap.size = w.heap.size + 1 + 1 + 1 := by rw [jar, jar, jar]
 have X1 := (gr.block (w.heap.size) (by omega) (fun e => by have := Option.some.inj e; omega)).trans H1
 have X2 := (gr.block (w.heap.size + 1) (by omega) (fun e => by have := Option.some.inj e; omega)).trans H2
 have G1 := jaf (row := none) G0.out gr (fun g e => by cases e; exact .inr (by omega))
 have sz1 := gr.size
 obtain ⟨w1, hw1⟩ : ∃ w1, w1 = ((((w.alloc (.cells #[.string nm, .int .i64 1, .int .i64 ff, .int .i64 ii, .string ss, .int .i64 ty, .slice da dn dc, .slice ta tn tc, .slice va vn vc] 78)).alloc (.cells #[.string ⟨#[]⟩, .int .i64 0, .int .i64 0, .int .i64 0, .string ⟨#[]⟩, .int .i64 0, .slice none 0 0, .slice none 0 0, .slice none 0 0] 78)).alloc (.cells #[.string ⟨#[]⟩, .int .i64 0, .int .i64 0, .int .i64 0, .string ⟨#[]⟩, .int .i64 0, .slice none 0 0, .slice none 0 0, .slice none 0 0] 78)).setRow (w.heap.size + 1 + 1) #[.string nm, .int .i64 1, .int .i64 0, .int .i64 0, .string ⟨#[]⟩, .int .i64 0, .slice none 0 0, .slice none 0 0, .slice none 0 0]) := ⟨_, rfl⟩
 rw [← hw1] at X3 X1 X2 G1 sz1
 have hw2 := hw1.symm
 clear hw1
 obtain ⟨⟨x0, x1, x2, x3, x4, x5, x6, x7, x8⟩, xf⟩ := jaD X1
 obtain ⟨⟨z0, z1, z2, z3, z4, z5, z6, z7, z8⟩, y0, y1, y2, y3, y4, y5, y6, y7, y8⟩ := jaD X3
 have HX3 := jac X3
 have HX2 := jac X2
 have HG1 := jac G1
 have SZ : Hid (w.heap.size + 1 < w1.heap.size ∧ w.heap.size + 1 + 1 < w1.heap.size) := ⟨by omega, by omega⟩
 have n1 : w.heap.size ≠ w.heap.size + 1 + 1 := by omega
 have n2 : w.heap.size + 1 + 1 ≠ w.heap.size := by omega
 clear X1 X2 X3 G1 gr sz sz1 H1 H2 xf
 have V0 : (w1.setCell ⟨w.heap.size + 1 + 1, 2, none⟩ (.int .i64 ff)).heap[w.heap.size + 1 + 1]? = some (.cells #[.string nm, .int .i64 1, .int .i64 ff, .int .i64 0, .string ⟨#[]⟩, .int .i64 0, .slice none 0 0, .slice none 0 0, .slice none 0 0] 78 (0, 0)) := by simpa using heap_setCell_same w1 (w.heap.size + 1 + 1) 2 _ _ (.int .i64 ff) HX3.out
 have gp := jao w1 (w.heap.size + 1 + 1) 2 (.int .i64 ff)
 have Y2 := (gp.block (w.heap.size + 1) SZ.out.1 (fun e => by have := Option.some.inj e; omega)).trans HX2.out
 have X9 := jac (setRow_heap _ (w.heap.size + 1) _ #[.string nm, .int .i64 1, .int .i64 ff, .int .i64 0, .string ⟨#[]⟩, .int .i64 0, .slice none 0 0, .slice none 0 0, .slice none 0 0] _ _ Y2)
 have GX := jac (jaf (row := none) (jaf (row := none) HG1.out gp (fun g e => by cases e; exact .inr (by omega))) (jbm (w1.setCell ⟨w.heap.size + 1 + 1, 2, none⟩ (.int .i64 ff)) (w.heap.size + 1) #[.string nm, .int .i64 1, .int .i64 ff, .int .i64 0, .string ⟨#[]⟩, .int .i64 0, .slice none 0 0, .slice none 0 0, .slice none 0 0]) (fun g e => by cases e; exact .inr (by omega)))
 have HV := jac V0
 clear gp V0
 go_enter Tryz.func136, Tryz.ntmps136
 go_wp2_with (first | (refine wpList_store_row rfl 78 (.tmp 3) (.tmp 8) rfl (w.heap.size + 1 + 1) #[.string nm, .int .i64 1, .int .i64 0, .int .i64 0, .string ⟨#[]⟩, .int .i64 0, .slice none 0 0, .slice none 0 0, .slice none 0 0] rfl rfl 78 _ H3 jbl rfl (by simp [Value.oneCell']) ?_; rw [hw2]) | (refine wpList_store_row rfl 78 (.tmp 2) (.tmp 37) rfl (w.heap.size + 1) #[.string nm, .int .i64 1, .int .i64 ff, .int .i64 0, .string ⟨#[]⟩, .int .i64 0, .slice none 0 0, .slice none 0 0, .slice none 0 0] rfl rfl 78 _ Y2 jbl rfl (by simp [Value.oneCell']) ?_))
 refine bodyPost_ret (jcu rfl _ _ (w.heap.size + 1) rfl X9.out) rfl ?_
 exact jaE (HR.out.trans (by first | rfl | simp [jcv])) GX.out rfl
theorem jkp (a : Atr) (w : World) (h : a.kind = 2) : Calls Tryz.prog 136 #[jcn a] w (jbA w (jcv a) fun b v _ => v = jcn b) := by
 obtain ⟨nm, kd, ff, ii, ss, ty, ⟨da, dn, dc⟩, ⟨ta, tn, tc⟩, ⟨va, vn, vc⟩⟩ := a
 unfold jcn
 simp only at *
 obtain ⟨R0, hR0⟩ : ∃ r, r = jcv ⟨nm, kd, ff, ii, ss, ty, ⟨da, dn, dc⟩, ⟨ta, tn, tc⟩, ⟨va, vn, vc⟩⟩ := ⟨_, rfl⟩
 rw [← hR0]
 have HR := jac hR0
 clear hR0
 subst h
 have G0 : Hid (w.grownBy ((((w.alloc (.cells #[.string nm, .int .i64 2, .int .i64 ff, .int .i64 ii, .string ss, .int .i64 ty, .slice da dn dc, .slice ta tn tc, .slice va vn vc] 78)).alloc (.cells #[.string ⟨#[]⟩, .int .i64 0, .int .i64 0, .int .i64 0, .string ⟨#[]⟩, .int .i64 0, .slice none 0 0, .slice none 0 0, .slice none 0 0] 78)).alloc (.cells #[.string ⟨#[]⟩, .int .i64 0, .int .i64 0, .int .i64 0, .string ⟨#[]⟩, .int .i64 0, .slice none 0 0, .slice none 0 0, .slice none 0 0] 78))) none) := jaa (jaa (jab _ _) (jab _ _)) (jab _ _)
 have H3 := jbM w #[.string nm, .int .i64 2, .int .i64 ff, .int .i64 ii, .string ss, .int .i64 ty, .slice da dn dc, .slice ta tn tc, .slice va vn vc] #[.string ⟨#[]⟩, .int .i64 0, .int .i64 0, .int .i64 0, .string ⟨#[]⟩, .int .i64 0, .slice none 0 0, .slice none 0 0, .slice none 0 0] #[.string ⟨#[]⟩, .int .i64 0, .int .i64 0, .int .i64 0, .string ⟨#[]⟩, .int .i64 0, .slice none 0 0, .slice none 0 0, .slice none 0 0] 78 78 78
 have H2 := jbu w #[.string nm, .int .i64 2, .int .i64 ff, .int .i64 ii, .string ss, .int .i64 ty, .slice da dn dc, .slice ta tn tc, .slice va vn vc] #[.string ⟨#[]⟩, .int .i64 0, .int .i64 0, .int .i64 0, .string ⟨#[]⟩, .int .i64 0, .slice none 0 0, .slice none 0 0, .slice none 0 0] #[.string ⟨#[]⟩, .int .i64 0, .int .i64 0, .int .i64 0, .string ⟨#[]⟩, .int .i64 0, .slice none 0 0, .slice none 0 0, .slice none 0 0] 78 78 78
 have H1 := jbL w #[.string nm, .int .i64 2, .int .i64 ff, .int .i64 ii, .string ss, .int .i64 ty, .slice da dn dc, .slice ta tn tc, .slice va vn vc] #[.string ⟨#[]⟩, .int .i64 0, .int .i64 0, .int .i64 0, .string ⟨#[]⟩, .int .i64 0, .slice none 0 0, .slice none 0 0, .slice none 0 0] #[.string ⟨#[]⟩, .int .i64 0, .int .i64 0, .int .i64 0, .string ⟨#[]⟩, .int .i64 0, .slice none 0 0, .slice none 0 0, .slice none 0 0] 78 78 78
 have X3 := setRow_heap _ (w.heap.size + 1 + 1) _ #[.string nm, .int .i64 2, .int .i64 0, .int .i64 0, .string ⟨#[]⟩, .int .i64 0, .slice none 0 0, .slice none 0 0, .slice none 0 0] _ _ H3
 have gr := jbm ((((w.alloc (.cells #[.string nm, .int .i64 2, .int .i64 ff, .int .i64 ii, .string ss, .int .i64 ty, .slice da dn dc, .slice ta tn tc, .slice va vn vc] 78)).alloc (.cells #[.string ⟨#[]⟩, .int .i64 0, .int .i64 0, .int .i64 0, .string ⟨#[]⟩, .int .i64 0, .slice none 0 0, .slice none 0 0, .slice none 0 0] 78)).alloc (.cells #[.string ⟨#[]⟩, .int .i64 0, .int .i64 0, .int .i64 0, .string ⟨#[]⟩, .int .i64 0, .slice none 0 0, .slice none 0 0, .slice none 0 0] 78))) (w.heap.size + 1 + 1) #[.string nm, .int .i64 2, .int .i64 0, .int .i64 0, .string ⟨#[]⟩, .int .i64 0, .slice none 0 0, .slice none 0 0, .slice none 0 0]
 have sz : ((((w.alloc (.cells #[.string nm, .int .i64 2, .int .i64 ff, .int .i64 ii, .string ss, .int .i64 ty, .slice da dn dc, .slice ta tn tc, .slice va vn vc] 78)).alloc (.cells #[.string ⟨#[]⟩, .int .i64 0, .int .i64 0, .int .i64 0, .string ⟨#[]⟩, .int .i64 0, .slice none 0 0, .slice none 0 0, .slice none 0 0] 78)).alloc (.cells #[.string ⟨#[]⟩, .int .i64 0, .int .i64 0, .int .i64 0, .string ⟨#[]⟩, .int .i64 0, .slice none 0 0, .slice none 0 0, .slice none 0 0] 78))).heap.size = w.heap.size + 1 + 1 + 1 := by rw [jar, jar, jar]
 have X1 := (gr.block (w.heap.size) (by omega) (fun e => by have := Option.some.inj e; omega)).trans H1
 have X2 := (gr.block (w.heap.size + 1) (by omega) (fun e => by have := Option.some.inj e; omega)).trans H2
 have G1 := jaf (row := none) G0.out gr (fun g e => by cases e; exact .inr (by omega))
 have sz1 := gr.size
 obtain ⟨w1, hw1⟩ : ∃ w1, w1 = ((((w.alloc (.cells #[.string nm, .int .i64 2, .int .i64 ff, .int .i64 ii, .string ss, .int .i64 ty, .slice da dn dc, .slice ta tn tc, .slice va vn vc] 78)).alloc (.cells #[.string ⟨#[]⟩, .int .i64 0, .int .i64 0, .int .i64 0, .string ⟨#[]⟩, .int .i64 0, .slice none 0 0, .slice none 0 0, .slice none 0 0] 78)).alloc (.cells #[.string ⟨#[]⟩, .int .i64 0, .int .i64 0, .int .i64 0, .string ⟨#[]⟩, .int .i64 0, .slice none 0 0, .slice none 0 0, .slice none 0 0] 78)).setRow (w.heap.size + 1 + 1) #[.string nm, .int .i64 2, .int .i64 0, .int .i64 0, .string ⟨#[]⟩, .int .i64 0, .slice none 0 0, .slice none 0 0, .slice none 0 0]) := ⟨_, rfl⟩
 rw [← hw1] at X3 X1 X2 G1 sz1
 have hw2 := hw1.symm
 clear hw1
 obtain ⟨⟨x0, x1, x2, x3, x4, x5, x6, x7, x8⟩, xf⟩ := jaD X1
 obtain ⟨⟨z0, z1, z2, z3, z4, z5, z6, z7, z8⟩, y0, y1, y2, y3, y4, y5, y6, y7, y8⟩ := jaD X3
 have HX3 := jac X3
 have HX2 := jac X2
 have HG1 := jac G1
 have SZ : Hid (w.heap.size + 1 < w1.heap.size ∧ w.heap.size + 1 + 1 < w1.heap.size) := ⟨by omega, by omega⟩
 have n1 : w.heap.size ≠ w.heap.size + 1 + 1 := by omega
 have n2 : w.heap.size + 1 + 1 ≠ w.heap.size := by omega
 clear X1 X2 X3 G1 gr sz sz1 H1 H2 xf
 have V0 : (w1.setCell ⟨w.heap.size + 1 + 1, 3, none⟩ (.int .i64 ii)).heap[w.heap.size + 1 + 1]? = some (.cells #[.string nm, .int .i64 2, .int .i64 0, .int .i64 ii, .string ⟨#[]⟩, .int .i64 0, .slice none 0 0, .slice none 0 0, .slice none 0 0] 78 (0, 0)) := by simpa using heap_setCell_same w1 (w.heap.size + 1 + 1) 3 _ _ (.int .i64 ii) HX3.out
 have gp := jao w1 (w.heap.size + 1 + 1) 3 (.int .i64 ii)
 have Y2 := (gp.block (w.heap.size + 1) SZ.out.1 (fun e => by have := Option.some.inj e; omega)).trans HX2.out
 have X9 := jac (setRow_heap _ (w.heap.size + 1) _ #[.string nm, .int .i64 2, .int .i64 0, .int .i64 ii, .string ⟨#[]⟩, .int .i64 0, .slice none 0 0, .slice none 0 0, .slice none 0 0] _ _ Y2)
 have GX := jac (jaf (row := none) (jaf (row := none) HG1.out gp (fun g e => by cases e; exact .inr (by omega))) (jbm (w1.setCell ⟨w.heap.size + 1 + 1, 3, none⟩ (.int .i64 ii)) (w.heap.size + 1) #[.string nm, .int .i64 2, .int .i64 0, .int .i64 ii, .string ⟨#[]⟩, .int .i64 0, .slice none 0 0, .slice none 0 0, .slice none 0 0]) (fun g e => by cases e; exact .inr (by omega)))
 have HV := jac V0
 clear gp V0
 go_enter Tryz.func136, Tryz.ntmps136
 go_wp2_with (first | (refine wpList_store_row rfl 78 (.tmp 3) (.tmp 8) rfl (w.heap.size + 1 + 1) #[.string nm, .int .i64 2, .int .i64 0, .int .i64 0, .string ⟨#[]⟩, .int .i64 0, .slice none 0 0, .slice none 0 0, .slice none 0 0] rfl rfl 78 _ H3 jbl rfl (by simp [Value.oneCell']) ?_; rw [hw2]) | (refine wpList_store_row rfl 78 (.tmp 2) (.tmp 37) rfl (w.heap.size + 1) #[.string nm, .int .i64 2, .int .i64 0, .int .i64 ii, .string ⟨#[]⟩, .int .i64 0, .slice none 0 0, .slice none 0 0, .slice none 0 0] rfl rfl 78 _ Y2 jbl rfl (by simp [Value.oneCell']) ?_))
 refine bodyPost_ret (jcu rfl _ _ (w.heap.size + 1) rfl X9.out) rfl ?_
 exact jaE (HR.out.trans (by first | rfl | simp [jcv])) GX.out rfl
theorem jkq (a : Atr) (w : World) (h : a.kind = 3) : Calls Tryz.prog 136 #[jcn a] w (jbA w (jcv a) fun b v _ => v = jcn b) := by
 obtain ⟨nm, kd, ff, ii, ss, ty, ⟨da, dn, dc⟩, ⟨ta, tn, tc⟩, ⟨va, vn, vc⟩⟩ := a
 unfold jcn
 simp only at *
 obtain ⟨R0, hR0⟩ : ∃ r, r = jcv ⟨nm, kd, ff, ii, ss, ty, ⟨da, dn, dc⟩, ⟨ta, tn, tc⟩, ⟨va, vn, vc⟩⟩ := ⟨_, rfl⟩
 rw [← hR0]
 have HR := jac hR0
 clear hR0
 subst h
 have G0 : Hid (w.grownBy ((((w.alloc (.cells #[.string nm, .int .i64 3, .int .i64 ff, .int .i64 ii, .string ss, .int .i64 ty, .slice da dn dc, .slice ta tn tc, .slice va vn vc] 78)).alloc (.cells #[.string ⟨#[]⟩, .int .i64 0, .int .i64 0, .int .i64 0, .string ⟨#[]⟩, .int .i64 0, .slice none 0 0, .slice none 0 0, .slice none 0 0] 78)).alloc (.cells #[.string ⟨#[]⟩, .int .i64 0, .int .i64 0, .int .i64 0, .string ⟨#[]⟩, .int .i64 0, .slice none 0 0, .slice none 0 0, .slice none 0 0] 78))) none) := jaa (jaa (jab _ _) (jab _ _)) (jab _ _)
 have H3 := jbM w #[.string nm, .int .i64 3, .int .i64 ff, .int .i64 ii, .string ss, .int .i64 ty, .slice da dn dc, .slice ta tn tc, .slice va vn vc] #[.string ⟨#[]⟩, .int .i64 0, .int .i64 0, .int .i64 0, .string ⟨#[]⟩, .int .i64 0, .slice none 0 0, .slice none 0 0, .slice none 0 0] #[.string ⟨#[]⟩, .int .i64 0, .int .i64 0, .int .i64 0, .string ⟨#[]⟩, .int .i64 0, .slice none 0 0, .slice none 0 0, .slice none 0 0] 78 78 78
 have H2 := jbu w #[.string nm, .int .i64 3, .int .i64 ff, .int .i64 ii, .string ss, .int .i64 ty, .slice da dn dc, .slice ta tn tc, .slice va vn vc] #[.string ⟨#[]⟩, .int .i64 0, .int .i64 0, .int .i64 0, .string ⟨#[]⟩, .int .i64 0, .slice none 0 0, .slice none 0 0, .slice none 0 0] #[.string ⟨#[]⟩, .int .i64 0, .int .i64 0, .int .i64 0, .string ⟨#[]⟩, .int .i64 0, .slice none 0 0, .slice none 0 0, .slice none 0 0] 78 78 78
 have H1 := jbL w #[.string nm, .int .i64 3, .int .i64 ff, .int .i64 ii, .string ss, .int .i64 ty, .slice da dn dc, .slice ta tn tc, .slice va vn vc] #[.string ⟨#[]⟩, .int .i64 0, .int .i64 0, .int .i64 0, .string ⟨#[]⟩, .int .i64 0, .slice none 0 0, .slice none 0 0, .slice none 0 0] #[.string ⟨#[]⟩, .int .i64 0, .int .i64 0, .int .i64 0, .string ⟨#[]⟩, .int .i64 0, .slice none 0 0, .slice none 0 0, .slice none 0 0] 78 78 78
 have X3 := setRow_heap _ (w.heap.size + 1 + 1) _ #[.string nm, .int .i64 3, .int .i64 0, .int .i64 0, .string ⟨#[]⟩, .int .i64 0, .slice none 0 0, .slice none 0 0, .slice none 0 0] _ _ H3
 have gr := jbm ((((w.alloc (.cells #[.string nm, .int .i64 3, .int .i64 ff, .int .i64 ii, .string ss, .int .i64 ty, .slice da dn dc, .slice ta tn tc, .slice va vn vc] 78)).alloc (.cells #[.string ⟨#[]⟩, .int .i64 0, .int .i64 0, .int .i64 0, .string ⟨#[]⟩, .int .i64 0, .slice none 0 0, .slice none 0 0, .slice none 0 0] 78)).alloc (.cells #[.string ⟨#[]⟩, .int .i64 0, .int .i64 0, .int .i64 0, .string ⟨#[]⟩, .int .i64 0, .slice none 0 0, .slice none 0 0, .slice none 0 0] 78))) (w.heap.size + 1 + 1) #[.string nm, .int .i64 3, .int .i64 0, .int .i64 0, .string ⟨#[]⟩, .int .i64 0, .slice none 0 0, .slice none 0 0, .slice none 0 0]
 have sz : ((((w.alloc (.cells #[.string nm, .int .i64 3, .int .i64 ff, .int .i64 ii, .string ss, .int .i64 ty, .slice da dn dc, .slice ta tn tc, .slice va vn vc] 78)).alloc (.cells #[.string ⟨#[]⟩, .int .i64 0, .int .i64 0, .int .i64 0, .string ⟨#[]⟩, .int .i64 0, .slice none 0 0, .slice none 0 0, .slice none 0 0] 78)).alloc (.cells #[.string ⟨#[]⟩, .int .i64 0, .int .i64 0, .int .i64 0, .string ⟨#[]⟩, .int .i64 0, .slice none 0 0, .slice none 0 0, .slice none 0 0] 78))).heap.size = w.heap.size + 1 + 1 + 1 := by rw [jar, jar, jar]
 have X1 := (gr.block (w.heap.size) (by omega) (fun e => by have := Option.some.inj e; omega)).trans H1
 have X2 := (gr.block (w.heap.size + 1) (by omega) (fun e => by have := Option.some.inj e; omega)).trans H2
 have G1 := jaf (row := none) G0.out gr (fun g e => by cases e; exact .inr (by omega))
 have sz1 := gr.size
 obtain ⟨w1, hw1⟩ : ∃ w1, w1 = ((((w.alloc (.cells #[.string nm, .int .i64 3, .int .i64 ff, .int .i64 ii, .string ss, .int .i64 ty, .slice da dn dc, .slice ta tn tc, .slice va vn vc] 78)).alloc (.cells #[.string ⟨#[]⟩, .int .i64 0, .int .i64 0, .int .i64 0, .string ⟨#[]⟩, .int .i64 0, .slice none 0 0, .slice none 0 0, .slice none 0 0] 78)).alloc (.cells #[.string ⟨#[]⟩, .int .i64 0, .int .i64 0, .int .i64 0, .string ⟨#[]⟩, .int .i64 0, .slice none 0 0, .slice none 0 0, .slice none 0 0] 78)).setRow (w.heap.size + 1 + 1) #[.string nm, .int .i64 3, .int .i64 0, .int .i64 0, .string ⟨#[]⟩, .int .i64 0, .slice none 0 0, .slice none 0 0, .slice none 0 0]) := ⟨_, rfl⟩
 rw [← hw1] at X3 X1 X2 G1 sz1
 have hw2 := hw1.symm
 clear hw1
 obtain ⟨⟨x0, x1, x2, x3, x4, x5, x6, x7, x8⟩, xf⟩ := jaD X1
 obtain ⟨⟨z0, z1, z2, z3, z4, z5, z6, z7, z8⟩, y0, y1, y2, y3, y4, y5, y6, y7, y8⟩ := jaD X3
 have HX3 := jac X3
 have HX2 := jac X2
 have HG1 := jac G1
 have SZ : Hid (w.heap.size + 1 < w1.heap.size ∧ w.heap.size + 1 + 1 < w1.heap.size) := ⟨by omega, by omega⟩
 have n1 : w.heap.size ≠ w.heap.size + 1 + 1 := by omega
 have n2 : w.heap.size + 1 + 1 ≠ w.heap.size := by omega
 clear X1 X2 X3 G1 gr sz sz1 H1 H2 xf
 have V0 : (w1.setCell ⟨w.heap.size + 1 + 1, 4, none⟩ (.string ss)).heap[w.heap.size + 1 + 1]? = some (.cells #[.string nm, .int .i64 3, .int .i64 0, .int .i64 0, .string ss, .int .i64 0, .slice none 0 0, .slice none 0 0, .slice none 0 0] 78 (0, 0)) := by simpa using heap_setCell_same w1 (w.heap.size + 1 + 1) 4 _ _ (.string ss) HX3.out
 have gp := jao w1 (w.heap.size + 1 + 1) 4 (.string ss)
 have Y2 := (gp.block (w.heap.size + 1) SZ.out.1 (fun e => by have := Option.some.inj e; omega)).trans HX2.out
 have X9 := jac (setRow_heap _ (w.heap.size + 1) _ #[.string nm, .int .i64 3, .int .i64 0, .int .i64 0, .string ss, .int .i64 0, .slice none 0 0, .slice none 0 0, .slice none 0 0] _ _ Y2)
 have GX := jac (jaf (row := none) (jaf (row := none) HG1.out gp (fun g e => by cases e; exact .inr (by omega))) (jbm (w1.setCell ⟨w.heap.size + 1 + 1, 4, none⟩ (.string ss)) (w.heap.size + 1) #[.string nm, .int .i64 3, .int .i64 0, .int .i64 0, .string ss, .int .i64 0, .slice none 0 0, .slice none 0 0, .slice none 0 0]) (fun g e => by cases e; exact .inr (by omega)))
 have HV := jac V0
 clear gp V0
 go_enter Tryz.func136, Tryz.ntmps136
 go_wp2_with (first | (refine wpList_store_row rfl 78 (.tmp 3) (.tmp 8) rfl (w.heap.size + 1 + 1) #[.string nm, .int .i64 3, .int .i64 0, .int .i64 0, .string ⟨#[]⟩, .int .i64 0, .slice none 0 0, .slice none 0 0, .slice none 0 0] rfl rfl 78 _ H3 jbl rfl (by simp [Value.oneCell']) ?_; rw [hw2]) | (refine wpList_store_row rfl 78 (.tmp 2) (.tmp 37) rfl (w.heap.size + 1) #[.string nm, .int .i64 3, .int .i64 0, .int .i64 0, .string ss, .int .i64 0, .slice none 0 0, .slice none 0 0, .slice none 0 0] rfl rfl 78 _ Y2 jbl rfl (by simp [Value.oneCell']) ?_))
 refine bodyPost_ret (jcu rfl _ _ (w.heap.size + 1) rfl X9.out) rfl ?_
 exact jaE (HR.out.trans (by first | rfl | simp [jcv])) GX.out rfl
theorem jkr (a : Atr) (w : World) (h : a.kind = 4) : Calls Tryz.prog 136 #[jcn a] w (jbA w (jcv a) fun b v _ => v = jcn b) := by
 obtain ⟨nm, kd, ff, ii, ss, ty, ⟨da, dn, dc⟩, ⟨ta, tn, tc⟩, ⟨va, vn, vc⟩⟩ := a
 unfold jcn
 simp only at *
 obtain ⟨R0, hR0⟩ : ∃ r, r = jcv ⟨nm, kd, ff, ii, ss, ty, ⟨da, dn, dc⟩, ⟨ta, tn, tc⟩, ⟨va, vn, vc⟩⟩ := ⟨_, rfl⟩
 rw [← hR0]
 have HR := jac hR0
 clear hR0
 subst h
 have G0 : Hid (w.grownBy ((((w.alloc (.cells #[.string nm, .int .i64 4, .int .i64 ff, .int .i64 ii, .string ss, .int .i64 ty, .slice da dn dc, .slice ta tn tc, .slice va vn vc] 78)).alloc (.cells #[.string ⟨#[]⟩, .int .i64 0, .int .i64 0, .int .i64 0, .string ⟨#[]⟩, .int .i64 0, .slice none 0 0, .slice none 0 0, .slice none 0 0] 78)).alloc (.cells #[.string ⟨#[]⟩, .int .i64 0, .int .i64 0, .int .i64 0, .string ⟨#[]⟩, .int .i64 0, .slice none 0 0, .slice none 0 0, .slice none 0 0] 78))) none) := jaa (jaa (jab _ _) (jab _ _)) (jab _ _)
 have H3 := jbM w #[.string nm, .int .i64 4, .int .i64 ff, .int .i64 ii, .string ss, .int .i64 ty, .slice da dn dc, .slice ta tn tc, .slice va vn vc] #[.string ⟨#[]⟩, .int .i64 0, .int .i64 0, .int .i64 0, .string ⟨#[]⟩, .int .i64 0, .slice none 0 0, .slice none 0 0, .slice none 0 0] #[.string ⟨#[]⟩, .int .i64 0, .int .i64 0, .int .i64 0, .string ⟨#[]⟩, .int .i64 0, .slice none 0 0, .slice none 0 0, .slice none 0 0] 78 78 78
 have H2 := jbu w #[.string nm, .int .i64 4, .int .i64 ff, .int .i64 ii, .string ss, .int .i64 ty, .slice da dn dc, .slice ta tn tc, .slice va vn vc] #[.string ⟨#[]⟩, .int .i64 0, .int .i64 0, .int .i64 0, .string ⟨#[]⟩, .int .i64 0, .slice none 0 0, .slice none 0 0, .slice none 0 0] #[.string ⟨#[]⟩, .int .i64 0, .int .i64 0, .int .i64 0, .string ⟨#[]⟩, .int .i64 0, .slice none 0 0, .slice none 0 0, .slice none 0 0] 78 78 78
 have H1 := jbL w #[.string nm, .int .i64 4, .int .i64 ff, .int .i64 ii, .string ss, .int .i64 ty, .slice da dn dc, .slice ta tn tc, .slice va vn vc] #[.string ⟨#[]⟩, .int .i64 0, .int .i64 0, .int .i64 0, .string ⟨#[]⟩, .int .i64 0, .slice none 0 0, .slice none 0 0, .slice none 0 0] #[.string ⟨#[]⟩, .int .i64 0, .int .i64 0, .int .i64 0, .string ⟨#[]⟩, .int .i64 0, .slice none 0 0, .slice none 0 0, .slice none 0 0] 78 78 78
 have X3 := setRow_heap _ (w.heap.size + 1 + 1) _ #[.string nm, .int .i64 4, .int .i64 0, .int .i64 0, .string ⟨#[]⟩, .int .i64 0, .slice none 0 0, .slice none 0 0, .slice none 0 0] _ _ H3
 have gr := jbm ((((w.alloc (.cells #[.string nm, .int .i64 4, .int .i64 ff, .int .i64 ii, .string ss, .int .i64 ty, .slice da dn dc, .slice ta tn tc, .slice va vn vc] 78)).alloc (.cells #[.string ⟨#[]⟩, .int .i64 0, .int .i64 0, .int .i64 0, .string ⟨#[]⟩, .int .i64 0, .slice none 0 0, .slice none 0 0, .slice none 0 0] 78)).alloc (.cells #[.string ⟨#[]⟩, .int .i64 0, .int .i64 0, .int .i64 0, .string ⟨#[]⟩, .int .i64 0, .slice none 0 0, .slice none 0 0, .slice none 0 0] 78))) (w.heap.size + 1 + 1) #[.string nm, .int .i64 4, .int .i64 0, .int .i64 0, .string ⟨#[]⟩, .int .i64 0, .slice none 0 0, .slice none 0 0, .slice none 0 0]
 have sz : ((((w.alloc (.cells #[.string nm, .int .i64 4, .int .i64 ff, .int .i64 ii, .string ss, .int .i64 ty, .slice da dn dc, .slice ta tn tc, .slice va vn vc] 78)).alloc (.cells #[.string ⟨#[]⟩, .int .i64 0, .int .i64 0, .int .i64 0, .string ⟨#[]⟩, .int .i64 0, .slice none 0 0, .slice none 0 0, .slice none 0 0] 78)).alloc (.cells #[.string ⟨#[]⟩, .int .i64 0, .int .i64 0, .int .i64 0, .string ⟨#[]⟩, .int .i64 0, .slice none 0 0, .slice none 0 0, .slice none 0 0] 78))).heap.size = w.heap.size + 1 + 1 + 1 := by rw [jar, jar, jar]
 have X1 := (gr.block (w.heap.size) (by omega) (fun e => by have := Option.some.inj e; omega)).trans H1
 have X2 := (gr.block (w.heap.size + 1) (by omega) (fun e => by have := Option.some.inj e; omega)).trans H2
 have G1 := jaf (row := none) G0.out gr (fun g e => by cases e; exact .inr (by omega))
 have sz1 := gr.size
 obtain ⟨w1, hw1⟩ : ∃ w1, w1 = ((((w.alloc (.cells #[.string nm, .int .i64 4, .int .i64 ff, .int .i64 ii, .string ss, .int .i64 ty, .slice da dn dc, .slice ta tn tc, .slice va vn vc] 78)).alloc (.cells #[.string ⟨#[]⟩, .int .i64 0, .int .i64 0, .int .i64 0, .string ⟨#[]⟩, .int .i64 0, .slice none 0 0, .slice none 0 0, .slice none 0 0] 78)).alloc (.cells #[.string ⟨#[]⟩, .int .i64 0, .int .i64 0, .int .i64 0, .string ⟨#[]⟩, .int .i64 0, .slice none 0 0, .slice none 0 0, .slice none 0 0] 78)).setRow (w.heap.size + 1 + 1) #[.string nm, .int .i64 4, .int .i64 0, .int .i64 0, .string ⟨#[]⟩, .int .i64 0, .slice none 0 0, .slice none 0 0, .slice none 0 0]) := ⟨_, rfl⟩
 rw [← hw1] at X3 X1 X2 G1 sz1
 have hw2 := hw1.symm
 clear hw1
 obtain ⟨⟨x0, x1, x2, x3, x4, x5, x6, x7, x8⟩, xf⟩ := jaD X1
 obtain ⟨⟨z0, z1, z2, z3, z4, z5, z6, z7, z8⟩, y0, y1, y2, y3, y4, y5, y6, y7, y8⟩ := jaD X3
 have HX3 := jac X3
 have HX2 := jac X2
 have HG1 := jac G1
 have SZ : Hid (w.heap.size + 1 < w1.heap.size ∧ w.heap.size + 1 + 1 < w1.heap.size) := ⟨by omega, by omega⟩
 have n1 : w.heap.size ≠ w.heap.size + 1 + 1 := by omega
 have n2 : w.heap.size + 1 + 1 ≠ w.heap.size := by omega
 clear X1 X2 X3 G1 gr sz sz1 H1 H2 xf
 have V0 : (w1.setCell ⟨w.heap.size + 1 + 1, 5, none⟩ (.int .i64 ty)).heap[w.heap.size + 1 + 1]? = some (.cells #[.string nm, .int .i64 4, .int .i64 0, .int .i64 0, .string ⟨#[]⟩, .int .i64 ty, .slice none 0 0, .slice none 0 0, .slice none 0 0] 78 (0, 0)) := by simpa using heap_setCell_same w1 (w.heap.size + 1 + 1) 5 _ _ (.int .i64 ty) HX3.out
 have V1 : ((w1.setCell ⟨w.heap.size + 1 + 1, 5, none⟩ (.int .i64 ty)).setCell ⟨w.heap.size + 1 + 1, 6, none⟩ (.slice da dn dc)).heap[w.heap.size + 1 + 1]? = some (.cells #[.string nm, .int .i64 4, .int .i64 0, .int .i64 0, .string ⟨#[]⟩, .int .i64 ty, .slice da dn dc, .slice none 0 0, .slice none 0 0] 78 (0, 0)) := by simpa using heap_setCell_same (w1.setCell ⟨w.heap.size + 1 + 1, 5, none⟩ (.int .i64 ty)) (w.heap.size + 1 + 1) 6 _ _ (.slice da dn dc) V0
 have V2 : (((w1.setCell ⟨w.heap.size + 1 + 1, 5, none⟩ (.int .i64 ty)).setCell ⟨w.heap.size + 1 + 1, 6, none⟩ (.slice da dn dc)).setCell ⟨w.heap.size + 1 + 1, 7, none⟩ (.slice ta tn tc)).heap[w.heap.size + 1 + 1]? = some (.cells #[.string nm, .int .i64 4, .int .i64 0, .int .i64 0, .string ⟨#[]⟩, .int .i64 ty, .slice da dn dc, .slice ta tn tc, .slice none 0 0] 78 (0, 0)) := by simpa using heap_setCell_same ((w1.setCell ⟨w.heap.size + 1 + 1, 5, none⟩ (.int .i64 ty)).setCell ⟨w.heap.size + 1 + 1, 6, none⟩ (.slice da dn dc)) (w.heap.size + 1 + 1) 7 _ _ (.slice ta tn tc) V1
 have gp := Wr.row_trans (Wr.row_trans (jao w1 (w.heap.size + 1 + 1) 5 (.int .i64 ty)) (jao _ (w.heap.size + 1 + 1) 6 (.slice da dn dc))) (jao _ (w.heap.size + 1 + 1) 7 (.slice ta tn tc))
 have Y2 := (gp.block (w.heap.size + 1) SZ.out.1 (fun e => by have := Option.some.inj e; omega)).trans HX2.out
 have X9 := jac (setRow_heap _ (w.heap.size + 1) _ #[.string nm, .int .i64 4, .int .i64 0, .int .i64 0, .string ⟨#[]⟩, .int .i64 ty, .slice da dn dc, .slice ta tn tc, .slice none 0 0] _ _ Y2)
 have GX := jac (jaf (row := none) (jaf (row := none) HG1.out gp (fun g e => by cases e; exact .inr (by omega))) (jbm (((w1.setCell ⟨w.heap.size + 1 + 1, 5, none⟩ (.int .i64 ty)).setCell ⟨w.heap.size + 1 + 1, 6, none⟩ (.slice da dn dc)).setCell ⟨w.heap.size + 1 + 1, 7, none⟩ (.slice ta tn tc)) (w.heap.size + 1) #[.string nm, .int .i64 4, .int .i64 0, .int .i64 0, .string ⟨#[]⟩, .int .i64 ty, .slice da dn dc, .slice ta tn tc, .slice none 0 0]) (fun g e => by cases e; exact .inr (by omega)))
 have HV := jac V2
 clear gp V0 V1 V2
 go_enter Tryz.func136, Tryz.ntmps136
 go_wp2_with (first | (refine wpList_store_row rfl 78 (.tmp 3) (.tmp 8) rfl (w.heap.size + 1 + 1) #[.string nm, .int .i64 4, .int .i64 0, .int .i64 0, .string ⟨#[]⟩, .int .i64 0, .slice none 0 0, .slice none 0 0, .slice none 0 0] rfl rfl 78 _ H3 jbl rfl (by simp [Value.oneCell']) ?_; rw [hw2]) | (refine wpList_store_row rfl 78 (.tmp 2) (.tmp 37) rfl (w.heap.size + 1) #[.string nm, .int .i64 4, .int .i64 0, .int .i64 0, .string ⟨#[]⟩, .int .i64 ty, .slice da dn dc, .slice ta tn tc, .slice none 0 0] rfl rfl 78 _ Y2 jbl rfl (by simp [Value.oneCell']) ?_))
 refine bodyPost_ret (jcu rfl _ _ (w.heap.size + 1) rfl X9.out) rfl ?_
 exact jaE (HR.out.trans (by first | rfl | simp [jcv])) GX.out rfl
theorem jks (a : Atr) (w : World) (h : a.kind = 7) : Calls Tryz.prog 136 #[jcn a] w (jbA w (jcv a) fun b v _ => v = jcn b) := by
 obtain ⟨nm, kd, ff, ii, ss, ty, ⟨da, dn, dc⟩, ⟨ta, tn, tc⟩, ⟨va, vn, vc⟩⟩ := a
 unfold jcn
 simp only at *
 obtain ⟨R0, hR0⟩ : ∃ r, r = jcv ⟨nm, kd, ff, ii, ss, ty, ⟨da, dn, dc⟩, ⟨ta, tn, tc⟩, ⟨va, vn, vc⟩⟩ := ⟨_, rfl⟩
 rw [← hR0]
 have HR := jac hR0
 clear hR0
 subst h
 have G0 : Hid (w.grownBy ((((w.alloc (.cells #[.string nm, .int .i64 7, .int .i64 ff, .int .i64 ii, .string ss, .int .i64 ty, .slice da dn dc, .slice ta tn tc, .slice va vn vc] 78)).alloc (.cells #[.string ⟨#[]⟩, .int .i64 0, .int .i64 0, .int .i64 0, .string ⟨#[]⟩, .int .i64 0, .slice none 0 0, .slice none 0 0, .slice none 0 0] 78)).alloc (.cells #[.string ⟨#[]⟩, .int .i64 0, .int .i64 0, .int .i64 0, .string ⟨#[]⟩, .int .i64 0, .slice none 0 0, .slice none 0 0, .slice none 0 0] 78))) none) := jaa (jaa (jab _ _) (jab _ _)) (jab _ _)
 have H3 := jbM w #[.string nm, .int .i64 7, .int .i64 ff, .int .i64 ii, .string ss, .int .i64 ty, .slice da dn dc, .slice ta tn tc, .slice va vn vc] #[.string ⟨#[]⟩, .int .i64 0, .int .i64 0, .int .i64 0, .string ⟨#[]⟩, .int .i64 0, .slice none 0 0, .slice none 0 0, .slice none 0 0] #[.string ⟨#[]⟩, .int .i64 0, .int .i64 0, .int .i64 0, .string ⟨#[]⟩, .int .i64 0, .slice none 0 0, .slice none 0 0, .slice none 0 0] 78 78 78
 have H2 := jbu w #[.string nm, .int .i64 7, .int .i64 ff, .int .i64 ii, .string ss, .int .i64 ty, .slice da dn dc, .slice ta tn tc, .slice va vn vc] #[.string ⟨#[]⟩, .int .i64 0, .int .i64 0, .int .i64 0, .string ⟨#[]⟩, .int .i64 0, .slice none 0 0, .slice none 0 0, .slice none 0 0] #[.string ⟨#[]⟩, .int .i64 0, .int .i64 0, .int .i64 0, .string ⟨#[]⟩, .int .i64 0, .slice none 0 0, .slice none 0 0, .slice none 0 0] 78 78 78
 have H1 := jbL w #[.string nm, .int .i64 7, .int .i64 ff, .int .i64 ii, .string ss, .int .i64 ty, .slice da dn dc, .slice ta tn tc, .slice va vn vc] #[.string ⟨#[]⟩, .int .i64 0, .int .i64 0, .int .i64 0, .string ⟨#[]⟩, .int .i64 0, .slice none 0 0, .slice none 0 0, .slice none 0 0] #[.string ⟨#[]⟩, .int .i64 0, .int .i64 0, .int .i64 0, .string ⟨#[]⟩, .int .i64 0, .slice none 0 0, .slice none 0 0, .slice none 0 0] 78 78 78
 have X3 := setRow_heap _ (w.heap.size + 1 + 1) _ #[.string nm, .int .i64 7, .int .i64 0, .int .i64 0, .string ⟨#[]⟩, .int .i64 0, .slice none 0 0, .slice none 0 0, .slice none 0 0] _ _ H3
 have gr := jbm ((((w.alloc (.cells #[.string nm, .int .i64 7, .int .i64 ff, .int .i64 ii, .string ss, .int .i64 ty, .slice da dn dc, .slice ta tn tc, .slice va vn vc] 78)).alloc (.cells #[.string ⟨#[]⟩, .int .i64 0, .int .i64 0, .int .i64 0, .string ⟨#[]⟩, .int .i64 0, .slice none 0 0, .slice none 0 0, .slice none 0 0] 78)).alloc (.cells #[.string ⟨#[]⟩, .int .i64 0, .int .i64 0, .int .i64 0, .string ⟨#[]⟩, .int .i64 0, .slice none 0 0, .slice none 0 0, .slice none 0 0] 78))) (w.heap.size + 1 + 1) #[.string nm, .int .i64 7, .int .i64 0, .int .i64 0, .string ⟨#[]⟩, .int .i64 0, .slice none 0 0, .slice none 0 0, .slice none 0 0]
 have sz : ((((w.alloc (.cells #[.string nm, .int .i64 7, .int .i64 ff, .int .i64 ii, .string ss, .int .i64 ty, .slice da dn dc, .slice ta tn tc, .slice va vn vc] 78)).alloc (.cells #[.string ⟨#[]⟩, .int .i64 0, .int .i64 0, .int .i64 0, .string ⟨#[]⟩, .int .i64 0, .slice none 0 0, .slice none 0 0, .slice none 0 0] 78)).alloc (.cells #[.string ⟨#[]⟩, .int .i64 0, .int .i64 0, .int .i64 0, .string ⟨#[]⟩, .int .i64 0, .slice none 0 0, .slice none 0 0, .slice none 0 0] 78))).heap.size = w.heap.size + 1 + 1 + 1 := by rw [jar, jar, jar]
 have X1 := (gr.block (w.heap.size) (by omega) (fun e => by have := Option.some.inj e; omega)).trans H1
 have X2 := (gr.block (w.heap.size + 1) (by omega) (fun e => by have := Option.some.inj e; omega)).trans H2
 have G1 := jaf (row := none) G0.out gr (fun g e => by cases e; exact .inr (by omega))
 have sz1 := gr.size
 obtain ⟨w1, hw1⟩ : ∃ w1, w1 = ((((w.alloc (.cells #[.string nm, .int .i64 7, .int .i64 ff, .int .i64 ii, .string ss, .int .i64 ty, .slice da dn dc, .slice ta tn tc, .slice va vn vc] 78)).alloc (.cells #[.string ⟨#[]⟩, .int .i64 0, .int .i64 0, .int .i64 0, .string ⟨#[]⟩, .int .i64 0, .slice none 0 0, .slice none 0 0, .slice none 0 0] 78)).alloc (.cells #[.string ⟨#[]⟩, .int .i64 0, .int .i64 0, .int .i64 0, .string ⟨#[]⟩, .int .i64 0, .slice none 0 0, .slice none 0 0, .slice none 0 0] 78)).setRow (w.heap.size + 1 + 1) #[.string nm, .int .i64 7, .int .i64 0, .int .i64 0, .string ⟨#[]⟩, .int .i64 0, .slice none 0 0, .slice none 0 0, .slice none 0 0]) := ⟨_, rfl⟩
 rw [← hw1] at X3 X1 X2 G1 sz1
 have hw2 := hw1.symm
 clear hw1
 obtain ⟨⟨x0, x1, x2, x3, x4, x5, x6, x7, x8⟩, xf⟩ := jaD X1
 obtain ⟨⟨z0, z1, z2, z3, z4, z5, z6, z7, z8⟩, y0, y1, y2, y3, y4, y5, y6, y7, y8⟩ := jaD X3
 have HX3 := jac X3
 have HX2 := jac X2
 have HG1 := jac G1
 have SZ : Hid (w.heap.size + 1 < w1.heap.size ∧ w.heap.size + 1 + 1 < w1.heap.size) := ⟨by omega, by omega⟩
 have n1 : w.heap.size ≠ w.heap.size + 1 + 1 := by omega
 have n2 : w.heap.size + 1 + 1 ≠ w.heap.size := by omega
 clear X1 X2 X3 G1 gr sz sz1 H1 H2 xf
 have V0 : (w1.setCell ⟨w.heap.size + 1 + 1, 8, none⟩ (.slice va vn vc)).heap[w.heap.size + 1 + 1]? = some (.cells #[.string nm, .int .i64 7, .int .i64 0, .int .i64 0, .string ⟨#[]⟩, .int .i64 0, .slice none 0 0, .slice none 0 0, .slice va vn vc] 78 (0, 0)) := by simpa using heap_setCell_same w1 (w.heap.size + 1 + 1) 8 _ _ (.slice va vn vc) HX3.out
 have gp := jao w1 (w.heap.size + 1 + 1) 8 (.slice va vn vc)
 have Y2 := (gp.block (w.heap.size + 1) SZ.out.1 (fun e => by have := Option.some.inj e; omega)).trans HX2.out
 have X9 := jac (setRow_heap _ (w.heap.size + 1) _ #[.string nm, .int .i64 7, .int .i64 0, .int .i64 0, .string ⟨#[]⟩, .int .i64 0, .slice none 0 0, .slice none 0 0, .slice va vn vc] _ _ Y2)
 have GX := jac (jaf (row := none) (jaf (row := none) HG1.out gp (fun g e => by cases e; exact .inr (by omega))) (jbm (w1.setCell ⟨w.heap.size + 1 + 1, 8, none⟩ (.slice va vn vc)) (w.heap.size + 1) #[.string nm, .int .i64 7, .int .i64 0, .int .i64 0, .string ⟨#[]⟩, .int .i64 0, .slice none 0 0, .slice none 0 0, .slice va vn vc]) (fun g e => by cases e; exact .inr (by omega)))
 have HV := jac V0
 clear gp V0
 go_enter Tryz.func136, Tryz.ntmps136
 go_wp2_with (first | (refine wpList_store_row rfl 78 (.tmp 3) (.tmp 8) rfl (w.heap.size + 1 + 1) #[.string nm, .int .i64 7, .int .i64 0, .int .i64 0, .string ⟨#[]⟩, .int .i64 0, .slice none 0 0, .slice none 0 0, .slice none 0 0] rfl rfl 78 _ H3 jbl rfl (by simp [Value.oneCell']) ?_; rw [hw2]) | (refine wpList_store_row rfl 78 (.tmp 2) (.tmp 37) rfl (w.heap.size + 1) #[.string nm, .int .i64 7, .int .i64 0, .int .i64 0, .string ⟨#[]⟩, .int .i64 0, .slice none 0 0, .slice none 0 0, .slice va vn vc] rfl rfl 78 _ Y2 jbl rfl (by simp [Value.oneCell']) ?_))
 refine bodyPost_ret (jcu rfl _ _ (w.heap.size + 1) rfl X9.out) rfl ?_
 exact jaE (HR.out.trans (by first | rfl | simp [jcv])) GX.out rfl
theorem jhk (a : Atr) (w : World) (h1 : ¬ a.kind = 1) (h2 : ¬ a.kind = 2) (h3 : ¬ a.kind = 3) (h4 : ¬ a.kind = 4) (h7 : ¬ a.kind = 7) : Calls Tryz.prog 136 #[jcn a] w (jbA w (jcv a) fun b v _ => v = jcn b) := by
 obtain ⟨nm, kd, ff, ii, ss, ty, ⟨da, dn, dc⟩, ⟨ta, tn, tc⟩, ⟨va, vn, vc⟩⟩ := a
 unfold jcn
 simp only at *
 obtain ⟨R0, hR0⟩ : ∃ r, r = jcv ⟨nm, kd, ff, ii, ss, ty, ⟨da, dn, dc⟩, ⟨ta, tn, tc⟩, ⟨va, vn, vc⟩⟩ := ⟨_, rfl⟩
 rw [← hR0]
 have HR := jac hR0
 clear hR0
 have b1 : (kd == 1) = false := by simpa using h1
 have b2 : (kd == 2) = false := by simpa using h2
 have b3 : (kd == 3) = false := by simpa using h3
 have b4 : (kd == 4) = false := by simpa using h4
 have b7 : (kd == 7) = false := by simpa using h7
 have E : Hid (R0 = .error 5) := by show _ = _; rw [HR.out]; unfold jcv; simp only; rw [if_neg h1, if_neg h2, if_neg h3, if_neg h4, if_neg h7]
 clear h1 h2 h3 h4 h7
 have G0 : Hid (w.grownBy ((((w.alloc (.cells #[.string nm, .int .i64 kd, .int .i64 ff, .int .i64 ii, .string ss, .int .i64 ty, .slice da dn dc, .slice ta tn tc, .slice va vn vc] 78)).alloc (.cells #[.string ⟨#[]⟩, .int .i64 0, .int .i64 0, .int .i64 0, .string ⟨#[]⟩, .int .i64 0, .slice none 0 0, .slice none 0 0, .slice none 0 0] 78)).alloc (.cells #[.string ⟨#[]⟩, .int .i64 0, .int .i64 0, .int .i64 0, .string ⟨#[]⟩, .int .i64 0, .slice none 0 0, .slice none 0 0, .slice none 0 0] 78))) none) := jaa (jaa (jab _ _) (jab _ _)) (jab _ _)
 have H3 := jbM w #[.string nm, .int .i64 kd, .int .i64 ff, .int .i64 ii, .string ss, .int .i64 ty, .slice da dn dc, .slice ta tn tc, .slice va vn vc] #[.string ⟨#[]⟩, .int .i64 0, .int .i64 0, .int .i64 0, .string ⟨#[]⟩, .int .i64 0, .slice none 0 0, .slice none 0 0, .slice none 0 0] #[.string ⟨#[]⟩, .int .i64 0, .int .i64 0, .int .i64 0, .string ⟨#[]⟩, .int .i64 0, .slice none 0 0, .slice none 0 0, .slice none 0 0] 78 78 78
 have H2 := jbu w #[.string nm, .int .i64 kd, .int .i64 ff, .int .i64 ii, .string ss, .int .i64 ty, .slice da dn dc, .slice ta tn tc, .slice va vn vc] #[.string ⟨#[]⟩, .int .i64 0, .int .i64 0, .int .i64 0, .string ⟨#[]⟩, .int .i64 0, .slice none 0 0, .slice none 0 0, .slice none 0 0] #[.string ⟨#[]⟩, .int .i64 0, .int .i64 0, .int .i64 0, .string ⟨#[]⟩, .int .i64 0, .slice none 0 0, .slice none 0 0, .slice none 0 0] 78 78 78
 have H1 := jbL w #[.string nm, .int .i64 kd, .int .i64 ff, .int .i64 ii, .string ss, .int .i64 ty, .slice da dn dc, .slice ta tn tc, .slice va vn vc] #[.string ⟨#[]⟩, .int .i64 0, .int .i64 0, .int .i64 0, .string ⟨#[]⟩, .int .i64 0, .slice none 0 0, .slice none 0 0, .slice none 0 0] #[.string ⟨#[]⟩, .int .i64 0, .int .i64 0, .int .i64 0, .string ⟨#[]⟩, .int .i64 0, .slice none 0 0, .slice none 0 0, .slice none 0 0] 78 78 78
 have X3 := setRow_heap _ (w.heap.size + 1 + 1) _ #[.string nm, .int .i64 kd, .int .i64 0, .int .i64 0, .string ⟨#[]⟩, .int .i64 0, .slice none 0 0, .slice none 0 0, .slice none 0 0] _ _ H3
 have gr := jbm ((((w.alloc (.cells #[.string nm, .int .i64 kd, .int .i64 ff, .int .i64 ii, .string ss, .int .i64 ty, .slice da dn dc, .slice ta tn tc, .slice va vn vc] 78)).alloc (.cells #[.string ⟨#[]⟩, .int .i64 0, .int .i64 0, .int .i64 0, .string ⟨#[]⟩, .int .i64 0, .slice none 0 0, .slice none 0 0, .slice none 0 0] 78)).alloc (.cells #[.string ⟨#[]⟩, .int .i64 0, .int .i64 0, .int .i64 0, .string ⟨#[]⟩, .int .i64 0, .slice none 0 0, .slice none 0 0, .slice none 0 0] 78))) (w.heap.size + 1 + 1) #[.string nm, .int .i64 kd, .int .i64 0, .int .i64 0, .string ⟨#[]⟩, .int .i64 0, .slice none 0 0, .slice none 0 0, .slice none 0 0]
 have sz : ((((w.alloc (.cells #[.string nm, .int .i64 kd, .int .i64 ff, .int .i64 ii, .string ss, .int .i64 ty, .slice da dn dc, .slice ta tn tc, .slice va vn vc] 78)).alloc (.cells #[.string ⟨#[]⟩, .int .i64 0, .int .i64 0, .int .i64 0, .string ⟨#[]⟩, .int .i64 0, .slice none 0 0, .slice none 0 0, .slice none 0 0] 78)).alloc (.cells #[.string ⟨#[]⟩, .int .i64 0, .int .i64 0, .int .i64 0, .string ⟨#[]⟩, .int .i64 0, .slice none 0 0, .slice none 0 0, .slice none 0 0] 78))).heap.size = w.heap.size + 1 + 1 + 1 := by rw [jar, jar, jar]
 have X1 := (gr.block (w.heap.size) (by omega) (fun e => by have := Option.some.inj e; omega)).trans H1
 have X2 := (gr.block (w.heap.size + 1) (by omega) (fun e => by have := Option.some.inj e; omega)).trans H2
 have G1 := jaf (row := none) G0.out gr (fun g e => by cases e; exact .inr (by omega))
 have sz1 := gr.size
 obtain ⟨w1, hw1⟩ : ∃ w1, w1 = ((((w.alloc (.cells #[.string nm, .int .i64 kd, .int .i64 ff, .int .i64 ii, .string ss, .int .i64 ty, .slice da dn dc, .slice ta tn tc, .slice va vn vc] 78)).alloc (.cells #[.string ⟨#[]⟩, .int .i64 0, .int .i64 0, .int .i64 0, .string ⟨#[]⟩, .int .i64 0, .slice none 0 0, .slice none 0 0, .slice none 0 0] 78)).alloc (.cells #[.string ⟨#[]⟩, .int .i64 0, .int .i64 0, .int .i64 0, .string ⟨#[]⟩, .int .i64 0, .slice none 0 0, .slice none 0 0, .slice none 0 0] 78)).setRow (w.heap.size + 1 + 1) #[.string nm, .int .i64 kd, .int .i64 0, .int .i64 0, .string ⟨#[]⟩, .int .i64 0, .slice none 0 0, .slice none 0 0, .slice none 0 0]) := ⟨_, rfl⟩
 rw [← hw1] at X3 X1 X2 G1 sz1
 have hw2 := hw1.symm
 clear hw1
 obtain ⟨⟨x0, x1, x2, x3, x4, x5, x6, x7, x8⟩, xf⟩ := jaD X1
 obtain ⟨⟨z0, z1, z2, z3, z4, z5, z6, z7, z8⟩, y0, y1, y2, y3, y4, y5, y6, y7, y8⟩ := jaD X3
 have HX3 := jac X3
 have HX2 := jac X2
 have HG1 := jac G1
 have SZ : Hid (w.heap.size + 1 < w1.heap.size ∧ w.heap.size + 1 + 1 < w1.heap.size) := ⟨by omega, by omega⟩
 have n1 : w.heap.size ≠ w.heap.size + 1 + 1 := by omega
 have n2 : w.heap.size + 1 + 1 ≠ w.heap.size := by omega
 clear X1 X2 X3 G1 gr sz sz1 H1 H2 xf
 go_enter Tryz.func136, Tryz.ntmps136
 go_wp2_with (first | (refine wpList_store_row rfl 78 (.tmp 3) (.tmp 8) rfl (w.heap.size + 1 + 1) #[.string nm, .int .i64 kd, .int .i64 0, .int .i64 0, .string ⟨#[]⟩, .int .i64 0, .slice none 0 0, .slice none 0 0, .slice none 0 0] rfl rfl 78 _ H3 jbl rfl (by simp [Value.oneCell']) ?_; rw [hw2]) | (go_at_call 79; refine (jdB _ (by decide) _).mono ?_; rintro e w' ⟨rfl, rfl⟩))
 exact ⟨rfl, jad E.out HG1.out⟩
theorem jfJ (a : Atr) (w : World) : Calls Tryz.prog 136 #[jcn a] w (jbA w (jcv a) fun b v _ => v = jcn b) := by
 by_cases h1 : a.kind = 1
 ·exact jko a w h1
 by_cases h2 : a.kind = 2
 ·exact jkp a w h2
 by_cases h3 : a.kind = 3
 ·exact jkq a w h3
 by_cases h4 : a.kind = 4
 ·exact jkr a w h4
 by_cases h7 : a.kind = 7
 ·exact jks a w h7
 exact jhk a w h1 h2 h3 h4 h7
end Go.Proofs.YtbgbpfbjeleooaaGreat.Pd
namespace Go.Proofs.YtbgbpfbjeleooaaGreat.Pd
open Go.RowKit
open Wr (Fld)
structure ASt where
 name : ByteArray
 f : Int
 i : Int
 s : ByteArray
 ts : List ByteArray
 ints : List Int
 kind : Int
def a0 : ASt := ⟨⟨#[]⟩, 0, 0, ⟨#[]⟩, [], [], 0⟩
def jaU (s : ASt) (x : Fld) : R ASt :=
 if x.num = 1 then (jbI x).bind fun t => .ok ⟨t, s.f, s.i, s.s, s.ts, s.ints, s.kind⟩
 else if x.num = 2 then (jcx x).bind fun y => .ok ⟨s.name, y, s.i, s.s, s.ts, s.ints, s.kind⟩
 else if x.num = 3 then (jbv x).bind fun y => .ok ⟨s.name, s.f, y, s.s, s.ts, s.ints, s.kind⟩
 else if x.num = 4 then (jbI x).bind fun t => .ok ⟨s.name, s.f, s.i, t, s.ts, s.ints, s.kind⟩
 else if x.num = 5 then (jbI x).bind fun t => .ok ⟨s.name, s.f, s.i, s.s, s.ts ++ [t], s.ints, s.kind⟩
 else if x.num = 8 then (ja7 s.ints x).bind fun l => .ok ⟨s.name, s.f, s.i, s.s, s.ts, l, s.kind⟩
 else if x.num = 20 then (jbv x).bind fun y => .ok ⟨s.name, s.f, s.i, s.s, s.ts, s.ints, y⟩
 else .ok s
structure NAtr where
 name : ByteArray
 kind : Int
 f : Int
 i : Int
 s : ByteArray
 ty : Int
 dims : List Int
 data : List Int
 ints : List Int
def jbT (a : Atr) (c : Cont) : NAtr := ⟨a.name, a.kind, a.f, a.i, a.s, a.ty, c.d, c.t, c.i⟩
def jcI (a : NAtr) : R NAtr :=
 if a.kind = 1 then .ok ⟨a.name, a.kind, a.f, 0, ⟨#[]⟩, 0, [], [], []⟩
 else if a.kind = 2 then .ok ⟨a.name, a.kind, 0, a.i, ⟨#[]⟩, 0, [], [], []⟩
 else if a.kind = 3 then .ok ⟨a.name, a.kind, 0, 0, a.s, 0, [], [], []⟩
 else if a.kind = 4 then .ok ⟨a.name, a.kind, 0, 0, ⟨#[]⟩, a.ty, a.dims, a.data, []⟩
 else if a.kind = 7 then .ok ⟨a.name, a.kind, 0, 0, ⟨#[]⟩, 0, [], [], a.ints⟩
 else .error 5
def jk4 (n m : Nat) (a : Atr) : Prop := ∀ (c : Cont) (b : Nat), jfI a c b → n ≤ b ∧ b < m
theorem jbo (w : World) : jaw w (.slice none 0 0) [] := ⟨none, 0, rfl, by simp, by simp, by simp, fun _ => ⟨rfl, rfl⟩, fun h => by simp at h, fun z hz => by simp at hz⟩
theorem jk5 (b : Nat) : (Value.slice none 0 0).ownBlock ≠ some b := by simp [Value.ownBlock]
theorem jjh {a b : Atr} {c : Cont} {w : World} {n m : Nat} (h : jcv a = .ok b) (hs : Has w a c) (hf : jk4 n m a) : ∃ d, jcI (jbT a c) = .ok (jbT b d) ∧ Has w b d ∧ jk4 n m b := by
 unfold jcv at h
 unfold jcI jbT
 simp only
 split at h
 ·rename_i k
  cases h
  exact ⟨⟨[], [], []⟩, by rw [if_pos k], ⟨jbo _, jbo _, jbo _⟩, fun _ b e => by rcases e with e | e | e <;> exact absurd e (jk5 b)⟩
 split at h
 ·rename_i k1 k
  cases h
  exact ⟨⟨[], [], []⟩, by rw [if_neg k1, if_pos k], ⟨jbo _, jbo _, jbo _⟩, fun _ b e => by rcases e with e | e | e <;> exact absurd e (jk5 b)⟩
 split at h
 ·rename_i k1 k2 k
  cases h
  exact ⟨⟨[], [], []⟩, by rw [if_neg k1, if_neg k2, if_pos k], ⟨jbo _, jbo _, jbo _⟩, fun _ b e => by rcases e with e | e | e <;> exact absurd e (jk5 b)⟩
 split at h
 ·rename_i k1 k2 k3 k
  cases h
  exact ⟨⟨c.d, c.t, []⟩, by rw [if_neg k1, if_neg k2, if_neg k3, if_pos k], ⟨hs.d, hs.t, jbo _⟩, fun _ b e => by
   rcases e with e | e | e
   ·exact hf c b (.inl e)
   ·exact hf c b (.inr (.inl e))
   ·exact absurd e (jk5 b)⟩
 split at h
 ·rename_i k1 k2 k3 k4 k
  cases h
  exact ⟨⟨[], [], c.i⟩, by rw [if_neg k1, if_neg k2, if_neg k3, if_neg k4, if_pos k], ⟨jbo _, jbo _, hs.i⟩, fun _ b e => by
   rcases e with e | e | e
   ·exact absurd e (jk5 b)
   ·exact absurd e (jk5 b)
   ·exact hf c b (.inr (.inr e))⟩
 ·cases h
theorem jhK {a : Atr} {e : Int} (c : Cont) (h : jcv a = .error e) : jcI (jbT a c) = .error e := by
 unfold jcv at h
 unfold jcI jbT
 simp only
 split at h
 ·cases h
 split at h
 ·cases h
 split at h
 ·cases h
 split at h
 ·cases h
 split at h
 ·cases h
 ·rename_i k1 k2 k3 k4 k5
  rw [if_neg k1, if_neg k2, if_neg k3, if_neg k4, if_neg k5]
  cases h
  rfl
def tens0 : NTen := ⟨⟨#[]⟩, 0, [], []⟩
def jkt (ts : List ByteArray) : R NTen := if ts.length = 0 then .ok tens0 else jaC (jca ts)
def jfj (t : ASt) : R NAtr := (jkt t.ts).bind fun T => (jcI ⟨t.name, t.kind, t.f, t.i, t.s, T.ty, T.dims, T.data, t.ints⟩).bind fun A => (jaj (decide (A.kind = 4) && t.ts.length == 0) 4).bind fun _ => (jaj (jaQ [A.name, A.s] || decide (20 < A.ints.length)) 6).bind fun _ => .ok A
def jav (s : ByteArray) : R NAtr := (jaM s).bind fun l => (jaH jaU a0 l).bind jfj
def AInv (st : ASt) (r : List Fld) : Prop := st.ints.length + jfu r ≤ 33554432 ∧ st.ts.length + r.length ≤ 16777216 ∧ tot st.ts + tot (r.map (·.b)) ≤ 16777216 ∧ (-9223372036854775808 ≤ st.kind ∧ st.kind ≤ 9223372036854775807) ∧ ∀ y ∈ r, y.b.size ≤ 16777216
theorem jdn {nm s : ByteArray} {f i k : Int} {ts : List ByteArray} {ints : List Int} {r : List Fld} (h1 : ints.length + jfu r ≤ 33554432) (h2 : ts.length + r.length ≤ 16777216) (h3 : tot ts + tot (r.map (·.b)) ≤ 16777216) (h4 : -9223372036854775808 ≤ k ∧ k ≤ 9223372036854775807) (h5 : ∀ y ∈ r, y.b.size ≤ 16777216) : AInv ⟨nm, f, i, s, ts, ints, k⟩ r := ⟨h1, h2, h3, h4, h5⟩
theorem jig {s : ByteArray} {l : List Fld} (h : jaM s = .ok l) : AInv a0 l := by
 have h1 := jcj h
 have h2 := jbb h
 have hc : jfu l ≤ 33554432 := by unfold jfu; omega
 exact ⟨by simpa [a0] using hc, by simpa [a0] using h2, by simpa [a0, tot] using h1, by decide, fun y hy => jdi h y hy⟩
theorem jli {w : World} {B : Nat} {z0 z1 z2 z3 z4 z5 z6 z7 z8 : Value} {t : TypeId} (hb : w.heap[B]? = some (.cells #[z0, z1, z2, z3, z4, z5, z6, z7, z8] t (0, 0))) (a : Value) :
    (w.setCell ⟨B, 0, none⟩ a).heap[B]? = some (.cells #[a, z1, z2, z3, z4, z5, z6, z7, z8] t (0, 0)) ∧ (w.setCell ⟨B, 1, none⟩ a).heap[B]? = some (.cells #[z0, a, z2, z3, z4, z5, z6, z7, z8] t (0, 0)) ∧ (w.setCell ⟨B, 2, none⟩ a).heap[B]? = some (.cells #[z0, z1, a, z3, z4, z5, z6, z7, z8] t (0, 0)) ∧ (w.setCell ⟨B, 3, none⟩ a).heap[B]? = some (.cells #[z0, z1, z2, a, z4, z5, z6, z7, z8] t (0, 0)) ∧ (w.setCell ⟨B, 4, none⟩ a).heap[B]? = some (.cells #[z0, z1, z2, z3, a, z5, z6, z7, z8] t (0, 0)) ∧ (w.setCell ⟨B, 8, none⟩ a).heap[B]? = some (.cells #[z0, z1, z2, z3, z4, z5, z6, z7, a] t (0, 0)) :=
     ⟨by simpa using heap_setCell_same w B 0 _ _ a hb, by simpa using heap_setCell_same w B 1 _ _ a hb, by simpa using heap_setCell_same w B 2 _ _ a hb, by simpa using heap_setCell_same w B 3 _ _ a hb, by simpa using heap_setCell_same w B 4 _ _ a hb, by simpa using heap_setCell_same w B 8 _ _ a hb⟩
theorem put9t {w : World} {B : Nat} {z0 z1 z2 z3 z4 z5 z6 z7 z8 : Value} {t : TypeId} (hb : w.heap[B]? = some (.cells #[z0, z1, z2, z3, z4, z5, z6, z7, z8] t (0, 0))) (a b c : Value) :
    (((w.setCell ⟨B, 5, none⟩ a).setCell ⟨B, 6, none⟩ b).setCell ⟨B, 7, none⟩ c).heap[B]? = some (.cells #[z0, z1, z2, z3, z4, a, b, c, z8] t (0, 0)) ∧ w.grownBy (((w.setCell ⟨B, 5, none⟩ a).setCell ⟨B, 6, none⟩ b).setCell ⟨B, 7, none⟩ c) (some B) := by
     have h1 := heap_setCell_same w B 5 _ _ a hb
     have h2 := heap_setCell_same _ B 6 _ _ b h1
     have h3 := heap_setCell_same _ B 7 _ _ c h2
     exact ⟨by simpa using h3, Wr.row_trans (Wr.row_trans (jao w B 5 a) (jao _ B 6 b)) (jao _ B 7 c)⟩
theorem jji {w : World} {B : Nat} {cs0 cs : Array Value} {t : TypeId} (hb : w.heap[B]? = some (.cells cs0 t (0, 0))) : (w.setRow B cs).heap[B]? = some (.cells cs t (0, 0)) ∧ w.grownBy (w.setRow B cs) (some B) := ⟨setRow_heap _ B _ cs _ _ hb, jbm w B cs⟩
end Go.Proofs.YtbgbpfbjeleooaaGreat.Pd
