/- The five lists of a graph's nodes are made, in whatever order. -/
import Derived.Test.YtmdpeckeliplkaaDoorLvOfMJ
import Derived.Test.YtmdpeckeliplkaaDoorLvRowsWJ
namespace Go.Proofs.YtmdpeckeliplkaaDoor
open Go.RowKit

/-- The operations that make them. -/
def on0 : Oper := { dst := some 26, op := .move (.tmp 6), type := 3, pos := "needs.go:27", after := #[], guard := none }
def on1 : Oper := { dst := some 27, op := .makeSlice 22 (.tmp 26) (.tmp 26), type := 22, pos := "needs.go:27", after := #[⟨0, .data⟩, ⟨0, .data⟩], guard := none }
def on2 : Oper := { dst := some 28, op := .move (.tmp 6), type := 3, pos := "needs.go:27", after := #[], guard := none }
def on3 : Oper := { dst := some 29, op := .makeSlice 61 (.tmp 28) (.tmp 28), type := 61, pos := "needs.go:27", after := #[⟨2, .data⟩, ⟨2, .data⟩], guard := none }
def on4 : Oper := { dst := some 30, op := .move (.tmp 6), type := 3, pos := "needs.go:27", after := #[], guard := none }
def on5 : Oper := { dst := some 31, op := .makeSlice 61 (.tmp 30) (.tmp 30), type := 61, pos := "needs.go:27", after := #[⟨4, .data⟩, ⟨4, .data⟩], guard := none }
def on6 : Oper := { dst := some 32, op := .move (.tmp 6), type := 3, pos := "needs.go:27", after := #[], guard := none }
def on7 : Oper := { dst := some 33, op := .makeSlice 35 (.tmp 32) (.tmp 32), type := 35, pos := "needs.go:27", after := #[⟨6, .data⟩, ⟨6, .data⟩], guard := none }
def on8 : Oper := { dst := some 34, op := .build 63 #[(0, .tmp 27), (1, .tmp 29), (2, .tmp 31), (3, .tmp 33)], type := 63, pos := "needs.go:27", after := #[⟨1, .data⟩, ⟨3, .data⟩, ⟨5, .data⟩, ⟨7, .data⟩], guard := none }
def on9 : Oper := { dst := some 7, op := .alloc 63, type := 0, pos := "needs.go:27", after := #[], guard := none }
def on10 : Oper := { dst := none, op := .store 63 (.tmp 7) (.tmp 34), type := 0, pos := "needs.go:27", after := #[⟨9, .data⟩, ⟨8, .data⟩, ⟨0, .phase⟩, ⟨1, .phase⟩, ⟨2, .phase⟩, ⟨3, .phase⟩, ⟨4, .phase⟩, ⟨5, .phase⟩, ⟨6, .phase⟩, ⟨7, .phase⟩, ⟨8, .phase⟩, ⟨9, .phase⟩], guard := none }

def opsN : Array Oper := #[on0, on1, on2, on3, on4, on5, on6, on7, on8, on9, on10]

theorem step_make {o : Oper} {t : TypeId} {d : Option Tmp} {x : Tmp} {a : Act} {w w' : World} {n : Int} {v : Value} {K : Act → World → Prop} {Q : Exit → Act → World → Prop} (ho : o.op = .makeSlice t (.tmp x) (.tmp x)) (hd : o.dst = d) (hx : a.tmps.getD x undef = .int .i64 n) (mk : (Instr.makeSlice t (.int .i64 n) (.int .i64 n)).run Tryd.prog w = .ok v w') (hk : K (a.put d v) w') : Oper.wp Tryd.prog o a w K Q := by
  subst hd
  unfold Oper.wp execOp
  simp only [ho, Act.eval, hx]
  simp only [Sem.run_bind, mk, Result.andThen, Sem.run_pure]
  exact hk

set_option maxRecDepth 100000 in
theorem step_alloc {o : Oper} {d : Option Tmp} {a : Act} {w : World} {K : Act → World → Prop} {Q : Exit → Act → World → Prop} (ho : o.op = .alloc 63) (hd : o.dst = d) (hk : K (a.put d (.pointer (some ⟨w.heap.size, 0, none⟩))) (w.alloc (.cells #[.slice none 0 0, .slice none 0 0, .slice none 0 0, .slice none 0 0] 63))) : Oper.wp Tryd.prog o a w K Q := by
  subst hd
  unfold Oper.wp execOp
  simp only [ho]
  go_simp
  exact hk

set_option maxRecDepth 100000 in
theorem run_build (w : World) (p1 p2 p3 p4 : Option Addr) (n1 n2 n3 n4 c1 c2 c3 c4 : Nat) (a : Act) (h1 : a.tmps.getD 27 undef = .slice p1 n1 c1) (h2 : a.tmps.getD 29 undef = .slice p2 n2 c2) (h3 : a.tmps.getD 31 undef = .slice p3 n3 c3) (h4 : a.tmps.getD 33 undef = .slice p4 n4 c4) (o : Oper) (ho : o.op = .build 63 #[(0, .tmp 27), (1, .tmp 29), (2, .tmp 31), (3, .tmp 33)]) :
    (execOp a.eval o).run Tryd.prog w = .ok (.value (.agg #[.slice p1 n1 c1, .slice p2 n2 c2, .slice p3 n3 c3, .slice p4 n4 c4])) w := by
  have e1 : a.eval (.tmp 27) = .slice p1 n1 c1 := h1
  have e2 : a.eval (.tmp 29) = .slice p2 n2 c2 := h2
  have e3 : a.eval (.tmp 31) = .slice p3 n3 c3 := h3
  have e4 : a.eval (.tmp 33) = .slice p4 n4 c4 := h4
  obtain ⟨f, hf⟩ : ∃ f, f = a.eval := ⟨_, rfl⟩
  rw [← hf] at e1 e2 e3 e4 ⊢
  clear hf h1 h2 h3 h4
  unfold execOp
  simp only [ho]
  go_simp

set_option maxRecDepth 100000 in
theorem run_store {a : Act} {w : World} {B : Nat} {p1 p2 p3 p4 : Option Addr} {n1 n2 n3 n4 c1 c2 c3 c4 : Nat} (o : Oper) (ho : o.op = .store 63 (.tmp 7) (.tmp 34)) (h1 : a.tmps.getD 7 undef = .pointer (some ⟨B, 0, none⟩)) (h2 : a.tmps.getD 34 undef = .agg #[.slice p1 n1 c1, .slice p2 n2 c2, .slice p3 n3 c3, .slice p4 n4 c4]) (hb : w.heap[B]? = some (.cells #[.slice none 0 0, .slice none 0 0, .slice none 0 0, .slice none 0 0] 63 (0, 0))) :
    (execOp a.eval o).run Tryd.prog w = .ok .skip ((((w.setCell ⟨B, 0, none⟩ (.slice p1 n1 c1)).setCell ⟨B, 1, none⟩ (.slice p2 n2 c2)).setCell ⟨B, 2, none⟩ (.slice p3 n3 c3)).setCell ⟨B, 3, none⟩ (.slice p4 n4 c4)) := by
  have e1 : a.eval (.tmp 7) = .pointer (some ⟨B, 0, none⟩) := h1
  have e2 : a.eval (.tmp 34) = .agg #[.slice p1 n1 c1, .slice p2 n2 c2, .slice p3 n3 c3, .slice p4 n4 c4] := h2
  obtain ⟨f, hf⟩ : ∃ f, f = a.eval := ⟨_, rfl⟩
  rw [← hf] at e1 e2 ⊢
  clear hf h1 h2
  obtain ⟨y0, y1, y2, y3⟩ := nds_cells hb
  have z0 := frozen_of_row _ _ 0 _ _ hb
  have z1 := frozen_of_row _ _ 1 _ _ hb
  have z2 := frozen_of_row _ _ 2 _ _ hb
  have z3 := frozen_of_row _ _ 3 _ _ hb
  clear hb
  unfold execOp
  simp only [ho]
  go_simp

theorem step_build {d : Option Tmp} {a : Act} {w : World} {p1 p2 p3 p4 : Option Addr} {n1 n2 n3 n4 c1 c2 c3 c4 : Nat} {K : Act → World → Prop} {Q : Exit → Act → World → Prop} (hd : on8.dst = d) (h1 : a.tmps.getD 27 undef = .slice p1 n1 c1) (h2 : a.tmps.getD 29 undef = .slice p2 n2 c2) (h3 : a.tmps.getD 31 undef = .slice p3 n3 c3) (h4 : a.tmps.getD 33 undef = .slice p4 n4 c4) (hk : K (a.put d (.agg #[.slice p1 n1 c1, .slice p2 n2 c2, .slice p3 n3 c3, .slice p4 n4 c4])) w) : Oper.wp Tryd.prog on8 a w K Q := by
  subst hd
  unfold Oper.wp
  rw [run_build w p1 p2 p3 p4 n1 n2 n3 n4 c1 c2 c3 c4 a h1 h2 h3 h4 on8 rfl, Oper.upon_value]
  exact hk

theorem step_store {a : Act} {w : World} {B : Nat} {p1 p2 p3 p4 : Option Addr} {n1 n2 n3 n4 c1 c2 c3 c4 : Nat} {K : Act → World → Prop} {Q : Exit → Act → World → Prop} (h1 : a.tmps.getD 7 undef = .pointer (some ⟨B, 0, none⟩)) (h2 : a.tmps.getD 34 undef = .agg #[.slice p1 n1 c1, .slice p2 n2 c2, .slice p3 n3 c3, .slice p4 n4 c4]) (hb : w.heap[B]? = some (.cells #[.slice none 0 0, .slice none 0 0, .slice none 0 0, .slice none 0 0] 63 (0, 0)))
    (hk : K a ((((w.setCell ⟨B, 0, none⟩ (.slice p1 n1 c1)).setCell ⟨B, 1, none⟩ (.slice p2 n2 c2)).setCell ⟨B, 2, none⟩ (.slice p3 n3 c3)).setCell ⟨B, 3, none⟩ (.slice p4 n4 c4))) : Oper.wp Tryd.prog on10 a w K Q := by
  unfold Oper.wp
  rw [run_store on10 rfl h1 h2 hb, Oper.upon_skip]
  exact hk

theorem put_swap {a : Act} {i j : Tmp} (h : i ≠ j) (u v : Value) : (a.put (some i) u).put (some j) v = (a.put (some j) v).put (some i) u := by
  simp only [Act.put]
  rw [Array.setIfInBounds_comm _ _ h]

theorem get_put {a : Act} {i j : Tmp} (h : i ≠ j) (v : Value) : (a.put (some j) v).tmps.getD i undef = a.tmps.getD i undef := by
  simp only [Act.put, Array.getD_eq_getD_getElem?]
  rw [Array.getElem?_setIfInBounds_ne (fun e => h e.symm)]

theorem get_same {a : Act} {j : Tmp} (hj : j < a.tmps.size) (v : Value) : (a.put (some j) v).tmps.getD j undef = v := by
  simp only [Act.put, Array.getD_eq_getD_getElem?]
  rw [Array.getElem?_setIfInBounds_self_of_lt hj]
  rfl

theorem put_size {a : Act} {i : Tmp} (v : Value) : (a.put (some i) v).tmps.size = a.tmps.size := by simp [Act.put]

/-- Which of the five are made, and where they lie. -/
structure St5 (w1 w : World) (M1 M2 M5 : Array Value) (f1 f2 f3 f4 f5 : Bool) (B1 B2 B3 B4 B5 : Nat) : Prop where
  grown : w1.grownBy w none
  h1 : f1 = true → w.heap[B1]? = some (.cells M5 52 (0, 0)) ∧ w1.heap.size ≤ B1
  h2 : f2 = true → w.heap[B2]? = some (.cells M2 40 (0, 0)) ∧ w1.heap.size ≤ B2
  h3 : f3 = true → w.heap[B3]? = some (.cells M2 40 (0, 0)) ∧ w1.heap.size ≤ B3
  h4 : f4 = true → w.heap[B4]? = some (.cells M1 4 (0, 0)) ∧ w1.heap.size ≤ B4
  h5 : f5 = true → w.heap[B5]? = some (.cells #[.slice none 0 0, .slice none 0 0, .slice none 0 0, .slice none 0 0] 63 (0, 0)) ∧ w1.heap.size ≤ B5
  ne : f2 = true → f3 = true → B2 ≠ B3

theorem up1 {w : World} {i base : Nat} {o p : Obj} (h : w.heap[i]? = some o ∧ base ≤ i) : (w.alloc p).heap[i]? = some o ∧ base ≤ i := ⟨((grown_new w p).block i (heap_lt h.1) (by simp)).trans h.1, h.2⟩

theorem St5.s1 {w1 w : World} {M1 M2 M5 : Array Value} {f1 f2 f3 f4 f5 : Bool} {B1 B2 B3 B4 B5 : Nat} (h : St5 w1 w M1 M2 M5 f1 f2 f3 f4 f5 B1 B2 B3 B4 B5) : St5 w1 (w.alloc (.cells M5 52)) M1 M2 M5 true f2 f3 f4 f5 w.heap.size B2 B3 B4 B5 :=
  ⟨grown_trans h.grown (grown_new _ _), fun _ => ⟨heap_alloc_new w _, h.grown.size⟩, (fun e => up1 (h.h2 e)), (fun e => up1 (h.h3 e)), (fun e => up1 (h.h4 e)), (fun e => up1 (h.h5 e)), h.ne⟩

theorem St5.s2 {w1 w : World} {M1 M2 M5 : Array Value} {f1 f2 f3 f4 f5 : Bool} {B1 B2 B3 B4 B5 : Nat} (h : St5 w1 w M1 M2 M5 f1 f2 f3 f4 f5 B1 B2 B3 B4 B5) : St5 w1 (w.alloc (.cells M2 40)) M1 M2 M5 f1 true f3 f4 f5 B1 w.heap.size B3 B4 B5 :=
  ⟨grown_trans h.grown (grown_new _ _), (fun e => up1 (h.h1 e)), fun _ => ⟨heap_alloc_new w _, h.grown.size⟩, (fun e => up1 (h.h3 e)), (fun e => up1 (h.h4 e)), (fun e => up1 (h.h5 e)), fun _ e => by have := heap_lt (h.h3 e).1; omega⟩

theorem St5.s3 {w1 w : World} {M1 M2 M5 : Array Value} {f1 f2 f3 f4 f5 : Bool} {B1 B2 B3 B4 B5 : Nat} (h : St5 w1 w M1 M2 M5 f1 f2 f3 f4 f5 B1 B2 B3 B4 B5) : St5 w1 (w.alloc (.cells M2 40)) M1 M2 M5 f1 f2 true f4 f5 B1 B2 w.heap.size B4 B5 :=
  ⟨grown_trans h.grown (grown_new _ _), (fun e => up1 (h.h1 e)), (fun e => up1 (h.h2 e)), fun _ => ⟨heap_alloc_new w _, h.grown.size⟩, (fun e => up1 (h.h4 e)), (fun e => up1 (h.h5 e)), fun e _ => by have := heap_lt (h.h2 e).1; omega⟩

theorem St5.s4 {w1 w : World} {M1 M2 M5 : Array Value} {f1 f2 f3 f4 f5 : Bool} {B1 B2 B3 B4 B5 : Nat} (h : St5 w1 w M1 M2 M5 f1 f2 f3 f4 f5 B1 B2 B3 B4 B5) : St5 w1 (w.alloc (.cells M1 4)) M1 M2 M5 f1 f2 f3 true f5 B1 B2 B3 w.heap.size B5 :=
  ⟨grown_trans h.grown (grown_new _ _), (fun e => up1 (h.h1 e)), (fun e => up1 (h.h2 e)), (fun e => up1 (h.h3 e)), fun _ => ⟨heap_alloc_new w _, h.grown.size⟩, (fun e => up1 (h.h5 e)), h.ne⟩

theorem St5.s5 {w1 w : World} {M1 M2 M5 : Array Value} {f1 f2 f3 f4 f5 : Bool} {B1 B2 B3 B4 B5 : Nat} (h : St5 w1 w M1 M2 M5 f1 f2 f3 f4 f5 B1 B2 B3 B4 B5) : St5 w1 (w.alloc (.cells #[.slice none 0 0, .slice none 0 0, .slice none 0 0, .slice none 0 0] 63)) M1 M2 M5 f1 f2 f3 f4 true B1 B2 B3 B4 w.heap.size :=
  ⟨grown_trans h.grown (grown_new _ _), (fun e => up1 (h.h1 e)), (fun e => up1 (h.h2 e)), (fun e => up1 (h.h3 e)), (fun e => up1 (h.h4 e)), fun _ => ⟨heap_alloc_new w _, h.grown.size⟩, h.ne⟩

set_option maxRecDepth 100000 in
theorem r5_11111 {w1 : World} {M1 M2 M5 : Array Value} {n : Nat} {a : Act} {Qf : Exit → Act → World → Prop} (hsz : 34 < a.tmps.size) (_s26 : a.tmps.getD 26 undef = .int .i64 (n : Int)) (_s28 : a.tmps.getD 28 undef = .int .i64 (n : Int)) (_s30 : a.tmps.getD 30 undef = .int .i64 (n : Int)) (_s32 : a.tmps.getD 32 undef = .int .i64 (n : Int))
    (_mk1 : ∀ W : World, (Instr.makeSlice 35 (.int .i64 (n : Int)) (.int .i64 (n : Int))).run Tryd.prog W = .ok (.slice (some ⟨W.heap.size, 0, none⟩) n n) (W.alloc (.cells M1 4)))
    (_mk2 : ∀ W : World, (Instr.makeSlice 61 (.int .i64 (n : Int)) (.int .i64 (n : Int))).run Tryd.prog W = .ok (.slice (some ⟨W.heap.size, 0, none⟩) n n) (W.alloc (.cells M2 40)))
    (_mk5 : ∀ W : World, (Instr.makeSlice 22 (.int .i64 (n : Int)) (.int .i64 (n : Int))).run Tryd.prog W = .ok (.slice (some ⟨W.heap.size, 0, none⟩) n n) (W.alloc (.cells M5 52)))
    (hQ : ∀ (B1 B2 B3 B4 B5 : Nat) (w : World), St5 w1 w M1 M2 M5 true true true true true B1 B2 B3 B4 B5 → Qf .normal ((((((a.put (some 27) (.slice (some ⟨B1, 0, none⟩) n n)).put (some 29) (.slice (some ⟨B2, 0, none⟩) n n)).put (some 31) (.slice (some ⟨B3, 0, none⟩) n n)).put (some 33) (.slice (some ⟨B4, 0, none⟩) n n)).put (some 7) (.pointer (some ⟨B5, 0, none⟩))).put (some 34) (.agg #[.slice (some ⟨B1, 0, none⟩) n n, .slice (some ⟨B2, 0, none⟩) n n, .slice (some ⟨B3, 0, none⟩) n n, .slice (some ⟨B4, 0, none⟩) n n])) ((((w.setCell ⟨B5, 0, none⟩ (.slice (some ⟨B1, 0, none⟩) n n)).setCell ⟨B5, 1, none⟩ (.slice (some ⟨B2, 0, none⟩) n n)).setCell ⟨B5, 2, none⟩ (.slice (some ⟨B3, 0, none⟩) n n)).setCell ⟨B5, 3, none⟩ (.slice (some ⟨B4, 0, none⟩) n n))) (B1 B2 B3 B4 B5 : Nat) (w : World) (h : St5 w1 w M1 M2 M5 true true true true true B1 B2 B3 B4 B5) :
    wpAnyH Tryd.prog .any opsN Qf (fun _ => True) 2 #[true, true, true, true, true, true, true, true, false, true, false] (((((a.put (some 27) (.slice (some ⟨B1, 0, none⟩) n n)).put (some 29) (.slice (some ⟨B2, 0, none⟩) n n)).put (some 31) (.slice (some ⟨B3, 0, none⟩) n n)).put (some 33) (.slice (some ⟨B4, 0, none⟩) n n)).put (some 7) (.pointer (some ⟨B5, 0, none⟩))) w := by
  have g27 : (((((a.put (some 27) (.slice (some ⟨B1, 0, none⟩) n n)).put (some 29) (.slice (some ⟨B2, 0, none⟩) n n)).put (some 31) (.slice (some ⟨B3, 0, none⟩) n n)).put (some 33) (.slice (some ⟨B4, 0, none⟩) n n)).put (some 7) (.pointer (some ⟨B5, 0, none⟩))).tmps.getD 27 undef = .slice (some ⟨B1, 0, none⟩) n n := by rw [get_put (by decide), get_put (by decide), get_put (by decide), get_put (by decide), get_same (Nat.lt_trans (by decide) hsz)]
  have g29 : (((((a.put (some 27) (.slice (some ⟨B1, 0, none⟩) n n)).put (some 29) (.slice (some ⟨B2, 0, none⟩) n n)).put (some 31) (.slice (some ⟨B3, 0, none⟩) n n)).put (some 33) (.slice (some ⟨B4, 0, none⟩) n n)).put (some 7) (.pointer (some ⟨B5, 0, none⟩))).tmps.getD 29 undef = .slice (some ⟨B2, 0, none⟩) n n := by rw [get_put (by decide), get_put (by decide), get_put (by decide), get_same (by rw [put_size]; exact Nat.lt_trans (by decide) hsz)]
  have g31 : (((((a.put (some 27) (.slice (some ⟨B1, 0, none⟩) n n)).put (some 29) (.slice (some ⟨B2, 0, none⟩) n n)).put (some 31) (.slice (some ⟨B3, 0, none⟩) n n)).put (some 33) (.slice (some ⟨B4, 0, none⟩) n n)).put (some 7) (.pointer (some ⟨B5, 0, none⟩))).tmps.getD 31 undef = .slice (some ⟨B3, 0, none⟩) n n := by rw [get_put (by decide), get_put (by decide), get_same (by rw [put_size, put_size]; exact Nat.lt_trans (by decide) hsz)]
  have g33 : (((((a.put (some 27) (.slice (some ⟨B1, 0, none⟩) n n)).put (some 29) (.slice (some ⟨B2, 0, none⟩) n n)).put (some 31) (.slice (some ⟨B3, 0, none⟩) n n)).put (some 33) (.slice (some ⟨B4, 0, none⟩) n n)).put (some 7) (.pointer (some ⟨B5, 0, none⟩))).tmps.getD 33 undef = .slice (some ⟨B4, 0, none⟩) n n := by rw [get_put (by decide), get_same (by rw [put_size, put_size, put_size]; exact Nat.lt_trans (by decide) hsz)]
  have g7 : (((((a.put (some 27) (.slice (some ⟨B1, 0, none⟩) n n)).put (some 29) (.slice (some ⟨B2, 0, none⟩) n n)).put (some 31) (.slice (some ⟨B3, 0, none⟩) n n)).put (some 33) (.slice (some ⟨B4, 0, none⟩) n n)).put (some 7) (.pointer (some ⟨B5, 0, none⟩))).tmps.getD 7 undef = .pointer (some ⟨B5, 0, none⟩) := by rw [get_same (by rw [put_size, put_size, put_size, put_size]; exact Nat.lt_trans (by decide) hsz)]
  have hq := hQ B1 B2 B3 B4 B5 w h
  have hs34 : 34 < (((((a.put (some 27) (.slice (some ⟨B1, 0, none⟩) n n)).put (some 29) (.slice (some ⟨B2, 0, none⟩) n n)).put (some 31) (.slice (some ⟨B3, 0, none⟩) n n)).put (some 33) (.slice (some ⟨B4, 0, none⟩) n n)).put (some 7) (.pointer (some ⟨B5, 0, none⟩))).tmps.size := by rw [put_size, put_size, put_size, put_size, put_size]; exact hsz
  generalize (((((a.put (some 27) (.slice (some ⟨B1, 0, none⟩) n n)).put (some 29) (.slice (some ⟨B2, 0, none⟩) n n)).put (some 31) (.slice (some ⟨B3, 0, none⟩) n n)).put (some 33) (.slice (some ⟨B4, 0, none⟩) n n)).put (some 7) (.pointer (some ⟨B5, 0, none⟩))) = b at g27 g29 g31 g33 g7 hq hs34 ⊢
  refine wpAnyH_ready (rs := [8]) (by kernel_rfl) (by simp) ?_
  refine AllReadyH.cons (o := on8) rfl (fun K hK => ?_) AllReadyH.nil
  rw [if_pos (by rfl)]
  refine step_build (d := some 34) rfl g27 g29 g31 g33 ?_
  refine hK.out _ _ trivial (fun _ => ?_)
  clear hK K
  refine wpAnyH_ready (rs := [10]) (by kernel_rfl) (by simp) ?_
  refine AllReadyH.cons (o := on10) rfl (fun K hK => ?_) AllReadyH.nil
  rw [if_pos (by rfl)]
  refine step_store (by rw [get_put (by decide)]; exact g7) (get_same hs34 _) (h.h5 rfl).1 ?_
  refine hK.out _ _ trivial (fun _ => ?_)
  exact wpAnyH_done (by kernel_rfl) hq _

set_option maxRecDepth 100000 in
theorem r5_01111 {w1 : World} {M1 M2 M5 : Array Value} {n : Nat} {a : Act} {Qf : Exit → Act → World → Prop} (hsz : 34 < a.tmps.size) (s26 : a.tmps.getD 26 undef = .int .i64 (n : Int)) (s28 : a.tmps.getD 28 undef = .int .i64 (n : Int)) (s30 : a.tmps.getD 30 undef = .int .i64 (n : Int)) (s32 : a.tmps.getD 32 undef = .int .i64 (n : Int))
    (mk1 : ∀ W : World, (Instr.makeSlice 35 (.int .i64 (n : Int)) (.int .i64 (n : Int))).run Tryd.prog W = .ok (.slice (some ⟨W.heap.size, 0, none⟩) n n) (W.alloc (.cells M1 4)))
    (mk2 : ∀ W : World, (Instr.makeSlice 61 (.int .i64 (n : Int)) (.int .i64 (n : Int))).run Tryd.prog W = .ok (.slice (some ⟨W.heap.size, 0, none⟩) n n) (W.alloc (.cells M2 40)))
    (mk5 : ∀ W : World, (Instr.makeSlice 22 (.int .i64 (n : Int)) (.int .i64 (n : Int))).run Tryd.prog W = .ok (.slice (some ⟨W.heap.size, 0, none⟩) n n) (W.alloc (.cells M5 52)))
    (hQ : ∀ (B1 B2 B3 B4 B5 : Nat) (w : World), St5 w1 w M1 M2 M5 true true true true true B1 B2 B3 B4 B5 → Qf .normal ((((((a.put (some 27) (.slice (some ⟨B1, 0, none⟩) n n)).put (some 29) (.slice (some ⟨B2, 0, none⟩) n n)).put (some 31) (.slice (some ⟨B3, 0, none⟩) n n)).put (some 33) (.slice (some ⟨B4, 0, none⟩) n n)).put (some 7) (.pointer (some ⟨B5, 0, none⟩))).put (some 34) (.agg #[.slice (some ⟨B1, 0, none⟩) n n, .slice (some ⟨B2, 0, none⟩) n n, .slice (some ⟨B3, 0, none⟩) n n, .slice (some ⟨B4, 0, none⟩) n n])) ((((w.setCell ⟨B5, 0, none⟩ (.slice (some ⟨B1, 0, none⟩) n n)).setCell ⟨B5, 1, none⟩ (.slice (some ⟨B2, 0, none⟩) n n)).setCell ⟨B5, 2, none⟩ (.slice (some ⟨B3, 0, none⟩) n n)).setCell ⟨B5, 3, none⟩ (.slice (some ⟨B4, 0, none⟩) n n))) (B1 B2 B3 B4 B5 : Nat) (w : World) (h : St5 w1 w M1 M2 M5 false true true true true B1 B2 B3 B4 B5) :
    wpAnyH Tryd.prog .any opsN Qf (fun _ => True) 3 #[true, false, true, true, true, true, true, true, false, true, false] ((((a.put (some 29) (.slice (some ⟨B2, 0, none⟩) n n)).put (some 31) (.slice (some ⟨B3, 0, none⟩) n n)).put (some 33) (.slice (some ⟨B4, 0, none⟩) n n)).put (some 7) (.pointer (some ⟨B5, 0, none⟩))) w := by
  have hh1 := r5_11111 hsz s26 s28 s30 s32 mk1 mk2 mk5 hQ w.heap.size B2 B3 B4 B5 (w.alloc (.cells M5 52)) h.s1
  rw [put_swap (i := 27) (j := 29) (by decide)] at hh1
  rw [put_swap (i := 27) (j := 31) (by decide)] at hh1
  rw [put_swap (i := 27) (j := 33) (by decide)] at hh1
  rw [put_swap (i := 27) (j := 7) (by decide)] at hh1
  have g26 : ((((a.put (some 29) (.slice (some ⟨B2, 0, none⟩) n n)).put (some 31) (.slice (some ⟨B3, 0, none⟩) n n)).put (some 33) (.slice (some ⟨B4, 0, none⟩) n n)).put (some 7) (.pointer (some ⟨B5, 0, none⟩))).tmps.getD 26 undef = .int .i64 (n : Int) := by rw [get_put (by decide), get_put (by decide), get_put (by decide), get_put (by decide)]; exact s26
  clear hsz s26 s28 s30 s32 hQ h
  generalize ((((a.put (some 29) (.slice (some ⟨B2, 0, none⟩) n n)).put (some 31) (.slice (some ⟨B3, 0, none⟩) n n)).put (some 33) (.slice (some ⟨B4, 0, none⟩) n n)).put (some 7) (.pointer (some ⟨B5, 0, none⟩))) = b at hh1 g26 ⊢
  refine wpAnyH_ready (rs := [1]) (by kernel_rfl) (by simp) ?_
  refine AllReadyH.cons (o := on1) rfl (fun K hK => ?_) ?_
  · rw [if_pos (by rfl)]
    refine step_make (o := on1) (n := (n : Int)) (x := 26) (d := some 27) rfl rfl g26 (mk5 w) ?_
    exact hK.out _ _ trivial (fun _ => hh1)
  exact AllReadyH.nil

set_option maxRecDepth 100000 in
theorem r5_10111 {w1 : World} {M1 M2 M5 : Array Value} {n : Nat} {a : Act} {Qf : Exit → Act → World → Prop} (hsz : 34 < a.tmps.size) (s26 : a.tmps.getD 26 undef = .int .i64 (n : Int)) (s28 : a.tmps.getD 28 undef = .int .i64 (n : Int)) (s30 : a.tmps.getD 30 undef = .int .i64 (n : Int)) (s32 : a.tmps.getD 32 undef = .int .i64 (n : Int))
    (mk1 : ∀ W : World, (Instr.makeSlice 35 (.int .i64 (n : Int)) (.int .i64 (n : Int))).run Tryd.prog W = .ok (.slice (some ⟨W.heap.size, 0, none⟩) n n) (W.alloc (.cells M1 4)))
    (mk2 : ∀ W : World, (Instr.makeSlice 61 (.int .i64 (n : Int)) (.int .i64 (n : Int))).run Tryd.prog W = .ok (.slice (some ⟨W.heap.size, 0, none⟩) n n) (W.alloc (.cells M2 40)))
    (mk5 : ∀ W : World, (Instr.makeSlice 22 (.int .i64 (n : Int)) (.int .i64 (n : Int))).run Tryd.prog W = .ok (.slice (some ⟨W.heap.size, 0, none⟩) n n) (W.alloc (.cells M5 52)))
    (hQ : ∀ (B1 B2 B3 B4 B5 : Nat) (w : World), St5 w1 w M1 M2 M5 true true true true true B1 B2 B3 B4 B5 → Qf .normal ((((((a.put (some 27) (.slice (some ⟨B1, 0, none⟩) n n)).put (some 29) (.slice (some ⟨B2, 0, none⟩) n n)).put (some 31) (.slice (some ⟨B3, 0, none⟩) n n)).put (some 33) (.slice (some ⟨B4, 0, none⟩) n n)).put (some 7) (.pointer (some ⟨B5, 0, none⟩))).put (some 34) (.agg #[.slice (some ⟨B1, 0, none⟩) n n, .slice (some ⟨B2, 0, none⟩) n n, .slice (some ⟨B3, 0, none⟩) n n, .slice (some ⟨B4, 0, none⟩) n n])) ((((w.setCell ⟨B5, 0, none⟩ (.slice (some ⟨B1, 0, none⟩) n n)).setCell ⟨B5, 1, none⟩ (.slice (some ⟨B2, 0, none⟩) n n)).setCell ⟨B5, 2, none⟩ (.slice (some ⟨B3, 0, none⟩) n n)).setCell ⟨B5, 3, none⟩ (.slice (some ⟨B4, 0, none⟩) n n))) (B1 B2 B3 B4 B5 : Nat) (w : World) (h : St5 w1 w M1 M2 M5 true false true true true B1 B2 B3 B4 B5) :
    wpAnyH Tryd.prog .any opsN Qf (fun _ => True) 3 #[true, true, true, false, true, true, true, true, false, true, false] ((((a.put (some 27) (.slice (some ⟨B1, 0, none⟩) n n)).put (some 31) (.slice (some ⟨B3, 0, none⟩) n n)).put (some 33) (.slice (some ⟨B4, 0, none⟩) n n)).put (some 7) (.pointer (some ⟨B5, 0, none⟩))) w := by
  have hh2 := r5_11111 hsz s26 s28 s30 s32 mk1 mk2 mk5 hQ B1 w.heap.size B3 B4 B5 (w.alloc (.cells M2 40)) h.s2
  rw [put_swap (i := 29) (j := 31) (by decide)] at hh2
  rw [put_swap (i := 29) (j := 33) (by decide)] at hh2
  rw [put_swap (i := 29) (j := 7) (by decide)] at hh2
  have g28 : ((((a.put (some 27) (.slice (some ⟨B1, 0, none⟩) n n)).put (some 31) (.slice (some ⟨B3, 0, none⟩) n n)).put (some 33) (.slice (some ⟨B4, 0, none⟩) n n)).put (some 7) (.pointer (some ⟨B5, 0, none⟩))).tmps.getD 28 undef = .int .i64 (n : Int) := by rw [get_put (by decide), get_put (by decide), get_put (by decide), get_put (by decide)]; exact s28
  clear hsz s26 s28 s30 s32 hQ h
  generalize ((((a.put (some 27) (.slice (some ⟨B1, 0, none⟩) n n)).put (some 31) (.slice (some ⟨B3, 0, none⟩) n n)).put (some 33) (.slice (some ⟨B4, 0, none⟩) n n)).put (some 7) (.pointer (some ⟨B5, 0, none⟩))) = b at hh2 g28 ⊢
  refine wpAnyH_ready (rs := [3]) (by kernel_rfl) (by simp) ?_
  refine AllReadyH.cons (o := on3) rfl (fun K hK => ?_) ?_
  · rw [if_pos (by rfl)]
    refine step_make (o := on3) (n := (n : Int)) (x := 28) (d := some 29) rfl rfl g28 (mk2 w) ?_
    exact hK.out _ _ trivial (fun _ => hh2)
  exact AllReadyH.nil

set_option maxRecDepth 100000 in
theorem r5_11011 {w1 : World} {M1 M2 M5 : Array Value} {n : Nat} {a : Act} {Qf : Exit → Act → World → Prop} (hsz : 34 < a.tmps.size) (s26 : a.tmps.getD 26 undef = .int .i64 (n : Int)) (s28 : a.tmps.getD 28 undef = .int .i64 (n : Int)) (s30 : a.tmps.getD 30 undef = .int .i64 (n : Int)) (s32 : a.tmps.getD 32 undef = .int .i64 (n : Int))
    (mk1 : ∀ W : World, (Instr.makeSlice 35 (.int .i64 (n : Int)) (.int .i64 (n : Int))).run Tryd.prog W = .ok (.slice (some ⟨W.heap.size, 0, none⟩) n n) (W.alloc (.cells M1 4)))
    (mk2 : ∀ W : World, (Instr.makeSlice 61 (.int .i64 (n : Int)) (.int .i64 (n : Int))).run Tryd.prog W = .ok (.slice (some ⟨W.heap.size, 0, none⟩) n n) (W.alloc (.cells M2 40)))
    (mk5 : ∀ W : World, (Instr.makeSlice 22 (.int .i64 (n : Int)) (.int .i64 (n : Int))).run Tryd.prog W = .ok (.slice (some ⟨W.heap.size, 0, none⟩) n n) (W.alloc (.cells M5 52)))
    (hQ : ∀ (B1 B2 B3 B4 B5 : Nat) (w : World), St5 w1 w M1 M2 M5 true true true true true B1 B2 B3 B4 B5 → Qf .normal ((((((a.put (some 27) (.slice (some ⟨B1, 0, none⟩) n n)).put (some 29) (.slice (some ⟨B2, 0, none⟩) n n)).put (some 31) (.slice (some ⟨B3, 0, none⟩) n n)).put (some 33) (.slice (some ⟨B4, 0, none⟩) n n)).put (some 7) (.pointer (some ⟨B5, 0, none⟩))).put (some 34) (.agg #[.slice (some ⟨B1, 0, none⟩) n n, .slice (some ⟨B2, 0, none⟩) n n, .slice (some ⟨B3, 0, none⟩) n n, .slice (some ⟨B4, 0, none⟩) n n])) ((((w.setCell ⟨B5, 0, none⟩ (.slice (some ⟨B1, 0, none⟩) n n)).setCell ⟨B5, 1, none⟩ (.slice (some ⟨B2, 0, none⟩) n n)).setCell ⟨B5, 2, none⟩ (.slice (some ⟨B3, 0, none⟩) n n)).setCell ⟨B5, 3, none⟩ (.slice (some ⟨B4, 0, none⟩) n n))) (B1 B2 B3 B4 B5 : Nat) (w : World) (h : St5 w1 w M1 M2 M5 true true false true true B1 B2 B3 B4 B5) :
    wpAnyH Tryd.prog .any opsN Qf (fun _ => True) 3 #[true, true, true, true, true, false, true, true, false, true, false] ((((a.put (some 27) (.slice (some ⟨B1, 0, none⟩) n n)).put (some 29) (.slice (some ⟨B2, 0, none⟩) n n)).put (some 33) (.slice (some ⟨B4, 0, none⟩) n n)).put (some 7) (.pointer (some ⟨B5, 0, none⟩))) w := by
  have hh3 := r5_11111 hsz s26 s28 s30 s32 mk1 mk2 mk5 hQ B1 B2 w.heap.size B4 B5 (w.alloc (.cells M2 40)) h.s3
  rw [put_swap (i := 31) (j := 33) (by decide)] at hh3
  rw [put_swap (i := 31) (j := 7) (by decide)] at hh3
  have g30 : ((((a.put (some 27) (.slice (some ⟨B1, 0, none⟩) n n)).put (some 29) (.slice (some ⟨B2, 0, none⟩) n n)).put (some 33) (.slice (some ⟨B4, 0, none⟩) n n)).put (some 7) (.pointer (some ⟨B5, 0, none⟩))).tmps.getD 30 undef = .int .i64 (n : Int) := by rw [get_put (by decide), get_put (by decide), get_put (by decide), get_put (by decide)]; exact s30
  clear hsz s26 s28 s30 s32 hQ h
  generalize ((((a.put (some 27) (.slice (some ⟨B1, 0, none⟩) n n)).put (some 29) (.slice (some ⟨B2, 0, none⟩) n n)).put (some 33) (.slice (some ⟨B4, 0, none⟩) n n)).put (some 7) (.pointer (some ⟨B5, 0, none⟩))) = b at hh3 g30 ⊢
  refine wpAnyH_ready (rs := [5]) (by kernel_rfl) (by simp) ?_
  refine AllReadyH.cons (o := on5) rfl (fun K hK => ?_) ?_
  · rw [if_pos (by rfl)]
    refine step_make (o := on5) (n := (n : Int)) (x := 30) (d := some 31) rfl rfl g30 (mk2 w) ?_
    exact hK.out _ _ trivial (fun _ => hh3)
  exact AllReadyH.nil

set_option maxRecDepth 100000 in
theorem r5_11101 {w1 : World} {M1 M2 M5 : Array Value} {n : Nat} {a : Act} {Qf : Exit → Act → World → Prop} (hsz : 34 < a.tmps.size) (s26 : a.tmps.getD 26 undef = .int .i64 (n : Int)) (s28 : a.tmps.getD 28 undef = .int .i64 (n : Int)) (s30 : a.tmps.getD 30 undef = .int .i64 (n : Int)) (s32 : a.tmps.getD 32 undef = .int .i64 (n : Int))
    (mk1 : ∀ W : World, (Instr.makeSlice 35 (.int .i64 (n : Int)) (.int .i64 (n : Int))).run Tryd.prog W = .ok (.slice (some ⟨W.heap.size, 0, none⟩) n n) (W.alloc (.cells M1 4)))
    (mk2 : ∀ W : World, (Instr.makeSlice 61 (.int .i64 (n : Int)) (.int .i64 (n : Int))).run Tryd.prog W = .ok (.slice (some ⟨W.heap.size, 0, none⟩) n n) (W.alloc (.cells M2 40)))
    (mk5 : ∀ W : World, (Instr.makeSlice 22 (.int .i64 (n : Int)) (.int .i64 (n : Int))).run Tryd.prog W = .ok (.slice (some ⟨W.heap.size, 0, none⟩) n n) (W.alloc (.cells M5 52)))
    (hQ : ∀ (B1 B2 B3 B4 B5 : Nat) (w : World), St5 w1 w M1 M2 M5 true true true true true B1 B2 B3 B4 B5 → Qf .normal ((((((a.put (some 27) (.slice (some ⟨B1, 0, none⟩) n n)).put (some 29) (.slice (some ⟨B2, 0, none⟩) n n)).put (some 31) (.slice (some ⟨B3, 0, none⟩) n n)).put (some 33) (.slice (some ⟨B4, 0, none⟩) n n)).put (some 7) (.pointer (some ⟨B5, 0, none⟩))).put (some 34) (.agg #[.slice (some ⟨B1, 0, none⟩) n n, .slice (some ⟨B2, 0, none⟩) n n, .slice (some ⟨B3, 0, none⟩) n n, .slice (some ⟨B4, 0, none⟩) n n])) ((((w.setCell ⟨B5, 0, none⟩ (.slice (some ⟨B1, 0, none⟩) n n)).setCell ⟨B5, 1, none⟩ (.slice (some ⟨B2, 0, none⟩) n n)).setCell ⟨B5, 2, none⟩ (.slice (some ⟨B3, 0, none⟩) n n)).setCell ⟨B5, 3, none⟩ (.slice (some ⟨B4, 0, none⟩) n n))) (B1 B2 B3 B4 B5 : Nat) (w : World) (h : St5 w1 w M1 M2 M5 true true true false true B1 B2 B3 B4 B5) :
    wpAnyH Tryd.prog .any opsN Qf (fun _ => True) 3 #[true, true, true, true, true, true, true, false, false, true, false] ((((a.put (some 27) (.slice (some ⟨B1, 0, none⟩) n n)).put (some 29) (.slice (some ⟨B2, 0, none⟩) n n)).put (some 31) (.slice (some ⟨B3, 0, none⟩) n n)).put (some 7) (.pointer (some ⟨B5, 0, none⟩))) w := by
  have hh4 := r5_11111 hsz s26 s28 s30 s32 mk1 mk2 mk5 hQ B1 B2 B3 w.heap.size B5 (w.alloc (.cells M1 4)) h.s4
  rw [put_swap (i := 33) (j := 7) (by decide)] at hh4
  have g32 : ((((a.put (some 27) (.slice (some ⟨B1, 0, none⟩) n n)).put (some 29) (.slice (some ⟨B2, 0, none⟩) n n)).put (some 31) (.slice (some ⟨B3, 0, none⟩) n n)).put (some 7) (.pointer (some ⟨B5, 0, none⟩))).tmps.getD 32 undef = .int .i64 (n : Int) := by rw [get_put (by decide), get_put (by decide), get_put (by decide), get_put (by decide)]; exact s32
  clear hsz s26 s28 s30 s32 hQ h
  generalize ((((a.put (some 27) (.slice (some ⟨B1, 0, none⟩) n n)).put (some 29) (.slice (some ⟨B2, 0, none⟩) n n)).put (some 31) (.slice (some ⟨B3, 0, none⟩) n n)).put (some 7) (.pointer (some ⟨B5, 0, none⟩))) = b at hh4 g32 ⊢
  refine wpAnyH_ready (rs := [7]) (by kernel_rfl) (by simp) ?_
  refine AllReadyH.cons (o := on7) rfl (fun K hK => ?_) ?_
  · rw [if_pos (by rfl)]
    refine step_make (o := on7) (n := (n : Int)) (x := 32) (d := some 33) rfl rfl g32 (mk1 w) ?_
    exact hK.out _ _ trivial (fun _ => hh4)
  exact AllReadyH.nil

set_option maxRecDepth 100000 in
theorem r5_11110 {w1 : World} {M1 M2 M5 : Array Value} {n : Nat} {a : Act} {Qf : Exit → Act → World → Prop} (hsz : 34 < a.tmps.size) (s26 : a.tmps.getD 26 undef = .int .i64 (n : Int)) (s28 : a.tmps.getD 28 undef = .int .i64 (n : Int)) (s30 : a.tmps.getD 30 undef = .int .i64 (n : Int)) (s32 : a.tmps.getD 32 undef = .int .i64 (n : Int))
    (mk1 : ∀ W : World, (Instr.makeSlice 35 (.int .i64 (n : Int)) (.int .i64 (n : Int))).run Tryd.prog W = .ok (.slice (some ⟨W.heap.size, 0, none⟩) n n) (W.alloc (.cells M1 4)))
    (mk2 : ∀ W : World, (Instr.makeSlice 61 (.int .i64 (n : Int)) (.int .i64 (n : Int))).run Tryd.prog W = .ok (.slice (some ⟨W.heap.size, 0, none⟩) n n) (W.alloc (.cells M2 40)))
    (mk5 : ∀ W : World, (Instr.makeSlice 22 (.int .i64 (n : Int)) (.int .i64 (n : Int))).run Tryd.prog W = .ok (.slice (some ⟨W.heap.size, 0, none⟩) n n) (W.alloc (.cells M5 52)))
    (hQ : ∀ (B1 B2 B3 B4 B5 : Nat) (w : World), St5 w1 w M1 M2 M5 true true true true true B1 B2 B3 B4 B5 → Qf .normal ((((((a.put (some 27) (.slice (some ⟨B1, 0, none⟩) n n)).put (some 29) (.slice (some ⟨B2, 0, none⟩) n n)).put (some 31) (.slice (some ⟨B3, 0, none⟩) n n)).put (some 33) (.slice (some ⟨B4, 0, none⟩) n n)).put (some 7) (.pointer (some ⟨B5, 0, none⟩))).put (some 34) (.agg #[.slice (some ⟨B1, 0, none⟩) n n, .slice (some ⟨B2, 0, none⟩) n n, .slice (some ⟨B3, 0, none⟩) n n, .slice (some ⟨B4, 0, none⟩) n n])) ((((w.setCell ⟨B5, 0, none⟩ (.slice (some ⟨B1, 0, none⟩) n n)).setCell ⟨B5, 1, none⟩ (.slice (some ⟨B2, 0, none⟩) n n)).setCell ⟨B5, 2, none⟩ (.slice (some ⟨B3, 0, none⟩) n n)).setCell ⟨B5, 3, none⟩ (.slice (some ⟨B4, 0, none⟩) n n))) (B1 B2 B3 B4 B5 : Nat) (w : World) (h : St5 w1 w M1 M2 M5 true true true true false B1 B2 B3 B4 B5) :
    wpAnyH Tryd.prog .any opsN Qf (fun _ => True) 3 #[true, true, true, true, true, true, true, true, false, false, false] ((((a.put (some 27) (.slice (some ⟨B1, 0, none⟩) n n)).put (some 29) (.slice (some ⟨B2, 0, none⟩) n n)).put (some 31) (.slice (some ⟨B3, 0, none⟩) n n)).put (some 33) (.slice (some ⟨B4, 0, none⟩) n n)) w := by
  have g27 : ((((a.put (some 27) (.slice (some ⟨B1, 0, none⟩) n n)).put (some 29) (.slice (some ⟨B2, 0, none⟩) n n)).put (some 31) (.slice (some ⟨B3, 0, none⟩) n n)).put (some 33) (.slice (some ⟨B4, 0, none⟩) n n)).tmps.getD 27 undef = .slice (some ⟨B1, 0, none⟩) n n := by rw [get_put (by decide), get_put (by decide), get_put (by decide), get_same (Nat.lt_trans (by decide) hsz)]
  have g29 : ((((a.put (some 27) (.slice (some ⟨B1, 0, none⟩) n n)).put (some 29) (.slice (some ⟨B2, 0, none⟩) n n)).put (some 31) (.slice (some ⟨B3, 0, none⟩) n n)).put (some 33) (.slice (some ⟨B4, 0, none⟩) n n)).tmps.getD 29 undef = .slice (some ⟨B2, 0, none⟩) n n := by rw [get_put (by decide), get_put (by decide), get_same (by rw [put_size]; exact Nat.lt_trans (by decide) hsz)]
  have g31 : ((((a.put (some 27) (.slice (some ⟨B1, 0, none⟩) n n)).put (some 29) (.slice (some ⟨B2, 0, none⟩) n n)).put (some 31) (.slice (some ⟨B3, 0, none⟩) n n)).put (some 33) (.slice (some ⟨B4, 0, none⟩) n n)).tmps.getD 31 undef = .slice (some ⟨B3, 0, none⟩) n n := by rw [get_put (by decide), get_same (by rw [put_size, put_size]; exact Nat.lt_trans (by decide) hsz)]
  have g33 : ((((a.put (some 27) (.slice (some ⟨B1, 0, none⟩) n n)).put (some 29) (.slice (some ⟨B2, 0, none⟩) n n)).put (some 31) (.slice (some ⟨B3, 0, none⟩) n n)).put (some 33) (.slice (some ⟨B4, 0, none⟩) n n)).tmps.getD 33 undef = .slice (some ⟨B4, 0, none⟩) n n := by rw [get_same (by rw [put_size, put_size, put_size]; exact Nat.lt_trans (by decide) hsz)]
  have hs34 : 34 < ((((a.put (some 27) (.slice (some ⟨B1, 0, none⟩) n n)).put (some 29) (.slice (some ⟨B2, 0, none⟩) n n)).put (some 31) (.slice (some ⟨B3, 0, none⟩) n n)).put (some 33) (.slice (some ⟨B4, 0, none⟩) n n)).tmps.size := by rw [put_size, put_size, put_size, put_size]; exact hsz
  have hq := hQ B1 B2 B3 B4
  have hh5 := r5_11111 hsz s26 s28 s30 s32 mk1 mk2 mk5 hQ B1 B2 B3 B4 w.heap.size _ h.s5
  generalize ((((a.put (some 27) (.slice (some ⟨B1, 0, none⟩) n n)).put (some 29) (.slice (some ⟨B2, 0, none⟩) n n)).put (some 31) (.slice (some ⟨B3, 0, none⟩) n n)).put (some 33) (.slice (some ⟨B4, 0, none⟩) n n)) = b at g27 g29 g31 g33 hs34 hq hh5 ⊢
  refine wpAnyH_ready (rs := [8, 9]) (by kernel_rfl) (by simp) ?_
  refine AllReadyH.cons (o := on8) rfl (fun K hK => ?_) (AllReadyH.cons (o := on9) rfl (fun K hK => ?_) AllReadyH.nil)
  · rw [if_pos (by rfl)]
    refine step_build (d := some 34) rfl g27 g29 g31 g33 ?_
    refine hK.out _ _ trivial (fun _ => ?_)
    clear hK K
    refine wpAnyH_ready (rs := [9]) (by kernel_rfl) (by simp) ?_
    refine AllReadyH.cons (o := on9) rfl (fun K hK => ?_) AllReadyH.nil
    rw [if_pos (by rfl)]
    refine step_alloc (d := some 7) rfl rfl ?_
    refine hK.out _ _ trivial (fun _ => ?_)
    clear hK K
    have h' := h.s5
    have hq' := hq _ _ h'
    clear hh5 hq
    rw [put_swap (i := 7) (j := 34) (by decide)] at hq'
    refine wpAnyH_ready (rs := [10]) (by kernel_rfl) (by simp) ?_
    refine AllReadyH.cons (o := on10) rfl (fun K hK => ?_) AllReadyH.nil
    rw [if_pos (by rfl)]
    refine step_store (get_same (by rw [put_size]; exact Nat.lt_trans (by decide) hs34) _) (by rw [get_put (by decide)]; exact get_same hs34 _) (h'.h5 rfl).1 ?_
    refine hK.out _ _ trivial (fun _ => ?_)
    exact wpAnyH_done (by kernel_rfl) hq' _
  · rw [if_pos (by rfl)]
    refine step_alloc (d := some 7) rfl rfl ?_
    refine hK.out _ _ trivial (fun _ => ?_)
    exact hh5

set_option maxRecDepth 100000 in
theorem r5_00111 {w1 : World} {M1 M2 M5 : Array Value} {n : Nat} {a : Act} {Qf : Exit → Act → World → Prop} (hsz : 34 < a.tmps.size) (s26 : a.tmps.getD 26 undef = .int .i64 (n : Int)) (s28 : a.tmps.getD 28 undef = .int .i64 (n : Int)) (s30 : a.tmps.getD 30 undef = .int .i64 (n : Int)) (s32 : a.tmps.getD 32 undef = .int .i64 (n : Int))
    (mk1 : ∀ W : World, (Instr.makeSlice 35 (.int .i64 (n : Int)) (.int .i64 (n : Int))).run Tryd.prog W = .ok (.slice (some ⟨W.heap.size, 0, none⟩) n n) (W.alloc (.cells M1 4)))
    (mk2 : ∀ W : World, (Instr.makeSlice 61 (.int .i64 (n : Int)) (.int .i64 (n : Int))).run Tryd.prog W = .ok (.slice (some ⟨W.heap.size, 0, none⟩) n n) (W.alloc (.cells M2 40)))
    (mk5 : ∀ W : World, (Instr.makeSlice 22 (.int .i64 (n : Int)) (.int .i64 (n : Int))).run Tryd.prog W = .ok (.slice (some ⟨W.heap.size, 0, none⟩) n n) (W.alloc (.cells M5 52)))
    (hQ : ∀ (B1 B2 B3 B4 B5 : Nat) (w : World), St5 w1 w M1 M2 M5 true true true true true B1 B2 B3 B4 B5 → Qf .normal ((((((a.put (some 27) (.slice (some ⟨B1, 0, none⟩) n n)).put (some 29) (.slice (some ⟨B2, 0, none⟩) n n)).put (some 31) (.slice (some ⟨B3, 0, none⟩) n n)).put (some 33) (.slice (some ⟨B4, 0, none⟩) n n)).put (some 7) (.pointer (some ⟨B5, 0, none⟩))).put (some 34) (.agg #[.slice (some ⟨B1, 0, none⟩) n n, .slice (some ⟨B2, 0, none⟩) n n, .slice (some ⟨B3, 0, none⟩) n n, .slice (some ⟨B4, 0, none⟩) n n])) ((((w.setCell ⟨B5, 0, none⟩ (.slice (some ⟨B1, 0, none⟩) n n)).setCell ⟨B5, 1, none⟩ (.slice (some ⟨B2, 0, none⟩) n n)).setCell ⟨B5, 2, none⟩ (.slice (some ⟨B3, 0, none⟩) n n)).setCell ⟨B5, 3, none⟩ (.slice (some ⟨B4, 0, none⟩) n n))) (B1 B2 B3 B4 B5 : Nat) (w : World) (h : St5 w1 w M1 M2 M5 false false true true true B1 B2 B3 B4 B5) :
    wpAnyH Tryd.prog .any opsN Qf (fun _ => True) 4 #[true, false, true, false, true, true, true, true, false, true, false] (((a.put (some 31) (.slice (some ⟨B3, 0, none⟩) n n)).put (some 33) (.slice (some ⟨B4, 0, none⟩) n n)).put (some 7) (.pointer (some ⟨B5, 0, none⟩))) w := by
  have hh1 := r5_10111 hsz s26 s28 s30 s32 mk1 mk2 mk5 hQ w.heap.size B2 B3 B4 B5 (w.alloc (.cells M5 52)) h.s1
  rw [put_swap (i := 27) (j := 31) (by decide)] at hh1
  rw [put_swap (i := 27) (j := 33) (by decide)] at hh1
  rw [put_swap (i := 27) (j := 7) (by decide)] at hh1
  have g26 : (((a.put (some 31) (.slice (some ⟨B3, 0, none⟩) n n)).put (some 33) (.slice (some ⟨B4, 0, none⟩) n n)).put (some 7) (.pointer (some ⟨B5, 0, none⟩))).tmps.getD 26 undef = .int .i64 (n : Int) := by rw [get_put (by decide), get_put (by decide), get_put (by decide)]; exact s26
  have hh2 := r5_01111 hsz s26 s28 s30 s32 mk1 mk2 mk5 hQ B1 w.heap.size B3 B4 B5 (w.alloc (.cells M2 40)) h.s2
  rw [put_swap (i := 29) (j := 31) (by decide)] at hh2
  rw [put_swap (i := 29) (j := 33) (by decide)] at hh2
  rw [put_swap (i := 29) (j := 7) (by decide)] at hh2
  have g28 : (((a.put (some 31) (.slice (some ⟨B3, 0, none⟩) n n)).put (some 33) (.slice (some ⟨B4, 0, none⟩) n n)).put (some 7) (.pointer (some ⟨B5, 0, none⟩))).tmps.getD 28 undef = .int .i64 (n : Int) := by rw [get_put (by decide), get_put (by decide), get_put (by decide)]; exact s28
  clear hsz s26 s28 s30 s32 hQ h
  generalize (((a.put (some 31) (.slice (some ⟨B3, 0, none⟩) n n)).put (some 33) (.slice (some ⟨B4, 0, none⟩) n n)).put (some 7) (.pointer (some ⟨B5, 0, none⟩))) = b at hh1 g26 hh2 g28 ⊢
  refine wpAnyH_ready (rs := [1, 3]) (by kernel_rfl) (by simp) ?_
  refine AllReadyH.cons (o := on1) rfl (fun K hK => ?_) ?_
  · rw [if_pos (by rfl)]
    refine step_make (o := on1) (n := (n : Int)) (x := 26) (d := some 27) rfl rfl g26 (mk5 w) ?_
    exact hK.out _ _ trivial (fun _ => hh1)
  refine AllReadyH.cons (o := on3) rfl (fun K hK => ?_) ?_
  · rw [if_pos (by rfl)]
    refine step_make (o := on3) (n := (n : Int)) (x := 28) (d := some 29) rfl rfl g28 (mk2 w) ?_
    exact hK.out _ _ trivial (fun _ => hh2)
  exact AllReadyH.nil

set_option maxRecDepth 100000 in
theorem r5_01011 {w1 : World} {M1 M2 M5 : Array Value} {n : Nat} {a : Act} {Qf : Exit → Act → World → Prop} (hsz : 34 < a.tmps.size) (s26 : a.tmps.getD 26 undef = .int .i64 (n : Int)) (s28 : a.tmps.getD 28 undef = .int .i64 (n : Int)) (s30 : a.tmps.getD 30 undef = .int .i64 (n : Int)) (s32 : a.tmps.getD 32 undef = .int .i64 (n : Int))
    (mk1 : ∀ W : World, (Instr.makeSlice 35 (.int .i64 (n : Int)) (.int .i64 (n : Int))).run Tryd.prog W = .ok (.slice (some ⟨W.heap.size, 0, none⟩) n n) (W.alloc (.cells M1 4)))
    (mk2 : ∀ W : World, (Instr.makeSlice 61 (.int .i64 (n : Int)) (.int .i64 (n : Int))).run Tryd.prog W = .ok (.slice (some ⟨W.heap.size, 0, none⟩) n n) (W.alloc (.cells M2 40)))
    (mk5 : ∀ W : World, (Instr.makeSlice 22 (.int .i64 (n : Int)) (.int .i64 (n : Int))).run Tryd.prog W = .ok (.slice (some ⟨W.heap.size, 0, none⟩) n n) (W.alloc (.cells M5 52)))
    (hQ : ∀ (B1 B2 B3 B4 B5 : Nat) (w : World), St5 w1 w M1 M2 M5 true true true true true B1 B2 B3 B4 B5 → Qf .normal ((((((a.put (some 27) (.slice (some ⟨B1, 0, none⟩) n n)).put (some 29) (.slice (some ⟨B2, 0, none⟩) n n)).put (some 31) (.slice (some ⟨B3, 0, none⟩) n n)).put (some 33) (.slice (some ⟨B4, 0, none⟩) n n)).put (some 7) (.pointer (some ⟨B5, 0, none⟩))).put (some 34) (.agg #[.slice (some ⟨B1, 0, none⟩) n n, .slice (some ⟨B2, 0, none⟩) n n, .slice (some ⟨B3, 0, none⟩) n n, .slice (some ⟨B4, 0, none⟩) n n])) ((((w.setCell ⟨B5, 0, none⟩ (.slice (some ⟨B1, 0, none⟩) n n)).setCell ⟨B5, 1, none⟩ (.slice (some ⟨B2, 0, none⟩) n n)).setCell ⟨B5, 2, none⟩ (.slice (some ⟨B3, 0, none⟩) n n)).setCell ⟨B5, 3, none⟩ (.slice (some ⟨B4, 0, none⟩) n n))) (B1 B2 B3 B4 B5 : Nat) (w : World) (h : St5 w1 w M1 M2 M5 false true false true true B1 B2 B3 B4 B5) :
    wpAnyH Tryd.prog .any opsN Qf (fun _ => True) 4 #[true, false, true, true, true, false, true, true, false, true, false] (((a.put (some 29) (.slice (some ⟨B2, 0, none⟩) n n)).put (some 33) (.slice (some ⟨B4, 0, none⟩) n n)).put (some 7) (.pointer (some ⟨B5, 0, none⟩))) w := by
  have hh1 := r5_11011 hsz s26 s28 s30 s32 mk1 mk2 mk5 hQ w.heap.size B2 B3 B4 B5 (w.alloc (.cells M5 52)) h.s1
  rw [put_swap (i := 27) (j := 29) (by decide)] at hh1
  rw [put_swap (i := 27) (j := 33) (by decide)] at hh1
  rw [put_swap (i := 27) (j := 7) (by decide)] at hh1
  have g26 : (((a.put (some 29) (.slice (some ⟨B2, 0, none⟩) n n)).put (some 33) (.slice (some ⟨B4, 0, none⟩) n n)).put (some 7) (.pointer (some ⟨B5, 0, none⟩))).tmps.getD 26 undef = .int .i64 (n : Int) := by rw [get_put (by decide), get_put (by decide), get_put (by decide)]; exact s26
  have hh3 := r5_01111 hsz s26 s28 s30 s32 mk1 mk2 mk5 hQ B1 B2 w.heap.size B4 B5 (w.alloc (.cells M2 40)) h.s3
  rw [put_swap (i := 31) (j := 33) (by decide)] at hh3
  rw [put_swap (i := 31) (j := 7) (by decide)] at hh3
  have g30 : (((a.put (some 29) (.slice (some ⟨B2, 0, none⟩) n n)).put (some 33) (.slice (some ⟨B4, 0, none⟩) n n)).put (some 7) (.pointer (some ⟨B5, 0, none⟩))).tmps.getD 30 undef = .int .i64 (n : Int) := by rw [get_put (by decide), get_put (by decide), get_put (by decide)]; exact s30
  clear hsz s26 s28 s30 s32 hQ h
  generalize (((a.put (some 29) (.slice (some ⟨B2, 0, none⟩) n n)).put (some 33) (.slice (some ⟨B4, 0, none⟩) n n)).put (some 7) (.pointer (some ⟨B5, 0, none⟩))) = b at hh1 g26 hh3 g30 ⊢
  refine wpAnyH_ready (rs := [1, 5]) (by kernel_rfl) (by simp) ?_
  refine AllReadyH.cons (o := on1) rfl (fun K hK => ?_) ?_
  · rw [if_pos (by rfl)]
    refine step_make (o := on1) (n := (n : Int)) (x := 26) (d := some 27) rfl rfl g26 (mk5 w) ?_
    exact hK.out _ _ trivial (fun _ => hh1)
  refine AllReadyH.cons (o := on5) rfl (fun K hK => ?_) ?_
  · rw [if_pos (by rfl)]
    refine step_make (o := on5) (n := (n : Int)) (x := 30) (d := some 31) rfl rfl g30 (mk2 w) ?_
    exact hK.out _ _ trivial (fun _ => hh3)
  exact AllReadyH.nil

set_option maxRecDepth 100000 in
theorem r5_01101 {w1 : World} {M1 M2 M5 : Array Value} {n : Nat} {a : Act} {Qf : Exit → Act → World → Prop} (hsz : 34 < a.tmps.size) (s26 : a.tmps.getD 26 undef = .int .i64 (n : Int)) (s28 : a.tmps.getD 28 undef = .int .i64 (n : Int)) (s30 : a.tmps.getD 30 undef = .int .i64 (n : Int)) (s32 : a.tmps.getD 32 undef = .int .i64 (n : Int))
    (mk1 : ∀ W : World, (Instr.makeSlice 35 (.int .i64 (n : Int)) (.int .i64 (n : Int))).run Tryd.prog W = .ok (.slice (some ⟨W.heap.size, 0, none⟩) n n) (W.alloc (.cells M1 4)))
    (mk2 : ∀ W : World, (Instr.makeSlice 61 (.int .i64 (n : Int)) (.int .i64 (n : Int))).run Tryd.prog W = .ok (.slice (some ⟨W.heap.size, 0, none⟩) n n) (W.alloc (.cells M2 40)))
    (mk5 : ∀ W : World, (Instr.makeSlice 22 (.int .i64 (n : Int)) (.int .i64 (n : Int))).run Tryd.prog W = .ok (.slice (some ⟨W.heap.size, 0, none⟩) n n) (W.alloc (.cells M5 52)))
    (hQ : ∀ (B1 B2 B3 B4 B5 : Nat) (w : World), St5 w1 w M1 M2 M5 true true true true true B1 B2 B3 B4 B5 → Qf .normal ((((((a.put (some 27) (.slice (some ⟨B1, 0, none⟩) n n)).put (some 29) (.slice (some ⟨B2, 0, none⟩) n n)).put (some 31) (.slice (some ⟨B3, 0, none⟩) n n)).put (some 33) (.slice (some ⟨B4, 0, none⟩) n n)).put (some 7) (.pointer (some ⟨B5, 0, none⟩))).put (some 34) (.agg #[.slice (some ⟨B1, 0, none⟩) n n, .slice (some ⟨B2, 0, none⟩) n n, .slice (some ⟨B3, 0, none⟩) n n, .slice (some ⟨B4, 0, none⟩) n n])) ((((w.setCell ⟨B5, 0, none⟩ (.slice (some ⟨B1, 0, none⟩) n n)).setCell ⟨B5, 1, none⟩ (.slice (some ⟨B2, 0, none⟩) n n)).setCell ⟨B5, 2, none⟩ (.slice (some ⟨B3, 0, none⟩) n n)).setCell ⟨B5, 3, none⟩ (.slice (some ⟨B4, 0, none⟩) n n))) (B1 B2 B3 B4 B5 : Nat) (w : World) (h : St5 w1 w M1 M2 M5 false true true false true B1 B2 B3 B4 B5) :
    wpAnyH Tryd.prog .any opsN Qf (fun _ => True) 4 #[true, false, true, true, true, true, true, false, false, true, false] (((a.put (some 29) (.slice (some ⟨B2, 0, none⟩) n n)).put (some 31) (.slice (some ⟨B3, 0, none⟩) n n)).put (some 7) (.pointer (some ⟨B5, 0, none⟩))) w := by
  have hh1 := r5_11101 hsz s26 s28 s30 s32 mk1 mk2 mk5 hQ w.heap.size B2 B3 B4 B5 (w.alloc (.cells M5 52)) h.s1
  rw [put_swap (i := 27) (j := 29) (by decide)] at hh1
  rw [put_swap (i := 27) (j := 31) (by decide)] at hh1
  rw [put_swap (i := 27) (j := 7) (by decide)] at hh1
  have g26 : (((a.put (some 29) (.slice (some ⟨B2, 0, none⟩) n n)).put (some 31) (.slice (some ⟨B3, 0, none⟩) n n)).put (some 7) (.pointer (some ⟨B5, 0, none⟩))).tmps.getD 26 undef = .int .i64 (n : Int) := by rw [get_put (by decide), get_put (by decide), get_put (by decide)]; exact s26
  have hh4 := r5_01111 hsz s26 s28 s30 s32 mk1 mk2 mk5 hQ B1 B2 B3 w.heap.size B5 (w.alloc (.cells M1 4)) h.s4
  rw [put_swap (i := 33) (j := 7) (by decide)] at hh4
  have g32 : (((a.put (some 29) (.slice (some ⟨B2, 0, none⟩) n n)).put (some 31) (.slice (some ⟨B3, 0, none⟩) n n)).put (some 7) (.pointer (some ⟨B5, 0, none⟩))).tmps.getD 32 undef = .int .i64 (n : Int) := by rw [get_put (by decide), get_put (by decide), get_put (by decide)]; exact s32
  clear hsz s26 s28 s30 s32 hQ h
  generalize (((a.put (some 29) (.slice (some ⟨B2, 0, none⟩) n n)).put (some 31) (.slice (some ⟨B3, 0, none⟩) n n)).put (some 7) (.pointer (some ⟨B5, 0, none⟩))) = b at hh1 g26 hh4 g32 ⊢
  refine wpAnyH_ready (rs := [1, 7]) (by kernel_rfl) (by simp) ?_
  refine AllReadyH.cons (o := on1) rfl (fun K hK => ?_) ?_
  · rw [if_pos (by rfl)]
    refine step_make (o := on1) (n := (n : Int)) (x := 26) (d := some 27) rfl rfl g26 (mk5 w) ?_
    exact hK.out _ _ trivial (fun _ => hh1)
  refine AllReadyH.cons (o := on7) rfl (fun K hK => ?_) ?_
  · rw [if_pos (by rfl)]
    refine step_make (o := on7) (n := (n : Int)) (x := 32) (d := some 33) rfl rfl g32 (mk1 w) ?_
    exact hK.out _ _ trivial (fun _ => hh4)
  exact AllReadyH.nil

set_option maxRecDepth 100000 in
theorem r5_01110 {w1 : World} {M1 M2 M5 : Array Value} {n : Nat} {a : Act} {Qf : Exit → Act → World → Prop} (hsz : 34 < a.tmps.size) (s26 : a.tmps.getD 26 undef = .int .i64 (n : Int)) (s28 : a.tmps.getD 28 undef = .int .i64 (n : Int)) (s30 : a.tmps.getD 30 undef = .int .i64 (n : Int)) (s32 : a.tmps.getD 32 undef = .int .i64 (n : Int))
    (mk1 : ∀ W : World, (Instr.makeSlice 35 (.int .i64 (n : Int)) (.int .i64 (n : Int))).run Tryd.prog W = .ok (.slice (some ⟨W.heap.size, 0, none⟩) n n) (W.alloc (.cells M1 4)))
    (mk2 : ∀ W : World, (Instr.makeSlice 61 (.int .i64 (n : Int)) (.int .i64 (n : Int))).run Tryd.prog W = .ok (.slice (some ⟨W.heap.size, 0, none⟩) n n) (W.alloc (.cells M2 40)))
    (mk5 : ∀ W : World, (Instr.makeSlice 22 (.int .i64 (n : Int)) (.int .i64 (n : Int))).run Tryd.prog W = .ok (.slice (some ⟨W.heap.size, 0, none⟩) n n) (W.alloc (.cells M5 52)))
    (hQ : ∀ (B1 B2 B3 B4 B5 : Nat) (w : World), St5 w1 w M1 M2 M5 true true true true true B1 B2 B3 B4 B5 → Qf .normal ((((((a.put (some 27) (.slice (some ⟨B1, 0, none⟩) n n)).put (some 29) (.slice (some ⟨B2, 0, none⟩) n n)).put (some 31) (.slice (some ⟨B3, 0, none⟩) n n)).put (some 33) (.slice (some ⟨B4, 0, none⟩) n n)).put (some 7) (.pointer (some ⟨B5, 0, none⟩))).put (some 34) (.agg #[.slice (some ⟨B1, 0, none⟩) n n, .slice (some ⟨B2, 0, none⟩) n n, .slice (some ⟨B3, 0, none⟩) n n, .slice (some ⟨B4, 0, none⟩) n n])) ((((w.setCell ⟨B5, 0, none⟩ (.slice (some ⟨B1, 0, none⟩) n n)).setCell ⟨B5, 1, none⟩ (.slice (some ⟨B2, 0, none⟩) n n)).setCell ⟨B5, 2, none⟩ (.slice (some ⟨B3, 0, none⟩) n n)).setCell ⟨B5, 3, none⟩ (.slice (some ⟨B4, 0, none⟩) n n))) (B1 B2 B3 B4 B5 : Nat) (w : World) (h : St5 w1 w M1 M2 M5 false true true true false B1 B2 B3 B4 B5) :
    wpAnyH Tryd.prog .any opsN Qf (fun _ => True) 4 #[true, false, true, true, true, true, true, true, false, false, false] (((a.put (some 29) (.slice (some ⟨B2, 0, none⟩) n n)).put (some 31) (.slice (some ⟨B3, 0, none⟩) n n)).put (some 33) (.slice (some ⟨B4, 0, none⟩) n n)) w := by
  have hh1 := r5_11110 hsz s26 s28 s30 s32 mk1 mk2 mk5 hQ w.heap.size B2 B3 B4 B5 (w.alloc (.cells M5 52)) h.s1
  rw [put_swap (i := 27) (j := 29) (by decide)] at hh1
  rw [put_swap (i := 27) (j := 31) (by decide)] at hh1
  rw [put_swap (i := 27) (j := 33) (by decide)] at hh1
  have g26 : (((a.put (some 29) (.slice (some ⟨B2, 0, none⟩) n n)).put (some 31) (.slice (some ⟨B3, 0, none⟩) n n)).put (some 33) (.slice (some ⟨B4, 0, none⟩) n n)).tmps.getD 26 undef = .int .i64 (n : Int) := by rw [get_put (by decide), get_put (by decide), get_put (by decide)]; exact s26
  have hh5 := r5_01111 hsz s26 s28 s30 s32 mk1 mk2 mk5 hQ B1 B2 B3 B4 w.heap.size (w.alloc (.cells #[.slice none 0 0, .slice none 0 0, .slice none 0 0, .slice none 0 0] 63)) h.s5
  clear hsz s26 s28 s30 s32 hQ h
  generalize (((a.put (some 29) (.slice (some ⟨B2, 0, none⟩) n n)).put (some 31) (.slice (some ⟨B3, 0, none⟩) n n)).put (some 33) (.slice (some ⟨B4, 0, none⟩) n n)) = b at hh1 g26 hh5 ⊢
  refine wpAnyH_ready (rs := [1, 9]) (by kernel_rfl) (by simp) ?_
  refine AllReadyH.cons (o := on1) rfl (fun K hK => ?_) ?_
  · rw [if_pos (by rfl)]
    refine step_make (o := on1) (n := (n : Int)) (x := 26) (d := some 27) rfl rfl g26 (mk5 w) ?_
    exact hK.out _ _ trivial (fun _ => hh1)
  refine AllReadyH.cons (o := on9) rfl (fun K hK => ?_) ?_
  · rw [if_pos (by rfl)]
    refine step_alloc (d := some 7) rfl rfl ?_
    exact hK.out _ _ trivial (fun _ => hh5)
  exact AllReadyH.nil

set_option maxRecDepth 100000 in
theorem r5_10011 {w1 : World} {M1 M2 M5 : Array Value} {n : Nat} {a : Act} {Qf : Exit → Act → World → Prop} (hsz : 34 < a.tmps.size) (s26 : a.tmps.getD 26 undef = .int .i64 (n : Int)) (s28 : a.tmps.getD 28 undef = .int .i64 (n : Int)) (s30 : a.tmps.getD 30 undef = .int .i64 (n : Int)) (s32 : a.tmps.getD 32 undef = .int .i64 (n : Int))
    (mk1 : ∀ W : World, (Instr.makeSlice 35 (.int .i64 (n : Int)) (.int .i64 (n : Int))).run Tryd.prog W = .ok (.slice (some ⟨W.heap.size, 0, none⟩) n n) (W.alloc (.cells M1 4)))
    (mk2 : ∀ W : World, (Instr.makeSlice 61 (.int .i64 (n : Int)) (.int .i64 (n : Int))).run Tryd.prog W = .ok (.slice (some ⟨W.heap.size, 0, none⟩) n n) (W.alloc (.cells M2 40)))
    (mk5 : ∀ W : World, (Instr.makeSlice 22 (.int .i64 (n : Int)) (.int .i64 (n : Int))).run Tryd.prog W = .ok (.slice (some ⟨W.heap.size, 0, none⟩) n n) (W.alloc (.cells M5 52)))
    (hQ : ∀ (B1 B2 B3 B4 B5 : Nat) (w : World), St5 w1 w M1 M2 M5 true true true true true B1 B2 B3 B4 B5 → Qf .normal ((((((a.put (some 27) (.slice (some ⟨B1, 0, none⟩) n n)).put (some 29) (.slice (some ⟨B2, 0, none⟩) n n)).put (some 31) (.slice (some ⟨B3, 0, none⟩) n n)).put (some 33) (.slice (some ⟨B4, 0, none⟩) n n)).put (some 7) (.pointer (some ⟨B5, 0, none⟩))).put (some 34) (.agg #[.slice (some ⟨B1, 0, none⟩) n n, .slice (some ⟨B2, 0, none⟩) n n, .slice (some ⟨B3, 0, none⟩) n n, .slice (some ⟨B4, 0, none⟩) n n])) ((((w.setCell ⟨B5, 0, none⟩ (.slice (some ⟨B1, 0, none⟩) n n)).setCell ⟨B5, 1, none⟩ (.slice (some ⟨B2, 0, none⟩) n n)).setCell ⟨B5, 2, none⟩ (.slice (some ⟨B3, 0, none⟩) n n)).setCell ⟨B5, 3, none⟩ (.slice (some ⟨B4, 0, none⟩) n n))) (B1 B2 B3 B4 B5 : Nat) (w : World) (h : St5 w1 w M1 M2 M5 true false false true true B1 B2 B3 B4 B5) :
    wpAnyH Tryd.prog .any opsN Qf (fun _ => True) 4 #[true, true, true, false, true, false, true, true, false, true, false] (((a.put (some 27) (.slice (some ⟨B1, 0, none⟩) n n)).put (some 33) (.slice (some ⟨B4, 0, none⟩) n n)).put (some 7) (.pointer (some ⟨B5, 0, none⟩))) w := by
  have hh2 := r5_11011 hsz s26 s28 s30 s32 mk1 mk2 mk5 hQ B1 w.heap.size B3 B4 B5 (w.alloc (.cells M2 40)) h.s2
  rw [put_swap (i := 29) (j := 33) (by decide)] at hh2
  rw [put_swap (i := 29) (j := 7) (by decide)] at hh2
  have g28 : (((a.put (some 27) (.slice (some ⟨B1, 0, none⟩) n n)).put (some 33) (.slice (some ⟨B4, 0, none⟩) n n)).put (some 7) (.pointer (some ⟨B5, 0, none⟩))).tmps.getD 28 undef = .int .i64 (n : Int) := by rw [get_put (by decide), get_put (by decide), get_put (by decide)]; exact s28
  have hh3 := r5_10111 hsz s26 s28 s30 s32 mk1 mk2 mk5 hQ B1 B2 w.heap.size B4 B5 (w.alloc (.cells M2 40)) h.s3
  rw [put_swap (i := 31) (j := 33) (by decide)] at hh3
  rw [put_swap (i := 31) (j := 7) (by decide)] at hh3
  have g30 : (((a.put (some 27) (.slice (some ⟨B1, 0, none⟩) n n)).put (some 33) (.slice (some ⟨B4, 0, none⟩) n n)).put (some 7) (.pointer (some ⟨B5, 0, none⟩))).tmps.getD 30 undef = .int .i64 (n : Int) := by rw [get_put (by decide), get_put (by decide), get_put (by decide)]; exact s30
  clear hsz s26 s28 s30 s32 hQ h
  generalize (((a.put (some 27) (.slice (some ⟨B1, 0, none⟩) n n)).put (some 33) (.slice (some ⟨B4, 0, none⟩) n n)).put (some 7) (.pointer (some ⟨B5, 0, none⟩))) = b at hh2 g28 hh3 g30 ⊢
  refine wpAnyH_ready (rs := [3, 5]) (by kernel_rfl) (by simp) ?_
  refine AllReadyH.cons (o := on3) rfl (fun K hK => ?_) ?_
  · rw [if_pos (by rfl)]
    refine step_make (o := on3) (n := (n : Int)) (x := 28) (d := some 29) rfl rfl g28 (mk2 w) ?_
    exact hK.out _ _ trivial (fun _ => hh2)
  refine AllReadyH.cons (o := on5) rfl (fun K hK => ?_) ?_
  · rw [if_pos (by rfl)]
    refine step_make (o := on5) (n := (n : Int)) (x := 30) (d := some 31) rfl rfl g30 (mk2 w) ?_
    exact hK.out _ _ trivial (fun _ => hh3)
  exact AllReadyH.nil

set_option maxRecDepth 100000 in
theorem r5_10101 {w1 : World} {M1 M2 M5 : Array Value} {n : Nat} {a : Act} {Qf : Exit → Act → World → Prop} (hsz : 34 < a.tmps.size) (s26 : a.tmps.getD 26 undef = .int .i64 (n : Int)) (s28 : a.tmps.getD 28 undef = .int .i64 (n : Int)) (s30 : a.tmps.getD 30 undef = .int .i64 (n : Int)) (s32 : a.tmps.getD 32 undef = .int .i64 (n : Int))
    (mk1 : ∀ W : World, (Instr.makeSlice 35 (.int .i64 (n : Int)) (.int .i64 (n : Int))).run Tryd.prog W = .ok (.slice (some ⟨W.heap.size, 0, none⟩) n n) (W.alloc (.cells M1 4)))
    (mk2 : ∀ W : World, (Instr.makeSlice 61 (.int .i64 (n : Int)) (.int .i64 (n : Int))).run Tryd.prog W = .ok (.slice (some ⟨W.heap.size, 0, none⟩) n n) (W.alloc (.cells M2 40)))
    (mk5 : ∀ W : World, (Instr.makeSlice 22 (.int .i64 (n : Int)) (.int .i64 (n : Int))).run Tryd.prog W = .ok (.slice (some ⟨W.heap.size, 0, none⟩) n n) (W.alloc (.cells M5 52)))
    (hQ : ∀ (B1 B2 B3 B4 B5 : Nat) (w : World), St5 w1 w M1 M2 M5 true true true true true B1 B2 B3 B4 B5 → Qf .normal ((((((a.put (some 27) (.slice (some ⟨B1, 0, none⟩) n n)).put (some 29) (.slice (some ⟨B2, 0, none⟩) n n)).put (some 31) (.slice (some ⟨B3, 0, none⟩) n n)).put (some 33) (.slice (some ⟨B4, 0, none⟩) n n)).put (some 7) (.pointer (some ⟨B5, 0, none⟩))).put (some 34) (.agg #[.slice (some ⟨B1, 0, none⟩) n n, .slice (some ⟨B2, 0, none⟩) n n, .slice (some ⟨B3, 0, none⟩) n n, .slice (some ⟨B4, 0, none⟩) n n])) ((((w.setCell ⟨B5, 0, none⟩ (.slice (some ⟨B1, 0, none⟩) n n)).setCell ⟨B5, 1, none⟩ (.slice (some ⟨B2, 0, none⟩) n n)).setCell ⟨B5, 2, none⟩ (.slice (some ⟨B3, 0, none⟩) n n)).setCell ⟨B5, 3, none⟩ (.slice (some ⟨B4, 0, none⟩) n n))) (B1 B2 B3 B4 B5 : Nat) (w : World) (h : St5 w1 w M1 M2 M5 true false true false true B1 B2 B3 B4 B5) :
    wpAnyH Tryd.prog .any opsN Qf (fun _ => True) 4 #[true, true, true, false, true, true, true, false, false, true, false] (((a.put (some 27) (.slice (some ⟨B1, 0, none⟩) n n)).put (some 31) (.slice (some ⟨B3, 0, none⟩) n n)).put (some 7) (.pointer (some ⟨B5, 0, none⟩))) w := by
  have hh2 := r5_11101 hsz s26 s28 s30 s32 mk1 mk2 mk5 hQ B1 w.heap.size B3 B4 B5 (w.alloc (.cells M2 40)) h.s2
  rw [put_swap (i := 29) (j := 31) (by decide)] at hh2
  rw [put_swap (i := 29) (j := 7) (by decide)] at hh2
  have g28 : (((a.put (some 27) (.slice (some ⟨B1, 0, none⟩) n n)).put (some 31) (.slice (some ⟨B3, 0, none⟩) n n)).put (some 7) (.pointer (some ⟨B5, 0, none⟩))).tmps.getD 28 undef = .int .i64 (n : Int) := by rw [get_put (by decide), get_put (by decide), get_put (by decide)]; exact s28
  have hh4 := r5_10111 hsz s26 s28 s30 s32 mk1 mk2 mk5 hQ B1 B2 B3 w.heap.size B5 (w.alloc (.cells M1 4)) h.s4
  rw [put_swap (i := 33) (j := 7) (by decide)] at hh4
  have g32 : (((a.put (some 27) (.slice (some ⟨B1, 0, none⟩) n n)).put (some 31) (.slice (some ⟨B3, 0, none⟩) n n)).put (some 7) (.pointer (some ⟨B5, 0, none⟩))).tmps.getD 32 undef = .int .i64 (n : Int) := by rw [get_put (by decide), get_put (by decide), get_put (by decide)]; exact s32
  clear hsz s26 s28 s30 s32 hQ h
  generalize (((a.put (some 27) (.slice (some ⟨B1, 0, none⟩) n n)).put (some 31) (.slice (some ⟨B3, 0, none⟩) n n)).put (some 7) (.pointer (some ⟨B5, 0, none⟩))) = b at hh2 g28 hh4 g32 ⊢
  refine wpAnyH_ready (rs := [3, 7]) (by kernel_rfl) (by simp) ?_
  refine AllReadyH.cons (o := on3) rfl (fun K hK => ?_) ?_
  · rw [if_pos (by rfl)]
    refine step_make (o := on3) (n := (n : Int)) (x := 28) (d := some 29) rfl rfl g28 (mk2 w) ?_
    exact hK.out _ _ trivial (fun _ => hh2)
  refine AllReadyH.cons (o := on7) rfl (fun K hK => ?_) ?_
  · rw [if_pos (by rfl)]
    refine step_make (o := on7) (n := (n : Int)) (x := 32) (d := some 33) rfl rfl g32 (mk1 w) ?_
    exact hK.out _ _ trivial (fun _ => hh4)
  exact AllReadyH.nil

set_option maxRecDepth 100000 in
theorem r5_10110 {w1 : World} {M1 M2 M5 : Array Value} {n : Nat} {a : Act} {Qf : Exit → Act → World → Prop} (hsz : 34 < a.tmps.size) (s26 : a.tmps.getD 26 undef = .int .i64 (n : Int)) (s28 : a.tmps.getD 28 undef = .int .i64 (n : Int)) (s30 : a.tmps.getD 30 undef = .int .i64 (n : Int)) (s32 : a.tmps.getD 32 undef = .int .i64 (n : Int))
    (mk1 : ∀ W : World, (Instr.makeSlice 35 (.int .i64 (n : Int)) (.int .i64 (n : Int))).run Tryd.prog W = .ok (.slice (some ⟨W.heap.size, 0, none⟩) n n) (W.alloc (.cells M1 4)))
    (mk2 : ∀ W : World, (Instr.makeSlice 61 (.int .i64 (n : Int)) (.int .i64 (n : Int))).run Tryd.prog W = .ok (.slice (some ⟨W.heap.size, 0, none⟩) n n) (W.alloc (.cells M2 40)))
    (mk5 : ∀ W : World, (Instr.makeSlice 22 (.int .i64 (n : Int)) (.int .i64 (n : Int))).run Tryd.prog W = .ok (.slice (some ⟨W.heap.size, 0, none⟩) n n) (W.alloc (.cells M5 52)))
    (hQ : ∀ (B1 B2 B3 B4 B5 : Nat) (w : World), St5 w1 w M1 M2 M5 true true true true true B1 B2 B3 B4 B5 → Qf .normal ((((((a.put (some 27) (.slice (some ⟨B1, 0, none⟩) n n)).put (some 29) (.slice (some ⟨B2, 0, none⟩) n n)).put (some 31) (.slice (some ⟨B3, 0, none⟩) n n)).put (some 33) (.slice (some ⟨B4, 0, none⟩) n n)).put (some 7) (.pointer (some ⟨B5, 0, none⟩))).put (some 34) (.agg #[.slice (some ⟨B1, 0, none⟩) n n, .slice (some ⟨B2, 0, none⟩) n n, .slice (some ⟨B3, 0, none⟩) n n, .slice (some ⟨B4, 0, none⟩) n n])) ((((w.setCell ⟨B5, 0, none⟩ (.slice (some ⟨B1, 0, none⟩) n n)).setCell ⟨B5, 1, none⟩ (.slice (some ⟨B2, 0, none⟩) n n)).setCell ⟨B5, 2, none⟩ (.slice (some ⟨B3, 0, none⟩) n n)).setCell ⟨B5, 3, none⟩ (.slice (some ⟨B4, 0, none⟩) n n))) (B1 B2 B3 B4 B5 : Nat) (w : World) (h : St5 w1 w M1 M2 M5 true false true true false B1 B2 B3 B4 B5) :
    wpAnyH Tryd.prog .any opsN Qf (fun _ => True) 4 #[true, true, true, false, true, true, true, true, false, false, false] (((a.put (some 27) (.slice (some ⟨B1, 0, none⟩) n n)).put (some 31) (.slice (some ⟨B3, 0, none⟩) n n)).put (some 33) (.slice (some ⟨B4, 0, none⟩) n n)) w := by
  have hh2 := r5_11110 hsz s26 s28 s30 s32 mk1 mk2 mk5 hQ B1 w.heap.size B3 B4 B5 (w.alloc (.cells M2 40)) h.s2
  rw [put_swap (i := 29) (j := 31) (by decide)] at hh2
  rw [put_swap (i := 29) (j := 33) (by decide)] at hh2
  have g28 : (((a.put (some 27) (.slice (some ⟨B1, 0, none⟩) n n)).put (some 31) (.slice (some ⟨B3, 0, none⟩) n n)).put (some 33) (.slice (some ⟨B4, 0, none⟩) n n)).tmps.getD 28 undef = .int .i64 (n : Int) := by rw [get_put (by decide), get_put (by decide), get_put (by decide)]; exact s28
  have hh5 := r5_10111 hsz s26 s28 s30 s32 mk1 mk2 mk5 hQ B1 B2 B3 B4 w.heap.size (w.alloc (.cells #[.slice none 0 0, .slice none 0 0, .slice none 0 0, .slice none 0 0] 63)) h.s5
  clear hsz s26 s28 s30 s32 hQ h
  generalize (((a.put (some 27) (.slice (some ⟨B1, 0, none⟩) n n)).put (some 31) (.slice (some ⟨B3, 0, none⟩) n n)).put (some 33) (.slice (some ⟨B4, 0, none⟩) n n)) = b at hh2 g28 hh5 ⊢
  refine wpAnyH_ready (rs := [3, 9]) (by kernel_rfl) (by simp) ?_
  refine AllReadyH.cons (o := on3) rfl (fun K hK => ?_) ?_
  · rw [if_pos (by rfl)]
    refine step_make (o := on3) (n := (n : Int)) (x := 28) (d := some 29) rfl rfl g28 (mk2 w) ?_
    exact hK.out _ _ trivial (fun _ => hh2)
  refine AllReadyH.cons (o := on9) rfl (fun K hK => ?_) ?_
  · rw [if_pos (by rfl)]
    refine step_alloc (d := some 7) rfl rfl ?_
    exact hK.out _ _ trivial (fun _ => hh5)
  exact AllReadyH.nil

set_option maxRecDepth 100000 in
theorem r5_11001 {w1 : World} {M1 M2 M5 : Array Value} {n : Nat} {a : Act} {Qf : Exit → Act → World → Prop} (hsz : 34 < a.tmps.size) (s26 : a.tmps.getD 26 undef = .int .i64 (n : Int)) (s28 : a.tmps.getD 28 undef = .int .i64 (n : Int)) (s30 : a.tmps.getD 30 undef = .int .i64 (n : Int)) (s32 : a.tmps.getD 32 undef = .int .i64 (n : Int))
    (mk1 : ∀ W : World, (Instr.makeSlice 35 (.int .i64 (n : Int)) (.int .i64 (n : Int))).run Tryd.prog W = .ok (.slice (some ⟨W.heap.size, 0, none⟩) n n) (W.alloc (.cells M1 4)))
    (mk2 : ∀ W : World, (Instr.makeSlice 61 (.int .i64 (n : Int)) (.int .i64 (n : Int))).run Tryd.prog W = .ok (.slice (some ⟨W.heap.size, 0, none⟩) n n) (W.alloc (.cells M2 40)))
    (mk5 : ∀ W : World, (Instr.makeSlice 22 (.int .i64 (n : Int)) (.int .i64 (n : Int))).run Tryd.prog W = .ok (.slice (some ⟨W.heap.size, 0, none⟩) n n) (W.alloc (.cells M5 52)))
    (hQ : ∀ (B1 B2 B3 B4 B5 : Nat) (w : World), St5 w1 w M1 M2 M5 true true true true true B1 B2 B3 B4 B5 → Qf .normal ((((((a.put (some 27) (.slice (some ⟨B1, 0, none⟩) n n)).put (some 29) (.slice (some ⟨B2, 0, none⟩) n n)).put (some 31) (.slice (some ⟨B3, 0, none⟩) n n)).put (some 33) (.slice (some ⟨B4, 0, none⟩) n n)).put (some 7) (.pointer (some ⟨B5, 0, none⟩))).put (some 34) (.agg #[.slice (some ⟨B1, 0, none⟩) n n, .slice (some ⟨B2, 0, none⟩) n n, .slice (some ⟨B3, 0, none⟩) n n, .slice (some ⟨B4, 0, none⟩) n n])) ((((w.setCell ⟨B5, 0, none⟩ (.slice (some ⟨B1, 0, none⟩) n n)).setCell ⟨B5, 1, none⟩ (.slice (some ⟨B2, 0, none⟩) n n)).setCell ⟨B5, 2, none⟩ (.slice (some ⟨B3, 0, none⟩) n n)).setCell ⟨B5, 3, none⟩ (.slice (some ⟨B4, 0, none⟩) n n))) (B1 B2 B3 B4 B5 : Nat) (w : World) (h : St5 w1 w M1 M2 M5 true true false false true B1 B2 B3 B4 B5) :
    wpAnyH Tryd.prog .any opsN Qf (fun _ => True) 4 #[true, true, true, true, true, false, true, false, false, true, false] (((a.put (some 27) (.slice (some ⟨B1, 0, none⟩) n n)).put (some 29) (.slice (some ⟨B2, 0, none⟩) n n)).put (some 7) (.pointer (some ⟨B5, 0, none⟩))) w := by
  have hh3 := r5_11101 hsz s26 s28 s30 s32 mk1 mk2 mk5 hQ B1 B2 w.heap.size B4 B5 (w.alloc (.cells M2 40)) h.s3
  rw [put_swap (i := 31) (j := 7) (by decide)] at hh3
  have g30 : (((a.put (some 27) (.slice (some ⟨B1, 0, none⟩) n n)).put (some 29) (.slice (some ⟨B2, 0, none⟩) n n)).put (some 7) (.pointer (some ⟨B5, 0, none⟩))).tmps.getD 30 undef = .int .i64 (n : Int) := by rw [get_put (by decide), get_put (by decide), get_put (by decide)]; exact s30
  have hh4 := r5_11011 hsz s26 s28 s30 s32 mk1 mk2 mk5 hQ B1 B2 B3 w.heap.size B5 (w.alloc (.cells M1 4)) h.s4
  rw [put_swap (i := 33) (j := 7) (by decide)] at hh4
  have g32 : (((a.put (some 27) (.slice (some ⟨B1, 0, none⟩) n n)).put (some 29) (.slice (some ⟨B2, 0, none⟩) n n)).put (some 7) (.pointer (some ⟨B5, 0, none⟩))).tmps.getD 32 undef = .int .i64 (n : Int) := by rw [get_put (by decide), get_put (by decide), get_put (by decide)]; exact s32
  clear hsz s26 s28 s30 s32 hQ h
  generalize (((a.put (some 27) (.slice (some ⟨B1, 0, none⟩) n n)).put (some 29) (.slice (some ⟨B2, 0, none⟩) n n)).put (some 7) (.pointer (some ⟨B5, 0, none⟩))) = b at hh3 g30 hh4 g32 ⊢
  refine wpAnyH_ready (rs := [5, 7]) (by kernel_rfl) (by simp) ?_
  refine AllReadyH.cons (o := on5) rfl (fun K hK => ?_) ?_
  · rw [if_pos (by rfl)]
    refine step_make (o := on5) (n := (n : Int)) (x := 30) (d := some 31) rfl rfl g30 (mk2 w) ?_
    exact hK.out _ _ trivial (fun _ => hh3)
  refine AllReadyH.cons (o := on7) rfl (fun K hK => ?_) ?_
  · rw [if_pos (by rfl)]
    refine step_make (o := on7) (n := (n : Int)) (x := 32) (d := some 33) rfl rfl g32 (mk1 w) ?_
    exact hK.out _ _ trivial (fun _ => hh4)
  exact AllReadyH.nil

set_option maxRecDepth 100000 in
theorem r5_11010 {w1 : World} {M1 M2 M5 : Array Value} {n : Nat} {a : Act} {Qf : Exit → Act → World → Prop} (hsz : 34 < a.tmps.size) (s26 : a.tmps.getD 26 undef = .int .i64 (n : Int)) (s28 : a.tmps.getD 28 undef = .int .i64 (n : Int)) (s30 : a.tmps.getD 30 undef = .int .i64 (n : Int)) (s32 : a.tmps.getD 32 undef = .int .i64 (n : Int))
    (mk1 : ∀ W : World, (Instr.makeSlice 35 (.int .i64 (n : Int)) (.int .i64 (n : Int))).run Tryd.prog W = .ok (.slice (some ⟨W.heap.size, 0, none⟩) n n) (W.alloc (.cells M1 4)))
    (mk2 : ∀ W : World, (Instr.makeSlice 61 (.int .i64 (n : Int)) (.int .i64 (n : Int))).run Tryd.prog W = .ok (.slice (some ⟨W.heap.size, 0, none⟩) n n) (W.alloc (.cells M2 40)))
    (mk5 : ∀ W : World, (Instr.makeSlice 22 (.int .i64 (n : Int)) (.int .i64 (n : Int))).run Tryd.prog W = .ok (.slice (some ⟨W.heap.size, 0, none⟩) n n) (W.alloc (.cells M5 52)))
    (hQ : ∀ (B1 B2 B3 B4 B5 : Nat) (w : World), St5 w1 w M1 M2 M5 true true true true true B1 B2 B3 B4 B5 → Qf .normal ((((((a.put (some 27) (.slice (some ⟨B1, 0, none⟩) n n)).put (some 29) (.slice (some ⟨B2, 0, none⟩) n n)).put (some 31) (.slice (some ⟨B3, 0, none⟩) n n)).put (some 33) (.slice (some ⟨B4, 0, none⟩) n n)).put (some 7) (.pointer (some ⟨B5, 0, none⟩))).put (some 34) (.agg #[.slice (some ⟨B1, 0, none⟩) n n, .slice (some ⟨B2, 0, none⟩) n n, .slice (some ⟨B3, 0, none⟩) n n, .slice (some ⟨B4, 0, none⟩) n n])) ((((w.setCell ⟨B5, 0, none⟩ (.slice (some ⟨B1, 0, none⟩) n n)).setCell ⟨B5, 1, none⟩ (.slice (some ⟨B2, 0, none⟩) n n)).setCell ⟨B5, 2, none⟩ (.slice (some ⟨B3, 0, none⟩) n n)).setCell ⟨B5, 3, none⟩ (.slice (some ⟨B4, 0, none⟩) n n))) (B1 B2 B3 B4 B5 : Nat) (w : World) (h : St5 w1 w M1 M2 M5 true true false true false B1 B2 B3 B4 B5) :
    wpAnyH Tryd.prog .any opsN Qf (fun _ => True) 4 #[true, true, true, true, true, false, true, true, false, false, false] (((a.put (some 27) (.slice (some ⟨B1, 0, none⟩) n n)).put (some 29) (.slice (some ⟨B2, 0, none⟩) n n)).put (some 33) (.slice (some ⟨B4, 0, none⟩) n n)) w := by
  have hh3 := r5_11110 hsz s26 s28 s30 s32 mk1 mk2 mk5 hQ B1 B2 w.heap.size B4 B5 (w.alloc (.cells M2 40)) h.s3
  rw [put_swap (i := 31) (j := 33) (by decide)] at hh3
  have g30 : (((a.put (some 27) (.slice (some ⟨B1, 0, none⟩) n n)).put (some 29) (.slice (some ⟨B2, 0, none⟩) n n)).put (some 33) (.slice (some ⟨B4, 0, none⟩) n n)).tmps.getD 30 undef = .int .i64 (n : Int) := by rw [get_put (by decide), get_put (by decide), get_put (by decide)]; exact s30
  have hh5 := r5_11011 hsz s26 s28 s30 s32 mk1 mk2 mk5 hQ B1 B2 B3 B4 w.heap.size (w.alloc (.cells #[.slice none 0 0, .slice none 0 0, .slice none 0 0, .slice none 0 0] 63)) h.s5
  clear hsz s26 s28 s30 s32 hQ h
  generalize (((a.put (some 27) (.slice (some ⟨B1, 0, none⟩) n n)).put (some 29) (.slice (some ⟨B2, 0, none⟩) n n)).put (some 33) (.slice (some ⟨B4, 0, none⟩) n n)) = b at hh3 g30 hh5 ⊢
  refine wpAnyH_ready (rs := [5, 9]) (by kernel_rfl) (by simp) ?_
  refine AllReadyH.cons (o := on5) rfl (fun K hK => ?_) ?_
  · rw [if_pos (by rfl)]
    refine step_make (o := on5) (n := (n : Int)) (x := 30) (d := some 31) rfl rfl g30 (mk2 w) ?_
    exact hK.out _ _ trivial (fun _ => hh3)
  refine AllReadyH.cons (o := on9) rfl (fun K hK => ?_) ?_
  · rw [if_pos (by rfl)]
    refine step_alloc (d := some 7) rfl rfl ?_
    exact hK.out _ _ trivial (fun _ => hh5)
  exact AllReadyH.nil

set_option maxRecDepth 100000 in
theorem r5_11100 {w1 : World} {M1 M2 M5 : Array Value} {n : Nat} {a : Act} {Qf : Exit → Act → World → Prop} (hsz : 34 < a.tmps.size) (s26 : a.tmps.getD 26 undef = .int .i64 (n : Int)) (s28 : a.tmps.getD 28 undef = .int .i64 (n : Int)) (s30 : a.tmps.getD 30 undef = .int .i64 (n : Int)) (s32 : a.tmps.getD 32 undef = .int .i64 (n : Int))
    (mk1 : ∀ W : World, (Instr.makeSlice 35 (.int .i64 (n : Int)) (.int .i64 (n : Int))).run Tryd.prog W = .ok (.slice (some ⟨W.heap.size, 0, none⟩) n n) (W.alloc (.cells M1 4)))
    (mk2 : ∀ W : World, (Instr.makeSlice 61 (.int .i64 (n : Int)) (.int .i64 (n : Int))).run Tryd.prog W = .ok (.slice (some ⟨W.heap.size, 0, none⟩) n n) (W.alloc (.cells M2 40)))
    (mk5 : ∀ W : World, (Instr.makeSlice 22 (.int .i64 (n : Int)) (.int .i64 (n : Int))).run Tryd.prog W = .ok (.slice (some ⟨W.heap.size, 0, none⟩) n n) (W.alloc (.cells M5 52)))
    (hQ : ∀ (B1 B2 B3 B4 B5 : Nat) (w : World), St5 w1 w M1 M2 M5 true true true true true B1 B2 B3 B4 B5 → Qf .normal ((((((a.put (some 27) (.slice (some ⟨B1, 0, none⟩) n n)).put (some 29) (.slice (some ⟨B2, 0, none⟩) n n)).put (some 31) (.slice (some ⟨B3, 0, none⟩) n n)).put (some 33) (.slice (some ⟨B4, 0, none⟩) n n)).put (some 7) (.pointer (some ⟨B5, 0, none⟩))).put (some 34) (.agg #[.slice (some ⟨B1, 0, none⟩) n n, .slice (some ⟨B2, 0, none⟩) n n, .slice (some ⟨B3, 0, none⟩) n n, .slice (some ⟨B4, 0, none⟩) n n])) ((((w.setCell ⟨B5, 0, none⟩ (.slice (some ⟨B1, 0, none⟩) n n)).setCell ⟨B5, 1, none⟩ (.slice (some ⟨B2, 0, none⟩) n n)).setCell ⟨B5, 2, none⟩ (.slice (some ⟨B3, 0, none⟩) n n)).setCell ⟨B5, 3, none⟩ (.slice (some ⟨B4, 0, none⟩) n n))) (B1 B2 B3 B4 B5 : Nat) (w : World) (h : St5 w1 w M1 M2 M5 true true true false false B1 B2 B3 B4 B5) :
    wpAnyH Tryd.prog .any opsN Qf (fun _ => True) 4 #[true, true, true, true, true, true, true, false, false, false, false] (((a.put (some 27) (.slice (some ⟨B1, 0, none⟩) n n)).put (some 29) (.slice (some ⟨B2, 0, none⟩) n n)).put (some 31) (.slice (some ⟨B3, 0, none⟩) n n)) w := by
  have hh4 := r5_11110 hsz s26 s28 s30 s32 mk1 mk2 mk5 hQ B1 B2 B3 w.heap.size B5 (w.alloc (.cells M1 4)) h.s4
  have g32 : (((a.put (some 27) (.slice (some ⟨B1, 0, none⟩) n n)).put (some 29) (.slice (some ⟨B2, 0, none⟩) n n)).put (some 31) (.slice (some ⟨B3, 0, none⟩) n n)).tmps.getD 32 undef = .int .i64 (n : Int) := by rw [get_put (by decide), get_put (by decide), get_put (by decide)]; exact s32
  have hh5 := r5_11101 hsz s26 s28 s30 s32 mk1 mk2 mk5 hQ B1 B2 B3 B4 w.heap.size (w.alloc (.cells #[.slice none 0 0, .slice none 0 0, .slice none 0 0, .slice none 0 0] 63)) h.s5
  clear hsz s26 s28 s30 s32 hQ h
  generalize (((a.put (some 27) (.slice (some ⟨B1, 0, none⟩) n n)).put (some 29) (.slice (some ⟨B2, 0, none⟩) n n)).put (some 31) (.slice (some ⟨B3, 0, none⟩) n n)) = b at hh4 g32 hh5 ⊢
  refine wpAnyH_ready (rs := [7, 9]) (by kernel_rfl) (by simp) ?_
  refine AllReadyH.cons (o := on7) rfl (fun K hK => ?_) ?_
  · rw [if_pos (by rfl)]
    refine step_make (o := on7) (n := (n : Int)) (x := 32) (d := some 33) rfl rfl g32 (mk1 w) ?_
    exact hK.out _ _ trivial (fun _ => hh4)
  refine AllReadyH.cons (o := on9) rfl (fun K hK => ?_) ?_
  · rw [if_pos (by rfl)]
    refine step_alloc (d := some 7) rfl rfl ?_
    exact hK.out _ _ trivial (fun _ => hh5)
  exact AllReadyH.nil

set_option maxRecDepth 100000 in
theorem r5_00011 {w1 : World} {M1 M2 M5 : Array Value} {n : Nat} {a : Act} {Qf : Exit → Act → World → Prop} (hsz : 34 < a.tmps.size) (s26 : a.tmps.getD 26 undef = .int .i64 (n : Int)) (s28 : a.tmps.getD 28 undef = .int .i64 (n : Int)) (s30 : a.tmps.getD 30 undef = .int .i64 (n : Int)) (s32 : a.tmps.getD 32 undef = .int .i64 (n : Int))
    (mk1 : ∀ W : World, (Instr.makeSlice 35 (.int .i64 (n : Int)) (.int .i64 (n : Int))).run Tryd.prog W = .ok (.slice (some ⟨W.heap.size, 0, none⟩) n n) (W.alloc (.cells M1 4)))
    (mk2 : ∀ W : World, (Instr.makeSlice 61 (.int .i64 (n : Int)) (.int .i64 (n : Int))).run Tryd.prog W = .ok (.slice (some ⟨W.heap.size, 0, none⟩) n n) (W.alloc (.cells M2 40)))
    (mk5 : ∀ W : World, (Instr.makeSlice 22 (.int .i64 (n : Int)) (.int .i64 (n : Int))).run Tryd.prog W = .ok (.slice (some ⟨W.heap.size, 0, none⟩) n n) (W.alloc (.cells M5 52)))
    (hQ : ∀ (B1 B2 B3 B4 B5 : Nat) (w : World), St5 w1 w M1 M2 M5 true true true true true B1 B2 B3 B4 B5 → Qf .normal ((((((a.put (some 27) (.slice (some ⟨B1, 0, none⟩) n n)).put (some 29) (.slice (some ⟨B2, 0, none⟩) n n)).put (some 31) (.slice (some ⟨B3, 0, none⟩) n n)).put (some 33) (.slice (some ⟨B4, 0, none⟩) n n)).put (some 7) (.pointer (some ⟨B5, 0, none⟩))).put (some 34) (.agg #[.slice (some ⟨B1, 0, none⟩) n n, .slice (some ⟨B2, 0, none⟩) n n, .slice (some ⟨B3, 0, none⟩) n n, .slice (some ⟨B4, 0, none⟩) n n])) ((((w.setCell ⟨B5, 0, none⟩ (.slice (some ⟨B1, 0, none⟩) n n)).setCell ⟨B5, 1, none⟩ (.slice (some ⟨B2, 0, none⟩) n n)).setCell ⟨B5, 2, none⟩ (.slice (some ⟨B3, 0, none⟩) n n)).setCell ⟨B5, 3, none⟩ (.slice (some ⟨B4, 0, none⟩) n n))) (B1 B2 B3 B4 B5 : Nat) (w : World) (h : St5 w1 w M1 M2 M5 false false false true true B1 B2 B3 B4 B5) :
    wpAnyH Tryd.prog .any opsN Qf (fun _ => True) 5 #[true, false, true, false, true, false, true, true, false, true, false] ((a.put (some 33) (.slice (some ⟨B4, 0, none⟩) n n)).put (some 7) (.pointer (some ⟨B5, 0, none⟩))) w := by
  have hh1 := r5_10011 hsz s26 s28 s30 s32 mk1 mk2 mk5 hQ w.heap.size B2 B3 B4 B5 (w.alloc (.cells M5 52)) h.s1
  rw [put_swap (i := 27) (j := 33) (by decide)] at hh1
  rw [put_swap (i := 27) (j := 7) (by decide)] at hh1
  have g26 : ((a.put (some 33) (.slice (some ⟨B4, 0, none⟩) n n)).put (some 7) (.pointer (some ⟨B5, 0, none⟩))).tmps.getD 26 undef = .int .i64 (n : Int) := by rw [get_put (by decide), get_put (by decide)]; exact s26
  have hh2 := r5_01011 hsz s26 s28 s30 s32 mk1 mk2 mk5 hQ B1 w.heap.size B3 B4 B5 (w.alloc (.cells M2 40)) h.s2
  rw [put_swap (i := 29) (j := 33) (by decide)] at hh2
  rw [put_swap (i := 29) (j := 7) (by decide)] at hh2
  have g28 : ((a.put (some 33) (.slice (some ⟨B4, 0, none⟩) n n)).put (some 7) (.pointer (some ⟨B5, 0, none⟩))).tmps.getD 28 undef = .int .i64 (n : Int) := by rw [get_put (by decide), get_put (by decide)]; exact s28
  have hh3 := r5_00111 hsz s26 s28 s30 s32 mk1 mk2 mk5 hQ B1 B2 w.heap.size B4 B5 (w.alloc (.cells M2 40)) h.s3
  rw [put_swap (i := 31) (j := 33) (by decide)] at hh3
  rw [put_swap (i := 31) (j := 7) (by decide)] at hh3
  have g30 : ((a.put (some 33) (.slice (some ⟨B4, 0, none⟩) n n)).put (some 7) (.pointer (some ⟨B5, 0, none⟩))).tmps.getD 30 undef = .int .i64 (n : Int) := by rw [get_put (by decide), get_put (by decide)]; exact s30
  clear hsz s26 s28 s30 s32 hQ h
  generalize ((a.put (some 33) (.slice (some ⟨B4, 0, none⟩) n n)).put (some 7) (.pointer (some ⟨B5, 0, none⟩))) = b at hh1 g26 hh2 g28 hh3 g30 ⊢
  refine wpAnyH_ready (rs := [1, 3, 5]) (by kernel_rfl) (by simp) ?_
  refine AllReadyH.cons (o := on1) rfl (fun K hK => ?_) ?_
  · rw [if_pos (by rfl)]
    refine step_make (o := on1) (n := (n : Int)) (x := 26) (d := some 27) rfl rfl g26 (mk5 w) ?_
    exact hK.out _ _ trivial (fun _ => hh1)
  refine AllReadyH.cons (o := on3) rfl (fun K hK => ?_) ?_
  · rw [if_pos (by rfl)]
    refine step_make (o := on3) (n := (n : Int)) (x := 28) (d := some 29) rfl rfl g28 (mk2 w) ?_
    exact hK.out _ _ trivial (fun _ => hh2)
  refine AllReadyH.cons (o := on5) rfl (fun K hK => ?_) ?_
  · rw [if_pos (by rfl)]
    refine step_make (o := on5) (n := (n : Int)) (x := 30) (d := some 31) rfl rfl g30 (mk2 w) ?_
    exact hK.out _ _ trivial (fun _ => hh3)
  exact AllReadyH.nil

set_option maxRecDepth 100000 in
theorem r5_00101 {w1 : World} {M1 M2 M5 : Array Value} {n : Nat} {a : Act} {Qf : Exit → Act → World → Prop} (hsz : 34 < a.tmps.size) (s26 : a.tmps.getD 26 undef = .int .i64 (n : Int)) (s28 : a.tmps.getD 28 undef = .int .i64 (n : Int)) (s30 : a.tmps.getD 30 undef = .int .i64 (n : Int)) (s32 : a.tmps.getD 32 undef = .int .i64 (n : Int))
    (mk1 : ∀ W : World, (Instr.makeSlice 35 (.int .i64 (n : Int)) (.int .i64 (n : Int))).run Tryd.prog W = .ok (.slice (some ⟨W.heap.size, 0, none⟩) n n) (W.alloc (.cells M1 4)))
    (mk2 : ∀ W : World, (Instr.makeSlice 61 (.int .i64 (n : Int)) (.int .i64 (n : Int))).run Tryd.prog W = .ok (.slice (some ⟨W.heap.size, 0, none⟩) n n) (W.alloc (.cells M2 40)))
    (mk5 : ∀ W : World, (Instr.makeSlice 22 (.int .i64 (n : Int)) (.int .i64 (n : Int))).run Tryd.prog W = .ok (.slice (some ⟨W.heap.size, 0, none⟩) n n) (W.alloc (.cells M5 52)))
    (hQ : ∀ (B1 B2 B3 B4 B5 : Nat) (w : World), St5 w1 w M1 M2 M5 true true true true true B1 B2 B3 B4 B5 → Qf .normal ((((((a.put (some 27) (.slice (some ⟨B1, 0, none⟩) n n)).put (some 29) (.slice (some ⟨B2, 0, none⟩) n n)).put (some 31) (.slice (some ⟨B3, 0, none⟩) n n)).put (some 33) (.slice (some ⟨B4, 0, none⟩) n n)).put (some 7) (.pointer (some ⟨B5, 0, none⟩))).put (some 34) (.agg #[.slice (some ⟨B1, 0, none⟩) n n, .slice (some ⟨B2, 0, none⟩) n n, .slice (some ⟨B3, 0, none⟩) n n, .slice (some ⟨B4, 0, none⟩) n n])) ((((w.setCell ⟨B5, 0, none⟩ (.slice (some ⟨B1, 0, none⟩) n n)).setCell ⟨B5, 1, none⟩ (.slice (some ⟨B2, 0, none⟩) n n)).setCell ⟨B5, 2, none⟩ (.slice (some ⟨B3, 0, none⟩) n n)).setCell ⟨B5, 3, none⟩ (.slice (some ⟨B4, 0, none⟩) n n))) (B1 B2 B3 B4 B5 : Nat) (w : World) (h : St5 w1 w M1 M2 M5 false false true false true B1 B2 B3 B4 B5) :
    wpAnyH Tryd.prog .any opsN Qf (fun _ => True) 5 #[true, false, true, false, true, true, true, false, false, true, false] ((a.put (some 31) (.slice (some ⟨B3, 0, none⟩) n n)).put (some 7) (.pointer (some ⟨B5, 0, none⟩))) w := by
  have hh1 := r5_10101 hsz s26 s28 s30 s32 mk1 mk2 mk5 hQ w.heap.size B2 B3 B4 B5 (w.alloc (.cells M5 52)) h.s1
  rw [put_swap (i := 27) (j := 31) (by decide)] at hh1
  rw [put_swap (i := 27) (j := 7) (by decide)] at hh1
  have g26 : ((a.put (some 31) (.slice (some ⟨B3, 0, none⟩) n n)).put (some 7) (.pointer (some ⟨B5, 0, none⟩))).tmps.getD 26 undef = .int .i64 (n : Int) := by rw [get_put (by decide), get_put (by decide)]; exact s26
  have hh2 := r5_01101 hsz s26 s28 s30 s32 mk1 mk2 mk5 hQ B1 w.heap.size B3 B4 B5 (w.alloc (.cells M2 40)) h.s2
  rw [put_swap (i := 29) (j := 31) (by decide)] at hh2
  rw [put_swap (i := 29) (j := 7) (by decide)] at hh2
  have g28 : ((a.put (some 31) (.slice (some ⟨B3, 0, none⟩) n n)).put (some 7) (.pointer (some ⟨B5, 0, none⟩))).tmps.getD 28 undef = .int .i64 (n : Int) := by rw [get_put (by decide), get_put (by decide)]; exact s28
  have hh4 := r5_00111 hsz s26 s28 s30 s32 mk1 mk2 mk5 hQ B1 B2 B3 w.heap.size B5 (w.alloc (.cells M1 4)) h.s4
  rw [put_swap (i := 33) (j := 7) (by decide)] at hh4
  have g32 : ((a.put (some 31) (.slice (some ⟨B3, 0, none⟩) n n)).put (some 7) (.pointer (some ⟨B5, 0, none⟩))).tmps.getD 32 undef = .int .i64 (n : Int) := by rw [get_put (by decide), get_put (by decide)]; exact s32
  clear hsz s26 s28 s30 s32 hQ h
  generalize ((a.put (some 31) (.slice (some ⟨B3, 0, none⟩) n n)).put (some 7) (.pointer (some ⟨B5, 0, none⟩))) = b at hh1 g26 hh2 g28 hh4 g32 ⊢
  refine wpAnyH_ready (rs := [1, 3, 7]) (by kernel_rfl) (by simp) ?_
  refine AllReadyH.cons (o := on1) rfl (fun K hK => ?_) ?_
  · rw [if_pos (by rfl)]
    refine step_make (o := on1) (n := (n : Int)) (x := 26) (d := some 27) rfl rfl g26 (mk5 w) ?_
    exact hK.out _ _ trivial (fun _ => hh1)
  refine AllReadyH.cons (o := on3) rfl (fun K hK => ?_) ?_
  · rw [if_pos (by rfl)]
    refine step_make (o := on3) (n := (n : Int)) (x := 28) (d := some 29) rfl rfl g28 (mk2 w) ?_
    exact hK.out _ _ trivial (fun _ => hh2)
  refine AllReadyH.cons (o := on7) rfl (fun K hK => ?_) ?_
  · rw [if_pos (by rfl)]
    refine step_make (o := on7) (n := (n : Int)) (x := 32) (d := some 33) rfl rfl g32 (mk1 w) ?_
    exact hK.out _ _ trivial (fun _ => hh4)
  exact AllReadyH.nil

set_option maxRecDepth 100000 in
theorem r5_00110 {w1 : World} {M1 M2 M5 : Array Value} {n : Nat} {a : Act} {Qf : Exit → Act → World → Prop} (hsz : 34 < a.tmps.size) (s26 : a.tmps.getD 26 undef = .int .i64 (n : Int)) (s28 : a.tmps.getD 28 undef = .int .i64 (n : Int)) (s30 : a.tmps.getD 30 undef = .int .i64 (n : Int)) (s32 : a.tmps.getD 32 undef = .int .i64 (n : Int))
    (mk1 : ∀ W : World, (Instr.makeSlice 35 (.int .i64 (n : Int)) (.int .i64 (n : Int))).run Tryd.prog W = .ok (.slice (some ⟨W.heap.size, 0, none⟩) n n) (W.alloc (.cells M1 4)))
    (mk2 : ∀ W : World, (Instr.makeSlice 61 (.int .i64 (n : Int)) (.int .i64 (n : Int))).run Tryd.prog W = .ok (.slice (some ⟨W.heap.size, 0, none⟩) n n) (W.alloc (.cells M2 40)))
    (mk5 : ∀ W : World, (Instr.makeSlice 22 (.int .i64 (n : Int)) (.int .i64 (n : Int))).run Tryd.prog W = .ok (.slice (some ⟨W.heap.size, 0, none⟩) n n) (W.alloc (.cells M5 52)))
    (hQ : ∀ (B1 B2 B3 B4 B5 : Nat) (w : World), St5 w1 w M1 M2 M5 true true true true true B1 B2 B3 B4 B5 → Qf .normal ((((((a.put (some 27) (.slice (some ⟨B1, 0, none⟩) n n)).put (some 29) (.slice (some ⟨B2, 0, none⟩) n n)).put (some 31) (.slice (some ⟨B3, 0, none⟩) n n)).put (some 33) (.slice (some ⟨B4, 0, none⟩) n n)).put (some 7) (.pointer (some ⟨B5, 0, none⟩))).put (some 34) (.agg #[.slice (some ⟨B1, 0, none⟩) n n, .slice (some ⟨B2, 0, none⟩) n n, .slice (some ⟨B3, 0, none⟩) n n, .slice (some ⟨B4, 0, none⟩) n n])) ((((w.setCell ⟨B5, 0, none⟩ (.slice (some ⟨B1, 0, none⟩) n n)).setCell ⟨B5, 1, none⟩ (.slice (some ⟨B2, 0, none⟩) n n)).setCell ⟨B5, 2, none⟩ (.slice (some ⟨B3, 0, none⟩) n n)).setCell ⟨B5, 3, none⟩ (.slice (some ⟨B4, 0, none⟩) n n))) (B1 B2 B3 B4 B5 : Nat) (w : World) (h : St5 w1 w M1 M2 M5 false false true true false B1 B2 B3 B4 B5) :
    wpAnyH Tryd.prog .any opsN Qf (fun _ => True) 5 #[true, false, true, false, true, true, true, true, false, false, false] ((a.put (some 31) (.slice (some ⟨B3, 0, none⟩) n n)).put (some 33) (.slice (some ⟨B4, 0, none⟩) n n)) w := by
  have hh1 := r5_10110 hsz s26 s28 s30 s32 mk1 mk2 mk5 hQ w.heap.size B2 B3 B4 B5 (w.alloc (.cells M5 52)) h.s1
  rw [put_swap (i := 27) (j := 31) (by decide)] at hh1
  rw [put_swap (i := 27) (j := 33) (by decide)] at hh1
  have g26 : ((a.put (some 31) (.slice (some ⟨B3, 0, none⟩) n n)).put (some 33) (.slice (some ⟨B4, 0, none⟩) n n)).tmps.getD 26 undef = .int .i64 (n : Int) := by rw [get_put (by decide), get_put (by decide)]; exact s26
  have hh2 := r5_01110 hsz s26 s28 s30 s32 mk1 mk2 mk5 hQ B1 w.heap.size B3 B4 B5 (w.alloc (.cells M2 40)) h.s2
  rw [put_swap (i := 29) (j := 31) (by decide)] at hh2
  rw [put_swap (i := 29) (j := 33) (by decide)] at hh2
  have g28 : ((a.put (some 31) (.slice (some ⟨B3, 0, none⟩) n n)).put (some 33) (.slice (some ⟨B4, 0, none⟩) n n)).tmps.getD 28 undef = .int .i64 (n : Int) := by rw [get_put (by decide), get_put (by decide)]; exact s28
  have hh5 := r5_00111 hsz s26 s28 s30 s32 mk1 mk2 mk5 hQ B1 B2 B3 B4 w.heap.size (w.alloc (.cells #[.slice none 0 0, .slice none 0 0, .slice none 0 0, .slice none 0 0] 63)) h.s5
  clear hsz s26 s28 s30 s32 hQ h
  generalize ((a.put (some 31) (.slice (some ⟨B3, 0, none⟩) n n)).put (some 33) (.slice (some ⟨B4, 0, none⟩) n n)) = b at hh1 g26 hh2 g28 hh5 ⊢
  refine wpAnyH_ready (rs := [1, 3, 9]) (by kernel_rfl) (by simp) ?_
  refine AllReadyH.cons (o := on1) rfl (fun K hK => ?_) ?_
  · rw [if_pos (by rfl)]
    refine step_make (o := on1) (n := (n : Int)) (x := 26) (d := some 27) rfl rfl g26 (mk5 w) ?_
    exact hK.out _ _ trivial (fun _ => hh1)
  refine AllReadyH.cons (o := on3) rfl (fun K hK => ?_) ?_
  · rw [if_pos (by rfl)]
    refine step_make (o := on3) (n := (n : Int)) (x := 28) (d := some 29) rfl rfl g28 (mk2 w) ?_
    exact hK.out _ _ trivial (fun _ => hh2)
  refine AllReadyH.cons (o := on9) rfl (fun K hK => ?_) ?_
  · rw [if_pos (by rfl)]
    refine step_alloc (d := some 7) rfl rfl ?_
    exact hK.out _ _ trivial (fun _ => hh5)
  exact AllReadyH.nil

set_option maxRecDepth 100000 in
theorem r5_01001 {w1 : World} {M1 M2 M5 : Array Value} {n : Nat} {a : Act} {Qf : Exit → Act → World → Prop} (hsz : 34 < a.tmps.size) (s26 : a.tmps.getD 26 undef = .int .i64 (n : Int)) (s28 : a.tmps.getD 28 undef = .int .i64 (n : Int)) (s30 : a.tmps.getD 30 undef = .int .i64 (n : Int)) (s32 : a.tmps.getD 32 undef = .int .i64 (n : Int))
    (mk1 : ∀ W : World, (Instr.makeSlice 35 (.int .i64 (n : Int)) (.int .i64 (n : Int))).run Tryd.prog W = .ok (.slice (some ⟨W.heap.size, 0, none⟩) n n) (W.alloc (.cells M1 4)))
    (mk2 : ∀ W : World, (Instr.makeSlice 61 (.int .i64 (n : Int)) (.int .i64 (n : Int))).run Tryd.prog W = .ok (.slice (some ⟨W.heap.size, 0, none⟩) n n) (W.alloc (.cells M2 40)))
    (mk5 : ∀ W : World, (Instr.makeSlice 22 (.int .i64 (n : Int)) (.int .i64 (n : Int))).run Tryd.prog W = .ok (.slice (some ⟨W.heap.size, 0, none⟩) n n) (W.alloc (.cells M5 52)))
    (hQ : ∀ (B1 B2 B3 B4 B5 : Nat) (w : World), St5 w1 w M1 M2 M5 true true true true true B1 B2 B3 B4 B5 → Qf .normal ((((((a.put (some 27) (.slice (some ⟨B1, 0, none⟩) n n)).put (some 29) (.slice (some ⟨B2, 0, none⟩) n n)).put (some 31) (.slice (some ⟨B3, 0, none⟩) n n)).put (some 33) (.slice (some ⟨B4, 0, none⟩) n n)).put (some 7) (.pointer (some ⟨B5, 0, none⟩))).put (some 34) (.agg #[.slice (some ⟨B1, 0, none⟩) n n, .slice (some ⟨B2, 0, none⟩) n n, .slice (some ⟨B3, 0, none⟩) n n, .slice (some ⟨B4, 0, none⟩) n n])) ((((w.setCell ⟨B5, 0, none⟩ (.slice (some ⟨B1, 0, none⟩) n n)).setCell ⟨B5, 1, none⟩ (.slice (some ⟨B2, 0, none⟩) n n)).setCell ⟨B5, 2, none⟩ (.slice (some ⟨B3, 0, none⟩) n n)).setCell ⟨B5, 3, none⟩ (.slice (some ⟨B4, 0, none⟩) n n))) (B1 B2 B3 B4 B5 : Nat) (w : World) (h : St5 w1 w M1 M2 M5 false true false false true B1 B2 B3 B4 B5) :
    wpAnyH Tryd.prog .any opsN Qf (fun _ => True) 5 #[true, false, true, true, true, false, true, false, false, true, false] ((a.put (some 29) (.slice (some ⟨B2, 0, none⟩) n n)).put (some 7) (.pointer (some ⟨B5, 0, none⟩))) w := by
  have hh1 := r5_11001 hsz s26 s28 s30 s32 mk1 mk2 mk5 hQ w.heap.size B2 B3 B4 B5 (w.alloc (.cells M5 52)) h.s1
  rw [put_swap (i := 27) (j := 29) (by decide)] at hh1
  rw [put_swap (i := 27) (j := 7) (by decide)] at hh1
  have g26 : ((a.put (some 29) (.slice (some ⟨B2, 0, none⟩) n n)).put (some 7) (.pointer (some ⟨B5, 0, none⟩))).tmps.getD 26 undef = .int .i64 (n : Int) := by rw [get_put (by decide), get_put (by decide)]; exact s26
  have hh3 := r5_01101 hsz s26 s28 s30 s32 mk1 mk2 mk5 hQ B1 B2 w.heap.size B4 B5 (w.alloc (.cells M2 40)) h.s3
  rw [put_swap (i := 31) (j := 7) (by decide)] at hh3
  have g30 : ((a.put (some 29) (.slice (some ⟨B2, 0, none⟩) n n)).put (some 7) (.pointer (some ⟨B5, 0, none⟩))).tmps.getD 30 undef = .int .i64 (n : Int) := by rw [get_put (by decide), get_put (by decide)]; exact s30
  have hh4 := r5_01011 hsz s26 s28 s30 s32 mk1 mk2 mk5 hQ B1 B2 B3 w.heap.size B5 (w.alloc (.cells M1 4)) h.s4
  rw [put_swap (i := 33) (j := 7) (by decide)] at hh4
  have g32 : ((a.put (some 29) (.slice (some ⟨B2, 0, none⟩) n n)).put (some 7) (.pointer (some ⟨B5, 0, none⟩))).tmps.getD 32 undef = .int .i64 (n : Int) := by rw [get_put (by decide), get_put (by decide)]; exact s32
  clear hsz s26 s28 s30 s32 hQ h
  generalize ((a.put (some 29) (.slice (some ⟨B2, 0, none⟩) n n)).put (some 7) (.pointer (some ⟨B5, 0, none⟩))) = b at hh1 g26 hh3 g30 hh4 g32 ⊢
  refine wpAnyH_ready (rs := [1, 5, 7]) (by kernel_rfl) (by simp) ?_
  refine AllReadyH.cons (o := on1) rfl (fun K hK => ?_) ?_
  · rw [if_pos (by rfl)]
    refine step_make (o := on1) (n := (n : Int)) (x := 26) (d := some 27) rfl rfl g26 (mk5 w) ?_
    exact hK.out _ _ trivial (fun _ => hh1)
  refine AllReadyH.cons (o := on5) rfl (fun K hK => ?_) ?_
  · rw [if_pos (by rfl)]
    refine step_make (o := on5) (n := (n : Int)) (x := 30) (d := some 31) rfl rfl g30 (mk2 w) ?_
    exact hK.out _ _ trivial (fun _ => hh3)
  refine AllReadyH.cons (o := on7) rfl (fun K hK => ?_) ?_
  · rw [if_pos (by rfl)]
    refine step_make (o := on7) (n := (n : Int)) (x := 32) (d := some 33) rfl rfl g32 (mk1 w) ?_
    exact hK.out _ _ trivial (fun _ => hh4)
  exact AllReadyH.nil

set_option maxRecDepth 100000 in
theorem r5_01010 {w1 : World} {M1 M2 M5 : Array Value} {n : Nat} {a : Act} {Qf : Exit → Act → World → Prop} (hsz : 34 < a.tmps.size) (s26 : a.tmps.getD 26 undef = .int .i64 (n : Int)) (s28 : a.tmps.getD 28 undef = .int .i64 (n : Int)) (s30 : a.tmps.getD 30 undef = .int .i64 (n : Int)) (s32 : a.tmps.getD 32 undef = .int .i64 (n : Int))
    (mk1 : ∀ W : World, (Instr.makeSlice 35 (.int .i64 (n : Int)) (.int .i64 (n : Int))).run Tryd.prog W = .ok (.slice (some ⟨W.heap.size, 0, none⟩) n n) (W.alloc (.cells M1 4)))
    (mk2 : ∀ W : World, (Instr.makeSlice 61 (.int .i64 (n : Int)) (.int .i64 (n : Int))).run Tryd.prog W = .ok (.slice (some ⟨W.heap.size, 0, none⟩) n n) (W.alloc (.cells M2 40)))
    (mk5 : ∀ W : World, (Instr.makeSlice 22 (.int .i64 (n : Int)) (.int .i64 (n : Int))).run Tryd.prog W = .ok (.slice (some ⟨W.heap.size, 0, none⟩) n n) (W.alloc (.cells M5 52)))
    (hQ : ∀ (B1 B2 B3 B4 B5 : Nat) (w : World), St5 w1 w M1 M2 M5 true true true true true B1 B2 B3 B4 B5 → Qf .normal ((((((a.put (some 27) (.slice (some ⟨B1, 0, none⟩) n n)).put (some 29) (.slice (some ⟨B2, 0, none⟩) n n)).put (some 31) (.slice (some ⟨B3, 0, none⟩) n n)).put (some 33) (.slice (some ⟨B4, 0, none⟩) n n)).put (some 7) (.pointer (some ⟨B5, 0, none⟩))).put (some 34) (.agg #[.slice (some ⟨B1, 0, none⟩) n n, .slice (some ⟨B2, 0, none⟩) n n, .slice (some ⟨B3, 0, none⟩) n n, .slice (some ⟨B4, 0, none⟩) n n])) ((((w.setCell ⟨B5, 0, none⟩ (.slice (some ⟨B1, 0, none⟩) n n)).setCell ⟨B5, 1, none⟩ (.slice (some ⟨B2, 0, none⟩) n n)).setCell ⟨B5, 2, none⟩ (.slice (some ⟨B3, 0, none⟩) n n)).setCell ⟨B5, 3, none⟩ (.slice (some ⟨B4, 0, none⟩) n n))) (B1 B2 B3 B4 B5 : Nat) (w : World) (h : St5 w1 w M1 M2 M5 false true false true false B1 B2 B3 B4 B5) :
    wpAnyH Tryd.prog .any opsN Qf (fun _ => True) 5 #[true, false, true, true, true, false, true, true, false, false, false] ((a.put (some 29) (.slice (some ⟨B2, 0, none⟩) n n)).put (some 33) (.slice (some ⟨B4, 0, none⟩) n n)) w := by
  have hh1 := r5_11010 hsz s26 s28 s30 s32 mk1 mk2 mk5 hQ w.heap.size B2 B3 B4 B5 (w.alloc (.cells M5 52)) h.s1
  rw [put_swap (i := 27) (j := 29) (by decide)] at hh1
  rw [put_swap (i := 27) (j := 33) (by decide)] at hh1
  have g26 : ((a.put (some 29) (.slice (some ⟨B2, 0, none⟩) n n)).put (some 33) (.slice (some ⟨B4, 0, none⟩) n n)).tmps.getD 26 undef = .int .i64 (n : Int) := by rw [get_put (by decide), get_put (by decide)]; exact s26
  have hh3 := r5_01110 hsz s26 s28 s30 s32 mk1 mk2 mk5 hQ B1 B2 w.heap.size B4 B5 (w.alloc (.cells M2 40)) h.s3
  rw [put_swap (i := 31) (j := 33) (by decide)] at hh3
  have g30 : ((a.put (some 29) (.slice (some ⟨B2, 0, none⟩) n n)).put (some 33) (.slice (some ⟨B4, 0, none⟩) n n)).tmps.getD 30 undef = .int .i64 (n : Int) := by rw [get_put (by decide), get_put (by decide)]; exact s30
  have hh5 := r5_01011 hsz s26 s28 s30 s32 mk1 mk2 mk5 hQ B1 B2 B3 B4 w.heap.size (w.alloc (.cells #[.slice none 0 0, .slice none 0 0, .slice none 0 0, .slice none 0 0] 63)) h.s5
  clear hsz s26 s28 s30 s32 hQ h
  generalize ((a.put (some 29) (.slice (some ⟨B2, 0, none⟩) n n)).put (some 33) (.slice (some ⟨B4, 0, none⟩) n n)) = b at hh1 g26 hh3 g30 hh5 ⊢
  refine wpAnyH_ready (rs := [1, 5, 9]) (by kernel_rfl) (by simp) ?_
  refine AllReadyH.cons (o := on1) rfl (fun K hK => ?_) ?_
  · rw [if_pos (by rfl)]
    refine step_make (o := on1) (n := (n : Int)) (x := 26) (d := some 27) rfl rfl g26 (mk5 w) ?_
    exact hK.out _ _ trivial (fun _ => hh1)
  refine AllReadyH.cons (o := on5) rfl (fun K hK => ?_) ?_
  · rw [if_pos (by rfl)]
    refine step_make (o := on5) (n := (n : Int)) (x := 30) (d := some 31) rfl rfl g30 (mk2 w) ?_
    exact hK.out _ _ trivial (fun _ => hh3)
  refine AllReadyH.cons (o := on9) rfl (fun K hK => ?_) ?_
  · rw [if_pos (by rfl)]
    refine step_alloc (d := some 7) rfl rfl ?_
    exact hK.out _ _ trivial (fun _ => hh5)
  exact AllReadyH.nil

set_option maxRecDepth 100000 in
theorem r5_01100 {w1 : World} {M1 M2 M5 : Array Value} {n : Nat} {a : Act} {Qf : Exit → Act → World → Prop} (hsz : 34 < a.tmps.size) (s26 : a.tmps.getD 26 undef = .int .i64 (n : Int)) (s28 : a.tmps.getD 28 undef = .int .i64 (n : Int)) (s30 : a.tmps.getD 30 undef = .int .i64 (n : Int)) (s32 : a.tmps.getD 32 undef = .int .i64 (n : Int))
    (mk1 : ∀ W : World, (Instr.makeSlice 35 (.int .i64 (n : Int)) (.int .i64 (n : Int))).run Tryd.prog W = .ok (.slice (some ⟨W.heap.size, 0, none⟩) n n) (W.alloc (.cells M1 4)))
    (mk2 : ∀ W : World, (Instr.makeSlice 61 (.int .i64 (n : Int)) (.int .i64 (n : Int))).run Tryd.prog W = .ok (.slice (some ⟨W.heap.size, 0, none⟩) n n) (W.alloc (.cells M2 40)))
    (mk5 : ∀ W : World, (Instr.makeSlice 22 (.int .i64 (n : Int)) (.int .i64 (n : Int))).run Tryd.prog W = .ok (.slice (some ⟨W.heap.size, 0, none⟩) n n) (W.alloc (.cells M5 52)))
    (hQ : ∀ (B1 B2 B3 B4 B5 : Nat) (w : World), St5 w1 w M1 M2 M5 true true true true true B1 B2 B3 B4 B5 → Qf .normal ((((((a.put (some 27) (.slice (some ⟨B1, 0, none⟩) n n)).put (some 29) (.slice (some ⟨B2, 0, none⟩) n n)).put (some 31) (.slice (some ⟨B3, 0, none⟩) n n)).put (some 33) (.slice (some ⟨B4, 0, none⟩) n n)).put (some 7) (.pointer (some ⟨B5, 0, none⟩))).put (some 34) (.agg #[.slice (some ⟨B1, 0, none⟩) n n, .slice (some ⟨B2, 0, none⟩) n n, .slice (some ⟨B3, 0, none⟩) n n, .slice (some ⟨B4, 0, none⟩) n n])) ((((w.setCell ⟨B5, 0, none⟩ (.slice (some ⟨B1, 0, none⟩) n n)).setCell ⟨B5, 1, none⟩ (.slice (some ⟨B2, 0, none⟩) n n)).setCell ⟨B5, 2, none⟩ (.slice (some ⟨B3, 0, none⟩) n n)).setCell ⟨B5, 3, none⟩ (.slice (some ⟨B4, 0, none⟩) n n))) (B1 B2 B3 B4 B5 : Nat) (w : World) (h : St5 w1 w M1 M2 M5 false true true false false B1 B2 B3 B4 B5) :
    wpAnyH Tryd.prog .any opsN Qf (fun _ => True) 5 #[true, false, true, true, true, true, true, false, false, false, false] ((a.put (some 29) (.slice (some ⟨B2, 0, none⟩) n n)).put (some 31) (.slice (some ⟨B3, 0, none⟩) n n)) w := by
  have hh1 := r5_11100 hsz s26 s28 s30 s32 mk1 mk2 mk5 hQ w.heap.size B2 B3 B4 B5 (w.alloc (.cells M5 52)) h.s1
  rw [put_swap (i := 27) (j := 29) (by decide)] at hh1
  rw [put_swap (i := 27) (j := 31) (by decide)] at hh1
  have g26 : ((a.put (some 29) (.slice (some ⟨B2, 0, none⟩) n n)).put (some 31) (.slice (some ⟨B3, 0, none⟩) n n)).tmps.getD 26 undef = .int .i64 (n : Int) := by rw [get_put (by decide), get_put (by decide)]; exact s26
  have hh4 := r5_01110 hsz s26 s28 s30 s32 mk1 mk2 mk5 hQ B1 B2 B3 w.heap.size B5 (w.alloc (.cells M1 4)) h.s4
  have g32 : ((a.put (some 29) (.slice (some ⟨B2, 0, none⟩) n n)).put (some 31) (.slice (some ⟨B3, 0, none⟩) n n)).tmps.getD 32 undef = .int .i64 (n : Int) := by rw [get_put (by decide), get_put (by decide)]; exact s32
  have hh5 := r5_01101 hsz s26 s28 s30 s32 mk1 mk2 mk5 hQ B1 B2 B3 B4 w.heap.size (w.alloc (.cells #[.slice none 0 0, .slice none 0 0, .slice none 0 0, .slice none 0 0] 63)) h.s5
  clear hsz s26 s28 s30 s32 hQ h
  generalize ((a.put (some 29) (.slice (some ⟨B2, 0, none⟩) n n)).put (some 31) (.slice (some ⟨B3, 0, none⟩) n n)) = b at hh1 g26 hh4 g32 hh5 ⊢
  refine wpAnyH_ready (rs := [1, 7, 9]) (by kernel_rfl) (by simp) ?_
  refine AllReadyH.cons (o := on1) rfl (fun K hK => ?_) ?_
  · rw [if_pos (by rfl)]
    refine step_make (o := on1) (n := (n : Int)) (x := 26) (d := some 27) rfl rfl g26 (mk5 w) ?_
    exact hK.out _ _ trivial (fun _ => hh1)
  refine AllReadyH.cons (o := on7) rfl (fun K hK => ?_) ?_
  · rw [if_pos (by rfl)]
    refine step_make (o := on7) (n := (n : Int)) (x := 32) (d := some 33) rfl rfl g32 (mk1 w) ?_
    exact hK.out _ _ trivial (fun _ => hh4)
  refine AllReadyH.cons (o := on9) rfl (fun K hK => ?_) ?_
  · rw [if_pos (by rfl)]
    refine step_alloc (d := some 7) rfl rfl ?_
    exact hK.out _ _ trivial (fun _ => hh5)
  exact AllReadyH.nil

set_option maxRecDepth 100000 in
theorem r5_10001 {w1 : World} {M1 M2 M5 : Array Value} {n : Nat} {a : Act} {Qf : Exit → Act → World → Prop} (hsz : 34 < a.tmps.size) (s26 : a.tmps.getD 26 undef = .int .i64 (n : Int)) (s28 : a.tmps.getD 28 undef = .int .i64 (n : Int)) (s30 : a.tmps.getD 30 undef = .int .i64 (n : Int)) (s32 : a.tmps.getD 32 undef = .int .i64 (n : Int))
    (mk1 : ∀ W : World, (Instr.makeSlice 35 (.int .i64 (n : Int)) (.int .i64 (n : Int))).run Tryd.prog W = .ok (.slice (some ⟨W.heap.size, 0, none⟩) n n) (W.alloc (.cells M1 4)))
    (mk2 : ∀ W : World, (Instr.makeSlice 61 (.int .i64 (n : Int)) (.int .i64 (n : Int))).run Tryd.prog W = .ok (.slice (some ⟨W.heap.size, 0, none⟩) n n) (W.alloc (.cells M2 40)))
    (mk5 : ∀ W : World, (Instr.makeSlice 22 (.int .i64 (n : Int)) (.int .i64 (n : Int))).run Tryd.prog W = .ok (.slice (some ⟨W.heap.size, 0, none⟩) n n) (W.alloc (.cells M5 52)))
    (hQ : ∀ (B1 B2 B3 B4 B5 : Nat) (w : World), St5 w1 w M1 M2 M5 true true true true true B1 B2 B3 B4 B5 → Qf .normal ((((((a.put (some 27) (.slice (some ⟨B1, 0, none⟩) n n)).put (some 29) (.slice (some ⟨B2, 0, none⟩) n n)).put (some 31) (.slice (some ⟨B3, 0, none⟩) n n)).put (some 33) (.slice (some ⟨B4, 0, none⟩) n n)).put (some 7) (.pointer (some ⟨B5, 0, none⟩))).put (some 34) (.agg #[.slice (some ⟨B1, 0, none⟩) n n, .slice (some ⟨B2, 0, none⟩) n n, .slice (some ⟨B3, 0, none⟩) n n, .slice (some ⟨B4, 0, none⟩) n n])) ((((w.setCell ⟨B5, 0, none⟩ (.slice (some ⟨B1, 0, none⟩) n n)).setCell ⟨B5, 1, none⟩ (.slice (some ⟨B2, 0, none⟩) n n)).setCell ⟨B5, 2, none⟩ (.slice (some ⟨B3, 0, none⟩) n n)).setCell ⟨B5, 3, none⟩ (.slice (some ⟨B4, 0, none⟩) n n))) (B1 B2 B3 B4 B5 : Nat) (w : World) (h : St5 w1 w M1 M2 M5 true false false false true B1 B2 B3 B4 B5) :
    wpAnyH Tryd.prog .any opsN Qf (fun _ => True) 5 #[true, true, true, false, true, false, true, false, false, true, false] ((a.put (some 27) (.slice (some ⟨B1, 0, none⟩) n n)).put (some 7) (.pointer (some ⟨B5, 0, none⟩))) w := by
  have hh2 := r5_11001 hsz s26 s28 s30 s32 mk1 mk2 mk5 hQ B1 w.heap.size B3 B4 B5 (w.alloc (.cells M2 40)) h.s2
  rw [put_swap (i := 29) (j := 7) (by decide)] at hh2
  have g28 : ((a.put (some 27) (.slice (some ⟨B1, 0, none⟩) n n)).put (some 7) (.pointer (some ⟨B5, 0, none⟩))).tmps.getD 28 undef = .int .i64 (n : Int) := by rw [get_put (by decide), get_put (by decide)]; exact s28
  have hh3 := r5_10101 hsz s26 s28 s30 s32 mk1 mk2 mk5 hQ B1 B2 w.heap.size B4 B5 (w.alloc (.cells M2 40)) h.s3
  rw [put_swap (i := 31) (j := 7) (by decide)] at hh3
  have g30 : ((a.put (some 27) (.slice (some ⟨B1, 0, none⟩) n n)).put (some 7) (.pointer (some ⟨B5, 0, none⟩))).tmps.getD 30 undef = .int .i64 (n : Int) := by rw [get_put (by decide), get_put (by decide)]; exact s30
  have hh4 := r5_10011 hsz s26 s28 s30 s32 mk1 mk2 mk5 hQ B1 B2 B3 w.heap.size B5 (w.alloc (.cells M1 4)) h.s4
  rw [put_swap (i := 33) (j := 7) (by decide)] at hh4
  have g32 : ((a.put (some 27) (.slice (some ⟨B1, 0, none⟩) n n)).put (some 7) (.pointer (some ⟨B5, 0, none⟩))).tmps.getD 32 undef = .int .i64 (n : Int) := by rw [get_put (by decide), get_put (by decide)]; exact s32
  clear hsz s26 s28 s30 s32 hQ h
  generalize ((a.put (some 27) (.slice (some ⟨B1, 0, none⟩) n n)).put (some 7) (.pointer (some ⟨B5, 0, none⟩))) = b at hh2 g28 hh3 g30 hh4 g32 ⊢
  refine wpAnyH_ready (rs := [3, 5, 7]) (by kernel_rfl) (by simp) ?_
  refine AllReadyH.cons (o := on3) rfl (fun K hK => ?_) ?_
  · rw [if_pos (by rfl)]
    refine step_make (o := on3) (n := (n : Int)) (x := 28) (d := some 29) rfl rfl g28 (mk2 w) ?_
    exact hK.out _ _ trivial (fun _ => hh2)
  refine AllReadyH.cons (o := on5) rfl (fun K hK => ?_) ?_
  · rw [if_pos (by rfl)]
    refine step_make (o := on5) (n := (n : Int)) (x := 30) (d := some 31) rfl rfl g30 (mk2 w) ?_
    exact hK.out _ _ trivial (fun _ => hh3)
  refine AllReadyH.cons (o := on7) rfl (fun K hK => ?_) ?_
  · rw [if_pos (by rfl)]
    refine step_make (o := on7) (n := (n : Int)) (x := 32) (d := some 33) rfl rfl g32 (mk1 w) ?_
    exact hK.out _ _ trivial (fun _ => hh4)
  exact AllReadyH.nil

set_option maxRecDepth 100000 in
theorem r5_10010 {w1 : World} {M1 M2 M5 : Array Value} {n : Nat} {a : Act} {Qf : Exit → Act → World → Prop} (hsz : 34 < a.tmps.size) (s26 : a.tmps.getD 26 undef = .int .i64 (n : Int)) (s28 : a.tmps.getD 28 undef = .int .i64 (n : Int)) (s30 : a.tmps.getD 30 undef = .int .i64 (n : Int)) (s32 : a.tmps.getD 32 undef = .int .i64 (n : Int))
    (mk1 : ∀ W : World, (Instr.makeSlice 35 (.int .i64 (n : Int)) (.int .i64 (n : Int))).run Tryd.prog W = .ok (.slice (some ⟨W.heap.size, 0, none⟩) n n) (W.alloc (.cells M1 4)))
    (mk2 : ∀ W : World, (Instr.makeSlice 61 (.int .i64 (n : Int)) (.int .i64 (n : Int))).run Tryd.prog W = .ok (.slice (some ⟨W.heap.size, 0, none⟩) n n) (W.alloc (.cells M2 40)))
    (mk5 : ∀ W : World, (Instr.makeSlice 22 (.int .i64 (n : Int)) (.int .i64 (n : Int))).run Tryd.prog W = .ok (.slice (some ⟨W.heap.size, 0, none⟩) n n) (W.alloc (.cells M5 52)))
    (hQ : ∀ (B1 B2 B3 B4 B5 : Nat) (w : World), St5 w1 w M1 M2 M5 true true true true true B1 B2 B3 B4 B5 → Qf .normal ((((((a.put (some 27) (.slice (some ⟨B1, 0, none⟩) n n)).put (some 29) (.slice (some ⟨B2, 0, none⟩) n n)).put (some 31) (.slice (some ⟨B3, 0, none⟩) n n)).put (some 33) (.slice (some ⟨B4, 0, none⟩) n n)).put (some 7) (.pointer (some ⟨B5, 0, none⟩))).put (some 34) (.agg #[.slice (some ⟨B1, 0, none⟩) n n, .slice (some ⟨B2, 0, none⟩) n n, .slice (some ⟨B3, 0, none⟩) n n, .slice (some ⟨B4, 0, none⟩) n n])) ((((w.setCell ⟨B5, 0, none⟩ (.slice (some ⟨B1, 0, none⟩) n n)).setCell ⟨B5, 1, none⟩ (.slice (some ⟨B2, 0, none⟩) n n)).setCell ⟨B5, 2, none⟩ (.slice (some ⟨B3, 0, none⟩) n n)).setCell ⟨B5, 3, none⟩ (.slice (some ⟨B4, 0, none⟩) n n))) (B1 B2 B3 B4 B5 : Nat) (w : World) (h : St5 w1 w M1 M2 M5 true false false true false B1 B2 B3 B4 B5) :
    wpAnyH Tryd.prog .any opsN Qf (fun _ => True) 5 #[true, true, true, false, true, false, true, true, false, false, false] ((a.put (some 27) (.slice (some ⟨B1, 0, none⟩) n n)).put (some 33) (.slice (some ⟨B4, 0, none⟩) n n)) w := by
  have hh2 := r5_11010 hsz s26 s28 s30 s32 mk1 mk2 mk5 hQ B1 w.heap.size B3 B4 B5 (w.alloc (.cells M2 40)) h.s2
  rw [put_swap (i := 29) (j := 33) (by decide)] at hh2
  have g28 : ((a.put (some 27) (.slice (some ⟨B1, 0, none⟩) n n)).put (some 33) (.slice (some ⟨B4, 0, none⟩) n n)).tmps.getD 28 undef = .int .i64 (n : Int) := by rw [get_put (by decide), get_put (by decide)]; exact s28
  have hh3 := r5_10110 hsz s26 s28 s30 s32 mk1 mk2 mk5 hQ B1 B2 w.heap.size B4 B5 (w.alloc (.cells M2 40)) h.s3
  rw [put_swap (i := 31) (j := 33) (by decide)] at hh3
  have g30 : ((a.put (some 27) (.slice (some ⟨B1, 0, none⟩) n n)).put (some 33) (.slice (some ⟨B4, 0, none⟩) n n)).tmps.getD 30 undef = .int .i64 (n : Int) := by rw [get_put (by decide), get_put (by decide)]; exact s30
  have hh5 := r5_10011 hsz s26 s28 s30 s32 mk1 mk2 mk5 hQ B1 B2 B3 B4 w.heap.size (w.alloc (.cells #[.slice none 0 0, .slice none 0 0, .slice none 0 0, .slice none 0 0] 63)) h.s5
  clear hsz s26 s28 s30 s32 hQ h
  generalize ((a.put (some 27) (.slice (some ⟨B1, 0, none⟩) n n)).put (some 33) (.slice (some ⟨B4, 0, none⟩) n n)) = b at hh2 g28 hh3 g30 hh5 ⊢
  refine wpAnyH_ready (rs := [3, 5, 9]) (by kernel_rfl) (by simp) ?_
  refine AllReadyH.cons (o := on3) rfl (fun K hK => ?_) ?_
  · rw [if_pos (by rfl)]
    refine step_make (o := on3) (n := (n : Int)) (x := 28) (d := some 29) rfl rfl g28 (mk2 w) ?_
    exact hK.out _ _ trivial (fun _ => hh2)
  refine AllReadyH.cons (o := on5) rfl (fun K hK => ?_) ?_
  · rw [if_pos (by rfl)]
    refine step_make (o := on5) (n := (n : Int)) (x := 30) (d := some 31) rfl rfl g30 (mk2 w) ?_
    exact hK.out _ _ trivial (fun _ => hh3)
  refine AllReadyH.cons (o := on9) rfl (fun K hK => ?_) ?_
  · rw [if_pos (by rfl)]
    refine step_alloc (d := some 7) rfl rfl ?_
    exact hK.out _ _ trivial (fun _ => hh5)
  exact AllReadyH.nil

set_option maxRecDepth 100000 in
theorem r5_10100 {w1 : World} {M1 M2 M5 : Array Value} {n : Nat} {a : Act} {Qf : Exit → Act → World → Prop} (hsz : 34 < a.tmps.size) (s26 : a.tmps.getD 26 undef = .int .i64 (n : Int)) (s28 : a.tmps.getD 28 undef = .int .i64 (n : Int)) (s30 : a.tmps.getD 30 undef = .int .i64 (n : Int)) (s32 : a.tmps.getD 32 undef = .int .i64 (n : Int))
    (mk1 : ∀ W : World, (Instr.makeSlice 35 (.int .i64 (n : Int)) (.int .i64 (n : Int))).run Tryd.prog W = .ok (.slice (some ⟨W.heap.size, 0, none⟩) n n) (W.alloc (.cells M1 4)))
    (mk2 : ∀ W : World, (Instr.makeSlice 61 (.int .i64 (n : Int)) (.int .i64 (n : Int))).run Tryd.prog W = .ok (.slice (some ⟨W.heap.size, 0, none⟩) n n) (W.alloc (.cells M2 40)))
    (mk5 : ∀ W : World, (Instr.makeSlice 22 (.int .i64 (n : Int)) (.int .i64 (n : Int))).run Tryd.prog W = .ok (.slice (some ⟨W.heap.size, 0, none⟩) n n) (W.alloc (.cells M5 52)))
    (hQ : ∀ (B1 B2 B3 B4 B5 : Nat) (w : World), St5 w1 w M1 M2 M5 true true true true true B1 B2 B3 B4 B5 → Qf .normal ((((((a.put (some 27) (.slice (some ⟨B1, 0, none⟩) n n)).put (some 29) (.slice (some ⟨B2, 0, none⟩) n n)).put (some 31) (.slice (some ⟨B3, 0, none⟩) n n)).put (some 33) (.slice (some ⟨B4, 0, none⟩) n n)).put (some 7) (.pointer (some ⟨B5, 0, none⟩))).put (some 34) (.agg #[.slice (some ⟨B1, 0, none⟩) n n, .slice (some ⟨B2, 0, none⟩) n n, .slice (some ⟨B3, 0, none⟩) n n, .slice (some ⟨B4, 0, none⟩) n n])) ((((w.setCell ⟨B5, 0, none⟩ (.slice (some ⟨B1, 0, none⟩) n n)).setCell ⟨B5, 1, none⟩ (.slice (some ⟨B2, 0, none⟩) n n)).setCell ⟨B5, 2, none⟩ (.slice (some ⟨B3, 0, none⟩) n n)).setCell ⟨B5, 3, none⟩ (.slice (some ⟨B4, 0, none⟩) n n))) (B1 B2 B3 B4 B5 : Nat) (w : World) (h : St5 w1 w M1 M2 M5 true false true false false B1 B2 B3 B4 B5) :
    wpAnyH Tryd.prog .any opsN Qf (fun _ => True) 5 #[true, true, true, false, true, true, true, false, false, false, false] ((a.put (some 27) (.slice (some ⟨B1, 0, none⟩) n n)).put (some 31) (.slice (some ⟨B3, 0, none⟩) n n)) w := by
  have hh2 := r5_11100 hsz s26 s28 s30 s32 mk1 mk2 mk5 hQ B1 w.heap.size B3 B4 B5 (w.alloc (.cells M2 40)) h.s2
  rw [put_swap (i := 29) (j := 31) (by decide)] at hh2
  have g28 : ((a.put (some 27) (.slice (some ⟨B1, 0, none⟩) n n)).put (some 31) (.slice (some ⟨B3, 0, none⟩) n n)).tmps.getD 28 undef = .int .i64 (n : Int) := by rw [get_put (by decide), get_put (by decide)]; exact s28
  have hh4 := r5_10110 hsz s26 s28 s30 s32 mk1 mk2 mk5 hQ B1 B2 B3 w.heap.size B5 (w.alloc (.cells M1 4)) h.s4
  have g32 : ((a.put (some 27) (.slice (some ⟨B1, 0, none⟩) n n)).put (some 31) (.slice (some ⟨B3, 0, none⟩) n n)).tmps.getD 32 undef = .int .i64 (n : Int) := by rw [get_put (by decide), get_put (by decide)]; exact s32
  have hh5 := r5_10101 hsz s26 s28 s30 s32 mk1 mk2 mk5 hQ B1 B2 B3 B4 w.heap.size (w.alloc (.cells #[.slice none 0 0, .slice none 0 0, .slice none 0 0, .slice none 0 0] 63)) h.s5
  clear hsz s26 s28 s30 s32 hQ h
  generalize ((a.put (some 27) (.slice (some ⟨B1, 0, none⟩) n n)).put (some 31) (.slice (some ⟨B3, 0, none⟩) n n)) = b at hh2 g28 hh4 g32 hh5 ⊢
  refine wpAnyH_ready (rs := [3, 7, 9]) (by kernel_rfl) (by simp) ?_
  refine AllReadyH.cons (o := on3) rfl (fun K hK => ?_) ?_
  · rw [if_pos (by rfl)]
    refine step_make (o := on3) (n := (n : Int)) (x := 28) (d := some 29) rfl rfl g28 (mk2 w) ?_
    exact hK.out _ _ trivial (fun _ => hh2)
  refine AllReadyH.cons (o := on7) rfl (fun K hK => ?_) ?_
  · rw [if_pos (by rfl)]
    refine step_make (o := on7) (n := (n : Int)) (x := 32) (d := some 33) rfl rfl g32 (mk1 w) ?_
    exact hK.out _ _ trivial (fun _ => hh4)
  refine AllReadyH.cons (o := on9) rfl (fun K hK => ?_) ?_
  · rw [if_pos (by rfl)]
    refine step_alloc (d := some 7) rfl rfl ?_
    exact hK.out _ _ trivial (fun _ => hh5)
  exact AllReadyH.nil

set_option maxRecDepth 100000 in
theorem r5_11000 {w1 : World} {M1 M2 M5 : Array Value} {n : Nat} {a : Act} {Qf : Exit → Act → World → Prop} (hsz : 34 < a.tmps.size) (s26 : a.tmps.getD 26 undef = .int .i64 (n : Int)) (s28 : a.tmps.getD 28 undef = .int .i64 (n : Int)) (s30 : a.tmps.getD 30 undef = .int .i64 (n : Int)) (s32 : a.tmps.getD 32 undef = .int .i64 (n : Int))
    (mk1 : ∀ W : World, (Instr.makeSlice 35 (.int .i64 (n : Int)) (.int .i64 (n : Int))).run Tryd.prog W = .ok (.slice (some ⟨W.heap.size, 0, none⟩) n n) (W.alloc (.cells M1 4)))
    (mk2 : ∀ W : World, (Instr.makeSlice 61 (.int .i64 (n : Int)) (.int .i64 (n : Int))).run Tryd.prog W = .ok (.slice (some ⟨W.heap.size, 0, none⟩) n n) (W.alloc (.cells M2 40)))
    (mk5 : ∀ W : World, (Instr.makeSlice 22 (.int .i64 (n : Int)) (.int .i64 (n : Int))).run Tryd.prog W = .ok (.slice (some ⟨W.heap.size, 0, none⟩) n n) (W.alloc (.cells M5 52)))
    (hQ : ∀ (B1 B2 B3 B4 B5 : Nat) (w : World), St5 w1 w M1 M2 M5 true true true true true B1 B2 B3 B4 B5 → Qf .normal ((((((a.put (some 27) (.slice (some ⟨B1, 0, none⟩) n n)).put (some 29) (.slice (some ⟨B2, 0, none⟩) n n)).put (some 31) (.slice (some ⟨B3, 0, none⟩) n n)).put (some 33) (.slice (some ⟨B4, 0, none⟩) n n)).put (some 7) (.pointer (some ⟨B5, 0, none⟩))).put (some 34) (.agg #[.slice (some ⟨B1, 0, none⟩) n n, .slice (some ⟨B2, 0, none⟩) n n, .slice (some ⟨B3, 0, none⟩) n n, .slice (some ⟨B4, 0, none⟩) n n])) ((((w.setCell ⟨B5, 0, none⟩ (.slice (some ⟨B1, 0, none⟩) n n)).setCell ⟨B5, 1, none⟩ (.slice (some ⟨B2, 0, none⟩) n n)).setCell ⟨B5, 2, none⟩ (.slice (some ⟨B3, 0, none⟩) n n)).setCell ⟨B5, 3, none⟩ (.slice (some ⟨B4, 0, none⟩) n n))) (B1 B2 B3 B4 B5 : Nat) (w : World) (h : St5 w1 w M1 M2 M5 true true false false false B1 B2 B3 B4 B5) :
    wpAnyH Tryd.prog .any opsN Qf (fun _ => True) 5 #[true, true, true, true, true, false, true, false, false, false, false] ((a.put (some 27) (.slice (some ⟨B1, 0, none⟩) n n)).put (some 29) (.slice (some ⟨B2, 0, none⟩) n n)) w := by
  have hh3 := r5_11100 hsz s26 s28 s30 s32 mk1 mk2 mk5 hQ B1 B2 w.heap.size B4 B5 (w.alloc (.cells M2 40)) h.s3
  have g30 : ((a.put (some 27) (.slice (some ⟨B1, 0, none⟩) n n)).put (some 29) (.slice (some ⟨B2, 0, none⟩) n n)).tmps.getD 30 undef = .int .i64 (n : Int) := by rw [get_put (by decide), get_put (by decide)]; exact s30
  have hh4 := r5_11010 hsz s26 s28 s30 s32 mk1 mk2 mk5 hQ B1 B2 B3 w.heap.size B5 (w.alloc (.cells M1 4)) h.s4
  have g32 : ((a.put (some 27) (.slice (some ⟨B1, 0, none⟩) n n)).put (some 29) (.slice (some ⟨B2, 0, none⟩) n n)).tmps.getD 32 undef = .int .i64 (n : Int) := by rw [get_put (by decide), get_put (by decide)]; exact s32
  have hh5 := r5_11001 hsz s26 s28 s30 s32 mk1 mk2 mk5 hQ B1 B2 B3 B4 w.heap.size (w.alloc (.cells #[.slice none 0 0, .slice none 0 0, .slice none 0 0, .slice none 0 0] 63)) h.s5
  clear hsz s26 s28 s30 s32 hQ h
  generalize ((a.put (some 27) (.slice (some ⟨B1, 0, none⟩) n n)).put (some 29) (.slice (some ⟨B2, 0, none⟩) n n)) = b at hh3 g30 hh4 g32 hh5 ⊢
  refine wpAnyH_ready (rs := [5, 7, 9]) (by kernel_rfl) (by simp) ?_
  refine AllReadyH.cons (o := on5) rfl (fun K hK => ?_) ?_
  · rw [if_pos (by rfl)]
    refine step_make (o := on5) (n := (n : Int)) (x := 30) (d := some 31) rfl rfl g30 (mk2 w) ?_
    exact hK.out _ _ trivial (fun _ => hh3)
  refine AllReadyH.cons (o := on7) rfl (fun K hK => ?_) ?_
  · rw [if_pos (by rfl)]
    refine step_make (o := on7) (n := (n : Int)) (x := 32) (d := some 33) rfl rfl g32 (mk1 w) ?_
    exact hK.out _ _ trivial (fun _ => hh4)
  refine AllReadyH.cons (o := on9) rfl (fun K hK => ?_) ?_
  · rw [if_pos (by rfl)]
    refine step_alloc (d := some 7) rfl rfl ?_
    exact hK.out _ _ trivial (fun _ => hh5)
  exact AllReadyH.nil

set_option maxRecDepth 100000 in
theorem r5_00001 {w1 : World} {M1 M2 M5 : Array Value} {n : Nat} {a : Act} {Qf : Exit → Act → World → Prop} (hsz : 34 < a.tmps.size) (s26 : a.tmps.getD 26 undef = .int .i64 (n : Int)) (s28 : a.tmps.getD 28 undef = .int .i64 (n : Int)) (s30 : a.tmps.getD 30 undef = .int .i64 (n : Int)) (s32 : a.tmps.getD 32 undef = .int .i64 (n : Int))
    (mk1 : ∀ W : World, (Instr.makeSlice 35 (.int .i64 (n : Int)) (.int .i64 (n : Int))).run Tryd.prog W = .ok (.slice (some ⟨W.heap.size, 0, none⟩) n n) (W.alloc (.cells M1 4)))
    (mk2 : ∀ W : World, (Instr.makeSlice 61 (.int .i64 (n : Int)) (.int .i64 (n : Int))).run Tryd.prog W = .ok (.slice (some ⟨W.heap.size, 0, none⟩) n n) (W.alloc (.cells M2 40)))
    (mk5 : ∀ W : World, (Instr.makeSlice 22 (.int .i64 (n : Int)) (.int .i64 (n : Int))).run Tryd.prog W = .ok (.slice (some ⟨W.heap.size, 0, none⟩) n n) (W.alloc (.cells M5 52)))
    (hQ : ∀ (B1 B2 B3 B4 B5 : Nat) (w : World), St5 w1 w M1 M2 M5 true true true true true B1 B2 B3 B4 B5 → Qf .normal ((((((a.put (some 27) (.slice (some ⟨B1, 0, none⟩) n n)).put (some 29) (.slice (some ⟨B2, 0, none⟩) n n)).put (some 31) (.slice (some ⟨B3, 0, none⟩) n n)).put (some 33) (.slice (some ⟨B4, 0, none⟩) n n)).put (some 7) (.pointer (some ⟨B5, 0, none⟩))).put (some 34) (.agg #[.slice (some ⟨B1, 0, none⟩) n n, .slice (some ⟨B2, 0, none⟩) n n, .slice (some ⟨B3, 0, none⟩) n n, .slice (some ⟨B4, 0, none⟩) n n])) ((((w.setCell ⟨B5, 0, none⟩ (.slice (some ⟨B1, 0, none⟩) n n)).setCell ⟨B5, 1, none⟩ (.slice (some ⟨B2, 0, none⟩) n n)).setCell ⟨B5, 2, none⟩ (.slice (some ⟨B3, 0, none⟩) n n)).setCell ⟨B5, 3, none⟩ (.slice (some ⟨B4, 0, none⟩) n n))) (B1 B2 B3 B4 B5 : Nat) (w : World) (h : St5 w1 w M1 M2 M5 false false false false true B1 B2 B3 B4 B5) :
    wpAnyH Tryd.prog .any opsN Qf (fun _ => True) 6 #[true, false, true, false, true, false, true, false, false, true, false] (a.put (some 7) (.pointer (some ⟨B5, 0, none⟩))) w := by
  have hh1 := r5_10001 hsz s26 s28 s30 s32 mk1 mk2 mk5 hQ w.heap.size B2 B3 B4 B5 (w.alloc (.cells M5 52)) h.s1
  rw [put_swap (i := 27) (j := 7) (by decide)] at hh1
  have g26 : (a.put (some 7) (.pointer (some ⟨B5, 0, none⟩))).tmps.getD 26 undef = .int .i64 (n : Int) := by rw [get_put (by decide)]; exact s26
  have hh2 := r5_01001 hsz s26 s28 s30 s32 mk1 mk2 mk5 hQ B1 w.heap.size B3 B4 B5 (w.alloc (.cells M2 40)) h.s2
  rw [put_swap (i := 29) (j := 7) (by decide)] at hh2
  have g28 : (a.put (some 7) (.pointer (some ⟨B5, 0, none⟩))).tmps.getD 28 undef = .int .i64 (n : Int) := by rw [get_put (by decide)]; exact s28
  have hh3 := r5_00101 hsz s26 s28 s30 s32 mk1 mk2 mk5 hQ B1 B2 w.heap.size B4 B5 (w.alloc (.cells M2 40)) h.s3
  rw [put_swap (i := 31) (j := 7) (by decide)] at hh3
  have g30 : (a.put (some 7) (.pointer (some ⟨B5, 0, none⟩))).tmps.getD 30 undef = .int .i64 (n : Int) := by rw [get_put (by decide)]; exact s30
  have hh4 := r5_00011 hsz s26 s28 s30 s32 mk1 mk2 mk5 hQ B1 B2 B3 w.heap.size B5 (w.alloc (.cells M1 4)) h.s4
  rw [put_swap (i := 33) (j := 7) (by decide)] at hh4
  have g32 : (a.put (some 7) (.pointer (some ⟨B5, 0, none⟩))).tmps.getD 32 undef = .int .i64 (n : Int) := by rw [get_put (by decide)]; exact s32
  clear hsz s26 s28 s30 s32 hQ h
  generalize (a.put (some 7) (.pointer (some ⟨B5, 0, none⟩))) = b at hh1 g26 hh2 g28 hh3 g30 hh4 g32 ⊢
  refine wpAnyH_ready (rs := [1, 3, 5, 7]) (by kernel_rfl) (by simp) ?_
  refine AllReadyH.cons (o := on1) rfl (fun K hK => ?_) ?_
  · rw [if_pos (by rfl)]
    refine step_make (o := on1) (n := (n : Int)) (x := 26) (d := some 27) rfl rfl g26 (mk5 w) ?_
    exact hK.out _ _ trivial (fun _ => hh1)
  refine AllReadyH.cons (o := on3) rfl (fun K hK => ?_) ?_
  · rw [if_pos (by rfl)]
    refine step_make (o := on3) (n := (n : Int)) (x := 28) (d := some 29) rfl rfl g28 (mk2 w) ?_
    exact hK.out _ _ trivial (fun _ => hh2)
  refine AllReadyH.cons (o := on5) rfl (fun K hK => ?_) ?_
  · rw [if_pos (by rfl)]
    refine step_make (o := on5) (n := (n : Int)) (x := 30) (d := some 31) rfl rfl g30 (mk2 w) ?_
    exact hK.out _ _ trivial (fun _ => hh3)
  refine AllReadyH.cons (o := on7) rfl (fun K hK => ?_) ?_
  · rw [if_pos (by rfl)]
    refine step_make (o := on7) (n := (n : Int)) (x := 32) (d := some 33) rfl rfl g32 (mk1 w) ?_
    exact hK.out _ _ trivial (fun _ => hh4)
  exact AllReadyH.nil

set_option maxRecDepth 100000 in
theorem r5_00010 {w1 : World} {M1 M2 M5 : Array Value} {n : Nat} {a : Act} {Qf : Exit → Act → World → Prop} (hsz : 34 < a.tmps.size) (s26 : a.tmps.getD 26 undef = .int .i64 (n : Int)) (s28 : a.tmps.getD 28 undef = .int .i64 (n : Int)) (s30 : a.tmps.getD 30 undef = .int .i64 (n : Int)) (s32 : a.tmps.getD 32 undef = .int .i64 (n : Int))
    (mk1 : ∀ W : World, (Instr.makeSlice 35 (.int .i64 (n : Int)) (.int .i64 (n : Int))).run Tryd.prog W = .ok (.slice (some ⟨W.heap.size, 0, none⟩) n n) (W.alloc (.cells M1 4)))
    (mk2 : ∀ W : World, (Instr.makeSlice 61 (.int .i64 (n : Int)) (.int .i64 (n : Int))).run Tryd.prog W = .ok (.slice (some ⟨W.heap.size, 0, none⟩) n n) (W.alloc (.cells M2 40)))
    (mk5 : ∀ W : World, (Instr.makeSlice 22 (.int .i64 (n : Int)) (.int .i64 (n : Int))).run Tryd.prog W = .ok (.slice (some ⟨W.heap.size, 0, none⟩) n n) (W.alloc (.cells M5 52)))
    (hQ : ∀ (B1 B2 B3 B4 B5 : Nat) (w : World), St5 w1 w M1 M2 M5 true true true true true B1 B2 B3 B4 B5 → Qf .normal ((((((a.put (some 27) (.slice (some ⟨B1, 0, none⟩) n n)).put (some 29) (.slice (some ⟨B2, 0, none⟩) n n)).put (some 31) (.slice (some ⟨B3, 0, none⟩) n n)).put (some 33) (.slice (some ⟨B4, 0, none⟩) n n)).put (some 7) (.pointer (some ⟨B5, 0, none⟩))).put (some 34) (.agg #[.slice (some ⟨B1, 0, none⟩) n n, .slice (some ⟨B2, 0, none⟩) n n, .slice (some ⟨B3, 0, none⟩) n n, .slice (some ⟨B4, 0, none⟩) n n])) ((((w.setCell ⟨B5, 0, none⟩ (.slice (some ⟨B1, 0, none⟩) n n)).setCell ⟨B5, 1, none⟩ (.slice (some ⟨B2, 0, none⟩) n n)).setCell ⟨B5, 2, none⟩ (.slice (some ⟨B3, 0, none⟩) n n)).setCell ⟨B5, 3, none⟩ (.slice (some ⟨B4, 0, none⟩) n n))) (B1 B2 B3 B4 B5 : Nat) (w : World) (h : St5 w1 w M1 M2 M5 false false false true false B1 B2 B3 B4 B5) :
    wpAnyH Tryd.prog .any opsN Qf (fun _ => True) 6 #[true, false, true, false, true, false, true, true, false, false, false] (a.put (some 33) (.slice (some ⟨B4, 0, none⟩) n n)) w := by
  have hh1 := r5_10010 hsz s26 s28 s30 s32 mk1 mk2 mk5 hQ w.heap.size B2 B3 B4 B5 (w.alloc (.cells M5 52)) h.s1
  rw [put_swap (i := 27) (j := 33) (by decide)] at hh1
  have g26 : (a.put (some 33) (.slice (some ⟨B4, 0, none⟩) n n)).tmps.getD 26 undef = .int .i64 (n : Int) := by rw [get_put (by decide)]; exact s26
  have hh2 := r5_01010 hsz s26 s28 s30 s32 mk1 mk2 mk5 hQ B1 w.heap.size B3 B4 B5 (w.alloc (.cells M2 40)) h.s2
  rw [put_swap (i := 29) (j := 33) (by decide)] at hh2
  have g28 : (a.put (some 33) (.slice (some ⟨B4, 0, none⟩) n n)).tmps.getD 28 undef = .int .i64 (n : Int) := by rw [get_put (by decide)]; exact s28
  have hh3 := r5_00110 hsz s26 s28 s30 s32 mk1 mk2 mk5 hQ B1 B2 w.heap.size B4 B5 (w.alloc (.cells M2 40)) h.s3
  rw [put_swap (i := 31) (j := 33) (by decide)] at hh3
  have g30 : (a.put (some 33) (.slice (some ⟨B4, 0, none⟩) n n)).tmps.getD 30 undef = .int .i64 (n : Int) := by rw [get_put (by decide)]; exact s30
  have hh5 := r5_00011 hsz s26 s28 s30 s32 mk1 mk2 mk5 hQ B1 B2 B3 B4 w.heap.size (w.alloc (.cells #[.slice none 0 0, .slice none 0 0, .slice none 0 0, .slice none 0 0] 63)) h.s5
  clear hsz s26 s28 s30 s32 hQ h
  generalize (a.put (some 33) (.slice (some ⟨B4, 0, none⟩) n n)) = b at hh1 g26 hh2 g28 hh3 g30 hh5 ⊢
  refine wpAnyH_ready (rs := [1, 3, 5, 9]) (by kernel_rfl) (by simp) ?_
  refine AllReadyH.cons (o := on1) rfl (fun K hK => ?_) ?_
  · rw [if_pos (by rfl)]
    refine step_make (o := on1) (n := (n : Int)) (x := 26) (d := some 27) rfl rfl g26 (mk5 w) ?_
    exact hK.out _ _ trivial (fun _ => hh1)
  refine AllReadyH.cons (o := on3) rfl (fun K hK => ?_) ?_
  · rw [if_pos (by rfl)]
    refine step_make (o := on3) (n := (n : Int)) (x := 28) (d := some 29) rfl rfl g28 (mk2 w) ?_
    exact hK.out _ _ trivial (fun _ => hh2)
  refine AllReadyH.cons (o := on5) rfl (fun K hK => ?_) ?_
  · rw [if_pos (by rfl)]
    refine step_make (o := on5) (n := (n : Int)) (x := 30) (d := some 31) rfl rfl g30 (mk2 w) ?_
    exact hK.out _ _ trivial (fun _ => hh3)
  refine AllReadyH.cons (o := on9) rfl (fun K hK => ?_) ?_
  · rw [if_pos (by rfl)]
    refine step_alloc (d := some 7) rfl rfl ?_
    exact hK.out _ _ trivial (fun _ => hh5)
  exact AllReadyH.nil

set_option maxRecDepth 100000 in
theorem r5_00100 {w1 : World} {M1 M2 M5 : Array Value} {n : Nat} {a : Act} {Qf : Exit → Act → World → Prop} (hsz : 34 < a.tmps.size) (s26 : a.tmps.getD 26 undef = .int .i64 (n : Int)) (s28 : a.tmps.getD 28 undef = .int .i64 (n : Int)) (s30 : a.tmps.getD 30 undef = .int .i64 (n : Int)) (s32 : a.tmps.getD 32 undef = .int .i64 (n : Int))
    (mk1 : ∀ W : World, (Instr.makeSlice 35 (.int .i64 (n : Int)) (.int .i64 (n : Int))).run Tryd.prog W = .ok (.slice (some ⟨W.heap.size, 0, none⟩) n n) (W.alloc (.cells M1 4)))
    (mk2 : ∀ W : World, (Instr.makeSlice 61 (.int .i64 (n : Int)) (.int .i64 (n : Int))).run Tryd.prog W = .ok (.slice (some ⟨W.heap.size, 0, none⟩) n n) (W.alloc (.cells M2 40)))
    (mk5 : ∀ W : World, (Instr.makeSlice 22 (.int .i64 (n : Int)) (.int .i64 (n : Int))).run Tryd.prog W = .ok (.slice (some ⟨W.heap.size, 0, none⟩) n n) (W.alloc (.cells M5 52)))
    (hQ : ∀ (B1 B2 B3 B4 B5 : Nat) (w : World), St5 w1 w M1 M2 M5 true true true true true B1 B2 B3 B4 B5 → Qf .normal ((((((a.put (some 27) (.slice (some ⟨B1, 0, none⟩) n n)).put (some 29) (.slice (some ⟨B2, 0, none⟩) n n)).put (some 31) (.slice (some ⟨B3, 0, none⟩) n n)).put (some 33) (.slice (some ⟨B4, 0, none⟩) n n)).put (some 7) (.pointer (some ⟨B5, 0, none⟩))).put (some 34) (.agg #[.slice (some ⟨B1, 0, none⟩) n n, .slice (some ⟨B2, 0, none⟩) n n, .slice (some ⟨B3, 0, none⟩) n n, .slice (some ⟨B4, 0, none⟩) n n])) ((((w.setCell ⟨B5, 0, none⟩ (.slice (some ⟨B1, 0, none⟩) n n)).setCell ⟨B5, 1, none⟩ (.slice (some ⟨B2, 0, none⟩) n n)).setCell ⟨B5, 2, none⟩ (.slice (some ⟨B3, 0, none⟩) n n)).setCell ⟨B5, 3, none⟩ (.slice (some ⟨B4, 0, none⟩) n n))) (B1 B2 B3 B4 B5 : Nat) (w : World) (h : St5 w1 w M1 M2 M5 false false true false false B1 B2 B3 B4 B5) :
    wpAnyH Tryd.prog .any opsN Qf (fun _ => True) 6 #[true, false, true, false, true, true, true, false, false, false, false] (a.put (some 31) (.slice (some ⟨B3, 0, none⟩) n n)) w := by
  have hh1 := r5_10100 hsz s26 s28 s30 s32 mk1 mk2 mk5 hQ w.heap.size B2 B3 B4 B5 (w.alloc (.cells M5 52)) h.s1
  rw [put_swap (i := 27) (j := 31) (by decide)] at hh1
  have g26 : (a.put (some 31) (.slice (some ⟨B3, 0, none⟩) n n)).tmps.getD 26 undef = .int .i64 (n : Int) := by rw [get_put (by decide)]; exact s26
  have hh2 := r5_01100 hsz s26 s28 s30 s32 mk1 mk2 mk5 hQ B1 w.heap.size B3 B4 B5 (w.alloc (.cells M2 40)) h.s2
  rw [put_swap (i := 29) (j := 31) (by decide)] at hh2
  have g28 : (a.put (some 31) (.slice (some ⟨B3, 0, none⟩) n n)).tmps.getD 28 undef = .int .i64 (n : Int) := by rw [get_put (by decide)]; exact s28
  have hh4 := r5_00110 hsz s26 s28 s30 s32 mk1 mk2 mk5 hQ B1 B2 B3 w.heap.size B5 (w.alloc (.cells M1 4)) h.s4
  have g32 : (a.put (some 31) (.slice (some ⟨B3, 0, none⟩) n n)).tmps.getD 32 undef = .int .i64 (n : Int) := by rw [get_put (by decide)]; exact s32
  have hh5 := r5_00101 hsz s26 s28 s30 s32 mk1 mk2 mk5 hQ B1 B2 B3 B4 w.heap.size (w.alloc (.cells #[.slice none 0 0, .slice none 0 0, .slice none 0 0, .slice none 0 0] 63)) h.s5
  clear hsz s26 s28 s30 s32 hQ h
  generalize (a.put (some 31) (.slice (some ⟨B3, 0, none⟩) n n)) = b at hh1 g26 hh2 g28 hh4 g32 hh5 ⊢
  refine wpAnyH_ready (rs := [1, 3, 7, 9]) (by kernel_rfl) (by simp) ?_
  refine AllReadyH.cons (o := on1) rfl (fun K hK => ?_) ?_
  · rw [if_pos (by rfl)]
    refine step_make (o := on1) (n := (n : Int)) (x := 26) (d := some 27) rfl rfl g26 (mk5 w) ?_
    exact hK.out _ _ trivial (fun _ => hh1)
  refine AllReadyH.cons (o := on3) rfl (fun K hK => ?_) ?_
  · rw [if_pos (by rfl)]
    refine step_make (o := on3) (n := (n : Int)) (x := 28) (d := some 29) rfl rfl g28 (mk2 w) ?_
    exact hK.out _ _ trivial (fun _ => hh2)
  refine AllReadyH.cons (o := on7) rfl (fun K hK => ?_) ?_
  · rw [if_pos (by rfl)]
    refine step_make (o := on7) (n := (n : Int)) (x := 32) (d := some 33) rfl rfl g32 (mk1 w) ?_
    exact hK.out _ _ trivial (fun _ => hh4)
  refine AllReadyH.cons (o := on9) rfl (fun K hK => ?_) ?_
  · rw [if_pos (by rfl)]
    refine step_alloc (d := some 7) rfl rfl ?_
    exact hK.out _ _ trivial (fun _ => hh5)
  exact AllReadyH.nil

set_option maxRecDepth 100000 in
theorem r5_01000 {w1 : World} {M1 M2 M5 : Array Value} {n : Nat} {a : Act} {Qf : Exit → Act → World → Prop} (hsz : 34 < a.tmps.size) (s26 : a.tmps.getD 26 undef = .int .i64 (n : Int)) (s28 : a.tmps.getD 28 undef = .int .i64 (n : Int)) (s30 : a.tmps.getD 30 undef = .int .i64 (n : Int)) (s32 : a.tmps.getD 32 undef = .int .i64 (n : Int))
    (mk1 : ∀ W : World, (Instr.makeSlice 35 (.int .i64 (n : Int)) (.int .i64 (n : Int))).run Tryd.prog W = .ok (.slice (some ⟨W.heap.size, 0, none⟩) n n) (W.alloc (.cells M1 4)))
    (mk2 : ∀ W : World, (Instr.makeSlice 61 (.int .i64 (n : Int)) (.int .i64 (n : Int))).run Tryd.prog W = .ok (.slice (some ⟨W.heap.size, 0, none⟩) n n) (W.alloc (.cells M2 40)))
    (mk5 : ∀ W : World, (Instr.makeSlice 22 (.int .i64 (n : Int)) (.int .i64 (n : Int))).run Tryd.prog W = .ok (.slice (some ⟨W.heap.size, 0, none⟩) n n) (W.alloc (.cells M5 52)))
    (hQ : ∀ (B1 B2 B3 B4 B5 : Nat) (w : World), St5 w1 w M1 M2 M5 true true true true true B1 B2 B3 B4 B5 → Qf .normal ((((((a.put (some 27) (.slice (some ⟨B1, 0, none⟩) n n)).put (some 29) (.slice (some ⟨B2, 0, none⟩) n n)).put (some 31) (.slice (some ⟨B3, 0, none⟩) n n)).put (some 33) (.slice (some ⟨B4, 0, none⟩) n n)).put (some 7) (.pointer (some ⟨B5, 0, none⟩))).put (some 34) (.agg #[.slice (some ⟨B1, 0, none⟩) n n, .slice (some ⟨B2, 0, none⟩) n n, .slice (some ⟨B3, 0, none⟩) n n, .slice (some ⟨B4, 0, none⟩) n n])) ((((w.setCell ⟨B5, 0, none⟩ (.slice (some ⟨B1, 0, none⟩) n n)).setCell ⟨B5, 1, none⟩ (.slice (some ⟨B2, 0, none⟩) n n)).setCell ⟨B5, 2, none⟩ (.slice (some ⟨B3, 0, none⟩) n n)).setCell ⟨B5, 3, none⟩ (.slice (some ⟨B4, 0, none⟩) n n))) (B1 B2 B3 B4 B5 : Nat) (w : World) (h : St5 w1 w M1 M2 M5 false true false false false B1 B2 B3 B4 B5) :
    wpAnyH Tryd.prog .any opsN Qf (fun _ => True) 6 #[true, false, true, true, true, false, true, false, false, false, false] (a.put (some 29) (.slice (some ⟨B2, 0, none⟩) n n)) w := by
  have hh1 := r5_11000 hsz s26 s28 s30 s32 mk1 mk2 mk5 hQ w.heap.size B2 B3 B4 B5 (w.alloc (.cells M5 52)) h.s1
  rw [put_swap (i := 27) (j := 29) (by decide)] at hh1
  have g26 : (a.put (some 29) (.slice (some ⟨B2, 0, none⟩) n n)).tmps.getD 26 undef = .int .i64 (n : Int) := by rw [get_put (by decide)]; exact s26
  have hh3 := r5_01100 hsz s26 s28 s30 s32 mk1 mk2 mk5 hQ B1 B2 w.heap.size B4 B5 (w.alloc (.cells M2 40)) h.s3
  have g30 : (a.put (some 29) (.slice (some ⟨B2, 0, none⟩) n n)).tmps.getD 30 undef = .int .i64 (n : Int) := by rw [get_put (by decide)]; exact s30
  have hh4 := r5_01010 hsz s26 s28 s30 s32 mk1 mk2 mk5 hQ B1 B2 B3 w.heap.size B5 (w.alloc (.cells M1 4)) h.s4
  have g32 : (a.put (some 29) (.slice (some ⟨B2, 0, none⟩) n n)).tmps.getD 32 undef = .int .i64 (n : Int) := by rw [get_put (by decide)]; exact s32
  have hh5 := r5_01001 hsz s26 s28 s30 s32 mk1 mk2 mk5 hQ B1 B2 B3 B4 w.heap.size (w.alloc (.cells #[.slice none 0 0, .slice none 0 0, .slice none 0 0, .slice none 0 0] 63)) h.s5
  clear hsz s26 s28 s30 s32 hQ h
  generalize (a.put (some 29) (.slice (some ⟨B2, 0, none⟩) n n)) = b at hh1 g26 hh3 g30 hh4 g32 hh5 ⊢
  refine wpAnyH_ready (rs := [1, 5, 7, 9]) (by kernel_rfl) (by simp) ?_
  refine AllReadyH.cons (o := on1) rfl (fun K hK => ?_) ?_
  · rw [if_pos (by rfl)]
    refine step_make (o := on1) (n := (n : Int)) (x := 26) (d := some 27) rfl rfl g26 (mk5 w) ?_
    exact hK.out _ _ trivial (fun _ => hh1)
  refine AllReadyH.cons (o := on5) rfl (fun K hK => ?_) ?_
  · rw [if_pos (by rfl)]
    refine step_make (o := on5) (n := (n : Int)) (x := 30) (d := some 31) rfl rfl g30 (mk2 w) ?_
    exact hK.out _ _ trivial (fun _ => hh3)
  refine AllReadyH.cons (o := on7) rfl (fun K hK => ?_) ?_
  · rw [if_pos (by rfl)]
    refine step_make (o := on7) (n := (n : Int)) (x := 32) (d := some 33) rfl rfl g32 (mk1 w) ?_
    exact hK.out _ _ trivial (fun _ => hh4)
  refine AllReadyH.cons (o := on9) rfl (fun K hK => ?_) ?_
  · rw [if_pos (by rfl)]
    refine step_alloc (d := some 7) rfl rfl ?_
    exact hK.out _ _ trivial (fun _ => hh5)
  exact AllReadyH.nil

set_option maxRecDepth 100000 in
theorem r5_10000 {w1 : World} {M1 M2 M5 : Array Value} {n : Nat} {a : Act} {Qf : Exit → Act → World → Prop} (hsz : 34 < a.tmps.size) (s26 : a.tmps.getD 26 undef = .int .i64 (n : Int)) (s28 : a.tmps.getD 28 undef = .int .i64 (n : Int)) (s30 : a.tmps.getD 30 undef = .int .i64 (n : Int)) (s32 : a.tmps.getD 32 undef = .int .i64 (n : Int))
    (mk1 : ∀ W : World, (Instr.makeSlice 35 (.int .i64 (n : Int)) (.int .i64 (n : Int))).run Tryd.prog W = .ok (.slice (some ⟨W.heap.size, 0, none⟩) n n) (W.alloc (.cells M1 4)))
    (mk2 : ∀ W : World, (Instr.makeSlice 61 (.int .i64 (n : Int)) (.int .i64 (n : Int))).run Tryd.prog W = .ok (.slice (some ⟨W.heap.size, 0, none⟩) n n) (W.alloc (.cells M2 40)))
    (mk5 : ∀ W : World, (Instr.makeSlice 22 (.int .i64 (n : Int)) (.int .i64 (n : Int))).run Tryd.prog W = .ok (.slice (some ⟨W.heap.size, 0, none⟩) n n) (W.alloc (.cells M5 52)))
    (hQ : ∀ (B1 B2 B3 B4 B5 : Nat) (w : World), St5 w1 w M1 M2 M5 true true true true true B1 B2 B3 B4 B5 → Qf .normal ((((((a.put (some 27) (.slice (some ⟨B1, 0, none⟩) n n)).put (some 29) (.slice (some ⟨B2, 0, none⟩) n n)).put (some 31) (.slice (some ⟨B3, 0, none⟩) n n)).put (some 33) (.slice (some ⟨B4, 0, none⟩) n n)).put (some 7) (.pointer (some ⟨B5, 0, none⟩))).put (some 34) (.agg #[.slice (some ⟨B1, 0, none⟩) n n, .slice (some ⟨B2, 0, none⟩) n n, .slice (some ⟨B3, 0, none⟩) n n, .slice (some ⟨B4, 0, none⟩) n n])) ((((w.setCell ⟨B5, 0, none⟩ (.slice (some ⟨B1, 0, none⟩) n n)).setCell ⟨B5, 1, none⟩ (.slice (some ⟨B2, 0, none⟩) n n)).setCell ⟨B5, 2, none⟩ (.slice (some ⟨B3, 0, none⟩) n n)).setCell ⟨B5, 3, none⟩ (.slice (some ⟨B4, 0, none⟩) n n))) (B1 B2 B3 B4 B5 : Nat) (w : World) (h : St5 w1 w M1 M2 M5 true false false false false B1 B2 B3 B4 B5) :
    wpAnyH Tryd.prog .any opsN Qf (fun _ => True) 6 #[true, true, true, false, true, false, true, false, false, false, false] (a.put (some 27) (.slice (some ⟨B1, 0, none⟩) n n)) w := by
  have hh2 := r5_11000 hsz s26 s28 s30 s32 mk1 mk2 mk5 hQ B1 w.heap.size B3 B4 B5 (w.alloc (.cells M2 40)) h.s2
  have g28 : (a.put (some 27) (.slice (some ⟨B1, 0, none⟩) n n)).tmps.getD 28 undef = .int .i64 (n : Int) := by rw [get_put (by decide)]; exact s28
  have hh3 := r5_10100 hsz s26 s28 s30 s32 mk1 mk2 mk5 hQ B1 B2 w.heap.size B4 B5 (w.alloc (.cells M2 40)) h.s3
  have g30 : (a.put (some 27) (.slice (some ⟨B1, 0, none⟩) n n)).tmps.getD 30 undef = .int .i64 (n : Int) := by rw [get_put (by decide)]; exact s30
  have hh4 := r5_10010 hsz s26 s28 s30 s32 mk1 mk2 mk5 hQ B1 B2 B3 w.heap.size B5 (w.alloc (.cells M1 4)) h.s4
  have g32 : (a.put (some 27) (.slice (some ⟨B1, 0, none⟩) n n)).tmps.getD 32 undef = .int .i64 (n : Int) := by rw [get_put (by decide)]; exact s32
  have hh5 := r5_10001 hsz s26 s28 s30 s32 mk1 mk2 mk5 hQ B1 B2 B3 B4 w.heap.size (w.alloc (.cells #[.slice none 0 0, .slice none 0 0, .slice none 0 0, .slice none 0 0] 63)) h.s5
  clear hsz s26 s28 s30 s32 hQ h
  generalize (a.put (some 27) (.slice (some ⟨B1, 0, none⟩) n n)) = b at hh2 g28 hh3 g30 hh4 g32 hh5 ⊢
  refine wpAnyH_ready (rs := [3, 5, 7, 9]) (by kernel_rfl) (by simp) ?_
  refine AllReadyH.cons (o := on3) rfl (fun K hK => ?_) ?_
  · rw [if_pos (by rfl)]
    refine step_make (o := on3) (n := (n : Int)) (x := 28) (d := some 29) rfl rfl g28 (mk2 w) ?_
    exact hK.out _ _ trivial (fun _ => hh2)
  refine AllReadyH.cons (o := on5) rfl (fun K hK => ?_) ?_
  · rw [if_pos (by rfl)]
    refine step_make (o := on5) (n := (n : Int)) (x := 30) (d := some 31) rfl rfl g30 (mk2 w) ?_
    exact hK.out _ _ trivial (fun _ => hh3)
  refine AllReadyH.cons (o := on7) rfl (fun K hK => ?_) ?_
  · rw [if_pos (by rfl)]
    refine step_make (o := on7) (n := (n : Int)) (x := 32) (d := some 33) rfl rfl g32 (mk1 w) ?_
    exact hK.out _ _ trivial (fun _ => hh4)
  refine AllReadyH.cons (o := on9) rfl (fun K hK => ?_) ?_
  · rw [if_pos (by rfl)]
    refine step_alloc (d := some 7) rfl rfl ?_
    exact hK.out _ _ trivial (fun _ => hh5)
  exact AllReadyH.nil

set_option maxRecDepth 100000 in
theorem r5_00000 {w1 : World} {M1 M2 M5 : Array Value} {n : Nat} {a : Act} {Qf : Exit → Act → World → Prop} (hsz : 34 < a.tmps.size) (s26 : a.tmps.getD 26 undef = .int .i64 (n : Int)) (s28 : a.tmps.getD 28 undef = .int .i64 (n : Int)) (s30 : a.tmps.getD 30 undef = .int .i64 (n : Int)) (s32 : a.tmps.getD 32 undef = .int .i64 (n : Int))
    (mk1 : ∀ W : World, (Instr.makeSlice 35 (.int .i64 (n : Int)) (.int .i64 (n : Int))).run Tryd.prog W = .ok (.slice (some ⟨W.heap.size, 0, none⟩) n n) (W.alloc (.cells M1 4)))
    (mk2 : ∀ W : World, (Instr.makeSlice 61 (.int .i64 (n : Int)) (.int .i64 (n : Int))).run Tryd.prog W = .ok (.slice (some ⟨W.heap.size, 0, none⟩) n n) (W.alloc (.cells M2 40)))
    (mk5 : ∀ W : World, (Instr.makeSlice 22 (.int .i64 (n : Int)) (.int .i64 (n : Int))).run Tryd.prog W = .ok (.slice (some ⟨W.heap.size, 0, none⟩) n n) (W.alloc (.cells M5 52)))
    (hQ : ∀ (B1 B2 B3 B4 B5 : Nat) (w : World), St5 w1 w M1 M2 M5 true true true true true B1 B2 B3 B4 B5 → Qf .normal ((((((a.put (some 27) (.slice (some ⟨B1, 0, none⟩) n n)).put (some 29) (.slice (some ⟨B2, 0, none⟩) n n)).put (some 31) (.slice (some ⟨B3, 0, none⟩) n n)).put (some 33) (.slice (some ⟨B4, 0, none⟩) n n)).put (some 7) (.pointer (some ⟨B5, 0, none⟩))).put (some 34) (.agg #[.slice (some ⟨B1, 0, none⟩) n n, .slice (some ⟨B2, 0, none⟩) n n, .slice (some ⟨B3, 0, none⟩) n n, .slice (some ⟨B4, 0, none⟩) n n])) ((((w.setCell ⟨B5, 0, none⟩ (.slice (some ⟨B1, 0, none⟩) n n)).setCell ⟨B5, 1, none⟩ (.slice (some ⟨B2, 0, none⟩) n n)).setCell ⟨B5, 2, none⟩ (.slice (some ⟨B3, 0, none⟩) n n)).setCell ⟨B5, 3, none⟩ (.slice (some ⟨B4, 0, none⟩) n n))) (B1 B2 B3 B4 B5 : Nat) (w : World) (h : St5 w1 w M1 M2 M5 false false false false false B1 B2 B3 B4 B5) :
    wpAnyH Tryd.prog .any opsN Qf (fun _ => True) 7 #[true, false, true, false, true, false, true, false, false, false, false] a w := by
  have hh1 := r5_10000 hsz s26 s28 s30 s32 mk1 mk2 mk5 hQ w.heap.size B2 B3 B4 B5 (w.alloc (.cells M5 52)) h.s1
  have g26 : a.tmps.getD 26 undef = .int .i64 (n : Int) := by exact s26
  have hh2 := r5_01000 hsz s26 s28 s30 s32 mk1 mk2 mk5 hQ B1 w.heap.size B3 B4 B5 (w.alloc (.cells M2 40)) h.s2
  have g28 : a.tmps.getD 28 undef = .int .i64 (n : Int) := by exact s28
  have hh3 := r5_00100 hsz s26 s28 s30 s32 mk1 mk2 mk5 hQ B1 B2 w.heap.size B4 B5 (w.alloc (.cells M2 40)) h.s3
  have g30 : a.tmps.getD 30 undef = .int .i64 (n : Int) := by exact s30
  have hh4 := r5_00010 hsz s26 s28 s30 s32 mk1 mk2 mk5 hQ B1 B2 B3 w.heap.size B5 (w.alloc (.cells M1 4)) h.s4
  have g32 : a.tmps.getD 32 undef = .int .i64 (n : Int) := by exact s32
  have hh5 := r5_00001 hsz s26 s28 s30 s32 mk1 mk2 mk5 hQ B1 B2 B3 B4 w.heap.size (w.alloc (.cells #[.slice none 0 0, .slice none 0 0, .slice none 0 0, .slice none 0 0] 63)) h.s5
  clear hsz s26 s28 s30 s32 hQ h
  refine wpAnyH_ready (rs := [1, 3, 5, 7, 9]) (by kernel_rfl) (by simp) ?_
  refine AllReadyH.cons (o := on1) rfl (fun K hK => ?_) ?_
  · rw [if_pos (by rfl)]
    refine step_make (o := on1) (n := (n : Int)) (x := 26) (d := some 27) rfl rfl g26 (mk5 w) ?_
    exact hK.out _ _ trivial (fun _ => hh1)
  refine AllReadyH.cons (o := on3) rfl (fun K hK => ?_) ?_
  · rw [if_pos (by rfl)]
    refine step_make (o := on3) (n := (n : Int)) (x := 28) (d := some 29) rfl rfl g28 (mk2 w) ?_
    exact hK.out _ _ trivial (fun _ => hh2)
  refine AllReadyH.cons (o := on5) rfl (fun K hK => ?_) ?_
  · rw [if_pos (by rfl)]
    refine step_make (o := on5) (n := (n : Int)) (x := 30) (d := some 31) rfl rfl g30 (mk2 w) ?_
    exact hK.out _ _ trivial (fun _ => hh3)
  refine AllReadyH.cons (o := on7) rfl (fun K hK => ?_) ?_
  · rw [if_pos (by rfl)]
    refine step_make (o := on7) (n := (n : Int)) (x := 32) (d := some 33) rfl rfl g32 (mk1 w) ?_
    exact hK.out _ _ trivial (fun _ => hh4)
  refine AllReadyH.cons (o := on9) rfl (fun K hK => ?_) ?_
  · rw [if_pos (by rfl)]
    refine step_alloc (d := some 7) rfl rfl ?_
    exact hK.out _ _ trivial (fun _ => hh5)
  exact AllReadyH.nil

theorem St5.made {w1 w : World} {M1 M2 M5 : Array Value} {B1 B2 B3 B4 B5 n : Nat} (h : St5 w1 w M1 M2 M5 true true true true true B1 B2 B3 B4 B5) : Made5 w1 ((((w.setCell ⟨B5, 0, none⟩ (.slice (some ⟨B1, 0, none⟩) n n)).setCell ⟨B5, 1, none⟩ (.slice (some ⟨B2, 0, none⟩) n n)).setCell ⟨B5, 2, none⟩ (.slice (some ⟨B3, 0, none⟩) n n)).setCell ⟨B5, 3, none⟩ (.slice (some ⟨B4, 0, none⟩) n n)) B5 B1 B2 B3 B4 n M1 M2 M5 := by
  obtain ⟨k1, k2⟩ := store4 (.slice (some ⟨B1, 0, none⟩) n n) (.slice (some ⟨B2, 0, none⟩) n n) (.slice (some ⟨B3, 0, none⟩) n n) (.slice (some ⟨B4, 0, none⟩) n n) (h.h5 rfl).1
  obtain ⟨a1, l1⟩ := h.h1 rfl
  obtain ⟨a2, l2⟩ := h.h2 rfl
  obtain ⟨a3, l3⟩ := h.h3 rfl
  obtain ⟨a4, l4⟩ := h.h4 rfl
  obtain ⟨a5, l5⟩ := h.h5 rfl
  have up : ∀ {i : Nat} {c : Array Value} {t : TypeId}, w.heap[i]? = some (.cells c t (0, 0)) → t ≠ 63 → ((((w.setCell ⟨B5, 0, none⟩ (.slice (some ⟨B1, 0, none⟩) n n)).setCell ⟨B5, 1, none⟩ (.slice (some ⟨B2, 0, none⟩) n n)).setCell ⟨B5, 2, none⟩ (.slice (some ⟨B3, 0, none⟩) n n)).setCell ⟨B5, 3, none⟩ (.slice (some ⟨B4, 0, none⟩) n n)).heap[i]? = some (.cells c t (0, 0)) := fun {i c t} hi ht => (k2.block i (heap_lt hi) (by simpa using blk_ne hi a5 ht)).trans hi
  exact ⟨grown_trans_row h.grown k2 (fun g e => by injection e with e; omega), k1, up a1 (by decide), up a2 (by decide), up a3 (by decide), up a4 (by decide), h.ne rfl rfl, l1, l2, l3, l4⟩

set_option maxRecDepth 100000 in
theorem region5 {id : Nat} {w : World} {M1 M2 M5 : Array Value} {n : Nat} {a : Act} {Qf : Exit → Act → World → Prop} (hpan : ∀ c (b : Act) (i : Tmp) v w, Qf (.panic c) (b.put (some i) v) w → Qf (.panic c) b w) (hsz : 34 < a.tmps.size) (s6 : a.tmps.getD 6 undef = .int .i64 (n : Int))
    (mk1 : ∀ W : World, (Instr.makeSlice 35 (.int .i64 (n : Int)) (.int .i64 (n : Int))).run Tryd.prog W = .ok (.slice (some ⟨W.heap.size, 0, none⟩) n n) (W.alloc (.cells M1 4)))
    (mk2 : ∀ W : World, (Instr.makeSlice 61 (.int .i64 (n : Int)) (.int .i64 (n : Int))).run Tryd.prog W = .ok (.slice (some ⟨W.heap.size, 0, none⟩) n n) (W.alloc (.cells M2 40)))
    (mk5 : ∀ W : World, (Instr.makeSlice 22 (.int .i64 (n : Int)) (.int .i64 (n : Int))).run Tryd.prog W = .ok (.slice (some ⟨W.heap.size, 0, none⟩) n n) (W.alloc (.cells M5 52)))
    (hQ : ∀ (B1 B2 B3 B4 B5 : Nat) (w' : World), Made5 w w' B5 B1 B2 B3 B4 n M1 M2 M5 → Qf .normal ((((((((((a.put (some 26) (.int .i64 (n : Int))).put (some 28) (.int .i64 (n : Int))).put (some 30) (.int .i64 (n : Int))).put (some 32) (.int .i64 (n : Int))).put (some 27) (.slice (some ⟨B1, 0, none⟩) n n)).put (some 29) (.slice (some ⟨B2, 0, none⟩) n n)).put (some 31) (.slice (some ⟨B3, 0, none⟩) n n)).put (some 33) (.slice (some ⟨B4, 0, none⟩) n n)).put (some 7) (.pointer (some ⟨B5, 0, none⟩))).put (some 34) (.agg #[.slice (some ⟨B1, 0, none⟩) n n, .slice (some ⟨B2, 0, none⟩) n n, .slice (some ⟨B3, 0, none⟩) n n, .slice (some ⟨B4, 0, none⟩) n n])) w') :
    (Code.region id opsN true).wp Tryd.prog Qf a w := by
  have tk : ∀ (o : Oper) (b : Act), o.op = .move (.tmp 6) → b.tmps.getD 6 undef = .int .i64 (n : Int) → ∀ w : World, (execOp b.eval o).run Tryd.prog w = .ok (.value (.int .i64 (n : Int))) w := fun o b ho hb w => by
    unfold execOp
    simp only [ho, Act.eval, hb, Sem.run_pure]
  refine wp_region_held_drew (S := fun _ => True) (by kernel_rfl) trivial (fun _ => ?_)
  refine wpAnyH_take (i := 0) (oi := on0) (v := .int .i64 (n : Int)) rfl (by kernel_rfl) (by kernel_rfl) (by kernel_rfl) (fun c b w h => hpan c b _ _ w h) (Or.inl ⟨by rfl, fun w _ => tk on0 a rfl s6 w⟩) trivial ?_
  have e1 : (a.put (some 26) (.int .i64 (n : Int))).tmps.getD 6 undef = .int .i64 (n : Int) := by rw [get_put (by decide)]; exact s6
  change wpAnyH _ _ _ _ _ _ _ (a.put (some 26) (.int .i64 (n : Int))) _
  refine wpAnyH_take (i := 2) (oi := on2) (v := .int .i64 (n : Int)) rfl (by kernel_rfl) (by kernel_rfl) (by kernel_rfl) (fun c b w h => hpan c b _ _ w h) (Or.inl ⟨by rfl, fun w _ => tk on2 _ rfl e1 w⟩) trivial ?_
  have e2 : ((a.put (some 26) (.int .i64 (n : Int))).put (some 28) (.int .i64 (n : Int))).tmps.getD 6 undef = .int .i64 (n : Int) := by rw [get_put (by decide)]; exact e1
  change wpAnyH _ _ _ _ _ _ _ ((a.put (some 26) (.int .i64 (n : Int))).put (some 28) (.int .i64 (n : Int))) _
  refine wpAnyH_take (i := 4) (oi := on4) (v := .int .i64 (n : Int)) rfl (by kernel_rfl) (by kernel_rfl) (by kernel_rfl) (fun c b w h => hpan c b _ _ w h) (Or.inl ⟨by rfl, fun w _ => tk on4 _ rfl e2 w⟩) trivial ?_
  have e3 : (((a.put (some 26) (.int .i64 (n : Int))).put (some 28) (.int .i64 (n : Int))).put (some 30) (.int .i64 (n : Int))).tmps.getD 6 undef = .int .i64 (n : Int) := by rw [get_put (by decide)]; exact e2
  change wpAnyH _ _ _ _ _ _ _ (((a.put (some 26) (.int .i64 (n : Int))).put (some 28) (.int .i64 (n : Int))).put (some 30) (.int .i64 (n : Int))) _
  refine wpAnyH_take (i := 6) (oi := on6) (v := .int .i64 (n : Int)) rfl (by kernel_rfl) (by kernel_rfl) (by kernel_rfl) (fun c b w h => hpan c b _ _ w h) (Or.inl ⟨by rfl, fun w _ => tk on6 _ rfl e3 w⟩) trivial ?_
  have hz : ∀ (i : Tmp) (v : Value) (b : Act), 34 < b.tmps.size → 34 < (b.put (some i) v).tmps.size := fun i v b h => by rw [put_size]; exact h
  exact r5_00000 (w1 := w) (a := ((((a.put (some 26) (.int .i64 (n : Int))).put (some 28) (.int .i64 (n : Int))).put (some 30) (.int .i64 (n : Int))).put (some 32) (.int .i64 (n : Int)))) (hz _ _ _ (hz _ _ _ (hz _ _ _ (hz _ _ _ hsz)))) (by rw [get_put (by decide), get_put (by decide), get_put (by decide), get_same (Nat.lt_trans (by decide) hsz)]) (by rw [get_put (by decide), get_put (by decide), get_same (by rw [put_size]; exact Nat.lt_trans (by decide) hsz)]) (by rw [get_put (by decide), get_same (by rw [put_size, put_size]; exact Nat.lt_trans (by decide) hsz)]) (by rw [get_same (by rw [put_size, put_size, put_size]; exact Nat.lt_trans (by decide) hsz)]) mk1 mk2 mk5 (fun B1 B2 B3 B4 B5 w' h => hQ B1 B2 B3 B4 B5 _ h.made) 0 0 0 0 0 w.drew ⟨grown_drew (grown_refl _), (fun e => by cases e), (fun e => by cases e), (fun e => by cases e), (fun e => by cases e), (fun e => by cases e), (fun e => by cases e)⟩
end Go.Proofs.YtmdpeckeliplkaaDoor
