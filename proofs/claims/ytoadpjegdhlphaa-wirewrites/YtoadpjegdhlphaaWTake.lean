/- A number from a place on, what is malformed recovered: takeVarint and TakeVarint, by the walk. -/
import Derived.Test.YtoadpjegdhlphaaWField
import Derived.Defers
import Derived.Recover
namespace Go.Proofs.Ytoadpjegdhlphaa
open Go.RowKit

theorem box1 {w : World} {B : Nat} {a : Value} {t : TypeId} (hb : w.heap[B]? = some (.cells #[a] t (0, 0))) : w.cell? ⟨B, 0, none⟩ = some a ∧ w.frozen? ⟨B, 0, none⟩ = false :=
  ⟨(cell_of_row _ _ 0 _ _ (0, 0) hb).trans rfl, frozen_of_row w B 0 _ _ hb⟩

theorem box2 {w : World} {B : Nat} {a b : Value} {t : TypeId} (hb : w.heap[B]? = some (.cells #[a, b] t (0, 0))) : w.cell? ⟨B, 0, none⟩ = some a ∧ w.cell? ⟨B, 1, none⟩ = some b ∧ w.frozen? ⟨B, 0, none⟩ = false ∧ w.frozen? ⟨B, 1, none⟩ = false :=
  ⟨(cell_of_row _ _ 0 _ _ (0, 0) hb).trans rfl, (cell_of_row _ _ 1 _ _ (0, 0) hb).trans rfl, frozen_of_row w B 0 _ _ hb, frozen_of_row w B 1 _ _ hb⟩

theorem heap_in (w : World) (o : Obj) (k : Nat) (h : k < w.heap.size) : (w.alloc o).heap[k]? = w.heap[k]? := (grown_new w o).block k h (by simp)
theorem heap_at (w : World) (o : Obj) (k : Nat) (h : k = w.heap.size) : (w.alloc o).heap[k]? = some o := by subst h; exact heap_alloc_new w o

theorem catch3 (n : Nat) (x y z : Value) (u : TypeId) (pv : Value) (older : List PanicEntry) (w : World)
    (h0 : w.cell? ⟨n, 0, none⟩ = some x) (h1 : w.cell? ⟨n + 1, 0, none⟩ = some y) (h2 : w.cell? ⟨n + 1 + 1, 0, none⟩ = some z) (f0 : w.frozen? ⟨n, 0, none⟩ = false) (f1 : w.frozen? ⟨n + 1, 0, none⟩ = false) (f2 : w.frozen? ⟨n + 1 + 1, 0, none⟩ = false) :
    CallsD Try.prog 33 #[.pointer (some ⟨n, 0, none⟩), .pointer (some ⟨n + 1, 0, none⟩), .pointer (some ⟨n + 1 + 1, 0, none⟩)] (.panicking ({ v := .iface u pv, recovered := false } :: older)) w fun e u' w' =>
      e = .returned (.tuple #[]) ∧ u' = .panicking ({ v := .iface u pv, recovered := true } :: older) ∧ w' = ((w.setCell ⟨n, 0, none⟩ (.int .u64 0)).setCell ⟨n + 1, 0, none⟩ (.int .i64 0)).setCell ⟨n + 1 + 1, 0, none⟩ (.int .i64 3) := by
  refine callsD_of_wpS Try.func33 rfl fun c₀ cs hu => ?_
  apply wpS_seq
  apply wpS_region
  simp [wpOpsS, go_sem, recoverD, hu, Try.ntmps33, Exit.thenS]
  refine wpS_cond (t := true) (by simp [Act.eval, Array.replicate]) ?_
  simp only [if_true]
  apply wpS_region
  simp [wpOpsS, go_sem, h0, h1, h2, f0, f1, f2, bodyPostS, results, Try.results33]

theorem idle3 (p q r : Addr) (w : World) :
    CallsD Try.prog 33 #[.pointer (some p), .pointer (some q), .pointer (some r)] .returning w fun e u' w' => e = .returned (.tuple #[]) ∧ u' = .returning ∧ w' = w := by
  refine callsD_of_wpS Try.func33 rfl fun c₀ cs hu => ?_
  apply wpS_seq
  apply wpS_region
  simp [wpOpsS, go_sem, recoverD, hu, Try.ntmps33, Exit.thenS]
  refine wpS_cond (t := false) (by simp [Act.eval, Array.replicate]) ?_
  simp only [Bool.false_eq_true, if_false]
  refine wpS_of_wp (wp_skip ?_)
  cases c₀
  simp_all [bodyPostS, results, Try.results33]

/-- What TakeVarint answers, of a place in the text. -/
def tkE (s : ByteArray) (p : Nat) : Int := if (tk s p).isSome then 0 else 3

set_option maxRecDepth 100000 in
set_option maxHeartbeats 1600000 in
theorem takeVarint_any (s : ByteArray) (p : Nat) (w : World) (hs : s.size ≤ 9223372036854775807) (hp : p ≤ s.size) :
    Calls Try.prog 21 #[.agg #[.string s, .int .i64 p]] w fun e w' => e = .returned (.tuple #[.int .u64 (tkU s p), .int .i64 (tkN s p), .int .i64 (tkE s p)]) ∧ w.grownBy w' none := by
  have hmf : ∀ (fn : Fn) (first cap : Array Value) (w : World), (Instr.makeFunc fn first cap).run Try.prog w = .ok (.func fn first cap) w := fun _ _ _ _ => rfl
  obtain ⟨w0, hw0⟩ : ∃ w0, w0 = (((w.alloc (.cells #[.string s, .int .i64 p] 45)).alloc (.cells #[.int .u64 0] 22)).alloc (.cells #[.int .i64 0] 3)).alloc (.cells #[.int .i64 0] 23) := ⟨_, rfl⟩
  have hz0 : w0.heap.size = w.heap.size + 4 := by rw [hw0]; simp
  have hg0 : w.grownBy w0 none := by rw [hw0]; exact grown_trans (grown_trans (grown_trans (grown_new _ _) (grown_new _ _)) (grown_new _ _)) (grown_new _ _)
  have B0 : w0.heap[w.heap.size]? = some (.cells #[.string s, .int .i64 p] 45 (0, 0)) := by
    rw [hw0, heap_in _ _ _ (by simp <;> omega), heap_in _ _ _ (by simp <;> omega), heap_in _ _ _ (by simp)]; exact heap_at _ _ _ (by simp)
  have B1 : w0.heap[w.heap.size + 1]? = some (.cells #[.int .u64 0] 22 (0, 0)) := by rw [hw0, heap_in _ _ _ (by simp), heap_in _ _ _ (by simp)]; exact heap_at _ _ _ (by simp)
  have B2 : w0.heap[w.heap.size + 1 + 1]? = some (.cells #[.int .i64 0] 3 (0, 0)) := by rw [hw0, heap_in _ _ _ (by simp)]; exact heap_at _ _ _ (by simp)
  have B3 : w0.heap[w.heap.size + 1 + 1 + 1]? = some (.cells #[.int .i64 0] 23 (0, 0)) := by rw [hw0]; exact heap_at _ _ _ (by simp)
  obtain ⟨c0, c1, cf0, cf1⟩ := box2 B0
  have V := hide (varint_any w.heap.size s p w0 ⟨c0, c1, cf1, hs, hp⟩)
  clear c0 c1 cf0 cf1
  go_enter_defers Try.func21, Try.ntmps21
  go_wp2_with fail
  rw [← hw0]
  clear hw0
  refine V.out.mono ?_
  rintro e w1 ⟨hg1, ⟨u, q, ht, rfl, hc⟩ | ⟨ht, rfl⟩⟩
  all_goals
    have hk : ∀ j, w.heap.size < j → j < w0.heap.size → w1.heap[j]? = w0.heap[j]? := fun j h1 h2 => hg1.block j h2 (fun e => by cases e; omega)
    obtain ⟨c1, f1⟩ := box1 ((hk _ (by omega) (by omega)).trans B1)
    obtain ⟨c2, f2⟩ := box1 ((hk _ (by omega) (by omega)).trans B2)
    obtain ⟨c3, f3⟩ := box1 ((hk _ (by omega) (by omega)).trans B3)
    have hg01 : w.grownBy w1 none := grown_trans_row hg0 hg1 (fun g e => by cases e; exact Nat.le_refl _)
    clear hk B0 B1 B2 B3 hz0
  · obtain ⟨-, d1, -, -, -⟩ := hc
    have HT := hide ht
    clear ht
    go_wp2
    go_region
    all_goals
      go_wp2
      refine leaves_cons (f := 33) (args := #[.pointer (some ⟨w.heap.size + 1, 0, none⟩), .pointer (some ⟨w.heap.size + 1 + 1, 0, none⟩), .pointer (some ⟨w.heap.size + 1 + 1 + 1, 0, none⟩)]) (by simp) (by simp [go_sem]) ?_
      refine (idle3 _ _ _ _).mono ?_
      rintro e u' w'' ⟨rfl, rfl, rfl⟩
      simp [Leaves, settle, results, Try.results21, go_sem, c1, c2, c3, tkU, tkN, tkE, HT.out]
      exact row_drew (row_set (row_set (row_set (row_set hg01 (by omega)) (by omega)) (by omega)) (by omega))
  · go_wp2
    refine leaves_cons (f := 33) (args := #[.pointer (some ⟨w.heap.size + 1, 0, none⟩), .pointer (some ⟨w.heap.size + 1 + 1, 0, none⟩), .pointer (some ⟨w.heap.size + 1 + 1 + 1, 0, none⟩)]) (by simp) (by simp [go_sem]) ?_
    refine (catch3 (w.heap.size + 1) _ _ _ _ _ [] _ c1 c2 c3 f1 f2 f3).mono ?_
    rintro e u' w'' ⟨rfl, rfl, rfl⟩
    simp [Leaves, settle, results, Try.results21, go_sem, c1, c2, c3, tkU, tkN, tkE, ht]
    exact row_set (row_set (row_set hg01 (by omega)) (by omega)) (by omega)

/-- What TakeVarint answers. -/
def TV (s : ByteArray) (p : Int) : Nat × Nat × Int := if p < 0 ∨ (s.size : Int) < p then (0, 0, 1) else (tkU s p.toNat, tkN s p.toNat, tkE s p.toNat)

theorem takeV_any (s : ByteArray) (p : Int) (w : World) (hs : s.size ≤ 9223372036854775807) :
    Calls Try.prog 9 #[.string s, .int .i64 p] w fun e w' => e = .returned (.tuple #[.int .u64 (TV s p).1, .int .i64 (TV s p).2.1, .int .i64 (TV s p).2.2]) ∧ w.grownBy w' none := by
  by_cases h0 : p < 0
  · go_enter Try.func9, Try.ntmps9
    go_wp2
    go_ret3
    exact ⟨by simp [TV, h0], grown_refl _⟩
  · by_cases h1 : (s.size : Int) < p
    · go_enter Try.func9, Try.ntmps9
      go_wp2
      go_ret3
      exact ⟨by simp [TV, h1], grown_refl _⟩
    · obtain ⟨q, rfl⟩ : ∃ q : Nat, p = q := ⟨p.toNat, by omega⟩
      have C := hide (takeVarint_any s q w hs (by omega))
      go_enter Try.func9, Try.ntmps9
      go_wp2_with fail
      refine C.out.mono ?_
      rintro e w1 ⟨rfl, hg⟩
      go_wp2
      go_ret3
      have e : TV s (q : Int) = (tkU s q, tkN s q, tkE s q) := by unfold TV; rw [if_neg (by omega)]; rfl
      exact ⟨by simp [e], hg⟩
end Go.Proofs.Ytoadpjegdhlphaa
