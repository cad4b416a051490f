/- The graphs of live, by the walk. -/
import Derived.Test.YtmdpeckeliplkaaDoorGOrdQJ
import Derived.Test.YtmdpeckeliplkaaDoorGLitJ
namespace Go.Proofs.YtmdpeckeliplkaaDoor
open Go.RowKit

theorem six (w : World) (a b c d e f : Obj) : ∀ W, W = (((((w.alloc a).alloc b).alloc c).alloc d).alloc e).alloc f →
    W.heap[w.heap.size]? = some a ∧ W.heap[w.heap.size + 1]? = some b ∧ W.heap[w.heap.size + 1 + 1]? = some c ∧ W.heap[w.heap.size + 1 + 1 + 1]? = some d ∧ W.heap[w.heap.size + 1 + 1 + 1 + 1]? = some e ∧ W.heap[w.heap.size + 1 + 1 + 1 + 1 + 1]? = some f ∧ w.grownBy W none := by
  rintro W rfl
  have z : ∀ (x : World) (o : Obj), (x.alloc o).heap.size = x.heap.size + 1 := fun x o => by simp
  have k1 := heap_alloc_new w a
  have k2 := heap_alloc_new (w.alloc a) b
  have k3 := heap_alloc_new ((w.alloc a).alloc b) c
  have k4 := heap_alloc_new (((w.alloc a).alloc b).alloc c) d
  have k5 := heap_alloc_new ((((w.alloc a).alloc b).alloc c).alloc d) e
  have k6 := heap_alloc_new (((((w.alloc a).alloc b).alloc c).alloc d).alloc e) f
  rw [z] at k2
  rw [z, z] at k3
  rw [z, z, z] at k4
  rw [z, z, z, z] at k5
  rw [z, z, z, z, z] at k6
  have up : ∀ {x : World} {i : Nat} {o : Obj} (p : Obj), x.heap[i]? = some o → (x.alloc p).heap[i]? = some o := fun {x i o} p h => ((grown_new x p).block i (Array.getElem?_eq_some_iff.1 h).1 (by simp)).trans h
  exact ⟨up _ (up _ (up _ (up _ (up _ k1)))), up _ (up _ (up _ (up _ k2))), up _ (up _ (up _ k3)), up _ (up _ k4), up _ k5, k6, grown_trans (grown_trans (grown_trans (grown_trans (grown_trans (grown_new _ _) (grown_new _ _)) (grown_new _ _)) (grown_new _ _)) (grown_new _ _)) (grown_new _ _)⟩

theorem graInfo : (Tryd.prog.info? 26).map (·.size) = some 5 := by kernel_rfl

theorem ret_gra {fn : Func} {p : Tmp} (h : fn.results = #[.cell p 26]) (tmps : Array Value) (w : World) (B : Nat) (hp : tmps.getD p undef = .pointer (some ⟨B, 0, none⟩)) {a0 a1 a2 a3 a4 : Value}
    (hb : w.heap[B]? = some (.cells #[a0, a1, a2, a3, a4] 26 (0, 0))) : (results fn tmps).run Tryd.prog w = .ok (.agg #[a0, a1, a2, a3, a4]) w :=
  results_cell_row h tmps w B 26 #[a0, a1, a2, a3, a4] (0, 0) _ hp hb Tryd.underlying26 rfl (by rw [graInfo]; rfl)

/-- The nodes of live's graphs. -/
def twoCs (s1 s2 : Sl) (x : UInt8) : List Nc := [⟨⟨⟨#[82, 101, 108, 117]⟩, ⟨#[]⟩, s1, ⟨#[121]⟩, nilS⟩, [⟨#[122]⟩], [], []⟩, ⟨⟨⟨#[78, 101, 103]⟩, ⟨#[]⟩, s2, ⟨#[122]⟩, nilS⟩, [⟨#[x]⟩], [], []⟩]

def twoIn : List (Val × List Int) := [(⟨⟨#[120]⟩, 1, nilS⟩, [])]
def twoOut : List (Val × List Int) := [(⟨⟨#[121]⟩, 1, nilS⟩, [])]

theorem two_ok (w : World) (x : UInt8) (W : World) (hW : W = (((((w.alloc (.cells #[.string ⟨#[]⟩, .slice (some ⟨w.heap.size + 1 + 1 + 1 + 1 + 1, 0, none⟩) 2 2, .slice (some ⟨w.heap.size + 1, 0, none⟩) 1 1, .slice (some ⟨w.heap.size + 1 + 1, 0, none⟩) 1 1, .slice none 0 0] 26)).alloc (.cells #[.string ⟨#[120]⟩, .int .i64 1, .slice none 0 0] 42)).alloc (.cells #[.string ⟨#[121]⟩, .int .i64 1, .slice none 0 0] 42)).alloc (.cells #[.string ⟨#[122]⟩] 9)).alloc (.cells #[.string ⟨#[x]⟩] 9)).alloc (.cells #[.string ⟨#[82, 101, 108, 117]⟩, .string ⟨#[]⟩, .slice (some ⟨w.heap.size + 1 + 1 + 1, 0, none⟩) 1 1, .string ⟨#[121]⟩, .slice none 0 0, .string ⟨#[78, 101, 103]⟩, .string ⟨#[]⟩, .slice (some ⟨w.heap.size + 1 + 1 + 1 + 1, 0, none⟩) 1 1, .string ⟨#[122]⟩, .slice none 0 0] 52)) :
    W.heap[w.heap.size]? = some (.cells #[.string ⟨#[]⟩, .slice (some ⟨w.heap.size + 1 + 1 + 1 + 1 + 1, 0, none⟩) 2 2, .slice (some ⟨w.heap.size + 1, 0, none⟩) 1 1, .slice (some ⟨w.heap.size + 1 + 1, 0, none⟩) 1 1, .slice none 0 0] 26 (0, 0)) ∧ w.grownBy W none ∧
    GraphOk W ⟨⟨#[]⟩, ⟨some ⟨w.heap.size + 1 + 1 + 1 + 1 + 1, 0, none⟩, 2, 2⟩, ⟨some ⟨w.heap.size + 1, 0, none⟩, 1, 1⟩, ⟨some ⟨w.heap.size + 1 + 1, 0, none⟩, 1, 1⟩, nilS⟩ (twoCs ⟨some ⟨w.heap.size + 1 + 1 + 1, 0, none⟩, 1, 1⟩ ⟨some ⟨w.heap.size + 1 + 1 + 1 + 1, 0, none⟩, 1, 1⟩ x) twoIn twoOut [] := by
  obtain ⟨h0, h1, h2, h3, h4, h5, hg⟩ := six w _ _ _ _ _ _ W hW
  have nilA : IsAttrs W nilS.v [] := OwnsL.isL (te := 82) (base := 0) acells_len (OwnsL.nil ..) (by simp)
  refine ⟨h0, hg, ⟨?_, ?_, ?_, ?_, fun c hc => ?_, fun p hp => ?_, fun p hp => ?_, (fun p hp => by cases hp), fun p hp => ?_, ?_⟩, fun y hy => ?_, fun y hy => ?_, fun c hc => ?_⟩
  · exact lit_isLG (te := 52) (bytes := 96) (xs := (twoCs ⟨some ⟨w.heap.size + 1 + 1 + 1, 0, none⟩, 1, 1⟩ ⟨some ⟨w.heap.size + 1 + 1 + 1 + 1, 0, none⟩, 1, 1⟩ x).map (·.n)) ncells_len h5 rfl rfl (Nat.le_of_ble_eq_true rfl) (Nat.le_of_ble_eq_true rfl)
  · exact lit_isLG (te := 42) (bytes := 48) (xs := twoIn.map (·.1)) vcells_len h1 rfl rfl (Nat.le_of_ble_eq_true rfl) (Nat.le_of_ble_eq_true rfl)
  · exact lit_isLG (te := 42) (bytes := 48) (xs := twoOut.map (·.1)) vcells_len h2 rfl rfl (Nat.le_of_ble_eq_true rfl) (Nat.le_of_ble_eq_true rfl)
  · exact OwnsL.isL (te := 59) (base := 0) mcells_len (OwnsL.nil ..) (by simp)
  · simp only [twoCs, List.mem_cons, List.not_mem_nil, or_false] at hc
    rcases hc with rfl | rfl
    · exact ⟨lit_isLG (te := 9) (bytes := 16) (xs := [⟨#[122]⟩]) scell_len h3 rfl rfl (Nat.le_of_ble_eq_true rfl) (Nat.le_of_ble_eq_true rfl), nilA, (fun j a h => by simp at h), by simp, (fun a h => by cases h)⟩
    · exact ⟨lit_isLG (te := 9) (bytes := 16) (xs := [⟨#[x]⟩]) scell_len h4 rfl rfl (Nat.le_of_ble_eq_true rfl) (Nat.le_of_ble_eq_true rfl), nilA, (fun j a h => by simp at h), by simp, (fun a h => by cases h)⟩
  · simp only [twoIn, List.mem_cons, List.not_mem_nil, or_false] at hp
    subst hp
    exact ints_nil W
  · simp only [twoOut, List.mem_cons, List.not_mem_nil, or_false] at hp
    subst hp
    exact ints_nil W
  · simp only [twoIn, List.mem_cons, List.not_mem_nil, or_false] at hp
    subst hp
    show (1 : Nat) ≤ 1048576
    omega
  · simp [twoCs, twoIn, twoOut]
  · simp only [vnames, twoIn, twoCs, List.map_cons, List.map_nil, List.nil_append, List.append_nil, List.cons_append, List.mem_cons, List.not_mem_nil, or_false] at hy
    rcases hy with rfl | rfl | rfl <;> (show (1 : Nat) ≤ 1048576; omega)
  · simp only [onames, twoOut, List.map_cons, List.map_nil, List.mem_cons, List.not_mem_nil, or_false] at hy
    subst hy
    show (1 : Nat) ≤ 1048576
    omega
  · simp only [twoCs, List.mem_cons, List.not_mem_nil, or_false] at hc
    rcases hc with rfl | rfl
    · refine ⟨by simp, fun y hy => ?_⟩
      simp at hy
      subst hy
      show (1 : Nat) ≤ 1048576
      omega
    · refine ⟨by simp, fun y hy => ?_⟩
      simp at hy
      subst hy
      show (1 : Nat) ≤ 1048576
      omega

/-- How two ends. -/
def Twos (x : UInt8) (w : World) (e : Ending) (w' : World) : Prop := ∃ (g : Gra) (s1 s2 : Sl), e = .returned (gval g) ∧ GraphOk w' g (twoCs s1 s2 x) twoIn twoOut [] ∧ w.grownBy w' none

end Go.Proofs.YtmdpeckeliplkaaDoor
