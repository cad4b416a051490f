/- A view of the call's own; the plain view of some dimensions, by the walk. -/
import Derived.Test.YteigfipgmghgmaaGreatDoorVwBase
import Derived.Laws.ResultCell
namespace Go.Proofs.YteigfipgmghgmaaGreatDoor.Vw
open Go.RowKit

/-- A view of the call's own. -/
def OwnView (w : World) (base : Nat) (u : Value) (off : Int) (ds ss : List Int) : Prop :=
  ∃ dv sv, u = .agg #[.int .i64 off, dv, sv] ∧ Owns w base dv ds ∧ Owns w base sv ss ∧ -9223372036854775808 ≤ off ∧ off ≤ 9223372036854775807 ∧ (dv.ownBlock = none ∨ dv.ownBlock ≠ sv.ownBlock)

theorem OwnView.view {w : World} {base : Nat} {u : Value} {off : Int} {ds ss : List Int} (h : OwnView w base u off ds ss) : IsView w u off ds ss := by
  obtain ⟨dv, sv, rfl, h1, h2, h3, h4, _⟩ := h
  exact ⟨dv, sv, rfl, h1.ints, h2.ints, h3, h4⟩

theorem OwnView.new {w w' : World} {base : Nat} {u : Value} {off : Int} {ds ss : List Int} (h : OwnView w base u off ds ss) (hg : w.grownBy w' none) : OwnView w' base u off ds ss := by
  obtain ⟨dv, sv, rfl, h1, h2, h3, h4, h5⟩ := h
  exact ⟨dv, sv, rfl, h1.new hg, h2.new hg, h3, h4, h5⟩

theorem OwnView.nil (w : World) (base : Nat) : OwnView w base (.agg #[.int .i64 0, .slice none 0 0, .slice none 0 0]) 0 [] [] :=
  ⟨_, _, rfl, owns_nil _ _, owns_nil _ _, by omega, by omega, Or.inl rfl⟩

/-- The three cells of a view, written anew. -/
theorem store3 {w w3 : World} {B : Nat} {z0 z1 z2 : Value} (a b c : Value) (hg : w.grownBy w3 none) (hB : w.heap.size ≤ B) (hb : w3.heap[B]? = some (.cells #[z0, z1, z2] 76 (0, 0))) :
    (((w3.setCell ⟨B, 0, none⟩ a).setCell ⟨B, 1, none⟩ b).setCell ⟨B, 2, none⟩ c).heap[B]? = some (.cells #[a, b, c] 76 (0, 0)) ∧
    w.grownBy (((w3.setCell ⟨B, 0, none⟩ a).setCell ⟨B, 1, none⟩ b).setCell ⟨B, 2, none⟩ c) none ∧ w3.grownBy (((w3.setCell ⟨B, 0, none⟩ a).setCell ⟨B, 1, none⟩ b).setCell ⟨B, 2, none⟩ c) (some B) := by
  have h1 := heap_setCell_same w3 B 0 _ _ a hb
  have h2 := heap_setCell_same _ B 1 _ _ b h1
  have h3 := heap_setCell_same _ B 2 _ _ c h2
  have g : ∀ (x : World) (j : Nat) (v : Value), x.grownBy (x.setCell ⟨B, j, none⟩ v) (some B) := fun x j v =>
    ⟨rfl, rfl, rfl, by simp [World.setCell], fun k _ hk => Below.heap_setCell _ _ _ _ (fun e => hk (by rw [e]))⟩
  have g3 := grown_trans_same (grown_trans_same (g w3 0 a) (g _ 1 b)) (g _ 2 c)
  exact ⟨by simpa using h3, grown_trans_row hg g3 (fun r e => by cases e; exact hB), g3⟩

theorem box_cells {w : World} {B : Nat} {a b c : Value} (hb : w.heap[B]? = some (.cells #[a, b, c] 76 (0, 0))) :
    w.cell? ⟨B, 0, none⟩ = some a ∧ w.cell? ⟨B, 1, none⟩ = some b ∧ w.cell? ⟨B, 2, none⟩ = some c ∧ w.frozen? ⟨B, 0, none⟩ = false ∧ w.frozen? ⟨B, 1, none⟩ = false ∧ w.frozen? ⟨B, 2, none⟩ = false :=
  ⟨(cell_of_row _ _ 0 _ _ (0, 0) hb).trans rfl, (cell_of_row _ _ 1 _ _ (0, 0) hb).trans rfl, (cell_of_row _ _ 2 _ _ (0, 0) hb).trans rfl, frozen_of_row w B 0 _ _ hb, frozen_of_row w B 1 _ _ hb, frozen_of_row w B 2 _ _ hb⟩

theorem viewInfo : (Tryz.prog.info? 76).map (·.size) = some 3 := by kernel_rfl
theorem ret_view {fn : Func} {p u : Tmp} (h : fn.results = #[.cell p 76, .tmp u]) (tmps : Array Value) (w : World) (B : Nat) (hp : tmps.getD p undef = .pointer (some ⟨B, 0, none⟩)) {a b c : Value}
    (hb : w.heap[B]? = some (.cells #[a, b, c] 76 (0, 0))) : (results fn tmps).run Tryz.prog w = .ok (.tuple #[.agg #[a, b, c], tmps.getD u undef]) w := by
  have hl := run_loadVar_row (P := Tryz.prog) w B _ 76 #[a, b, c] (0, 0) _ hb Tryz.underlying76 rfl (by rw [viewInfo]; rfl)
  rw [results_cell_tmp h, hp]
  simp [asAddr, hl, Result.andThen]

set_option maxHeartbeats 800000 in
theorem clone_any (v : Value) (zs : List Int) (w : World) (h : IsInts w v zs) :
    Calls Tryz.prog 94 #[v] w fun e w' => ∃ u, e = .returned u ∧ Owns w' w.heap.size u zs ∧ w.grownBy w' none := by
  have h3 := h.le
  have H := hide h
  obtain ⟨ao, cap, rfl, h1, h2, _, h4, -, -⟩ := h
  have heq := fun wx => Lib.run_eql_slice_nil (P := Tryz.prog) wx 29 3 ao zs.length cap 0 0 Tryz.underlying29
  cases ao with
  | none =>
    obtain ⟨rfl, rfl⟩ := h4 rfl
    have heq0 := fun wx => Lib.run_eql_slice_nil (P := Tryz.prog) wx 29 3 none 0 0 0 0 Tryz.underlying29
    simp only [List.length_nil]
    clear heq H
    go_enter Tryz.func94, Tryz.ntmps94
    go_wp2
    go_ret
    exact ⟨_, rfl, owns_nil _ _, grown_refl _⟩
  | some ad =>
    have O0 : Owns (w.alloc (.cells #[] 3)) w.heap.size (.slice (some ⟨w.heap.size, 0, none⟩) 0 0) [] :=
      ⟨by simpa using World.ownsRow_lit (base := w.heap.size) (e := 3) (size := 1) w #[] 0 (Nat.le_refl _) (by simp [maxLen]) rfl, by simp, fun z hz => by simp at hz⟩
    have g0 := grown_new w (.cells #[] 3)
    have H0 := hide (H.out.more g0)
    go_enter Tryz.func94, Tryz.ntmps94
    go_wp2_with (at_builtin; refine wpList_app rfl (.tmp 5) (.tmp 6) rfl w.heap.size _ [] rfl O0 _ zs rfl H0.out ?_ ?_ ?_; (simpa using h3); simp; intro v' w1 hown hgrow)
    go_ret
    exact ⟨_, rfl, by simpa using hown, grown_trans_row g0 hgrow (fun g hg => by cases hg; exact Nat.le_refl _)⟩
end Go.Proofs.YteigfipgmghgmaaGreatDoor.Vw
