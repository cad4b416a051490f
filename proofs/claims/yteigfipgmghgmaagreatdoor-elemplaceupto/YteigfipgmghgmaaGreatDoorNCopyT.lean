/- A tensor of its own, by the walk. -/
import Derived.Test.YteigfipgmghgmaaGreatDoorNFresh
namespace Go.Proofs.YteigfipgmghgmaaGreatDoor
open Go.RowKit

theorem tenInfo : (Tryz.prog.info? 32).map (·.size) = some 3 := by kernel_rfl

theorem ret_ten {fn : Func} {p : Tmp} (h : fn.results = #[.cell p 32]) (tmps : Array Value) (w : World) (B : Nat) (hp : tmps.getD p undef = .pointer (some ⟨B, 0, none⟩)) {a0 a1 a2 : Value}
    (hb : w.heap[B]? = some (.cells #[a0, a1, a2] 32 (0, 0))) : (results fn tmps).run Tryz.prog w = .ok (.agg #[a0, a1, a2]) w :=
  results_cell_row h tmps w B 32 #[a0, a1, a2] (0, 0) _ hp hb Tryz.underlying32 rfl (by rw [tenInfo]; rfl)

/-- The three cells of a block, written anew. -/
theorem store3t {w3 : World} {B : Nat} {z0 z1 z2 : Value} {t : TypeId} (a b c : Value) (hb : w3.heap[B]? = some (.cells #[z0, z1, z2] t (0, 0))) :
    (((w3.setCell ⟨B, 0, none⟩ a).setCell ⟨B, 1, none⟩ b).setCell ⟨B, 2, none⟩ c).heap[B]? = some (.cells #[a, b, c] t (0, 0)) ∧ w3.grownBy (((w3.setCell ⟨B, 0, none⟩ a).setCell ⟨B, 1, none⟩ b).setCell ⟨B, 2, none⟩ c) (some B) := by
  have h1 := heap_setCell_same w3 B 0 _ _ a hb
  have h2 := heap_setCell_same _ B 1 _ _ b h1
  have h3 := heap_setCell_same _ B 2 _ _ c h2
  have g : ∀ (x : World) (j : Nat) (v : Value), x.grownBy (x.setCell ⟨B, j, none⟩ v) (some B) := fun x j v =>
    ⟨rfl, rfl, rfl, by simp [World.setCell], fun k _ hk => Below.heap_setCell _ _ _ _ (fun e => hk (by rw [e]))⟩
  exact ⟨by simpa using h3, grown_same (grown_same (g w3 0 a) (g _ 1 b)) (g _ 2 c)⟩

theorem ten_frozen {w : World} {B : Nat} {z0 z1 z2 : Value} {t : TypeId} (hb : w.heap[B]? = some (.cells #[z0, z1, z2] t (0, 0))) :
    w.frozen? ⟨B, 0, none⟩ = false ∧ w.frozen? ⟨B, 1, none⟩ = false ∧ w.frozen? ⟨B, 2, none⟩ = false :=
  ⟨frozen_of_row w B 0 _ _ hb, frozen_of_row w B 1 _ _ hb, frozen_of_row w B 2 _ _ hb⟩

end Go.Proofs.YteigfipgmghgmaaGreatDoor
