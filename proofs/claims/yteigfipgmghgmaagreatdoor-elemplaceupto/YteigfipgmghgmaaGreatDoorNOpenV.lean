/- Values that come in, opened: lists within the bound. -/
import Derived.Test.YteigfipgmghgmaaGreatDoorNOpen
import Derived.Test.YteigfipgmghgmaaGreatDoorGBase
namespace Go.Proofs.YteigfipgmghgmaaGreatDoor
open Go.RowKit Go.ChangeShapes

theorem cellsVal : Tryz.prog.cellsOf 53 = 3 := by kernel_rfl

theorem cellsSV : Tryz.prog.cellsOf 66 = 1 := by kernel_rfl

theorem pairs_of {α β : Type} {Q : α → β → Prop} : ∀ {xs : List α}, (∀ a ∈ xs, ∃ b, Q a b) → ∃ ps : List (α × β), ps.map (·.1) = xs ∧ ∀ p ∈ ps, Q p.1 p.2
  | [], _ => ⟨[], rfl, fun p hp => by cases hp⟩
  | x :: l, h => by
    obtain ⟨b, hb⟩ := h x (by simp)
    obtain ⟨ps, e, hps⟩ := pairs_of (xs := l) (fun a ha => h a (by simp [ha]))
    refine ⟨(x, b) :: ps, by simp [e], fun p hp => ?_⟩
    rcases List.mem_cons.1 hp with rfl | hp
    · exact hb
    · exact hps p hp

section
variable {H : Type} {enc : TypeId × Value → H} {W : World}

set_option maxRecDepth 100000 in
theorem value_in {n : Nat} {cs : List Value} {x : DataW H × List MemPlace} (hf : DataW.trod enc Tryz.prog W 0 (fun _ => true) true n 53 cs = some x) (hb : Rows.uptoBulk x.1 ≤ 1048576) : ∃ v : Val, cs = vcells v ∧ (∃ ds, IsInts W v.dv.v ds) ∧ v.name.size ≤ 1048576 := by
  obtain ⟨xs, n', -, hx, hl, hlen, hfs⟩ := DataW.trod_struct Tryz.underlying53 hf
  rw [cellsVal] at hl
  match cs, hl with
  | [c0, c1, c2], _ =>
    match xs, hlen with
    | [y0, y1, y2], _ =>
      have h0 := hfs 0 _ rfl
      have h1 := hfs 1 _ rfl
      have h2 := hfs 2 _ rfl
      simp [cellsStr] at h0
      simp [cellsInt] at h1
      simp [cellsSI] at h2
      rw [hx] at hb
      simp only [List.map_cons, List.map_nil, Rows.uptoBulk, Rows.uptoBulkAll] at hb
      obtain ⟨nm, e0, hs⟩ := str_in (M := 1048576) h0 (by omega)
      obtain ⟨ty, e1, -, -⟩ := DataW.trod_int Tryz.underlying3 h1
      obtain ⟨d, ds, e2, i2⟩ := ints_in h2 (by omega)
      simp [scell] at e0 e1 e2
      subst e0 e1 e2
      exact ⟨⟨nm, ty, d⟩, rfl, ⟨ds, i2⟩, hs⟩
end
end Go.Proofs.YteigfipgmghgmaaGreatDoor
