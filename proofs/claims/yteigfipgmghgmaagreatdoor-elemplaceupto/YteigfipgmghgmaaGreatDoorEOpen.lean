/- Lists of tensors that come in, opened. -/
import Derived.Test.YteigfipgmghgmaaGreatDoorIOpen
import Derived.Test.YteigfipgmghgmaaGreatDoorETen
namespace Go.Proofs.YteigfipgmghgmaaGreatDoor
open Go.RowKit Go.ChangeShapes

section
variable {H : Type} {enc : TypeId × Value → H} {W : World}

set_option maxRecDepth 100000 in
theorem tensor_inR {n : Nat} {cs : List Value} {x : DataW H × List MemPlace} (hf : DataW.trod enc Tryz.prog W 0 (fun _ => true) true n 32 cs = some x) (hb : Rows.uptoBulk x.1 ≤ 1048576) : ∃ t : Ten, cs = tcells t ∧ ∃ q : Tq, IsInts W t.dv.v q.1 ∧ IsInts W t.tv.v q.2 := by
  obtain ⟨ty, d, t, ds, ts, e, i1, i2⟩ := ten_in hf hb
  exact ⟨⟨ty, d, t⟩, e, (ds, ts), i1, i2⟩

set_option maxRecDepth 100000 in
theorem tens_in {n : Nat} {cs : List Value} {x : DataW H × List MemPlace} (hf : DataW.trod enc Tryz.prog W 0 (fun _ => true) true n 26 cs = some x) (hb : Rows.uptoBulk x.1 ≤ 1048576) : ∃ (s : Sl) (ps : List (Ten × Tq)), cs = [.slice s.a s.n s.c] ∧ TensIn W s.v ps ∧ ps.length ≤ 1048576 := by
  have : Inhabited Ten := ⟨⟨0, ⟨none, 0, 0⟩, ⟨none, 0, 0⟩⟩⟩
  obtain ⟨s, ts, e, h1, h2, h3⟩ := list_of (bytes := 56) (size := 3) (f := tcells) (P := fun t => ∃ q : Tq, IsInts W t.dv.v q.1 ∧ IsInts W t.tv.v q.2) Tryz.underlying26 cellsTen (by decide) tcells_len (by decide) (fun h hb => tensor_inR h hb) hf hb
  obtain ⟨ps, e2, hps⟩ := pairs_of h2
  refine ⟨s, ps, e, ⟨by rw [e2]; exact h1, fun p hp => hps p hp⟩, ?_⟩
  have := congrArg List.length e2
  rw [List.length_map] at this
  omega
end
end Go.Proofs.YteigfipgmghgmaaGreatDoor
