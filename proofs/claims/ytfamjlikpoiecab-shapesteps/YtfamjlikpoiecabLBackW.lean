/- ShapeBack, by the walk. -/
import Derived.Test.YtfamjlikpoiecabSLive
namespace Go.Proofs.Ytfamjlikpoiecab
open Go.RowKit

theorem crdsE_ok {zs : List Int} {n : Int} (h : crdsE zs n = 0) : Fine zs ∧ 0 ≤ n ∧ n < prod zs := by
  unfold crdsE at h
  split at h
  · rename_i h1; exact absurd h h1
  · rename_i h1
    split at h
    · simp at h
    · rename_i h2
      refine ⟨fine_of (by simpa using h1), by omega, by omega⟩

theorem off_crds {zs : List Int} {n : Int} (h : crdsE zs n = 0) : offE zs (crds zs n) = 0 ∧ offN zs (crds zs n) = n := by
  obtain ⟨hF, h0, h1⟩ := crdsE_ok h
  have e1 : offE zs (crds zs n) = 0 := by simp [offE, hF.ok, crds_inside zs n hF.pos]
  exact ⟨e1, by rw [offN, if_pos e1, offs_crds zs n hF.pos, Int.emod_eq_of_lt h0 h1]⟩

end Go.Proofs.Ytfamjlikpoiecab
