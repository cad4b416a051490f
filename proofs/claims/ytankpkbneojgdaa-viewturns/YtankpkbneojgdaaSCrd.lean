/- Coords, by the walk: of the code, and the document's. -/
import Derived.Test.YtankpkbneojgdaaSRStr
namespace Go.Proofs.Ytankpkbneojgdaa
open Go.RowKit

def crdsE (zs : List Int) (n : Int) : Int := if cntE zs ≠ 0 then cntE zs else if n < 0 ∨ prod zs ≤ n then 1 else 0
def crdsL (zs : List Int) (n : Int) : List Int := if crdsE zs n = 0 then crds zs n else []

theorem crds_back {zs : List Int} {k : Nat} (hk : k < zs.length) (n : Int) :
    crds (zs.drop (zs.length - (k + 1))) n = n / prod (zs.drop (zs.length - k)) % zs.getD (zs.length - 1 - k) 0 :: crds (zs.drop (zs.length - k)) n := by
  rw [drop_step zs (zs.length - (k + 1)) (by omega), show zs.length - (k + 1) + 1 = zs.length - k by omega, show zs.length - (k + 1) = zs.length - 1 - k by omega]
  rfl

theorem quo_back {zs : List Int} {k : Nat} (hF : Fine zs) (hk : k < zs.length) (n : Int) :
    n / prod (zs.drop (zs.length - k)) / zs.getD (zs.length - 1 - k) 0 = n / prod (zs.drop (zs.length - (k + 1))) := by
  rw [back_mul hk, Int.ediv_ediv_of_nonneg (by have := (hF.drop (zs.length - k)).prod_pos; omega)]

theorem inside_mem : ∀ {zs cs : List Int}, inside zs cs = true → ∀ c ∈ cs, 0 ≤ c ∧ ∃ z ∈ zs, c < z
  | [], [], _, c, hc => by simp at hc
  | z :: zs, x :: cs, h, c, hc => by
    simp only [inside, Bool.and_eq_true, decide_eq_true_eq] at h
    rcases List.mem_cons.1 hc with rfl | hc
    · exact ⟨h.1.1, z, by simp, h.1.2⟩
    · obtain ⟨h1, y, hy, h2⟩ := inside_mem h.2 c hc
      exact ⟨h1, y, by simp [hy], h2⟩
  | [], _ :: _, h, _, _ => by simp [inside] at h
  | _ :: _, [], h, _, _ => by simp [inside] at h

theorem le_prod : ∀ {zs : List Int}, (∀ z ∈ zs, 1 ≤ z) → ∀ z ∈ zs, z ≤ prod zs
  | y :: zs, h, z, hz => by
    have h1 := h y (by simp)
    have h2 := prod_pos zs (fun x hx => h x (by simp [hx]))
    rcases List.mem_cons.1 hz with rfl | hz
    · have := le_mul_right h2 (show 0 ≤ z by omega)
      simpa [prod] using this
    · have h3 := le_prod (fun x hx => h x (by simp [hx])) z hz
      have h4 := le_mul_left h1 (show 0 ≤ prod zs by omega)
      simp only [prod]
      omega

theorem crds_wf {zs : List Int} (hF : Fine zs) (n : Int) : ∀ z ∈ crds zs n, 0 ≤ z ∧ z ≤ 65536 := by
  intro z hz
  obtain ⟨h1, y, hy, h2⟩ := inside_mem (crds_inside zs n hF.pos) z hz
  have h3 := le_prod hF.pos y hy
  have h4 := hF.le
  omega

end Go.Proofs.Ytankpkbneojgdaa
