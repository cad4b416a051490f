/- Spread, by the walk. -/
import Derived.Test.YtankpkbneojgdaaVRow
import Derived.Test.YtankpkbneojgdaaVEq
import Derived.Test.YtankpkbneojgdaaSBc
import Derived.Test.YtankpkbneojgdaaSRStr
namespace Go.Proofs.Ytankpkbneojgdaa
open Go.RowKit

/-- The strides of a view that is spread to the dimensions l. -/
def spr (ds ss l : List Int) : List Int :=
  (List.range l.length).map fun j => if l.length - ds.length ≤ j ∧ ds.getD (j - (l.length - ds.length)) 0 = l.getD j 0 then ss.getD (j - (l.length - ds.length)) 0 else 0

theorem spr_length (ds ss l : List Int) : (spr ds ss l).length = l.length := by simp [spr]

theorem spr_at {ds ss l : List Int} {j : Nat} (hj : j < l.length) :
    (spr ds ss l).getD j 0 = if l.length - ds.length ≤ j ∧ ds.getD (j - (l.length - ds.length)) 0 = l.getD j 0 then ss.getD (j - (l.length - ds.length)) 0 else 0 := by
  rw [List.getD, List.getElem?_eq_getElem (by rw [spr_length]; exact hj)]
  simp [spr]

theorem foreFill_at {n k t : Nat} {l : List Int} (hl : l.length = n) (hk : k ≤ n) : (foreFill n k l).getD t 0 = if t < k then l.getD t 0 else 0 := by
  unfold foreFill
  simp only [List.getD, List.getElem?_append, List.length_take, List.getElem?_take, List.getElem?_replicate]
  by_cases h : t < k
  · simp [h, show t < min k l.length by omega]
  · simp only [h, show ¬ t < min k l.length by omega, if_false]
    split <;> rfl

theorem foreFill_length {n k : Nat} {l : List Int} (hl : l.length = n) (hk : k ≤ n) : (foreFill n k l).length = n := by
  simp [foreFill]; omega

theorem fill_zero {n k : Nat} {l : List Int} (hl : l.length = n) (hk : k ≤ n) (h : ∀ t, t < k → l.getD t 0 = 0) : List.replicate n 0 = foreFill n k l := by
  refine list_eq_of (by rw [foreFill_length hl hk]; simp) fun t ht => ?_
  have ht' : t < n := by simpa using ht
  rw [foreFill_at hl hk]
  split
  · rename_i h1; rw [h t h1]; simp [List.getD, ht']
  · simp [List.getD, ht']

theorem fill_same {n k : Nat} {l : List Int} (hl : l.length = n) (hk : k < n) (h : l.getD k 0 = 0) : foreFill n k l = foreFill n (k + 1) l := by
  refine list_eq_of (by rw [foreFill_length hl (by omega), foreFill_length hl (by omega)]) fun t ht => ?_
  rw [foreFill_at hl (by omega), foreFill_at hl (by omega)]
  by_cases h1 : t < k
  · simp [h1, show t < k + 1 by omega]
  · by_cases h2 : t = k
    · subst h2; rw [if_neg h1, if_pos (by omega), h]
    · rw [if_neg h1, if_neg (by omega)]

/-- What Spread answers: error, and the view. -/
def Spreaded (off : Int) (ds ss l : List Int) (E : Int) (off' : Int) (ds' ss' : List Int) : Prop :=
  (¬ MayV off ds ss ∧ E = 1 ∧ off' = 0 ∧ ds' = [] ∧ ss' = []) ∨ (MayV off ds ss ∧ bcE ds l ≠ 0 ∧ E = bcE ds l ∧ off' = 0 ∧ ds' = [] ∧ ss' = []) ∨
  (MayV off ds ss ∧ bcE ds l = 0 ∧ bcR ds l ≠ l ∧ E = 4 ∧ off' = 0 ∧ ds' = [] ∧ ss' = []) ∨
  (MayV off ds ss ∧ bcE ds l = 0 ∧ bcR ds l = l ∧ E = 0 ∧ off' = off ∧ ds' = l ∧ ss' = spr ds ss l)

theorem spr_wf {ds ss l : List Int} (h : ∀ s ∈ ss, 0 ≤ s ∧ s ≤ 65536) : ∀ z ∈ spr ds ss l, 0 ≤ z ∧ z ≤ 65536 := by
  intro z hz
  obtain ⟨j, _, rfl⟩ := List.mem_map.1 hz
  split
  · rw [List.getD]
    cases e : ss[j - (l.length - ds.length)]? with
    | none => simp
    | some x => exact h x (List.mem_of_getElem? e)
  · omega

theorem bc_room {ds l : List Int} (hE : bcE ds l = 0) (hR : bcR ds l = l) : ds.length ≤ l.length ∧ cntE l = 0 := by
  have h1 : l.length = rank ds l := by rw [← bcL_length ds l (rank ds l), ← show bcR ds l = bcL ds l (rank ds l) by simp [bcR, hE], hR]
  refine ⟨by simp only [rank] at h1; omega, ?_⟩
  unfold bcE at hE
  by_cases h2 : cntE l = 0
  · exact h2
  · rw [if_pos h2] at hE
    split at hE
    · contradiction
    · exact hE

end Go.Proofs.Ytankpkbneojgdaa
