/- What a view that is spread shows; no program is walked here. -/
import Derived.Test.YteigfipgmghgmaaGreatDoorVwPlcAt
import Derived.Test.YteigfipgmghgmaaGreatDoorVwSpread
namespace Go.Proofs.YteigfipgmghgmaaGreatDoor.Vw
open Go.RowKit

theorem bcL_at (a b : List Int) : ∀ (n j : Nat), j < n → (bcL a b n).getD j 0 = max (bh a (n - 1 - j)) (bh b (n - 1 - j))
  | n + 1, 0, _ => by simp [bcL]
  | n + 1, j + 1, h => by
    simp only [bcL, List.getD_cons_succ]
    rw [bcL_at a b n j (by omega), show n + 1 - 1 - (j + 1) = n - 1 - j by omega]

theorem bc_fits {ds l : List Int} (hd : Fine ds) (hE : bcE ds l = 0) (hR : bcR ds l = l) : ∀ j, j < ds.length → ds.getD j 0 = l.getD (l.length - ds.length + j) 0 ∨ ds.getD j 0 = 1 := by
  intro j hj
  obtain ⟨hroom, hcl⟩ := bc_room hE hR
  have hrk : rank ds l = l.length := by simp only [rank]; omega
  have hbad : bcBad ds l l.length = false := by
    cases e : bcBad ds l l.length with
    | false => rfl
    | true => unfold bcE at hE; rw [hrk, e] at hE; simp [hd.ok, hcl] at hE
  have hL : l = bcL ds l l.length := by
    have h1 : bcR ds l = bcL ds l (rank ds l) := by simp [bcR, hE]
    rw [hR, hrk] at h1
    exact h1
  have h2 := bcL_at ds l l.length (l.length - ds.length + j) (by omega)
  rw [← hL, show l.length - 1 - (l.length - ds.length + j) = ds.length - 1 - j by omega] at h2
  have h3 : bh ds (ds.length - 1 - j) = ds.getD j 0 := by
    unfold bh
    rw [if_neg (by omega), show ds.length - 1 - (ds.length - 1 - j) = j by omega]
  have h4 : bh l (ds.length - 1 - j) = l.getD (l.length - ds.length + j) 0 := by
    unfold bh
    rw [if_neg (by omega), show l.length - 1 - (ds.length - 1 - j) = l.length - ds.length + j by omega]
  have h5 : apartAt (bh ds (ds.length - 1 - j)) (bh l (ds.length - 1 - j)) = false := by
    cases e : apartAt (bh ds (ds.length - 1 - j)) (bh l (ds.length - 1 - j)) with
    | false => rfl
    | true => rw [bcBad_of (show ds.length - 1 - j < l.length by omega) e] at hbad; cases hbad
  have h6 := hd.pos (ds.getD j 0) (by rw [List.getD, List.getElem?_eq_getElem hj]; simp)
  rw [h3, h4] at h2 h5
  by_cases h7 : ds.getD j 0 = l.getD (l.length - ds.length + j) 0
  · exact .inl h7
  · refine .inr ?_
    by_cases h8 : ds.getD j 0 = 1
    · exact h8
    · by_cases h9 : l.getD (l.length - ds.length + j) 0 = 1
      · omega
      · simp only [apartAt, Bool.and_eq_false_iff, Bool.not_eq_false', beq_iff_eq] at h5
        omega

theorem spr1_length : ∀ (ds ss ls : List Int), ss.length = ds.length → ls.length = ds.length → (spr1 ds ss ls).length = ds.length
  | [], _, _, _, _ => by simp [spr1]
  | d :: ds, s :: ss, l :: ls, h1, h2 => by simp [spr1, spr1_length ds ss ls (by simpa using h1) (by simpa using h2)]

theorem spr1_at : ∀ (ds ss ls : List Int) (j : Nat), ss.length = ds.length → ls.length = ds.length → j < ds.length → (spr1 ds ss ls).getD j 0 = if ds.getD j 0 = ls.getD j 0 then ss.getD j 0 else 0
  | d :: ds, s :: ss, l :: ls, 0, _, _, _ => by simp [spr1]
  | d :: ds, s :: ss, l :: ls, j + 1, h1, h2, h3 => by
    simp only [spr1, List.getD_cons_succ]
    exact spr1_at ds ss ls j (by simpa using h1) (by simpa using h2) (by simpa using h3)

theorem getD_join (a b : List Int) (t : Nat) : (a ++ b).getD t 0 = if t < a.length then a.getD t 0 else b.getD (t - a.length) 0 := by
  simp only [List.getD, List.getElem?_append]
  split <;> rfl

theorem spr_parts {ds ss l : List Int} (hs : ss.length = ds.length) (hl : ds.length ≤ l.length) : spr ds ss l = List.replicate (l.length - ds.length) 0 ++ spr1 ds ss (l.drop (l.length - ds.length)) := by
  have hdl : (l.drop (l.length - ds.length)).length = ds.length := by simp; omega
  have hsl := spr1_length ds ss _ hs hdl
  refine list_eq_of (by rw [spr_length, List.length_append, hsl, List.length_replicate]; omega) fun t ht => ?_
  rw [spr_length] at ht
  rw [spr_at ht, getD_join, List.length_replicate]
  by_cases h : t < l.length - ds.length
  · rw [if_neg (fun h' => by omega), if_pos h]
    simp [List.getD, h]
  · rw [if_neg h]
    have h1 := spr1_at ds ss _ (t - (l.length - ds.length)) hs hdl (by omega)
    have h2 : (l.drop (l.length - ds.length)).getD (t - (l.length - ds.length)) 0 = l.getD t 0 := by
      simp only [List.getD, List.getElem?_drop]
      rw [show l.length - ds.length + (t - (l.length - ds.length)) = t by omega]
    rw [h2] at h1
    rw [h1]
    by_cases h3 : ds.getD (t - (l.length - ds.length)) 0 = l.getD t 0
    · rw [if_pos h3, if_pos ⟨by omega, h3⟩]
    · rw [if_neg h3, if_neg fun h' => h3 h'.2]

theorem crds_drop : ∀ (zs : List Int) (k : Nat) (n : Int), (crds zs n).drop k = crds (zs.drop k) n
  | [], k, n => by simp [crds]
  | z :: zs, 0, n => rfl
  | z :: zs, k + 1, n => by simp only [crds, List.drop_succ_cons]; exact crds_drop zs k n

/-- What a whole view that is spread shows at a number: the element of the same coordinates, 0 where the dimension is 1. -/
theorem spread_at {ds l : List Int} (hd : Fine ds) (hE : bcE ds l = 0) (hR : bcR ds l = l) (n : Nat) (hn : (n : Int) < prod l) :
    (plc l (spr ds (strd ds) l) 0).getD n 0 = offs ds (msk ds ((crds l n).drop (l.length - ds.length))) := by
  obtain ⟨hroom, hcl⟩ := bc_room hE hR
  have hF := fine_of hcl
  have hdl : (l.drop (l.length - ds.length)).length = ds.length := by simp; omega
  rw [plc_at l _ 0 (spr_length _ _ _) hF.pos n hn, spr_parts (strd_length ds) hroom, Int.zero_add]
  have h1 : dot (crds l n) (List.replicate (l.length - ds.length) 0 ++ spr1 ds (strd ds) (l.drop (l.length - ds.length))) = dot ((crds l n).drop (l.length - ds.length)) (spr1 ds (strd ds) (l.drop (l.length - ds.length))) := by
    have h2 := dot_append ((crds l n).take (l.length - ds.length)) (List.replicate (l.length - ds.length) 0) ((crds l n).drop (l.length - ds.length)) (spr1 ds (strd ds) (l.drop (l.length - ds.length))) (by rw [List.length_take, crds_length, List.length_replicate]; omega)
    rw [List.take_append_drop, dot_zeros _ _ fun s hs => List.eq_of_mem_replicate hs, Int.zero_add] at h2
    exact h2
  rw [h1]
  refine msk_offs ds _ _ hdl.symm (by rw [crds_drop]; exact crds_inside _ _ fun z hz => hF.pos z (List.mem_of_mem_drop hz)) fun j hj => ?_
  have h3 := bc_fits hd hE hR j hj
  rw [show (l.drop (l.length - ds.length)).getD j 0 = l.getD (l.length - ds.length + j) 0 by simp only [List.getD, List.getElem?_drop]]
  exact h3
end Go.Proofs.YteigfipgmghgmaaGreatDoor.Vw
