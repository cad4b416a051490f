/- Coordinates that are set to 0 one by one, and a part of a list; no program is walked here. -/
import Derived.Test.YthphkgnigfmlaaaVSpreadR
namespace Go.Proofs.Ythphkgnigfmlaaa
open Go.RowKit

/-- The list C with 0 at an + t, for t < j where dimension t is 1. -/
def zap (ds C : List Int) (an : Nat) : Nat → List Int
  | 0 => C
  | j + 1 => if ds.getD j 0 = 1 then (zap ds C an j).set (an + j) 0 else zap ds C an j

theorem zap_length (ds C : List Int) (an j : Nat) : (zap ds C an j).length = C.length := by
  induction j with
  | zero => rfl
  | succ j ih => simp only [zap]; split <;> simp [ih]

theorem zap_wf {ds C : List Int} (an : Nat) (h : ∀ z ∈ C, 0 ≤ z ∧ z ≤ 65536) (j : Nat) : ∀ z ∈ zap ds C an j, 0 ≤ z ∧ z ≤ 65536 := by
  induction j with
  | zero => exact h
  | succ j ih =>
    intro z hz
    simp only [zap] at hz
    split at hz
    · rcases List.mem_or_eq_of_mem_set hz with h1 | rfl
      · exact ih z h1
      · omega
    · exact ih z hz

theorem zap_at (ds C : List Int) (an j t : Nat) (ht : t < C.length) : (zap ds C an j).getD t 0 = if an ≤ t ∧ t < an + j ∧ ds.getD (t - an) 0 = 1 then 0 else C.getD t 0 := by
  induction j with
  | zero => rw [if_neg (fun h => by omega)]; rfl
  | succ j ih =>
    simp only [zap]
    by_cases h1 : ds.getD j 0 = 1
    · rw [if_pos h1]
      by_cases h2 : t = an + j
      · subst h2
        rw [if_pos ⟨by omega, by omega, by rw [show an + j - an = j by omega]; exact h1⟩]
        simp [List.getD, zap_length, ht]
      · have e : ((zap ds C an j).set (an + j) 0).getD t 0 = (zap ds C an j).getD t 0 := by
          simp only [List.getD, List.getElem?_set]
          rw [if_neg (fun h => h2 h.symm)]
        rw [e, ih]
        by_cases h3 : an ≤ t ∧ t < an + j ∧ ds.getD (t - an) 0 = 1
        · rw [if_pos h3, if_pos ⟨h3.1, by omega, h3.2.2⟩]
        · rw [if_neg h3, if_neg fun h => h3 ⟨h.1, by omega, h.2.2⟩]
    · rw [if_neg h1, ih]
      by_cases h3 : an ≤ t ∧ t < an + j ∧ ds.getD (t - an) 0 = 1
      · rw [if_pos h3, if_pos ⟨h3.1, by omega, h3.2.2⟩]
      · rw [if_neg h3, if_neg fun h => by
          by_cases h2 : t = an + j
          · subst h2; rw [show an + j - an = j by omega] at h; exact h1 h.2.2
          · exact h3 ⟨h.1, by omega, h.2.2⟩]

theorem msk_length : ∀ (ds cs : List Int), (msk ds cs).length = cs.length
  | [], cs => by simp [msk]
  | _ :: _, [] => by simp [msk]
  | d :: ds, c :: cs => by simp [msk, msk_length ds cs]

theorem msk_at : ∀ (ds cs : List Int) (t : Nat), cs.length = ds.length → t < ds.length → (msk ds cs).getD t 0 = if ds.getD t 0 = 1 then 0 else cs.getD t 0
  | d :: ds, c :: cs, 0, _, _ => by simp [msk]
  | d :: ds, c :: cs, t + 1, hl, ht => by
    simp only [msk, List.getD_cons_succ]
    exact msk_at ds cs t (by simpa using hl) (by simpa using ht)

theorem zap_msk {ds C : List Int} {an : Nat} (hl : C.length = an + ds.length) : (zap ds C an ds.length).drop an = msk ds (C.drop an) := by
  have hd : (C.drop an).length = ds.length := by simp; omega
  refine list_eq_of (by rw [msk_length, List.length_drop, zap_length, hd]; omega) fun t ht => ?_
  have ht' : t < ds.length := by rw [List.length_drop, zap_length] at ht; omega
  rw [msk_at ds _ t hd ht']
  have h1 := zap_at ds C an ds.length (an + t) (by omega)
  rw [show an + t - an = t by omega] at h1
  have dr : ∀ l : List Int, (l.drop an).getD t 0 = l.getD (an + t) 0 := fun l => by simp only [List.getD, List.getElem?_drop]
  rw [dr, dr, h1]
  by_cases h2 : ds.getD t 0 = 1
  · rw [if_pos h2, if_pos ⟨by omega, by omega, h2⟩]
  · rw [if_neg h2, if_neg fun h => h2 h.2.2]

theorem part_ints {w : World} {g cap n an m : Nat} {X : List Int} (h : IsInts w (.slice (some ⟨g, 0, none⟩) n cap) X) (hm : an + m = X.length) : IsInts w (.slice (some ⟨g, an, none⟩) m (cap - an)) (X.drop an) := by
  have H := h
  obtain ⟨ao, cap', he, h1, h2, h3, h4, h5, h6⟩ := h
  simp only [Value.slice.injEq] at he
  obtain ⟨rfl, _, rfl⟩ := he
  have hd : (X.drop an).length = m := by simp; omega
  refine ⟨_, _, by rw [hd], by rw [hd]; omega, by omega, by rw [hd]; omega, (fun h => by cases h), fun h0 => ⟨g, an, rfl, fun t ht => ?_⟩, fun z hz => h6 z (List.mem_of_mem_drop hz)⟩
  have := item_at H (k := an + t) (by rw [hd] at ht; omega)
  rw [Nat.zero_add] at this
  rw [this]
  simp only [List.getD, List.getElem?_drop]
end Go.Proofs.Ythphkgnigfmlaaa
