/- Where each node stands in an order. -/
import Derived.Test.YtflalpchhojenaaDoorPartE
namespace Go.Proofs.YtflalpchhojenaaDoor
open Go.RowKit

/-- Where each node stands in the order, told for its first i. -/
def atN (L : List Int) (n : Nat) : Nat → List Int
  | 0 => List.replicate n 0
  | i + 1 => (atN L n i).set (L.getD i 0).toNat ((i : Int) + 1)

theorem atN_len (L : List Int) (n : Nat) : ∀ i, (atN L n i).length = n
  | 0 => by simp [atN]
  | i + 1 => by rw [atN, List.length_set]; exact atN_len L n i

theorem atN_none {L : List Int} {n : Nat} (hr : ∀ z ∈ L, 0 ≤ z ∧ z < n) : ∀ {i : Nat}, i ≤ L.length → ∀ z : Nat, z < n → (z : Int) ∉ L.take i → (atN L n i).getD z 0 = 0
  | 0, _, z, hz, _ => by
    rw [atN, List.getD, List.getElem?_replicate]
    split <;> rfl
  | i + 1, hi, z, hz, hm => by
    have hL := hr (L.getD i 0) (getD_mem_or L i (by omega))
    have e : L.take (i + 1) = L.take i ++ [L.getD i 0] := by
      rw [List.take_add_one, List.getElem?_eq_getElem (by omega), List.getD, List.getElem?_eq_getElem (by omega)]
      rfl
    rw [e, List.mem_append] at hm
    rw [atN, getD_set_int _ _ _ _ (by rw [atN_len]; omega), if_neg (fun h => hm (Or.inr (List.mem_singleton.2 (by omega))))]
    exact atN_none hr (by omega) z hz (fun h => hm (Or.inl h))

theorem atN_at {L : List Int} {n : Nat} (hr : ∀ z ∈ L, 0 ≤ z ∧ z < n) (hd : L.Nodup) : ∀ {i : Nat}, i ≤ L.length → ∀ p : Nat, p < i → (atN L n i).getD (L.getD p 0).toNat 0 = (p : Int) + 1
  | 0, _, p, hp => by omega
  | i + 1, hi, p, hp => by
    have hL := hr (L.getD i 0) (getD_mem_or L i (by omega))
    have hP := hr (L.getD p 0) (getD_mem_or L p (by omega))
    rw [atN, getD_set_int _ _ _ _ (by rw [atN_len]; omega)]
    by_cases e : p = i
    · rw [e, if_pos rfl]
    · have hne : L.getD i 0 ≠ L.getD p 0 := by
        intro h
        have h1 : L[i]'(by omega) = L[p]'(by omega) := by
          rw [List.getD, List.getElem?_eq_getElem (by omega), List.getD, List.getElem?_eq_getElem (by omega)] at h
          exact h
        have hpw := List.pairwise_iff_getElem.1 hd p i (by omega) (by omega) (by omega)
        exact hpw h1.symm
      rw [if_neg (by omega)]
      exact atN_at hr hd (by omega) p (by omega)

/-- A node whose value another one reads stands ahead. -/
theorem atN_lt {L : List Int} {n : Nat} (hr : ∀ z ∈ L, 0 ≤ z ∧ z < n) (hd : L.Nodup) {i k p : Nat} (hp : L[p]? = some (i : Int)) (hk : (k : Int) ∈ L.take p) : (atN L n L.length).getD k 0 < (atN L n L.length).getD i 0 := by
  have hpl := (List.getElem?_eq_some_iff.1 hp).1
  obtain ⟨q, hq, e⟩ := List.mem_take_iff_getElem.1 hk
  have e1 := atN_at hr hd (Nat.le_refl _) p hpl
  have e2 := atN_at hr hd (Nat.le_refl _) q (by omega)
  have gp : L.getD p 0 = (i : Int) := by rw [List.getD, hp]; rfl
  have gq : L.getD q 0 = (k : Int) := by rw [List.getD, List.getElem?_eq_getElem (by omega), e]; rfl
  rw [gp, Int.toNat_natCast] at e1
  rw [gq, Int.toNat_natCast] at e2
  rw [e1, e2]
  omega
end Go.Proofs.YtflalpchhojenaaDoor
