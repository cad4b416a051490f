/- What an order out of waits and readers is: each once, behind all whose values it reads. -/
import Derived.Test.YtmdpeckeliplkaaDoorGReadsJ
namespace Go.Proofs.YtmdpeckeliplkaaDoor
open Go.RowKit

/-- How often a node is told by those, of the first m, that are not taken. -/
def owed (R : List (List Int)) (acc : List Int) (i : Int) : Nat → Nat
  | 0 => 0
  | m + 1 => owed R acc i m + (if (m : Int) ∈ acc then 0 else (R.getD m []).count i)

theorem owed_far {R : List (List Int)} {acc : List Int} {i : Int} {k : Nat} : ∀ {m : Nat}, m ≤ k → owed R (acc ++ [(k : Int)]) i m = owed R acc i m
  | 0, _ => rfl
  | m + 1, h => by
    unfold owed
    rw [owed_far (m := m) (by omega)]
    have : ((m : Int) ∈ acc ++ [(k : Int)]) ↔ (m : Int) ∈ acc := by
      rw [List.mem_append]
      constructor
      · rintro (h1 | h1)
        · exact h1
        · simp at h1; omega
      · exact Or.inl
    simp only [this]

theorem owed_take {R : List (List Int)} {acc : List Int} {i : Int} {k : Nat} (hk : (k : Int) ∉ acc) : ∀ {m : Nat}, k < m → owed R acc i m = owed R (acc ++ [(k : Int)]) i m + (R.getD k []).count i
  | 0, h => by omega
  | m + 1, h => by
    unfold owed
    by_cases e : k = m
    · subst e
      rw [owed_far (Nat.le_refl _), if_neg hk, if_pos (by simp)]
      omega
    · rw [owed_take hk (m := m) (by omega)]
      have : ((m : Int) ∈ acc ++ [(k : Int)]) ↔ (m : Int) ∈ acc := by
        rw [List.mem_append]
        constructor
        · rintro (h1 | h1)
          · exact h1
          · simp at h1; omega
        · exact Or.inl
      simp only [this]
      omega

theorem owed_zero {R : List (List Int)} {acc : List Int} {i : Int} : ∀ {m : Nat}, owed R acc i m = 0 → ∀ j : Nat, j < m → (j : Int) ∉ acc → i ∉ R.getD j []
  | 0, _, j, h, _ => by omega
  | m + 1, h0, j, h, hj => by
    unfold owed at h0
    by_cases e : j = m
    · subst e
      rw [if_neg hj] at h0
      exact List.count_eq_zero.1 (by omega)
    · exact owed_zero (m := m) (by omega) j (by omega) hj

theorem getD_set_int (W : List Int) (r i : Nat) (x : Int) (hr : r < W.length) : (W.set r x).getD i 0 = if r = i then x else W.getD i 0 := by
  by_cases e : r = i
  · subst e
    rw [if_pos rfl, List.getD, List.getElem?_set_self hr]
    rfl
  · rw [if_neg e, List.getD, List.getElem?_set_ne e]
    rfl

theorem dec_count {i : Nat} : ∀ {rs W : List Int}, (∀ r ∈ rs, 0 ≤ r ∧ r < W.length) → (decAll W rs).getD i 0 = W.getD i 0 - (rs.count (i : Int) : Nat)
  | [], W, _ => by simp [decAll]
  | r :: rs, W, h => by
    have hr := h r (by simp)
    have e : decAll W (r :: rs) = decAll (W.set r.toNat (W.getD r.toNat 0 - 1)) rs := rfl
    rw [e, dec_count (fun y hy => by rw [List.length_set]; exact h y (by simp [hy])), getD_set_int _ _ _ _ (by omega), List.count_cons]
    by_cases hi : r.toNat = i
    · rw [if_pos hi]
      have h2 : (r == (i : Int)) = true := by simp; omega
      rw [if_pos h2, hi]
      omega
    · rw [if_neg hi]
      have h2 : ¬ (r == (i : Int)) = true := by simp; omega
      rw [if_neg h2]
      omega

/-- Where an order stands. -/
structure Cons (n : Nat) (R : List (List Int)) (acc W : List Int) : Prop where
  len : W.length = n
  once : acc.Nodup
  inr : ∀ z ∈ acc, 0 ≤ z ∧ z < n
  free : ∀ i : Nat, i < n → (i : Int) ∉ acc → W.getD i 0 = owed R acc (i : Int) n
  gone : ∀ i : Nat, i < n → (i : Int) ∈ acc → W.getD i 0 < 0
  behind : ∀ (p : Nat) (z : Int), acc[p]? = some z → ∀ j : Nat, j < n → z ∈ R.getD j [] → (j : Int) ∈ acc.take p

theorem Cons.step {n : Nat} {R : List (List Int)} {acc W : List Int} (h : Cons n R acc W) (hR : ∀ k, k < n → ∀ z ∈ R.getD k [], 0 ≤ z ∧ z < n) {k : Nat} (hk : k < n) (h0 : W.getD k 0 = 0) : Cons n R (acc ++ [(k : Int)]) (decAll (W.set k (-1)) (R.getD k [])) := by
  have hl : ∀ r ∈ R.getD k [], 0 ≤ r ∧ r < (W.set k (-1)).length := fun r hr => by rw [List.length_set, h.len]; exact hR k hk r hr
  have hka : (k : Int) ∉ acc := fun e => by have := h.gone k hk e; omega
  have hz : owed R acc (k : Int) n = 0 := by have := h.free k hk hka; omega
  refine ⟨by rw [decAll_len, List.length_set]; exact h.len, ?_, fun z hz => ?_, fun i hi hia => ?_, fun i hi hia => ?_, fun p z hp j hj hzj => ?_⟩
  · rw [List.nodup_append]
    refine ⟨h.once, by simp, fun a ha b hb => ?_⟩
    simp at hb
    subst hb
    exact fun e => hka (e ▸ ha)
  · rcases List.mem_append.1 hz with h1 | h1
    · exact h.inr z h1
    · simp at h1; omega
  · have hne : i ≠ k := fun e => hia (by simp [e])
    have hna : (i : Int) ∉ acc := fun e => hia (List.mem_append.2 (Or.inl e))
    rw [dec_count hl, getD_set_int _ _ _ _ (by rw [h.len]; exact hk), if_neg (fun e => hne e.symm), h.free i hi hna, owed_take hka hk]
    omega
  · rw [dec_count hl, getD_set_int _ _ _ _ (by rw [h.len]; exact hk)]
    by_cases e : k = i
    · rw [if_pos e]
      omega
    · rw [if_neg e]
      rcases List.mem_append.1 hia with h1 | h1
      · have := h.gone i hi h1
        omega
      · simp at h1
        omega
  · by_cases hp2 : p < acc.length
    · rw [List.getElem?_append_left hp2] at hp
      rw [List.take_append_of_le_length (by omega)]
      exact h.behind p z hp j hj hzj
    · have hp3 : p = acc.length := by
        have := (List.getElem?_eq_some_iff.1 hp).1
        rw [List.length_append] at this
        simp at this
        omega
      subst hp3
      rw [List.getElem?_append_right (Nat.le_refl _), Nat.sub_self] at hp
      have hzk : (k : Int) = z := by simpa using hp
      subst hzk
      rw [List.take_append_of_le_length (Nat.le_refl _), List.take_of_length_le (Nat.le_refl _)]
      refine Classical.byContradiction fun hja => ?_
      exact owed_zero hz j hj hja hzj

theorem ordF_cons {n : Nat} {R : List (List Int)} (hR : ∀ k, k < n → ∀ z ∈ R.getD k [], 0 ≤ z ∧ z < n) : ∀ (f : Nat) {acc W : List Int}, Cons n R acc W → ∃ W', Cons n R (acc ++ ordF f W R) W'
  | 0, acc, W, h => ⟨W, by rw [ordF, List.append_nil]; exact h⟩
  | f + 1, acc, W, h => by
    unfold ordF
    cases hf : W.findIdx? (fun z => z == 0) with
    | none => exact ⟨W, by simpa using h⟩
    | some k =>
      obtain ⟨hk, hz, -⟩ := List.findIdx?_eq_some_iff_getElem.1 hf
      have h0 : W.getD k 0 = 0 := by rw [List.getD, List.getElem?_eq_getElem hk]; simpa using hz
      have st := h.step hR (by rw [← h.len]; exact hk) h0
      obtain ⟨W', hW'⟩ := ordF_cons hR f st
      refine ⟨W', ?_⟩
      rw [List.append_assoc] at hW'
      exact hW'
end Go.Proofs.YtmdpeckeliplkaaDoor
