/- Waits and readers tell one another; the order of a graph's nodes. -/
import Derived.Test.YtmdpeckeliplkaaDoorGOrdPJ
namespace Go.Proofs.YtmdpeckeliplkaaDoor
open Go.RowKit

theorem getD_set_list (R : List (List Int)) (m i : Nat) (x : List Int) (hm : m < R.length) : (R.set m x).getD i [] = if m = i then x else R.getD i [] := by
  by_cases e : m = i
  · subst e
    rw [if_pos rfl, List.getD, List.getElem?_set_self hm]
    rfl
  · rw [if_neg e, List.getD, List.getElem?_set_ne e]
    rfl

theorem owed_more {R : List (List Int)} {i : Int} {k : Int} {m : Nat} (hm : m < R.length) : ∀ {t : Nat}, owed (R.set m (R.getD m [] ++ [k])) [] i t = owed R [] i t + (if m < t ∧ k = i then 1 else 0)
  | 0 => by simp [owed]
  | t + 1 => by
    unfold owed
    rw [owed_more hm (t := t), getD_set_list _ _ _ _ hm]
    by_cases e : m = t
    · subst e
      rw [if_pos rfl, List.count_append]
      by_cases hk : k = i
      · simp [hk]
        omega
      · have : ¬ (k == i) = true := by simpa using hk
        simp [hk]
    · rw [if_neg e]
      by_cases hk : k = i
      · by_cases hmt : m < t
        · simp [hk, hmt, show m < t + 1 by omega]
          omega
        · simp [hk, hmt, show ¬ m < t + 1 by omega]
      · simp [hk]

/-- Waits are told by readers. -/
def Even (n : Nat) (p : List Int × List (List Int)) : Prop := p.1.length = n ∧ p.2.length = n ∧ ∀ i : Nat, i < n → p.1.getD i 0 = owed p.2 [] (i : Int) n

theorem Even.lnk {n : Nat} {p : List Int × List (List Int)} (h : Even n p) {l : List ByteArray} {k0 i : Nat} {x : ByteArray} (hi : i < n) (hx : pos l x < k0 + n) : Even n (lnk l k0 i p x) := by
  obtain ⟨h1, h2, h3⟩ := h
  unfold Go.Proofs.YtmdpeckeliplkaaDoor.lnk
  split
  · rename_i hk
    have hm : pos l x - k0 < p.2.length := by omega
    refine ⟨by simp [h1], by simp [h2], fun j hj => ?_⟩
    show (p.1.set i (p.1.getD i 0 + 1)).getD j 0 = owed (p.2.set (pos l x - k0) (p.2.getD (pos l x - k0) [] ++ [(i : Int)])) [] (j : Int) n
    rw [owed_more hm, getD_set_int _ _ _ _ (by omega)]
    by_cases e : i = j
    · subst e
      rw [if_pos rfl, if_pos ⟨by omega, rfl⟩, h3 i hi]
      omega
    · rw [if_neg e, if_neg (fun hh => e (by omega)), h3 j hj]
      omega
  · exact ⟨h1, h2, h3⟩

theorem Even.row {n : Nat} {l : List ByteArray} {k0 i : Nat} (hi : i < n) : ∀ {xs : List ByteArray} {p : List Int × List (List Int)}, (∀ x ∈ xs, pos l x < k0 + n) → Even n p → Even n (lnkRow l k0 i p xs)
  | [], p, _, h => h
  | x :: xs, p, hx, h => Even.row hi (xs := xs) (fun y hy => hx y (by simp [hy])) (h.lnk hi (hx x (by simp)))

theorem Even.links {cs : List Nc} {l : List ByteArray} {k0 : Nat} (hin : ∀ c ∈ cs, ∀ x ∈ c.ins, pos l x < k0 + cs.length) : ∀ k, k ≤ cs.length → Even cs.length (linksN cs l k0 k)
  | 0, _ => by
    refine ⟨by simp [linksN], by simp [linksN], fun i hi => ?_⟩
    have : ∀ t, owed (List.replicate cs.length []) [] (i : Int) t = 0 := by
      intro t
      induction t with
      | zero => rfl
      | succ t ih =>
        unfold owed
        rw [ih, show (List.replicate cs.length ([] : List Int)).getD t [] = [] by rw [List.getD, List.getElem?_replicate]; split <;> rfl]
        simp
    show (List.replicate cs.length (0 : Int)).getD i 0 = owed (List.replicate cs.length []) [] (i : Int) cs.length
    rw [this]
    rw [List.getD, List.getElem?_replicate]
    split <;> rfl
  | k + 1, hk => by
    have e : linksN cs l k0 (k + 1) = lnkRow l k0 k (linksN cs l k0 k) cs[k].ins := by
      rw [linksN, List.getElem?_eq_getElem (by omega)]
      rfl
    rw [e]
    exact Even.row (by omega) (hin cs[k] (List.getElem_mem (by omega))) (Even.links hin k (by omega))

/-- What is told once stays told. -/
theorem lnk_keeps {l : List ByteArray} {k0 i : Nat} {p : List Int × List (List Int)} {x : ByteArray} {j : Nat} {z : Int} (h : z ∈ p.2.getD j []) : z ∈ (lnk l k0 i p x).2.getD j [] := by
  unfold lnk
  split
  · by_cases hm : pos l x - k0 < p.2.length
    · show z ∈ (p.2.set _ _).getD j []
      rw [getD_set_list _ _ _ _ hm]
      split
      · rename_i e
        rw [e]
        exact List.mem_append.2 (Or.inl h)
      · exact h
    · show z ∈ (p.2.set _ _).getD j []
      rw [List.set_eq_of_length_le (by omega)]
      exact h
  · exact h

theorem row_keeps {l : List ByteArray} {k0 i : Nat} {j : Nat} {z : Int} : ∀ {xs : List ByteArray} {p : List Int × List (List Int)}, z ∈ p.2.getD j [] → z ∈ (lnkRow l k0 i p xs).2.getD j []
  | [], _, h => h
  | _ :: xs, _, h => row_keeps (xs := xs) (lnk_keeps h)

theorem row_tells {n : Nat} {l : List ByteArray} {k0 i j : Nat} (hj : j < n) (hi : i < n) : ∀ {xs : List ByteArray} {p : List Int × List (List Int)}, Even n p → (∀ x ∈ xs, pos l x < k0 + n) → (∃ x ∈ xs, pos l x = k0 + j) → (i : Int) ∈ (lnkRow l k0 i p xs).2.getD j []
  | [], _, _, _, h => by obtain ⟨x, hx, -⟩ := h; cases hx
  | y :: xs, p, he, hl, ⟨x, hx, hp⟩ => by
    rcases List.mem_cons.1 hx with rfl | hx
    · refine row_keeps (xs := xs) ?_
      unfold lnk
      rw [if_pos (by omega)]
      show (i : Int) ∈ (p.2.set _ _).getD j []
      rw [getD_set_list _ _ _ _ (by have := he.2.1; omega), if_pos (by omega)]
      simp
    · exact row_tells hj hi (xs := xs) (he.lnk hi (hl y (by simp))) (fun z hz => hl z (by simp [hz])) ⟨x, hx, hp⟩

theorem links_tell {cs : List Nc} {l : List ByteArray} {k0 : Nat} (hin : ∀ c ∈ cs, ∀ x ∈ c.ins, pos l x < k0 + cs.length) {i j : Nat} (hi : i < cs.length) (hj : j < cs.length) (h : ∃ x ∈ cs[i].ins, pos l x = k0 + j) : ∀ k, i < k → k ≤ cs.length → (i : Int) ∈ (linksN cs l k0 k).2.getD j []
  | 0, h0, _ => by omega
  | k + 1, h0, hk => by
    have e : linksN cs l k0 (k + 1) = lnkRow l k0 k (linksN cs l k0 k) cs[k].ins := by
      rw [linksN, List.getElem?_eq_getElem (by omega)]
      rfl
    rw [e]
    by_cases hik : i = k
    · subst hik
      exact row_tells hj hi (Even.links hin i (by omega)) (hin _ (List.getElem_mem _)) h
    · exact row_keeps (links_tell hin hi hj h k (by omega) (by omega))

/-- The order of a graph's nodes: each at most once, behind all whose values it reads. -/
theorem line_law {cs : List Nc} {vin : List (Val × List Int)} {its : List (Nam × List Int × List Int)} (hlen : ∀ c ∈ cs, c.ins.length ≤ 1048576) (hin : ∀ c ∈ cs, ∀ x ∈ c.ins, inL x (vnames cs vin its) = true) :
    (lineF cs vin its).Nodup ∧ (∀ z ∈ lineF cs vin its, 0 ≤ z ∧ z < cs.length) ∧ ∀ (p i j : Nat) (hi : i < cs.length), (lineF cs vin its)[p]? = some (i : Int) → j < cs.length → (∃ x ∈ cs[i].ins, pos (vnames cs vin its) x = vin.length + its.length + j) → (j : Int) ∈ (lineF cs vin its).take p := by
  have hp : ∀ c ∈ cs, ∀ x ∈ c.ins, pos (vnames cs vin its) x < vin.length + its.length + cs.length := fun c hc x hx => by have := pos_lt (hin c hc x hx); rwa [vnames_len] at this
  have hlb := linksN_lb cs (vnames cs vin its) (vin.length + its.length) (vnames_len cs vin its) (fun c hc => ⟨hlen c hc, hin c hc⟩) cs.length (Nat.le_refl _)
  have hev := Even.links hp cs.length (Nat.le_refl _)
  have hR : ∀ k, k < cs.length → ∀ z ∈ (linksN cs (vnames cs vin its) (vin.length + its.length) cs.length).2.getD k [], 0 ≤ z ∧ z < cs.length := fun k hk z hz => by
    rw [List.getD, List.getElem?_eq_getElem (by rw [hlb.l2]; exact hk)] at hz
    exact (hlb.b2 _ (List.getElem_mem _)).2 z hz
  have h0 : Cons cs.length (linksN cs (vnames cs vin its) (vin.length + its.length) cs.length).2 [] (linksN cs (vnames cs vin its) (vin.length + its.length) cs.length).1 :=
    ⟨hev.1, List.nodup_nil, (fun z hz => by cases hz), (fun i hi _ => hev.2.2 i hi), (fun i _ h => by cases h), (fun p z hz => by simp at hz)⟩
  obtain ⟨W', hc⟩ := ordF_cons hR cs.length h0
  rw [List.nil_append] at hc
  exact ⟨hc.once, hc.inr, fun p i j hi hpi hj hx => hc.behind p i hpi j hj (links_tell hp hi hj hx cs.length hi (Nat.le_refl _))⟩
end Go.Proofs.YtmdpeckeliplkaaDoor
