/- The place of a view's element of a number. -/
import Derived.Test.YteigfipgmghgmaaGreatDoorVwPlc
import Derived.Test.YteigfipgmghgmaaGreatDoorSPlain
namespace Go.Proofs.YteigfipgmghgmaaGreatDoor.Vw
open Go.RowKit

/-- The sum of the products. -/
def dot : List Int → List Int → Int
  | c :: cs, s :: ss => c * s + dot cs ss
  | _, _ => 0

theorem flat_at (f : Nat → List Int) {n : Nat} (hn : 0 < n) : ∀ (t : Nat), (∀ i, i < t → (f i).length = n) → ∀ j, j < t * n → ((List.range t).flatMap f).getD j 0 = (f (j / n)).getD (j % n) 0
  | 0, _, j, h => by omega
  | t + 1, hl, j, h => by
    have h1 := flat_length f n t fun i hi => hl i (by omega)
    rw [List.range_succ, List.flatMap_append]
    simp only [List.flatMap_cons, List.flatMap_nil, List.append_nil]
    rw [List.getD, List.getElem?_append, h1]
    by_cases hj : j < t * n
    · rw [if_pos hj]
      exact flat_at f hn t (fun i hi => hl i (by omega)) j hj
    · rw [if_neg hj]
      have h2 : j < t * n + n := by rw [Nat.succ_mul] at h; exact h
      obtain ⟨r, rfl⟩ : ∃ r, j = t * n + r := ⟨j - t * n, by omega⟩
      have hr : r < n := by omega
      rw [Nat.mul_comm t n, Nat.mul_add_div hn, Nat.mul_add_mod, Nat.div_eq_of_lt hr, Nat.mod_eq_of_lt hr, Nat.add_zero, Nat.add_sub_cancel_left]
      rfl

theorem crds_mod : ∀ (zs : List Int) (n : Int), (∀ z ∈ zs, 1 ≤ z) → crds zs (n % prod zs) = crds zs n
  | [], _, _ => rfl
  | z :: zs, n, h => by
    have hz := h z (by simp)
    have hp := prod_pos zs fun y hy => h y (by simp [hy])
    have e : n % prod (z :: zs) = n + prod zs * (-(z * (n / prod (z :: zs)))) := by
      rw [Int.emod_def]
      simp only [prod]
      rw [Int.mul_neg, Int.sub_eq_add_neg, ← Int.mul_assoc, Int.mul_comm (prod zs) z]
    have h1 : n % prod (z :: zs) / prod zs % z = n / prod zs % z := by
      rw [e, Int.add_mul_ediv_left _ _ (by omega), ← Int.mul_neg, Int.add_mul_emod_self_left]
    have h2 : crds zs (n % prod (z :: zs)) = crds zs n := by
      rw [← crds_mod zs (n % prod (z :: zs)) fun y hy => h y (by simp [hy]), ← crds_mod zs n fun y hy => h y (by simp [hy])]
      congr 1
      rw [e, Int.add_mul_emod_self_left]
    simp only [crds]
    rw [h1, h2]

theorem plc_at : ∀ (ds ss : List Int) (p : Int), ss.length = ds.length → (∀ d ∈ ds, 1 ≤ d) → ∀ n : Nat, (n : Int) < prod ds → (plc ds ss p).getD n 0 = p + dot (crds ds n) ss
  | [], _, p, _, _, n, hn => by
    have : n = 0 := by simp [prod] at hn; omega
    subst this
    simp [plc, crds, dot]
  | d :: ds, s :: ss, p, hl, h, n, hn => by
    have hd := h d (by simp)
    have hq : ∀ y ∈ ds, 1 ≤ y := fun y hy => h y (by simp [hy])
    have hp := prod_pos ds hq
    obtain ⟨a, rfl⟩ : ∃ a : Nat, d = a := ⟨d.toNat, by omega⟩
    obtain ⟨b, hb⟩ : ∃ b : Nat, prod ds = b := ⟨(prod ds).toNat, by omega⟩
    have hb0 : 0 < b := by omega
    have hn' : n < a * b := by
      simp only [prod, hb] at hn
      exact Int.ofNat_lt.1 (by rw [Int.natCast_mul]; exact hn)
    have hdiv : n / b < a := (Nat.div_lt_iff_lt_mul hb0).2 hn'
    simp only [plc, Int.toNat_natCast]
    rw [flat_at _ hb0 a (fun i _ => by rw [plc_length ds ss _ (by simpa using hl) hq, hb]; simp) n hn']
    rw [plc_at ds ss _ (by simpa using hl) hq (n % b) (by rw [hb]; exact Int.ofNat_lt.2 (Nat.mod_lt _ hb0))]
    have hc : crds ds ((n % b : Nat) : Int) = crds ds n := by
      rw [← crds_mod ds (n : Int) hq, hb, Int.natCast_emod]
    simp only [crds, dot]
    rw [hc, hb]
    have h1 : (n : Int) / (b : Int) % (a : Int) = ((n / b : Nat) : Int) := by
      rw [← Int.natCast_ediv, ← Int.natCast_emod, Nat.mod_eq_of_lt hdiv]
    rw [h1, Int.add_assoc]

/-- Coordinates, with 0 where the dimension is 1. -/
def msk : List Int → List Int → List Int
  | d :: ds, c :: cs => (if d = 1 then 0 else c) :: msk ds cs
  | _, cs => cs

/-- The strides of a view that is spread, where both have as many dimensions. -/
def spr1 : List Int → List Int → List Int → List Int
  | d :: ds, s :: ss, l :: ls => (if d = l then s else 0) :: spr1 ds ss ls
  | _, _, _ => []

theorem dot_zeros : ∀ (cs ss : List Int), (∀ s ∈ ss, s = 0) → dot cs ss = 0
  | [], _, _ => by simp [dot]
  | _ :: _, [], _ => by simp [dot]
  | c :: cs, s :: ss, h => by
    have h1 := h s (by simp)
    subst h1
    simp [dot, dot_zeros cs ss fun y hy => h y (by simp [hy])]

theorem dot_append : ∀ (xs zs cs ss : List Int), xs.length = zs.length → dot (xs ++ cs) (zs ++ ss) = dot xs zs + dot cs ss
  | [], [], _, _, _ => by simp [dot]
  | x :: xs, z :: zs, cs, ss, h => by
    simp only [List.cons_append, dot]
    rw [dot_append xs zs cs ss (by simpa using h), Int.add_assoc]

theorem msk_offs : ∀ (ds ls cs : List Int), ds.length = ls.length → inside ls cs = true → (∀ j, j < ds.length → ds.getD j 0 = ls.getD j 0 ∨ ds.getD j 0 = 1) →
    dot cs (spr1 ds (strd ds) ls) = offs ds (msk ds cs)
  | [], [], cs, _, _, _ => by cases cs <;> simp [dot, spr1, offs]
  | d :: ds, l :: ls, [], _, hi, _ => by simp [inside] at hi
  | d :: ds, l :: ls, c :: cs, hl, hi, h => by
    have h0 := h 0 (by simp)
    simp only [List.getD_cons_zero] at h0
    simp only [inside, Bool.and_eq_true, decide_eq_true_eq] at hi
    have ih := msk_offs ds ls cs (by simpa using hl) hi.2 fun j hj => by simpa using h (j + 1) (by simpa using hj)
    simp only [strd, spr1, dot, msk, offs, ih]
    by_cases h1 : d = 1
    · rw [if_pos h1]
      by_cases h2 : d = l
      · rw [if_pos h2, show c = 0 by omega]
      · rw [if_neg h2]; simp
    · rw [if_neg h1, if_pos (by omega)]
end Go.Proofs.YteigfipgmghgmaaGreatDoor.Vw
