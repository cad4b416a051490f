/- Joined texts: VwPlcAt. -/
import Derived.Test.YtaoplfpigjkgpaaGreatDoorPartAB
import Derived.Test.YtaoplfpigjkgpaaGreatDoorPartAA
namespace Go.Proofs.YtaoplfpigjkgpaaGreatDoor.Vw

open Go.RowKit

def dot : List Int → List Int → Int
  | c :: cs, s :: ss => c * s + dot cs ss
  | _, _ => 0

theorem flat_at (f : Nat → List Int) {n : Nat} (hn : 0 < n) : ∀ (t : Nat), (∀ i, i < t → (f i).length = n) → ∀ j, j < t * n → ((List.range t).flatMap f).getD j 0 = (f (j / n)).getD (j % n) 0
  | 0, _, j, h => by omega
  | t + 1, hl, j, h => by
    have h1 := flat_length f n t fun i hi => hl i (by omega)
    rw [List.range_succ, List.flatMap_append]
    simp only [List.flatMap_cons, List.flatMap_nil, List.append_nil]
    rw [List.getD, List.getElem?_append, h1]
    by_cases hj : j < t * n
    · rw [if_pos hj]
      exact flat_at f hn t (fun i hi => hl i (by omega)) j hj
    · rw [if_neg hj]
      have h2 : j < t * n + n := by rw [Nat.succ_mul] at h; exact h
      obtain ⟨r, rfl⟩ : ∃ r, j = t * n + r := ⟨j - t * n, by omega⟩
      have hr : r < n := by omega
      rw [Nat.mul_comm t n, Nat.mul_add_div hn, Nat.mul_add_mod, Nat.div_eq_of_lt hr, Nat.mod_eq_of_lt hr, Nat.add_zero, Nat.add_sub_cancel_left]
      rfl

theorem crds_mod : ∀ (zs : List Int) (n : Int), (∀ z ∈ zs, 1 ≤ z) → crds zs (n % prod zs) = crds zs n
  | [], _, _ => rfl
  | z :: zs, n, h => by
    have hz := h z (by simp)
    have hp := prod_pos zs fun y hy => h y (by simp [hy])
    have e : n % prod (z :: zs) = n + prod zs * (-(z * (n / prod (z :: zs)))) := by
      rw [Int.emod_def]
      simp only [prod]
      rw [Int.mul_neg, Int.sub_eq_add_neg, ← Int.mul_assoc, Int.mul_comm (prod zs) z]
    have h1 : n % prod (z :: zs) / prod zs % z = n / prod zs % z := by
      rw [e, Int.add_mul_ediv_left _ _ (by omega), ← Int.mul_neg, Int.add_mul_emod_self_left]
    have h2 : crds zs (n % prod (z :: zs)) = crds zs n := by
      rw [← crds_mod zs (n % prod (z :: zs)) fun y hy => h y (by simp [hy]), ← crds_mod zs n fun y hy => h y (by simp [hy])]
      congr 1
      rw [e, Int.add_mul_emod_self_left]
    simp only [crds]
    rw [h1, h2]

theorem plc_at : ∀ (ds ss : List Int) (p : Int), ss.length = ds.length → (∀ d ∈ ds, 1 ≤ d) → ∀ n : Nat, (n : Int) < prod ds → (plc ds ss p).getD n 0 = p + dot (crds ds n) ss
  | [], _, p, _, _, n, hn => by
    have : n = 0 := by simp [prod] at hn; omega
    subst this
    simp [plc, crds, dot]
  | d :: ds, s :: ss, p, hl, h, n, hn => by
    have hd := h d (by simp)
    have hq : ∀ y ∈ ds, 1 ≤ y := fun y hy => h y (by simp [hy])
    have hp := prod_pos ds hq
    obtain ⟨a, rfl⟩ : ∃ a : Nat, d = a := ⟨d.toNat, by omega⟩
    obtain ⟨b, hb⟩ : ∃ b : Nat, prod ds = b := ⟨(prod ds).toNat, by omega⟩
    have hb0 : 0 < b := by omega
    have hn' : n < a * b := by
      simp only [prod, hb] at hn
      exact Int.ofNat_lt.1 (by rw [Int.natCast_mul]; exact hn)
    have hdiv : n / b < a := (Nat.div_lt_iff_lt_mul hb0).2 hn'
    simp only [plc, Int.toNat_natCast]
    rw [flat_at _ hb0 a (fun i _ => by rw [plc_length ds ss _ (by simpa using hl) hq, hb]; simp) n hn']
    rw [plc_at ds ss _ (by simpa using hl) hq (n % b) (by rw [hb]; exact Int.ofNat_lt.2 (Nat.mod_lt _ hb0))]
    have hc : crds ds ((n % b : Nat) : Int) = crds ds n := by
      rw [← crds_mod ds (n : Int) hq, hb, Int.natCast_emod]
    simp only [crds, dot]
    rw [hc, hb]
    have h1 : (n : Int) / (b : Int) % (a : Int) = ((n / b : Nat) : Int) := by
      rw [← Int.natCast_ediv, ← Int.natCast_emod, Nat.mod_eq_of_lt hdiv]
    rw [h1, Int.add_assoc]

end Go.Proofs.YtaoplfpigjkgpaaGreatDoor.Vw
