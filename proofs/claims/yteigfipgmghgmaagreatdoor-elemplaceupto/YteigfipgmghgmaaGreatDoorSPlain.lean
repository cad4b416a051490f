/- Lists of dimensions: their product, count, strides, coordinates; no program stands here. -/
import Derived.WalkKit
namespace Go.Proofs.YteigfipgmghgmaaGreatDoor

/-- The product of a list. -/
def prod : List Int → Int
  | [] => 1
  | z :: zs => z * prod zs

theorem prod_append (a b : List Int) : prod (a ++ b) = prod a * prod b := by
  induction a with
  | nil => simp [prod]
  | cons z zs ih => simp [prod, ih, Int.mul_assoc]

theorem prod_pos : ∀ (zs : List Int), (∀ z ∈ zs, 1 ≤ z) → 1 ≤ prod zs
  | [], _ => by simp [prod]
  | z :: zs, h => by
    have h1 := h z (by simp)
    have h2 := prod_pos zs (fun y hy => h y (by simp [hy]))
    have := Int.mul_le_mul h1 h2 (by omega) (by omega)
    simpa [prod] using this

theorem le_mul_left {a b : Int} (ha : 1 ≤ a) (hb : 0 ≤ b) : b ≤ a * b := by
  have := Int.mul_le_mul_of_nonneg_right ha hb
  omega

theorem le_mul_right {a b : Int} (ha : 1 ≤ a) (hb : 0 ≤ b) : b ≤ b * a := by
  rw [Int.mul_comm]; exact le_mul_left ha hb

theorem pos_drop {zs : List Int} (h : ∀ z ∈ zs, 1 ≤ z) (k : Nat) : ∀ z ∈ zs.drop k, 1 ≤ z := fun z hz => h z (List.mem_of_mem_drop hz)
theorem pos_take {zs : List Int} (h : ∀ z ∈ zs, 1 ≤ z) (k : Nat) : ∀ z ∈ zs.take k, 1 ≤ z := fun z hz => h z (List.mem_of_mem_take hz)

theorem prod_drop_le {zs : List Int} (h : ∀ z ∈ zs, 1 ≤ z) (k : Nat) : prod (zs.drop k) ≤ prod zs := by
  have e : prod zs = prod (zs.take k) * prod (zs.drop k) := by rw [← prod_append, List.take_append_drop]
  rw [e]
  have h2 := prod_pos _ (pos_drop h k)
  exact le_mul_left (prod_pos _ (pos_take h k)) (by omega)

theorem prod_take_le {zs : List Int} (h : ∀ z ∈ zs, 1 ≤ z) (k : Nat) : prod (zs.take k) ≤ prod zs := by
  have e : prod zs = prod (zs.take k) * prod (zs.drop k) := by rw [← prod_append, List.take_append_drop]
  rw [e]
  have h2 := prod_pos _ (pos_take h k)
  exact le_mul_right (prod_pos _ (pos_drop h k)) (by omega)

theorem drop_step (zs : List Int) (k : Nat) (hk : k < zs.length) : zs.drop k = zs.getD k 0 :: zs.drop (k + 1) := by
  rw [List.drop_eq_getElem_cons hk]
  simp [List.getD, hk]

theorem prod_drop_step (zs : List Int) (k : Nat) (hk : k < zs.length) : prod (zs.drop k) = zs.getD k 0 * prod (zs.drop (k + 1)) := by
  rw [drop_step zs k hk]; rfl

theorem take_step (zs : List Int) (k : Nat) (hk : k < zs.length) : zs.take (k + 1) = zs.take k ++ [zs.getD k 0] := by
  rw [List.take_add_one]
  simp [List.getD, hk]

theorem prod_take_step (zs : List Int) (k : Nat) (hk : k < zs.length) : prod (zs.take (k + 1)) = prod (zs.take k) * zs.getD k 0 := by
  rw [take_step zs k hk, prod_append]
  simp [prod]

/-- The error of a list of dimensions: 4, if one is below 1; 6, if there are more than six, or their product is above 65536. -/
def cntE (zs : List Int) : Int := if zs.any (fun z => decide (z < 1)) = true then 4 else if 6 < zs.length then 6 else if 65536 < prod zs then 6 else 0
def cnt (zs : List Int) : Int := if cntE zs = 0 then prod zs else 0

theorem any_iff (zs : List Int) : zs.any (fun z => decide (z < 1)) = true ↔ ∃ z ∈ zs, z < 1 := by simp [List.any_eq_true]

theorem cntE_low {zs : List Int} (h : ∃ z ∈ zs, z < 1) : cntE zs = 4 := by simp [cntE, (any_iff zs).2 h]
theorem not_low {zs : List Int} (h : ∀ z ∈ zs, 1 ≤ z) : zs.any (fun z => decide (z < 1)) = false := by
  rw [Bool.eq_false_iff, ne_eq, any_iff]
  rintro ⟨z, hz, h1⟩
  have := h z hz
  omega
theorem cntE_many {zs : List Int} (h : ∀ z ∈ zs, 1 ≤ z) (hl : 6 < zs.length) : cntE zs = 6 := by simp [cntE, not_low h, hl]
theorem cntE_great {zs : List Int} (h : ∀ z ∈ zs, 1 ≤ z) (hp : 65536 < prod zs) : cntE zs = 6 := by
  simp only [cntE, not_low h, Bool.false_eq_true, if_false, hp, if_true]
  split <;> rfl
theorem cntE_ok {zs : List Int} (h : ∀ z ∈ zs, 1 ≤ z) (hl : zs.length ≤ 6) (hp : prod zs ≤ 65536) : cntE zs = 0 := by
  simp only [cntE, not_low h, Bool.false_eq_true, if_false, if_neg (show ¬ 6 < zs.length by omega), if_neg (show ¬ 65536 < prod zs by omega)]

/-- Dimensions that may be. -/
structure Fine (zs : List Int) : Prop where
  pos : ∀ z ∈ zs, 1 ≤ z
  few : zs.length ≤ 6
  le : prod zs ≤ 65536

theorem fine_of {zs : List Int} (h : cntE zs = 0) : Fine zs := by
  unfold cntE at h
  split at h
  · simp at h
  · split at h
    · simp at h
    · split at h
      · simp at h
      · rename_i h1 h2 h3
        refine ⟨fun z hz => ?_, by omega, by omega⟩
        rcases Int.lt_or_le z 1 with h4 | h4
        · exact absurd ((any_iff zs).2 ⟨z, hz, h4⟩) h1
        · omega

theorem Fine.ok {zs : List Int} (h : Fine zs) : cntE zs = 0 := cntE_ok h.pos h.few h.le
theorem Fine.cnt {zs : List Int} (h : Fine zs) : cnt zs = prod zs := by simp [Go.Proofs.YteigfipgmghgmaaGreatDoor.cnt, h.ok]
theorem cnt_err {zs : List Int} (h : cntE zs ≠ 0) : cnt zs = 0 := by simp [cnt, h]
theorem cntE_cases (zs : List Int) : cntE zs = 0 ∨ cntE zs = 4 ∨ cntE zs = 6 := by
  unfold cntE; split <;> (try split) <;> (try split) <;> simp
theorem Fine.drop {zs : List Int} (h : Fine zs) (k : Nat) : Fine (zs.drop k) :=
  ⟨pos_drop h.pos k, by have := h.few; simp; omega, Int.le_trans (prod_drop_le h.pos k) h.le⟩
theorem Fine.prod_pos {zs : List Int} (h : Fine zs) : 1 ≤ prod zs := Go.Proofs.YteigfipgmghgmaaGreatDoor.prod_pos zs h.pos
theorem Fine.at {zs : List Int} (h : Fine zs) (k : Nat) (hk : k < zs.length) : 1 ≤ zs.getD k 0 := h.pos _ (by simp [List.getD, hk])

/-- The strides of a list of dimensions. -/
def strd : List Int → List Int
  | [] => []
  | _ :: zs => prod zs :: strd zs

theorem strd_length (zs : List Int) : (strd zs).length = zs.length := by
  induction zs with
  | nil => rfl
  | cons z zs ih => simp [strd, ih]

theorem strd_at : ∀ (zs : List Int) (k : Nat), k < zs.length → (strd zs).getD k 0 = prod (zs.drop (k + 1))
  | _ :: _, 0, _ => by simp [strd, List.getD]
  | z :: zs, k + 1, h => by
    have := strd_at zs k (by simpa using h)
    simpa [strd, List.getD] using this

/-- The number of the element at some coordinates. -/
def offs : List Int → List Int → Int
  | _ :: zs, c :: cs => c * prod zs + offs zs cs
  | _, _ => 0

/-- The coordinates of the element of a number. -/
def crds : List Int → Int → List Int
  | [], _ => []
  | z :: zs, n => (n / prod zs) % z :: crds zs n

theorem crds_length (zs : List Int) (n : Int) : (crds zs n).length = zs.length := by
  induction zs with
  | nil => rfl
  | cons z zs ih => simp [crds, ih]

/-- Each coordinate is at least 0 and below its dimension. -/
def inside : List Int → List Int → Bool
  | z :: zs, c :: cs => decide (0 ≤ c ∧ c < z) && inside zs cs
  | [], [] => true
  | _, _ => false

theorem crds_inside (zs : List Int) (n : Int) (h : ∀ z ∈ zs, 1 ≤ z) : inside zs (crds zs n) = true := by
  induction zs with
  | nil => rfl
  | cons z zs ih =>
    have hz := h z (by simp)
    have h1 := Int.emod_nonneg (n / prod zs) (show z ≠ 0 by omega)
    have h2 := Int.emod_lt_of_pos (n / prod zs) (show 0 < z by omega)
    simp [crds, inside, h1, h2, ih (fun y hy => h y (by simp [hy]))]

theorem offs_crds (zs : List Int) (n : Int) (h : ∀ z ∈ zs, 1 ≤ z) : offs zs (crds zs n) = n % prod zs := by
  induction zs generalizing n with
  | nil => simp [offs, prod, Int.emod_one]
  | cons z zs ih =>
    simp only [offs, crds, prod]
    rw [ih n (fun y hy => h y (by simp [hy]))]
    rw [Int.mul_comm z (prod zs)]
    have hp := prod_pos zs (fun y hy => h y (by simp [hy]))
    have hz := h z (by simp)
    have e1 : n / prod zs % z = n / prod zs - z * (n / prod zs / z) := Int.emod_def _ _
    have e2 : n % prod zs = n - prod zs * (n / prod zs) := Int.emod_def _ _
    have e3 : n % (prod zs * z) = n - prod zs * z * (n / (prod zs * z)) := Int.emod_def _ _
    have e4 : n / prod zs / z = n / (prod zs * z) := Int.ediv_ediv_of_nonneg (by omega)
    rw [e1, e2, e3, e4, Int.sub_mul]
    have e5 : z * (n / (prod zs * z)) * prod zs = prod zs * z * (n / (prod zs * z)) := by
      rw [Int.mul_comm z, Int.mul_assoc, Int.mul_comm (n / _), Int.mul_comm z]
    have e6 : n / prod zs * prod zs = prod zs * (n / prod zs) := Int.mul_comm _ _
    omega

end Go.Proofs.YteigfipgmghgmaaGreatDoor
