/- A part. -/
import Derived.WalkKit
namespace Go.Proofs.YteigfipgmghgmaaGreatDoor
def jaV : List Int → Int
 | [] => 1
 | z :: zs => z * jaV zs
theorem jew (a b : List Int) : jaV (a ++ b) = jaV a * jaV b := by
 induction a with
 | nil => simp [jaV]
 | cons z zs ih => simp [jaV, ih, Int.mul_assoc]
theorem prod_pos : ∀ (zs : List Int), (∀ z ∈ zs, 1 ≤ z) → 1 ≤ jaV zs
 | [], _ => by simp [jaV]
 | z :: zs, h => by
  have h1 := h z (by simp)
  have h2 := prod_pos zs (fun y hy => h y (by simp [hy]))
  have := Int.mul_le_mul h1 h2 (by omega) (by omega)
  simpa [jaV] using this
theorem jdv {a b : Int} (ha : 1 ≤ a) (hb : 0 ≤ b) : b ≤ a * b := by
 have := Int.mul_le_mul_of_nonneg_right ha hb
 omega
theorem jcU {a b : Int} (ha : 1 ≤ a) (hb : 0 ≤ b) : b ≤ b * a := by
 rw [Int.mul_comm]; exact jdv ha hb
theorem jcx {zs : List Int} (h : ∀ z ∈ zs, 1 ≤ z) (k : Nat) : ∀ z ∈ zs.drop k, 1 ≤ z := fun z hz => h z (List.mem_of_mem_drop hz)
theorem jf3 {zs : List Int} (h : ∀ z ∈ zs, 1 ≤ z) (k : Nat) : ∀ z ∈ zs.take k, 1 ≤ z := fun z hz => h z (List.mem_of_mem_take hz)
theorem jcV {zs : List Int} (h : ∀ z ∈ zs, 1 ≤ z) (k : Nat) : jaV (zs.drop k) ≤ jaV zs := by
 have e : jaV zs = jaV (zs.take k) * jaV (zs.drop k) := by rw [← jew, List.take_append_drop]
 rw [e]
 have h2 := prod_pos _ (jcx h k)
 exact jdv (prod_pos _ (jf3 h k)) (by omega)
theorem jgO {zs : List Int} (h : ∀ z ∈ zs, 1 ≤ z) (k : Nat) : jaV (zs.take k) ≤ jaV zs := by
 have e : jaV zs = jaV (zs.take k) * jaV (zs.drop k) := by rw [← jew, List.take_append_drop]
 rw [e]
 have h2 := prod_pos _ (jf3 h k)
 exact jcU (prod_pos _ (jcx h k)) (by omega)
theorem ja9 (zs : List Int) (k : Nat) (hk : k < zs.length) : zs.drop k = zs.getD k 0 :: zs.drop (k + 1) := by
 rw [List.drop_eq_getElem_cons hk]
 simp [List.getD, hk]
theorem jdm (zs : List Int) (k : Nat) (hk : k < zs.length) : jaV (zs.drop k) = zs.getD k 0 * jaV (zs.drop (k + 1)) := by
 rw [ja9 zs k hk]; rfl
theorem jdE (zs : List Int) (k : Nat) (hk : k < zs.length) : zs.take (k + 1) = zs.take k ++ [zs.getD k 0] := by
 rw [List.take_add_one]
 simp [List.getD, hk]
def jbh (zs : List Int) : Int := if zs.any (fun z => decide (z < 1)) = true then 4 else if 6 < zs.length then 6 else if 65536 < jaV zs then 6 else 0
def cnt (zs : List Int) : Int := if jbh zs = 0 then jaV zs else 0
theorem jhN (zs : List Int) : zs.any (fun z => decide (z < 1)) = true ↔ ∃ z ∈ zs, z < 1 := by simp [List.any_eq_true]
theorem jnm {zs : List Int} (h : ∃ z ∈ zs, z < 1) : jbh zs = 4 := by simp [jbh, (jhN zs).2 h]
theorem jhO {zs : List Int} (h : ∀ z ∈ zs, 1 ≤ z) : zs.any (fun z => decide (z < 1)) = false := by
 rw [Bool.eq_false_iff, ne_eq, jhN]
 rintro ⟨z, hz, h1⟩
 have := h z hz
 omega
theorem jkE {zs : List Int} (h : ∀ z ∈ zs, 1 ≤ z) (hl : 6 < zs.length) : jbh zs = 6 := by simp [jbh, jhO h, hl]
theorem jjm {zs : List Int} (h : ∀ z ∈ zs, 1 ≤ z) (hp : 65536 < jaV zs) : jbh zs = 6 := by
 simp only [jbh, jhO h, Bool.false_eq_true, if_false, hp, if_true]
 split <;> rfl
theorem jpu {zs : List Int} (h : ∀ z ∈ zs, 1 ≤ z) (hl : zs.length ≤ 6) (hp : jaV zs ≤ 65536) : jbh zs = 0 := by
 simp only [jbh, jhO h, Bool.false_eq_true, if_false, if_neg (show ¬ 6 < zs.length by omega), if_neg (show ¬ 65536 < jaV zs by omega)]
structure Fine (zs : List Int) : Prop where
 pos : ∀ z ∈ zs, 1 ≤ z
 few : zs.length ≤ 6
 le : jaV zs ≤ 65536
theorem jcy {zs : List Int} (h : jbh zs = 0) : Fine zs := by
 unfold jbh at h
 split at h
 ·simp at h
 ·split at h
  ·simp at h
  ·split at h
   ·simp at h
   ·rename_i h1 h2 h3
    refine ⟨fun z hz => ?_, by omega, by omega⟩
    rcases Int.lt_or_le z 1 with h4 | h4
    ·exact absurd ((jhN zs).2 ⟨z, hz, h4⟩) h1
    ·omega
theorem Fine.ok {zs : List Int} (h : Fine zs) : jbh zs = 0 := jpu h.pos h.few h.le
theorem Fine.cnt {zs : List Int} (h : Fine zs) : cnt zs = jaV zs := by simp [Go.Proofs.YteigfipgmghgmaaGreatDoor.cnt, h.ok]
theorem jpv {zs : List Int} (h : jbh zs ≠ 0) : cnt zs = 0 := by simp [cnt, h]
theorem jjn (zs : List Int) : jbh zs = 0 ∨ jbh zs = 4 ∨ jbh zs = 6 := by
 unfold jbh; split <;> (try split) <;> (try split) <;> simp
theorem Fine.drop {zs : List Int} (h : Fine zs) (k : Nat) : Fine (zs.drop k) :=
 ⟨jcx h.pos k, by have := h.few; simp; omega, Int.le_trans (jcV h.pos k) h.le⟩
theorem Fine.prod_pos {zs : List Int} (h : Fine zs) : 1 ≤ jaV zs := Go.Proofs.YteigfipgmghgmaaGreatDoor.prod_pos zs h.pos
theorem Fine.at {zs : List Int} (h : Fine zs) (k : Nat) (hk : k < zs.length) : 1 ≤ zs.getD k 0 := h.pos _ (by simp [List.getD, hk])
def jdn : List Int → List Int
 | [] => []
 | _ :: zs => jaV zs :: jdn zs
theorem jdw (zs : List Int) : (jdn zs).length = zs.length := by
 induction zs with
 | nil => rfl
 | cons z zs ih => simp [jdn, ih]
end Go.Proofs.YteigfipgmghgmaaGreatDoor
