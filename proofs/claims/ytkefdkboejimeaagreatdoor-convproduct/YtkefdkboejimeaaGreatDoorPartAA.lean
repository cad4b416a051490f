/- A part. -/
import Derived.WalkKit
namespace Go.Proofs.YtkefdkboejimeaaGreatDoor
def jaF : List Int → Int
 | [] => 1
 | z :: zs => z * jaF zs
theorem jby (a b : List Int) : jaF (a ++ b) = jaF a * jaF b := by
 induction a with
 | nil => simp [jaF]
 | cons z zs ih => simp [jaF, ih, Int.mul_assoc]
theorem prod_pos : ∀ (zs : List Int), (∀ z ∈ zs, 1 ≤ z) → 1 ≤ jaF zs
 | [], _ => by simp [jaF]
 | z :: zs, h => by
  have h1 := h z (by simp)
  have h2 := prod_pos zs (fun y hy => h y (by simp [hy]))
  have := Int.mul_le_mul h1 h2 (by omega) (by omega)
  simpa [jaF] using this
theorem jbJ {a b : Int} (ha : 1 ≤ a) (hb : 0 ≤ b) : b ≤ a * b := by
 have := Int.mul_le_mul_of_nonneg_right ha hb
 omega
theorem jbS {a b : Int} (ha : 1 ≤ a) (hb : 0 ≤ b) : b ≤ b * a := by
 rw [Int.mul_comm]; exact jbJ ha hb
theorem jcs {zs : List Int} (h : ∀ z ∈ zs, 1 ≤ z) (k : Nat) : ∀ z ∈ zs.drop k, 1 ≤ z := fun z hz => h z (List.mem_of_mem_drop hz)
theorem jfB {zs : List Int} (h : ∀ z ∈ zs, 1 ≤ z) (k : Nat) : ∀ z ∈ zs.take k, 1 ≤ z := fun z hz => h z (List.mem_of_mem_take hz)
theorem jcJ {zs : List Int} (h : ∀ z ∈ zs, 1 ≤ z) (k : Nat) : jaF (zs.drop k) ≤ jaF zs := by
 have e : jaF zs = jaF (zs.take k) * jaF (zs.drop k) := by rw [← jby, List.take_append_drop]
 rw [e]
 have h2 := prod_pos _ (jcs h k)
 exact jbJ (prod_pos _ (jfB h k)) (by omega)
theorem jgf {zs : List Int} (h : ∀ z ∈ zs, 1 ≤ z) (k : Nat) : jaF (zs.take k) ≤ jaF zs := by
 have e : jaF zs = jaF (zs.take k) * jaF (zs.drop k) := by rw [← jby, List.take_append_drop]
 rw [e]
 have h2 := prod_pos _ (jfB h k)
 exact jbS (prod_pos _ (jcs h k)) (by omega)
theorem jbT (zs : List Int) (k : Nat) (hk : k < zs.length) : zs.drop k = zs.getD k 0 :: zs.drop (k + 1) := by
 rw [List.drop_eq_getElem_cons hk]
 simp [List.getD, hk]
theorem jdb (zs : List Int) (k : Nat) (hk : k < zs.length) : jaF (zs.drop k) = zs.getD k 0 * jaF (zs.drop (k + 1)) := by
 rw [jbT zs k hk]; rfl
theorem jen (zs : List Int) (k : Nat) (hk : k < zs.length) : zs.take (k + 1) = zs.take k ++ [zs.getD k 0] := by
 rw [List.take_add_one]
 simp [List.getD, hk]
def ja3 (zs : List Int) : Int := if zs.any (fun z => decide (z < 1)) = true then 4 else if 6 < zs.length then 6 else if 65536 < jaF zs then 6 else 0
def cnt (zs : List Int) : Int := if ja3 zs = 0 then jaF zs else 0
theorem jhe (zs : List Int) : zs.any (fun z => decide (z < 1)) = true ↔ ∃ z ∈ zs, z < 1 := by simp [List.any_eq_true]
theorem jl1 {zs : List Int} (h : ∃ z ∈ zs, z < 1) : ja3 zs = 4 := by simp [ja3, (jhe zs).2 h]
theorem jhf {zs : List Int} (h : ∀ z ∈ zs, 1 ≤ z) : zs.any (fun z => decide (z < 1)) = false := by
 rw [Bool.eq_false_iff, ne_eq, jhe]
 rintro ⟨z, hz, h1⟩
 have := h z hz
 omega
theorem jjP {zs : List Int} (h : ∀ z ∈ zs, 1 ≤ z) (hl : 6 < zs.length) : ja3 zs = 6 := by simp [ja3, jhf h, hl]
theorem jiR {zs : List Int} (h : ∀ z ∈ zs, 1 ≤ z) (hp : 65536 < jaF zs) : ja3 zs = 6 := by
 simp only [ja3, jhf h, Bool.false_eq_true, if_false, hp, if_true]
 split <;> rfl
theorem jhg {zs : List Int} (h : ∀ z ∈ zs, 1 ≤ z) (hl : zs.length ≤ 6) (hp : jaF zs ≤ 65536) : ja3 zs = 0 := by
 simp only [ja3, jhf h, Bool.false_eq_true, if_false, if_neg (show ¬ 6 < zs.length by omega), if_neg (show ¬ 65536 < jaF zs by omega)]
structure Fine (zs : List Int) : Prop where
 pos : ∀ z ∈ zs, 1 ≤ z
 few : zs.length ≤ 6
 le : jaF zs ≤ 65536
theorem jaH {zs : List Int} (h : ja3 zs = 0) : Fine zs := by
 unfold ja3 at h
 split at h
 ·simp at h
 ·split at h
  ·simp at h
  ·split at h
   ·simp at h
   ·rename_i h1 h2 h3
    refine ⟨fun z hz => ?_, by omega, by omega⟩
    rcases Int.lt_or_le z 1 with h4 | h4
    ·exact absurd ((jhe zs).2 ⟨z, hz, h4⟩) h1
    ·omega
theorem Fine.ok {zs : List Int} (h : Fine zs) : ja3 zs = 0 := jhg h.pos h.few h.le
theorem Fine.cnt {zs : List Int} (h : Fine zs) : cnt zs = jaF zs := by simp [Go.Proofs.YtkefdkboejimeaaGreatDoor.cnt, h.ok]
theorem jol {zs : List Int} (h : ja3 zs ≠ 0) : cnt zs = 0 := by simp [cnt, h]
theorem jiS (zs : List Int) : ja3 zs = 0 ∨ ja3 zs = 4 ∨ ja3 zs = 6 := by
 unfold ja3; split <;> (try split) <;> (try split) <;> simp
theorem Fine.drop {zs : List Int} (h : Fine zs) (k : Nat) : Fine (zs.drop k) :=
 ⟨jcs h.pos k, by have := h.few; simp; omega, Int.le_trans (jcJ h.pos k) h.le⟩
theorem Fine.prod_pos {zs : List Int} (h : Fine zs) : 1 ≤ jaF zs := Go.Proofs.YtkefdkboejimeaaGreatDoor.prod_pos zs h.pos
theorem Fine.at {zs : List Int} (h : Fine zs) (k : Nat) (hk : k < zs.length) : 1 ≤ zs.getD k 0 := h.pos _ (by simp [List.getD, hk])
def jbs : List Int → List Int
 | [] => []
 | _ :: zs => jaF zs :: jbs zs
theorem jct (zs : List Int) : (jbs zs).length = zs.length := by
 induction zs with
 | nil => rfl
 | cons z zs ih => simp [jbs, ih]
end Go.Proofs.YtkefdkboejimeaaGreatDoor
