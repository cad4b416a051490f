/- Joined texts: RdAxis, RdIntsR, RdMostP, RdMostQ, RdPtsP, RdPtsQ. -/
import Derived.Test.YtkefdkboejimeaaGreatDoorRartBH
import Derived.Test.YtkefdkboejimeaaGreatDoorRartBF
import Derived.ArgAppend
import Derived.Test.YtkefdkboejimeaaGreatDoorRartAM
namespace Go.Proofs.YtkefdkboejimeaaGreatDoor

open Go.RowKit

theorem four_boxes (w : World) (o0 o1 o2 o3 : Obj) : ∀ W, W = (((w.alloc o0).alloc o1).alloc o2).alloc o3 → W.heap[w.heap.size]? = some o0 ∧ W.heap[w.heap.size + 1]? = some o1 ∧ W.heap[w.heap.size + 1 + 1]? = some o2 ∧ W.heap[w.heap.size + 1 + 1 + 1]? = some o3 ∧ w.grownBy W none ∧ W.heap.size = w.heap.size + 1 + 1 + 1 + 1 := by
  rintro W rfl
  obtain ⟨a0, z0⟩ := new_alloc o0 (x := w) rfl
  obtain ⟨a1, z1⟩ := new_alloc o1 z0
  obtain ⟨a2, z2⟩ := new_alloc o2 z1
  obtain ⟨a3, z3⟩ := new_alloc o3 z2
  exact ⟨up_alloc _ (up_alloc _ (up_alloc _ a0)), up_alloc _ (up_alloc _ a1), up_alloc _ a2, a3, grown_trans (grown_trans (grown_trans (grown_new _ _) (grown_new _ _)) (grown_new _ _)) (grown_new _ _), z3⟩

end Go.Proofs.YtkefdkboejimeaaGreatDoor

namespace Go.Proofs.YtkefdkboejimeaaGreatDoor

open Go.RowKit

theorem pb_chk {t : Int} {x xs : List Int} (h : pbE t x xs = 0) : ∀ z ∈ xs, chk t z = true := by
  unfold pbE at h
  split at h
  · cases h
  · split at h
    · rename_i h1 h2
      exact absurd h (by simpa using h2)
    · split at h
      · cases h
      · split at h
        · rename_i h4
          exact fun z hz => List.all_eq_true.1 h4 z hz
        · cases h

end Go.Proofs.YtkefdkboejimeaaGreatDoor

namespace Go.Proofs.YtkefdkboejimeaaGreatDoor

open Go.RowKit

def sg (s : Bool) (r : Nat) : Int := if s = true then -(r : Int) else (r : Int)

theorem rel_key {a b r q k : Nat} (h1 : Nu.val r = a * 2 ^ k) (h2 : Nu.val q = b * 2 ^ k) : (a < b ↔ r < q) ∧ (a = b ↔ r = q) ∧ (a = 0 ↔ r = 0) ∧ (b = 0 ↔ q = 0) := by
  have pk : 0 < 2 ^ k := Nat.two_pow_pos k
  have z : Nu.val 0 = 0 := rfl
  have lt : ∀ {a b r q : Nat}, Nu.val r = a * 2 ^ k → Nu.val q = b * 2 ^ k → (a < b ↔ r < q) := fun {a b r q} e1 e2 => by
    constructor
    · intro h
      rcases Nat.lt_trichotomy r q with h3 | h3 | h3
      · exact h3
      · subst h3
        rw [e1] at e2
        have := Nat.eq_of_mul_eq_mul_right pk e2
        omega
      · have h4 := Nu.val_lt q r h3
        rw [e1, e2] at h4
        have := Nat.lt_of_mul_lt_mul_right h4
        omega
    · intro h
      have h4 := Nu.val_lt r q h
      rw [e1, e2] at h4
      exact Nat.lt_of_mul_lt_mul_right h4
  have z0 : Nu.val 0 = 0 * 2 ^ k := by rw [z, Nat.zero_mul]
  have l1 := lt h1 h2
  have l2 := lt h2 h1
  have l3 := lt z0 h1
  have l4 := lt z0 h2
  omega

theorem dat_order (s t : Bool) (r q : Nat) (hr : r ≤ 2139095040) (hq : q ≤ 2139095040) : (Nu.rdm s r).order (Nu.rdm t q) = some (compare (sg s r) (sg t q)) := by
  have inf : ∀ s : Bool, Nu.rdm s 2139095040 = .infinity s := fun s => by simp [Nu.rdm]
  have three : ∀ p q : Int, (p < q ∧ compare p q = .lt) ∨ (p = q ∧ compare p q = .eq) ∨ (q < p ∧ compare p q = .gt) := fun p q => by
    rcases Int.lt_trichotomy p q with h | h | h
    · exact .inl ⟨h, Nu.cmp_lt h⟩
    · exact .inr (.inl ⟨h, Nu.cmp_eq h⟩)
    · exact .inr (.inr ⟨h, Nu.cmp_gt h⟩)
  by_cases h1 : r = 2139095040
  · by_cases h2 : q = 2139095040
    · rw [h1, h2, inf, inf]
      cases s <;> cases t <;> decide +kernel
    · obtain ⟨n, e, e2, _⟩ := Nu.rdm_num t q (by omega)
      rw [h1, inf, e2]
      cases s with
      | false =>
        rw [Nu.cmp_gt (show sg t q < sg false 2139095040 by unfold sg; cases t <;> simp <;> omega)]
        simp [Ieee.Datum.order]
      | true =>
        rw [Nu.cmp_lt (show sg true 2139095040 < sg t q by unfold sg; cases t <;> simp <;> omega)]
        simp [Ieee.Datum.order]
  · by_cases h2 : q = 2139095040
    · obtain ⟨n, e, e2, _⟩ := Nu.rdm_num s r (by omega)
      rw [h2, inf, e2]
      cases t with
      | false =>
        rw [Nu.cmp_lt (show sg s r < sg false 2139095040 by unfold sg; cases s <;> simp <;> omega)]
        simp [Ieee.Datum.order]
      | true =>
        rw [Nu.cmp_gt (show sg true 2139095040 < sg s r by unfold sg; cases s <;> simp <;> omega)]
        simp [Ieee.Datum.order]
    · obtain ⟨m, d, e1, v1⟩ := Nu.rdm_num s r (by omega)
      obtain ⟨n, e, e2, v2⟩ := Nu.rdm_num t q (by omega)
      rw [e1, e2]
      simp only [Ieee.Datum.order, Option.some.injEq, Ieee.signed]
      obtain ⟨k, k1, k2⟩ := Nu.scaled m n d e _ rfl
      rw [k1] at v1
      rw [k2] at v2
      generalize m <<< (-149 + (d : Int) - min (-149 + (d : Int)) (-149 + (e : Int))).toNat = a at *
      generalize n <<< (-149 + (e : Int) - min (-149 + (d : Int)) (-149 + (e : Int))).toNat = b at *
      obtain ⟨i1, i2, i3, i4⟩ := rel_key v1 v2
      unfold sg
      rcases three (if s = true then -(a : Int) else (a : Int)) (if t = true then -(b : Int) else (b : Int)) with ⟨c1, c2⟩ | ⟨c1, c2⟩ | ⟨c1, c2⟩
      · rw [c2, Nu.cmp_lt]
        cases s <;> cases t <;> simp at c1 ⊢ <;> omega
      · rw [c2, Nu.cmp_eq]
        cases s <;> cases t <;> simp at c1 ⊢ <;> omega
      · rw [c2, Nu.cmp_gt]
        cases s <;> cases t <;> simp at c1 ⊢ <;> omega

def key1 (x : Int) : Int := if x = 2143289344 then 4294967296 else if x < 2147483648 then x else 2147483647 - x
def keyT (t x : Int) : Int := if t = 1 then key1 x else x

theorem max_key1 {x y : Int} (hx : Nu.chk 1 x = true) (hy : Nu.chk 1 y = true) : Nu.maxF (Nu.fb x) (Nu.fb y) = if key1 x < key1 y then y else x := by
  have hlx := Nu.fb_lt x
  have hly := Nu.fb_lt y
  have fx := Nu.fb_of x hx
  have fy := Nu.fb_of y hy
  have cx := hx
  have cy := hy
  unfold Nu.chk at cx cy
  rw [if_pos rfl] at cx cy
  simp only [decide_eq_true_eq] at cx cy
  by_cases hn : x = 2143289344 ∨ y = 2143289344
  · have ho := (Nu.ord_none x y hx hy).2 hn
    have e : Nu.maxF (Nu.fb x) (Nu.fb y) = 2143289344 := by simp [Nu.maxF, ho]
    rw [e]
    by_cases hk : key1 x < key1 y
    · rw [if_pos hk]
      unfold key1 at hk
      by_cases hy0 : y = 2143289344
      · exact hy0.symm
      · have hx0 : x = 2143289344 := by omega
        rw [if_pos hx0, if_neg hy0] at hk
        split at hk <;> omega
    · rw [if_neg hk]
      unfold key1 at hk
      by_cases hx0 : x = 2143289344
      · exact hx0.symm
      · have hy0 : y = 2143289344 := by omega
        rw [if_neg hx0, if_pos hy0] at hk
        split at hk <;> omega
  · have ox : ¬ x = 2143289344 := fun h => hn (.inl h)
    have oy : ¬ y = 2143289344 := fun h => hn (.inr h)
    have nx : Nu.fb x % 2147483648 ≤ 2139095040 := by omega
    have ny : Nu.fb y % 2147483648 ≤ 2139095040 := by omega
    have ho : Nu.ord (Nu.fb x) (Nu.fb y) = some (compare (sg (decide (2147483648 ≤ Nu.fb x)) (Nu.fb x % 2147483648)) (sg (decide (2147483648 ≤ Nu.fb y)) (Nu.fb y % 2147483648))) := by
      unfold Nu.ord Ieee.Format.order
      rw [Nu.read_eq _ hlx, Nu.read_eq _ hly]
      exact dat_order _ _ _ _ nx ny
    by_cases hz : (x = 0 ∨ x = 2147483648) ∧ (y = 0 ∨ y = 2147483648)
    · rw [(Nu.zeros_max x y hz.1 hz.2).1]
      obtain ⟨h1, h2⟩ := hz
      unfold key1 Nu.minI
      rcases h1 with rfl | rfl <;> rcases h2 with rfl | rfl <;> decide
    · by_cases hg : Nu.ord (Nu.fb x) (Nu.fb y) = some .gt
      · rw [Nu.max_gt x y hx hg, if_neg]
        rw [ho, Option.some.injEq] at hg
        have hs : sg (decide (2147483648 ≤ Nu.fb y)) (Nu.fb y % 2147483648) < sg (decide (2147483648 ≤ Nu.fb x)) (Nu.fb x % 2147483648) := by
          rcases Int.lt_trichotomy (sg (decide (2147483648 ≤ Nu.fb x)) (Nu.fb x % 2147483648)) (sg (decide (2147483648 ≤ Nu.fb y)) (Nu.fb y % 2147483648)) with h | h | h
          · rw [Nu.cmp_lt h] at hg; cases hg
          · rw [Nu.cmp_eq h] at hg; cases hg
          · exact h
        unfold sg at hs
        simp only [decide_eq_true_eq] at hs
        unfold key1
        rw [if_neg ox, if_neg oy]
        split at hs <;> split at hs <;> split <;> split <;> omega
      · rw [Nu.max_ngt x y hx hy hn hz hg]
        have hs : ¬ sg (decide (2147483648 ≤ Nu.fb y)) (Nu.fb y % 2147483648) < sg (decide (2147483648 ≤ Nu.fb x)) (Nu.fb x % 2147483648) := fun h => hg (by rw [ho, Nu.cmp_gt h])
        by_cases hk : key1 x < key1 y
        · rw [if_pos hk]
        · rw [if_neg hk]
          unfold sg at hs
          simp only [decide_eq_true_eq] at hs
          unfold key1 at hk
          rw [if_neg ox, if_neg oy] at hk
          split at hs <;> split at hs <;> split at hk <;> split at hk <;> omega

end Go.Proofs.YtkefdkboejimeaaGreatDoor

namespace Go.Proofs.YtkefdkboejimeaaGreatDoor

open Go.RowKit

theorem bin_max {t : Int} (ht : t = 1 ∨ t = 6 ∨ t = 7) {x y : Int} (hx : Nu.chk t x = true) (hy : Nu.chk t y = true) : (Nu.bin 4 t x y).1 = if keyT t x < keyT t y then y else x := by
  unfold Nu.bin
  rw [if_pos (by rw [hx, hy]; rfl)]
  rcases ht with rfl | rfl | rfl
  · rw [if_pos rfl]
    show Nu.maxF (Nu.fb x) (Nu.fb y) = _
    rw [max_key1 hx hy]
    rfl
  · have k : ∀ z, keyT 6 z = z := fun z => by unfold keyT; rw [if_neg (by decide)]
    rw [if_neg (by decide), if_neg (by decide), k, k]
    show Nu.wrapT 6 (if y > x then y else x) = _
    unfold Nu.chk at hx hy
    simp only [show ¬ (6 : Int) = 1 by decide, if_false, if_true, decide_eq_true_eq] at hx hy
    unfold Nu.wrapT wrap64 wrap32
    by_cases h : x < y
    · rw [if_pos rfl, if_pos h]
      omega
    · rw [if_pos rfl, if_neg h]
      omega
  · have k : ∀ z, keyT 7 z = z := fun z => by unfold keyT; rw [if_neg (by decide)]
    rw [if_neg (by decide), if_neg (by decide), k, k]
    show Nu.wrapT 7 (if y > x then y else x) = _
    unfold Nu.wrapT
    rw [if_neg (by decide)]

def Top (t : Int) (ys : List Int) (m : Int) : Prop := m ∈ ys ∧ ∀ y ∈ ys, keyT t y ≤ keyT t m

theorem fold_top {t : Int} (ht : t = 1 ∨ t = 6 ∨ t = 7) : ∀ (l : List Int) (z : Int), Nu.chk t z = true → (∀ y ∈ l, Nu.chk t y = true) → Top t (z :: l) (l.foldl (fun x y => (Nu.bin 4 t x y).1) z)
  | [], z, _, _ => ⟨by simp, fun y hy => by simp at hy; subst hy; exact Int.le_refl _⟩
  | a :: l, z, hz, hl => by
    have ha := hl a (by simp)
    rw [List.foldl_cons, bin_max ht hz ha]
    by_cases h : keyT t z < keyT t a
    · rw [if_pos h]
      obtain ⟨m1, m2⟩ := fold_top ht l a ha (fun y hy => hl y (by simp [hy]))
      refine ⟨List.mem_cons_of_mem _ m1, fun y hy => ?_⟩
      rcases List.mem_cons.1 hy with rfl | hy
      · have := m2 a (by simp)
        omega
      · exact m2 y hy
    · rw [if_neg h]
      obtain ⟨m1, m2⟩ := fold_top ht l z hz (fun y hy => hl y (by simp [hy]))
      refine ⟨?_, fun y hy => ?_⟩
      · rcases List.mem_cons.1 m1 with e | m1
        · rw [e]; simp
        · simp [m1]
      · rcases List.mem_cons.1 hy with rfl | hy
        · exact m2 _ (by simp)
        · rcases List.mem_cons.1 hy with rfl | hy
          · have := m2 z (by simp)
            omega
          · exact m2 y (by simp [hy])

theorem mostL_top {t : Int} (ht : t = 1 ∨ t = 6 ∨ t = 7) {ys : List Int} (h0 : 0 < ys.length) (hc : ∀ y ∈ ys, Nu.chk t y = true) : Top t ys (mostL t ys) := by
  match ys, h0 with
  | z :: l, _ => exact fold_top ht l z (hc z (by simp)) (fun y hy => hc y (by simp [hy]))

end Go.Proofs.YtkefdkboejimeaaGreatDoor

namespace Go.Proofs.YtkefdkboejimeaaGreatDoor

open Go.RowKit

def keyZ (t x : Int) : Int := if t = 1 then (if x < 2147483648 then x else 2147483648 - x) else x

theorem ord_keyZ {x y : Int} (hx : Nu.chk 1 x = true) (hy : Nu.chk 1 y = true) (ox : ¬ x = 2143289344) (oy : ¬ y = 2143289344) : Nu.ord (Nu.fb x) (Nu.fb y) = some (compare (keyZ 1 x) (keyZ 1 y)) := by
  have hlx := Nu.fb_lt x
  have hly := Nu.fb_lt y
  have fx := Nu.fb_of x hx
  have fy := Nu.fb_of y hy
  unfold Nu.chk at hx hy
  rw [if_pos rfl] at hx hy
  simp only [decide_eq_true_eq] at hx hy
  unfold Nu.ord Ieee.Format.order
  rw [Nu.read_eq _ hlx, Nu.read_eq _ hly, dat_order _ _ _ _ (by omega) (by omega)]
  have k : ∀ z : Int, Nu.fb z < 4294967296 → ((Nu.fb z : Nat) : Int) = z → sg (decide (2147483648 ≤ Nu.fb z)) (Nu.fb z % 2147483648) = keyZ 1 z := fun z h1 h2 => by
    unfold sg keyZ
    simp only [decide_eq_true_eq, if_true]
    split <;> split <;> omega
  rw [k x hlx fx, k y hly fy]

def Fn (t x : Int) : Prop := Nu.chk t x = true ∧ ¬ (t = 1 ∧ x = 2143289344)

end Go.Proofs.YtkefdkboejimeaaGreatDoor

namespace Go.Proofs.YtkefdkboejimeaaGreatDoor

open Go.RowKit

theorem key_mono {t x y : Int} (hx : Fn t x) (hy : Fn t y) (h : keyT t x ≤ keyT t y) : keyZ t x ≤ keyZ t y := by
  obtain ⟨hx, ox⟩ := hx
  obtain ⟨hy, oy⟩ := hy
  unfold keyT at h
  unfold keyZ
  by_cases ht : t = 1
  · subst ht
    rw [if_pos rfl, if_pos rfl] at h
    rw [if_pos rfl, if_pos rfl]
    unfold Nu.chk at hx hy
    rw [if_pos rfl] at hx hy
    simp only [decide_eq_true_eq] at hx hy
    unfold key1 at h
    rw [if_neg (fun e => ox ⟨rfl, e⟩), if_neg (fun e => oy ⟨rfl, e⟩)] at h
    split at h <;> split at h <;> (try split) <;> (try split) <;> omega
  · rw [if_neg ht, if_neg ht] at h
    rw [if_neg ht, if_neg ht]
    exact h

end Go.Proofs.YtkefdkboejimeaaGreatDoor
