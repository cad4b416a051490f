/- Joined texts: RdMostP, RdMostQ, RdPtsP, RdPtsQ. -/
import Derived.Test.YtahmmilhmoogbaaGreatDoorPartBT
import Derived.Test.YtahmmilhmoogbaaGreatDoorPartAW
namespace Go.Proofs.YtahmmilhmoogbaaGreatDoor

open Go.RowKit

def sg (s : Bool) (r : Nat) : Int := if s = true then -(r : Int) else (r : Int)

theorem rel_key {a b r q k : Nat} (h1 : Nu.val r = a * 2 ^ k) (h2 : Nu.val q = b * 2 ^ k) : (a < b ↔ r < q) ∧ (a = b ↔ r = q) ∧ (a = 0 ↔ r = 0) ∧ (b = 0 ↔ q = 0) := by
  have pk : 0 < 2 ^ k := Nat.two_pow_pos k
  have z : Nu.val 0 = 0 := rfl
  have lt : ∀ {a b r q : Nat}, Nu.val r = a * 2 ^ k → Nu.val q = b * 2 ^ k → (a < b ↔ r < q) := fun {a b r q} e1 e2 => by
    constructor
    · intro h
      rcases Nat.lt_trichotomy r q with h3 | h3 | h3
      · exact h3
      · subst h3
        rw [e1] at e2
        have := Nat.eq_of_mul_eq_mul_right pk e2
        omega
      · have h4 := Nu.val_lt q r h3
        rw [e1, e2] at h4
        have := Nat.lt_of_mul_lt_mul_right h4
        omega
    · intro h
      have h4 := Nu.val_lt r q h
      rw [e1, e2] at h4
      exact Nat.lt_of_mul_lt_mul_right h4
  have z0 : Nu.val 0 = 0 * 2 ^ k := by rw [z, Nat.zero_mul]
  have l1 := lt h1 h2
  have l2 := lt h2 h1
  have l3 := lt z0 h1
  have l4 := lt z0 h2
  omega

theorem dat_order (s t : Bool) (r q : Nat) (hr : r ≤ 2139095040) (hq : q ≤ 2139095040) : (Nu.rdm s r).order (Nu.rdm t q) = some (compare (sg s r) (sg t q)) := by
  have inf : ∀ s : Bool, Nu.rdm s 2139095040 = .infinity s := fun s => by simp [Nu.rdm]
  have three : ∀ p q : Int, (p < q ∧ compare p q = .lt) ∨ (p = q ∧ compare p q = .eq) ∨ (q < p ∧ compare p q = .gt) := fun p q => by
    rcases Int.lt_trichotomy p q with h | h | h
    · exact .inl ⟨h, Nu.cmp_lt h⟩
    · exact .inr (.inl ⟨h, Nu.cmp_eq h⟩)
    · exact .inr (.inr ⟨h, Nu.cmp_gt h⟩)
  by_cases h1 : r = 2139095040
  · by_cases h2 : q = 2139095040
    · rw [h1, h2, inf, inf]
      cases s <;> cases t <;> decide +kernel
    · obtain ⟨n, e, e2, _⟩ := Nu.rdm_num t q (by omega)
      rw [h1, inf, e2]
      cases s with
      | false =>
        rw [Nu.cmp_gt (show sg t q < sg false 2139095040 by unfold sg; cases t <;> simp <;> omega)]
        simp [Ieee.Datum.order]
      | true =>
        rw [Nu.cmp_lt (show sg true 2139095040 < sg t q by unfold sg; cases t <;> simp <;> omega)]
        simp [Ieee.Datum.order]
  · by_cases h2 : q = 2139095040
    · obtain ⟨n, e, e2, _⟩ := Nu.rdm_num s r (by omega)
      rw [h2, inf, e2]
      cases t with
      | false =>
        rw [Nu.cmp_lt (show sg s r < sg false 2139095040 by unfold sg; cases s <;> simp <;> omega)]
        simp [Ieee.Datum.order]
      | true =>
        rw [Nu.cmp_gt (show sg true 2139095040 < sg s r by unfold sg; cases s <;> simp <;> omega)]
        simp [Ieee.Datum.order]
    · obtain ⟨m, d, e1, v1⟩ := Nu.rdm_num s r (by omega)
      obtain ⟨n, e, e2, v2⟩ := Nu.rdm_num t q (by omega)
      rw [e1, e2]
      simp only [Ieee.Datum.order, Option.some.injEq, Ieee.signed]
      obtain ⟨k, k1, k2⟩ := Nu.scaled m n d e _ rfl
      rw [k1] at v1
      rw [k2] at v2
      generalize m <<< (-149 + (d : Int) - min (-149 + (d : Int)) (-149 + (e : Int))).toNat = a at *
      generalize n <<< (-149 + (e : Int) - min (-149 + (d : Int)) (-149 + (e : Int))).toNat = b at *
      obtain ⟨i1, i2, i3, i4⟩ := rel_key v1 v2
      unfold sg
      rcases three (if s = true then -(a : Int) else (a : Int)) (if t = true then -(b : Int) else (b : Int)) with ⟨c1, c2⟩ | ⟨c1, c2⟩ | ⟨c1, c2⟩
      · rw [c2, Nu.cmp_lt]
        cases s <;> cases t <;> simp at c1 ⊢ <;> omega
      · rw [c2, Nu.cmp_eq]
        cases s <;> cases t <;> simp at c1 ⊢ <;> omega
      · rw [c2, Nu.cmp_gt]
        cases s <;> cases t <;> simp at c1 ⊢ <;> omega

def key1 (x : Int) : Int := if x = 2143289344 then 4294967296 else if x < 2147483648 then x else 2147483647 - x
def keyT (t x : Int) : Int := if t = 1 then key1 x else x

theorem max_key1 {x y : Int} (hx : Nu.chk 1 x = true) (hy : Nu.chk 1 y = true) : Nu.maxF (Nu.fb x) (Nu.fb y) = if key1 x < key1 y then y else x := by
  have hlx := Nu.fb_lt x
  have hly := Nu.fb_lt y
  have fx := Nu.fb_of x hx
  have fy := Nu.fb_of y hy
  have cx := hx
  have cy := hy
  unfold Nu.chk at cx cy
  rw [if_pos rfl] at cx cy
  simp only [decide_eq_true_eq] at cx cy
  by_cases hn : x = 2143289344 ∨ y = 2143289344
  · have ho := (Nu.ord_none x y hx hy).2 hn
    have e : Nu.maxF (Nu.fb x) (Nu.fb y) = 2143289344 := by simp [Nu.maxF, ho]
    rw [e]
    by_cases hk : key1 x < key1 y
    · rw [if_pos hk]
      unfold key1 at hk
      by_cases hy0 : y = 2143289344
      · exact hy0.symm
      · have hx0 : x = 2143289344 := by omega
        rw [if_pos hx0, if_neg hy0] at hk
        split at hk <;> omega
    · rw [if_neg hk]
      unfold key1 at hk
      by_cases hx0 : x = 2143289344
      · exact hx0.symm
      · have hy0 : y = 2143289344 := by omega
        rw [if_neg hx0, if_pos hy0] at hk
        split at hk <;> omega
  · have ox : ¬ x = 2143289344 := fun h => hn (.inl h)
    have oy : ¬ y = 2143289344 := fun h => hn (.inr h)
    have nx : Nu.fb x % 2147483648 ≤ 2139095040 := by omega
    have ny : Nu.fb y % 2147483648 ≤ 2139095040 := by omega
    have ho : Nu.ord (Nu.fb x) (Nu.fb y) = some (compare (sg (decide (2147483648 ≤ Nu.fb x)) (Nu.fb x % 2147483648)) (sg (decide (2147483648 ≤ Nu.fb y)) (Nu.fb y % 2147483648))) := by
      unfold Nu.ord Ieee.Format.order
      rw [Nu.read_eq _ hlx, Nu.read_eq _ hly]
      exact dat_order _ _ _ _ nx ny
    by_cases hz : (x = 0 ∨ x = 2147483648) ∧ (y = 0 ∨ y = 2147483648)
    · rw [(Nu.zeros_max x y hz.1 hz.2).1]
      obtain ⟨h1, h2⟩ := hz
      unfold key1 Nu.minI
      rcases h1 with rfl | rfl <;> rcases h2 with rfl | rfl <;> decide
    · by_cases hg : Nu.ord (Nu.fb x) (Nu.fb y) = some .gt
      · rw [Nu.max_gt x y hx hg, if_neg]
        rw [ho, Option.some.injEq] at hg
        have hs : sg (decide (2147483648 ≤ Nu.fb y)) (Nu.fb y % 2147483648) < sg (decide (2147483648 ≤ Nu.fb x)) (Nu.fb x % 2147483648) := by
          rcases Int.lt_trichotomy (sg (decide (2147483648 ≤ Nu.fb x)) (Nu.fb x % 2147483648)) (sg (decide (2147483648 ≤ Nu.fb y)) (Nu.fb y % 2147483648)) with h | h | h
          · rw [Nu.cmp_lt h] at hg; cases hg
          · rw [Nu.cmp_eq h] at hg; cases hg
          · exact h
        unfold sg at hs
        simp only [decide_eq_true_eq] at hs
        unfold key1
        rw [if_neg ox, if_neg oy]
        split at hs <;> split at hs <;> split <;> split <;> omega
      · rw [Nu.max_ngt x y hx hy hn hz hg]
        have hs : ¬ sg (decide (2147483648 ≤ Nu.fb y)) (Nu.fb y % 2147483648) < sg (decide (2147483648 ≤ Nu.fb x)) (Nu.fb x % 2147483648) := fun h => hg (by rw [ho, Nu.cmp_gt h])
        by_cases hk : key1 x < key1 y
        · rw [if_pos hk]
        · rw [if_neg hk]
          unfold sg at hs
          simp only [decide_eq_true_eq] at hs
          unfold key1 at hk
          rw [if_neg ox, if_neg oy] at hk
          split at hs <;> split at hs <;> split at hk <;> split at hk <;> omega

end Go.Proofs.YtahmmilhmoogbaaGreatDoor

namespace Go.Proofs.YtahmmilhmoogbaaGreatDoor

open Go.RowKit

theorem bin_max {t : Int} (ht : t = 1 ∨ t = 6 ∨ t = 7) {x y : Int} (hx : Nu.chk t x = true) (hy : Nu.chk t y = true) : (Nu.bin 4 t x y).1 = if keyT t x < keyT t y then y else x := by
  unfold Nu.bin
  rw [if_pos (by rw [hx, hy]; rfl)]
  rcases ht with rfl | rfl | rfl
  · rw [if_pos rfl]
    show Nu.maxF (Nu.fb x) (Nu.fb y) = _
    rw [max_key1 hx hy]
    rfl
  · have k : ∀ z, keyT 6 z = z := fun z => by unfold keyT; rw [if_neg (by decide)]
    rw [if_neg (by decide), if_neg (by decide), k, k]
    show Nu.wrapT 6 (if y > x then y else x) = _
    unfold Nu.chk at hx hy
    simp only [show ¬ (6 : Int) = 1 by decide, if_false, if_true, decide_eq_true_eq] at hx hy
    unfold Nu.wrapT wrap64 wrap32
    by_cases h : x < y
    · rw [if_pos rfl, if_pos h]
      omega
    · rw [if_pos rfl, if_neg h]
      omega
  · have k : ∀ z, keyT 7 z = z := fun z => by unfold keyT; rw [if_neg (by decide)]
    rw [if_neg (by decide), if_neg (by decide), k, k]
    show Nu.wrapT 7 (if y > x then y else x) = _
    unfold Nu.wrapT
    rw [if_neg (by decide)]

def Top (t : Int) (ys : List Int) (m : Int) : Prop := m ∈ ys ∧ ∀ y ∈ ys, keyT t y ≤ keyT t m

theorem fold_top {t : Int} (ht : t = 1 ∨ t = 6 ∨ t = 7) : ∀ (l : List Int) (z : Int), Nu.chk t z = true → (∀ y ∈ l, Nu.chk t y = true) → Top t (z :: l) (l.foldl (fun x y => (Nu.bin 4 t x y).1) z)
  | [], z, _, _ => ⟨by simp, fun y hy => by simp at hy; subst hy; exact Int.le_refl _⟩
  | a :: l, z, hz, hl => by
    have ha := hl a (by simp)
    rw [List.foldl_cons, bin_max ht hz ha]
    by_cases h : keyT t z < keyT t a
    · rw [if_pos h]
      obtain ⟨m1, m2⟩ := fold_top ht l a ha (fun y hy => hl y (by simp [hy]))
      refine ⟨List.mem_cons_of_mem _ m1, fun y hy => ?_⟩
      rcases List.mem_cons.1 hy with rfl | hy
      · have := m2 a (by simp)
        omega
      · exact m2 y hy
    · rw [if_neg h]
      obtain ⟨m1, m2⟩ := fold_top ht l z hz (fun y hy => hl y (by simp [hy]))
      refine ⟨?_, fun y hy => ?_⟩
      · rcases List.mem_cons.1 m1 with e | m1
        · rw [e]; simp
        · simp [m1]
      · rcases List.mem_cons.1 hy with rfl | hy
        · exact m2 _ (by simp)
        · rcases List.mem_cons.1 hy with rfl | hy
          · have := m2 z (by simp)
            omega
          · exact m2 y (by simp [hy])

theorem mostL_top {t : Int} (ht : t = 1 ∨ t = 6 ∨ t = 7) {ys : List Int} (h0 : 0 < ys.length) (hc : ∀ y ∈ ys, Nu.chk t y = true) : Top t ys (mostL t ys) := by
  match ys, h0 with
  | z :: l, _ => exact fold_top ht l z (hc z (by simp)) (fun y hy => hc y (by simp [hy]))

theorem maxR_inv {A : At} {t ty : Int} {x xs l zs : List Int} (h : maxR A t x xs = .ok (ty, l, zs)) : ty = t ∧ t ≠ 9 ∧ isTypeP t = true ∧ cntE x = 0 ∧ pbE t x xs = 0 ∧ reducedP A x = .ok l ∧ zs = eachL (mostL t) xs (plF x (goneP A x) [0]) (cntF x (goneP A x)) := by
  unfold maxR doR at h
  split at h
  · rename_i ty' l' hn
    obtain ⟨hall, ho⟩ := node_inv hn
    have ht : isTypeP t = true := by
      unfold outR at ho
      obtain ⟨_, hq, -⟩ := bind_ok ho
      exact isType_of hq
    obtain ⟨c1, hts, hp, c3⟩ := outR_inv ho
    simp only [tq, okT, List.all_cons, List.all_nil, Bool.and_true, beq_iff_eq] at hall
    unfold tySame at hts
    obtain ⟨_, hm, hts⟩ := bind_ok hts
    cases hts
    cases h
    refine ⟨rfl, ?_, ht, c1, hall, hp, rfl⟩
    intro e
    subst e
    simp [mustP] at hm
  · cases h

theorem nz_maxR (A : At) (t : Int) (x xs : List Int) : ∀ c, maxR A t x xs = .error c → c ≠ 0 := by
  intro c h
  unfold maxR doR at h
  split at h
  · cases h
  · rename_i c' hn
    cases h
    exact nz_node (nz_outR _ _ _ _ (nz_tysame _) (nz_reduced _ _)) _ hn

end Go.Proofs.YtahmmilhmoogbaaGreatDoor

namespace Go.Proofs.YtahmmilhmoogbaaGreatDoor

open Go.RowKit

theorem pl_id : ∀ (n : Nat) (x : List Int), x.length = n → (∀ z ∈ x, 1 ≤ z) → ∀ k, k < (plF x (List.replicate n false) [0]).length → (plF x (List.replicate n false) [0]).getD k 0 = (k : Int)
  | 0, x, h1, _, k, hk => by
    rw [List.length_eq_zero_iff.1 h1] at *
    simp [plF] at hk
    subst hk
    rfl
  | n + 1, x, h1, hx, k, hk => by
    obtain ⟨ds, d, rfl⟩ : ∃ ds d, x = ds ++ [d] := ⟨x.dropLast, x.getLast (by intro e; rw [e] at h1; simp at h1), (List.dropLast_concat_getLast _).symm⟩
    have e1 : ds.length = n := by simpa using h1
    have hd : 1 ≤ d := hx d (by simp)
    obtain ⟨D, hD⟩ : ∃ D : Nat, d = (D : Int) := ⟨d.toNat, (Int.toNat_of_nonneg (by omega)).symm⟩
    subst hD
    rw [List.replicate_succ', plF_snoc _ false ds (List.replicate n false) _ (by simp; omega), Int.toNat_natCast] at hk ⊢
    rw [furF_len] at hk
    have hm : k / D < (plF ds (List.replicate n false) [0]).length := Nat.div_lt_of_lt_mul (by rw [Nat.mul_comm]; exact hk)
    have hc : k % D < D := Nat.mod_lt _ (by omega)
    have hkk : k = k / D * D + k % D := by rw [Nat.mul_comm]; exact (Nat.div_add_mod k D).symm
    have ih := pl_id n ds e1 (fun z hz => hx z (List.mem_append_left _ hz)) (k / D) hm
    have A1 := furF_at D false (plF ds (List.replicate n false) [0]) (k / D) (k % D) hm hc
    rw [← hkk] at A1
    rw [A1, ih]
    simp only [furG, Bool.false_eq_true, if_false]
    rw [← Int.natCast_mul, ← Int.natCast_add, ← hkk]

theorem grp_last {pl : List Int} {d N : Nat} (hd : 1 ≤ d) (h : ∀ i, i < N → pl.getD i 0 = ((i / d : Nat) : Int)) (p : Nat) : ∀ k, k ≤ N → grpR pl k p = (List.range (min (k - p * d) d)).map fun c => ((p * d + c : Nat) : Int)
  | 0, _ => by simp [grpR]
  | k + 1, hk => by
    have ih := grp_last hd h p k (by omega)
    have hkk : k = k / d * d + k % d := by rw [Nat.mul_comm]; exact (Nat.div_add_mod k d).symm
    have hc : k % d < d := Nat.mod_lt _ hd
    rw [grpR_step, ih, h k (by omega)]
    rcases Nat.lt_trichotomy (k / d) p with hq | hq | hq
    · have hm : (k / d + 1) * d ≤ p * d := Nat.mul_le_mul_right _ hq
      rw [Nat.add_mul] at hm
      rw [if_neg (by simp; omega), show k + 1 - p * d = 0 by omega, show k - p * d = 0 by omega]
      simp
    · rw [hq] at hkk
      rw [if_pos (by simp [hq]), show min (k + 1 - p * d) d = k % d + 1 by omega, show min (k - p * d) d = k % d by omega, List.range_succ, List.map_append]
      congr 1
      simp
      omega
    · have hm : (p + 1) * d ≤ k / d * d := Nat.mul_le_mul_right _ hq
      rw [Nat.add_mul] at hm
      rw [if_neg (by simp; omega), List.append_nil, show min (k + 1 - p * d) d = d by omega, show min (k - p * d) d = d by omega]

def keyZ (t x : Int) : Int := if t = 1 then (if x < 2147483648 then x else 2147483648 - x) else x

theorem ord_keyZ {x y : Int} (hx : Nu.chk 1 x = true) (hy : Nu.chk 1 y = true) (ox : ¬ x = 2143289344) (oy : ¬ y = 2143289344) : Nu.ord (Nu.fb x) (Nu.fb y) = some (compare (keyZ 1 x) (keyZ 1 y)) := by
  have hlx := Nu.fb_lt x
  have hly := Nu.fb_lt y
  have fx := Nu.fb_of x hx
  have fy := Nu.fb_of y hy
  unfold Nu.chk at hx hy
  rw [if_pos rfl] at hx hy
  simp only [decide_eq_true_eq] at hx hy
  unfold Nu.ord Ieee.Format.order
  rw [Nu.read_eq _ hlx, Nu.read_eq _ hly, dat_order _ _ _ _ (by omega) (by omega)]
  have k : ∀ z : Int, Nu.fb z < 4294967296 → ((Nu.fb z : Nat) : Int) = z → sg (decide (2147483648 ≤ Nu.fb z)) (Nu.fb z % 2147483648) = keyZ 1 z := fun z h1 h2 => by
    unfold sg keyZ
    simp only [decide_eq_true_eq, if_true]
    split <;> split <;> omega
  rw [k x hlx fx, k y hly fy]

theorem bin_greater {t : Int} (ht : t = 1 ∨ t = 6 ∨ t = 7) {x y : Int} (hx : Nu.chk t x = true) (hy : Nu.chk t y = true) (ox : ¬ (t = 1 ∧ x = 2143289344)) (oy : ¬ (t = 1 ∧ y = 2143289344)) : ((Nu.bin 11 t x y).1 = 1 ↔ keyZ t y < keyZ t x) ∧ (keyZ t x = keyZ t y → (Nu.bin 9 t x y).1 = 1) := by
  rcases ht with rfl | rfl | rfl
  · have b : ∀ k, Nu.bin k 1 x y = Nu.binFl k (Nu.fb x) (Nu.fb y) := fun k => by unfold Nu.bin; rw [if_pos (by rw [hx, hy]; rfl), if_pos rfl]
    rw [b, b]
    have ho := ord_keyZ hx hy (fun h => ox ⟨rfl, h⟩) (fun h => oy ⟨rfl, h⟩)
    show (Nu.b2i (Nu.ord (Nu.fb x) (Nu.fb y) == some .gt) = 1 ↔ _) ∧ (_ → Nu.b2i (Nu.ord (Nu.fb x) (Nu.fb y) == some .eq) = 1)
    rw [ho]
    rcases Int.lt_trichotomy (keyZ 1 x) (keyZ 1 y) with h | h | h
    · rw [Nu.cmp_lt h]
      exact ⟨⟨fun e => (by cases e), fun e => (by omega)⟩, fun e => (by omega)⟩
    · rw [Nu.cmp_eq h]
      exact ⟨⟨fun e => (by cases e), fun e => (by omega)⟩, fun _ => rfl⟩
    · rw [Nu.cmp_gt h]
      exact ⟨⟨fun _ => h, fun _ => rfl⟩, fun e => by omega⟩
  · have k : ∀ z, keyZ 6 z = z := fun z => by unfold keyZ; rw [if_neg (by decide)]
    have b : ∀ k, Nu.bin k 6 x y = Nu.binIn k 6 x y := fun k => by unfold Nu.bin; rw [if_pos (by rw [hx, hy]; rfl), if_neg (by decide), if_neg (by decide)]
    rw [k, k, b, b]
    show (Nu.b2i (decide (y < x)) = 1 ↔ _) ∧ (_ → Nu.b2i (x == y) = 1)
    constructor
    · by_cases h : y < x
      · simp [h, Nu.b2i]
      · simp [h, Nu.b2i]
    · intro e
      simp [e, Nu.b2i]
  · have k : ∀ z, keyZ 7 z = z := fun z => by unfold keyZ; rw [if_neg (by decide)]
    have b : ∀ k, Nu.bin k 7 x y = Nu.binIn k 7 x y := fun k => by unfold Nu.bin; rw [if_pos (by rw [hx, hy]; rfl), if_neg (by decide), if_neg (by decide)]
    rw [k, k, b, b]
    show (Nu.b2i (decide (y < x)) = 1 ↔ _) ∧ (_ → Nu.b2i (x == y) = 1)
    constructor
    · by_cases h : y < x
      · simp [h, Nu.b2i]
      · simp [h, Nu.b2i]
    · intro e
      simp [e, Nu.b2i]

theorem drop_stepR (l : List Int) (k : Nat) (h : k < l.length) : l.drop k = l.getD k 0 :: l.drop (k + 1) := by
  rw [List.drop_eq_getElem_cons h]
  simp [List.getD, h]

def Fn (t x : Int) : Prop := Nu.chk t x = true ∧ ¬ (t = 1 ∧ x = 2143289344)

theorem arg_fold {t : Int} (ht : t = 1 ∨ t = 6 ∨ t = 7) (ys : List Int) (hf : ∀ y ∈ ys, Fn t y) : ∀ (m k : Nat) (b : Nat), k + 1 + m = ys.length → b ≤ k → (∀ c, c ≤ k → keyZ t (ys.getD c 0) ≤ keyZ t (ys.getD b 0)) → ∃ b' : Nat, ((ys.drop (k + 1)).foldl (argS (fun x y => (Nu.bin 11 t x y).1)) ((k : Int), (b : Int), ys.getD b 0)).2.1 = (b' : Int) ∧ b' < ys.length ∧ ∀ c, c < ys.length → keyZ t (ys.getD c 0) ≤ keyZ t (ys.getD b' 0)
  | 0, k, b, h, hb, hall => by
    rw [List.drop_of_length_le (by omega)]
    exact ⟨b, rfl, by omega, fun c hc => hall c (by omega)⟩
  | m + 1, k, b, h, hb, hall => by
    have hk : k + 1 < ys.length := by omega
    have at' : ∀ i, i < ys.length → Fn t (ys.getD i 0) := fun i hi => hf _ (by simp [List.getD, hi])
    rw [drop_stepR ys (k + 1) hk, List.foldl_cons]
    have g := (bin_greater ht (at' (k + 1) hk).1 (at' b (by omega)).1 (at' (k + 1) hk).2 (at' b (by omega)).2).1
    by_cases hg : keyZ t (ys.getD b 0) < keyZ t (ys.getD (k + 1) 0)
    · have e : argS (fun x y => (Nu.bin 11 t x y).1) ((k : Int), (b : Int), ys.getD b 0) (ys.getD (k + 1) 0) = (((k + 1 : Nat) : Int), ((k + 1 : Nat) : Int), ys.getD (k + 1) 0) := by
        unfold argS
        simp only
        rw [if_pos (g.2 hg)]
        simp
      rw [e]
      refine arg_fold ht ys hf m (k + 1) (k + 1) (by omega) (Nat.le_refl _) fun c hc => ?_
      by_cases hc1 : c = k + 1
      · rw [hc1]; exact Int.le_refl _
      · have := hall c (by omega)
        omega
    · have e : argS (fun x y => (Nu.bin 11 t x y).1) ((k : Int), (b : Int), ys.getD b 0) (ys.getD (k + 1) 0) = (((k + 1 : Nat) : Int), (b : Int), ys.getD b 0) := by
        unfold argS
        simp only
        rw [if_neg (fun h => hg (g.1 h))]
        simp
      rw [e]
      refine arg_fold ht ys hf m (k + 1) b (by omega) (by omega) fun c hc => ?_
      by_cases hc1 : c = k + 1
      · rw [hc1]; omega
      · exact hall c (by omega)

end Go.Proofs.YtahmmilhmoogbaaGreatDoor

namespace Go.Proofs.YtahmmilhmoogbaaGreatDoor

open Go.RowKit

theorem key_mono {t x y : Int} (hx : Fn t x) (hy : Fn t y) (h : keyT t x ≤ keyT t y) : keyZ t x ≤ keyZ t y := by
  obtain ⟨hx, ox⟩ := hx
  obtain ⟨hy, oy⟩ := hy
  unfold keyT at h
  unfold keyZ
  by_cases ht : t = 1
  · subst ht
    rw [if_pos rfl, if_pos rfl] at h
    rw [if_pos rfl, if_pos rfl]
    unfold Nu.chk at hx hy
    rw [if_pos rfl] at hx hy
    simp only [decide_eq_true_eq] at hx hy
    unfold key1 at h
    rw [if_neg (fun e => ox ⟨rfl, e⟩), if_neg (fun e => oy ⟨rfl, e⟩)] at h
    split at h <;> split at h <;> (try split) <;> (try split) <;> omega
  · rw [if_neg ht, if_neg ht] at h
    rw [if_neg ht, if_neg ht]
    exact h

theorem last_groups {ds : List Int} {D : Nat} (hds : ∀ z ∈ ds, 1 ≤ z) (hD : 1 ≤ D) (xs : List Int) (hl : (xs.length : Int) = prod (ds ++ [(D : Int)])) : ∃ M : Nat, cntF (ds ++ [(D : Int)]) (List.replicate ds.length false ++ [true]) = M ∧ M * D = xs.length ∧ ∀ p, p < M → pickL xs (grpR (plF (ds ++ [(D : Int)]) (List.replicate ds.length false ++ [true]) [0]) (plF (ds ++ [(D : Int)]) (List.replicate ds.length false ++ [true]) [0]).length p) = (List.range D).map fun c => xs.getD (p * D + c) 0 := by
  have P := pls_any ds.length ds (List.replicate ds.length false) rfl (by simp) hds
  have hk : keptL true ds (List.replicate ds.length false) = ds := by
    clear P hl xs
    induction ds with
    | nil => rfl
    | cons a l ih =>
      rw [List.length_cons, List.replicate_succ]
      simp [keptL, ih (fun z hz => hds z (by simp [hz]))]
  have hc := cnt_kept ds (List.replicate ds.length false) (by simp) hds
  rw [hk] at hc
  have hp : prod (ds ++ [(D : Int)]) = prod ds * D := by rw [prod_append]; simp [prod]
  have hM : cntF (ds ++ [(D : Int)]) (List.replicate ds.length false ++ [true]) = cntF ds (List.replicate ds.length false) := by
    rw [cntF_snoc _ _ _ _ (by simp), if_pos rfl, Nat.mul_one]
  have hpl : plF (ds ++ [(D : Int)]) (List.replicate ds.length false ++ [true]) [0] = furF D true (plF ds (List.replicate ds.length false) [0]) := by
    rw [plF_snoc _ _ _ _ _ (by simp), Int.toNat_natCast]
  have lp : (plF ds (List.replicate ds.length false) [0]).length = cntF ds (List.replicate ds.length false) := by have := P.len; omega
  have hN : cntF ds (List.replicate ds.length false) * D = xs.length := by
    have : ((cntF ds (List.replicate ds.length false) * D : Nat) : Int) = xs.length := by rw [Int.natCast_mul, hc, hl, hp]
    omega
  refine ⟨_, rfl, by rw [hM]; exact hN, fun p hpM => ?_⟩
  rw [hM] at hpM
  rw [hpl, furF_len, lp, hN]
  have hat : ∀ i, i < xs.length → (furF D true (plF ds (List.replicate ds.length false) [0])).getD i 0 = ((i / D : Nat) : Int) := fun i hi => by
    have hm : i / D < (plF ds (List.replicate ds.length false) [0]).length := Nat.div_lt_of_lt_mul (by rw [lp, Nat.mul_comm, hN]; exact hi)
    have A1 := furF_at D true (plF ds (List.replicate ds.length false) [0]) (i / D) (i % D) hm (Nat.mod_lt _ hD)
    rw [show i / D * D + i % D = i from by rw [Nat.mul_comm]; exact Nat.div_add_mod i D] at A1
    rw [A1]
    simp only [furG, if_true]
    exact pl_id ds.length ds rfl hds _ hm
  rw [grp_last hD hat p xs.length (Nat.le_refl _)]
  have hle : p * D + D ≤ xs.length := by
    rw [← hN, show p * D + D = (p + 1) * D from by rw [Nat.add_mul]; omega]
    exact Nat.mul_le_mul_right _ hpM
  rw [show min (xs.length - p * D) D = D by omega]
  unfold pickL
  rw [List.map_map]
  rfl

theorem axes_last {n : Nat} {g : List Bool} (h : axesO (n + 1) [-1] (List.replicate (n + 1) false) = some g) : g = List.replicate n false ++ [true] := by
  obtain ⟨i, hi, rfl⟩ := axes_one h
  have hf : fromEndP (-1) (n + 1) = (n : Int) := by unfold fromEndP; rw [if_pos (by decide)]; omega
  unfold axisO at hi
  rw [hf, if_neg (by omega), if_neg (by omega)] at hi
  cases hi
  rw [Int.toNat_natCast, List.replicate_succ', List.set_append_right _ _ (by simp)]
  simp

theorem argR_inv {A : At} {t ty : Int} {x xs l zs : List Int} (h : argR A t x xs = .ok (ty, l, zs)) : t ≠ 9 ∧ isTypeP t = true ∧ cntE x = 0 ∧ pbE t x xs = 0 ∧ reducedP A x = .ok l ∧ zs = eachL (firstL t) xs (plF x (goneP A x) [0]) (cntF x (goneP A x)) := by
  unfold argR doR at h
  split at h
  · rename_i ty' l' hn
    obtain ⟨hall, ho⟩ := node_inv hn
    have ht : isTypeP t = true := by
      unfold outR at ho
      obtain ⟨_, hq, -⟩ := bind_ok ho
      exact isType_of hq
    obtain ⟨c1, hts, hp, c3⟩ := outR_inv ho
    simp only [tq, okT, List.all_cons, List.all_nil, Bool.and_true, beq_iff_eq] at hall
    unfold tyArg at hts
    obtain ⟨_, hm, hts⟩ := bind_ok hts
    cases h
    refine ⟨?_, ht, c1, hall, hp, rfl⟩
    intro e
    subst e
    simp [mustP] at hm
  · cases h

theorem points_answer {s : Sl} {t t1 t2 : Int} {x xs x1 as1 x2 bs1 : List Int} (h0 : 0 < x.length) (hn : ∀ z ∈ xs, ¬ (t = 1 ∧ z = 2143289344)) (h1 : argR (kaAt ⟨#[65, 114, 103, 77, 97, 120]⟩ 0 (-1)) t x xs = .ok (t1, x1, as1)) (h2 : maxR (kpAt ⟨#[82, 101, 100, 117, 99, 101, 77, 97, 120]⟩ 0 s [-1]) t x xs = .ok (t2, x2, bs1)) :
    ∃ D M : Nat, x.getD (x.length - 1) 0 = (D : Int) ∧ D ≤ 65536 ∧ M ≤ 65536 ∧ as1.length = M ∧ bs1.length = M ∧ M * D = xs.length ∧ ∀ i, i < M → ∃ k : Nat, as1.getD i 0 = (k : Int) ∧ k < D ∧ (Nu.bin 9 t (xs.getD (i * D + k) 0) (bs1.getD i 0)).1 = 1 := by
  obtain ⟨n9, hty, c1, p1, d1, z1⟩ := argR_inv h1
  obtain ⟨-, -, -, -, -, d2, z2⟩ := maxR_inv h2
  have ht : t = 1 ∨ t = 6 ∨ t = 7 := by
    simp only [isTypeP, Bool.or_eq_true, beq_iff_eq] at hty
    omega
  have F := fine_of c1
  obtain ⟨-, -, -, a1, -⟩ := reduced_gone d1
  obtain ⟨-, -, -, a2, -⟩ := reduced_gone d2
  rw [ka_along] at a1
  rw [kp_along2] at a2
  obtain ⟨ds, d, rfl⟩ : ∃ ds d, x = ds ++ [d] := ⟨x.dropLast, x.getLast (by intro e; rw [e] at h0; simp at h0), (List.dropLast_concat_getLast _).symm⟩
  have hd : 1 ≤ d := F.pos d (by simp)
  have hd2 : d ≤ 65536 := F.le_each (by simp)
  obtain ⟨D, hD⟩ : ∃ D : Nat, d = (D : Int) := ⟨d.toNat, (Int.toNat_of_nonneg (by omega)).symm⟩
  subst hD
  rw [List.length_append, List.length_singleton] at a1 a2
  have g1 := axes_last a1
  have g2 := axes_last a2
  have hl := (pb_inv p1).2
  obtain ⟨M, hM, hMD, hgr⟩ := last_groups (fun z hz => F.pos z (List.mem_append_left _ hz)) (by omega) xs hl
  rw [g1, hM] at z1
  rw [g2, hM] at z2
  have hMle : M ≤ 65536 := by
    have h5 : M * 1 ≤ M * D := Nat.mul_le_mul_left _ (by omega)
    have := F.le
    omega
  refine ⟨D, M, ?_, by omega, hMle, by rw [z1, eachL_len], by rw [z2, eachL_len], hMD, fun i hi => ?_⟩
  · simp [List.getD]
  · have hle : i * D + D ≤ xs.length := by
      rw [← hMD, show i * D + D = (i + 1) * D from by rw [Nat.add_mul]; omega]
      exact Nat.mul_le_mul_right _ hi
    rw [z1, z2, eachL_at _ _ _ _ _ hi, eachL_at _ _ _ _ _ hi, hgr i hi]
    obtain ⟨ys, hys⟩ : ∃ ys, ys = (List.range D).map fun c => xs.getD (i * D + c) 0 := ⟨_, rfl⟩
    rw [← hys]
    have yl : ys.length = D := by rw [hys]; simp
    have yat : ∀ c, c < D → ys.getD c 0 = xs.getD (i * D + c) 0 := fun c hc => by rw [hys]; simp [List.getD, hc]
    have yfn : ∀ y ∈ ys, Fn t y := fun y hy => by
      rw [hys] at hy
      obtain ⟨c, hc, rfl⟩ := List.mem_map.1 hy
      have hm : xs.getD (i * D + c) 0 ∈ xs := by
        have := List.mem_range.1 hc
        simp [List.getD, show i * D + c < xs.length by omega]
      exact ⟨pb_chk p1 _ hm, hn _ hm⟩
    obtain ⟨b, hb, hbl, hbt⟩ := arg_fold ht ys yfn (ys.length - 1) 0 0 (by omega) (Nat.le_refl _) (fun c hc => by rw [show c = 0 by omega]; exact Int.le_refl _)
    have T := mostL_top ht (ys := ys) (by omega) (fun y hy => (yfn y hy).1)
    rw [List.drop_one] at hb
    refine ⟨b, hb, by omega, ?_⟩
    rw [← yat b (by omega)]
    have mb : ys.getD b 0 ∈ ys := by simp [List.getD, hbl]
    have k1 := key_mono (yfn _ mb) (yfn _ T.1) (T.2 _ mb)
    have k2 : keyZ t (mostL t ys) ≤ keyZ t (ys.getD b 0) := by
      obtain ⟨c, hc, e⟩ := List.mem_iff_getElem.1 T.1
      have := hbt c hc
      rw [show ys.getD c 0 = mostL t ys from by simp [List.getD, hc, e]] at this
      exact this
    exact (bin_greater ht (yfn _ mb).1 (yfn _ T.1).1 (yfn _ mb).2 (yfn _ T.1).2).2 (by omega)

theorem points_err (s : Sl) (t : Int) (x xs : List Int) : rC (argR (kaAt ⟨#[65, 114, 103, 77, 97, 120]⟩ 0 (-1)) t x xs) = rC (maxR (kpAt ⟨#[82, 101, 100, 117, 99, 101, 77, 97, 120]⟩ 0 s [-1]) t x xs) := by
  unfold argR maxR
  rw [red_zero _ x _ (ka_keep _ _ _) (ka_along _ _ _), red_zero _ x _ (kp_keep _ _ _ _) (kp_along2 _ _ _ _)]
  unfold nodeP outR tyArg tySame
  split
  · cases typP t with
    | error c => rfl
    | ok _ =>
      cases countP x with
      | error c => rfl
      | ok n =>
        cases mustP (t != 9) with
        | error c => rfl
        | ok _ =>
          cases axesP [-1] x.length with
          | error c => rfl
          | ok g =>
            simp only [Except.bind]
            cases countP (keptL false x g) with
            | error c => rfl
            | ok _ => rfl
  · rfl

end Go.Proofs.YtahmmilhmoogbaaGreatDoor
