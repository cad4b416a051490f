/- Joined texts: RdMostP, RdMostQ, RdAxO. -/
import Derived.Test.YtahmmilhmoogbaaGreatDoorPartBP
import Derived.Test.YtahmmilhmoogbaaGreatDoorPartAW
namespace Go.Proofs.YtahmmilhmoogbaaGreatDoor

open Go.RowKit

def sg (s : Bool) (r : Nat) : Int := if s = true then -(r : Int) else (r : Int)

theorem rel_key {a b r q k : Nat} (h1 : Nu.val r = a * 2 ^ k) (h2 : Nu.val q = b * 2 ^ k) : (a < b ↔ r < q) ∧ (a = b ↔ r = q) ∧ (a = 0 ↔ r = 0) ∧ (b = 0 ↔ q = 0) := by
  have pk : 0 < 2 ^ k := Nat.two_pow_pos k
  have z : Nu.val 0 = 0 := rfl
  have lt : ∀ {a b r q : Nat}, Nu.val r = a * 2 ^ k → Nu.val q = b * 2 ^ k → (a < b ↔ r < q) := fun {a b r q} e1 e2 => by
    constructor
    · intro h
      rcases Nat.lt_trichotomy r q with h3 | h3 | h3
      · exact h3
      · subst h3
        rw [e1] at e2
        have := Nat.eq_of_mul_eq_mul_right pk e2
        omega
      · have h4 := Nu.val_lt q r h3
        rw [e1, e2] at h4
        have := Nat.lt_of_mul_lt_mul_right h4
        omega
    · intro h
      have h4 := Nu.val_lt r q h
      rw [e1, e2] at h4
      exact Nat.lt_of_mul_lt_mul_right h4
  have z0 : Nu.val 0 = 0 * 2 ^ k := by rw [z, Nat.zero_mul]
  have l1 := lt h1 h2
  have l2 := lt h2 h1
  have l3 := lt z0 h1
  have l4 := lt z0 h2
  omega

theorem dat_order (s t : Bool) (r q : Nat) (hr : r ≤ 2139095040) (hq : q ≤ 2139095040) : (Nu.rdm s r).order (Nu.rdm t q) = some (compare (sg s r) (sg t q)) := by
  have inf : ∀ s : Bool, Nu.rdm s 2139095040 = .infinity s := fun s => by simp [Nu.rdm]
  have three : ∀ p q : Int, (p < q ∧ compare p q = .lt) ∨ (p = q ∧ compare p q = .eq) ∨ (q < p ∧ compare p q = .gt) := fun p q => by
    rcases Int.lt_trichotomy p q with h | h | h
    · exact .inl ⟨h, Nu.cmp_lt h⟩
    · exact .inr (.inl ⟨h, Nu.cmp_eq h⟩)
    · exact .inr (.inr ⟨h, Nu.cmp_gt h⟩)
  by_cases h1 : r = 2139095040
  · by_cases h2 : q = 2139095040
    · rw [h1, h2, inf, inf]
      cases s <;> cases t <;> decide +kernel
    · obtain ⟨n, e, e2, _⟩ := Nu.rdm_num t q (by omega)
      rw [h1, inf, e2]
      cases s with
      | false =>
        rw [Nu.cmp_gt (show sg t q < sg false 2139095040 by unfold sg; cases t <;> simp <;> omega)]
        simp [Ieee.Datum.order]
      | true =>
        rw [Nu.cmp_lt (show sg true 2139095040 < sg t q by unfold sg; cases t <;> simp <;> omega)]
        simp [Ieee.Datum.order]
  · by_cases h2 : q = 2139095040
    · obtain ⟨n, e, e2, _⟩ := Nu.rdm_num s r (by omega)
      rw [h2, inf, e2]
      cases t with
      | false =>
        rw [Nu.cmp_lt (show sg s r < sg false 2139095040 by unfold sg; cases s <;> simp <;> omega)]
        simp [Ieee.Datum.order]
      | true =>
        rw [Nu.cmp_gt (show sg true 2139095040 < sg s r by unfold sg; cases s <;> simp <;> omega)]
        simp [Ieee.Datum.order]
    · obtain ⟨m, d, e1, v1⟩ := Nu.rdm_num s r (by omega)
      obtain ⟨n, e, e2, v2⟩ := Nu.rdm_num t q (by omega)
      rw [e1, e2]
      simp only [Ieee.Datum.order, Option.some.injEq, Ieee.signed]
      obtain ⟨k, k1, k2⟩ := Nu.scaled m n d e _ rfl
      rw [k1] at v1
      rw [k2] at v2
      generalize m <<< (-149 + (d : Int) - min (-149 + (d : Int)) (-149 + (e : Int))).toNat = a at *
      generalize n <<< (-149 + (e : Int) - min (-149 + (d : Int)) (-149 + (e : Int))).toNat = b at *
      obtain ⟨i1, i2, i3, i4⟩ := rel_key v1 v2
      unfold sg
      rcases three (if s = true then -(a : Int) else (a : Int)) (if t = true then -(b : Int) else (b : Int)) with ⟨c1, c2⟩ | ⟨c1, c2⟩ | ⟨c1, c2⟩
      · rw [c2, Nu.cmp_lt]
        cases s <;> cases t <;> simp at c1 ⊢ <;> omega
      · rw [c2, Nu.cmp_eq]
        cases s <;> cases t <;> simp at c1 ⊢ <;> omega
      · rw [c2, Nu.cmp_gt]
        cases s <;> cases t <;> simp at c1 ⊢ <;> omega

def key1 (x : Int) : Int := if x = 2143289344 then 4294967296 else if x < 2147483648 then x else 2147483647 - x
def keyT (t x : Int) : Int := if t = 1 then key1 x else x

theorem max_key1 {x y : Int} (hx : Nu.chk 1 x = true) (hy : Nu.chk 1 y = true) : Nu.maxF (Nu.fb x) (Nu.fb y) = if key1 x < key1 y then y else x := by
  have hlx := Nu.fb_lt x
  have hly := Nu.fb_lt y
  have fx := Nu.fb_of x hx
  have fy := Nu.fb_of y hy
  have cx := hx
  have cy := hy
  unfold Nu.chk at cx cy
  rw [if_pos rfl] at cx cy
  simp only [decide_eq_true_eq] at cx cy
  by_cases hn : x = 2143289344 ∨ y = 2143289344
  · have ho := (Nu.ord_none x y hx hy).2 hn
    have e : Nu.maxF (Nu.fb x) (Nu.fb y) = 2143289344 := by simp [Nu.maxF, ho]
    rw [e]
    by_cases hk : key1 x < key1 y
    · rw [if_pos hk]
      unfold key1 at hk
      by_cases hy0 : y = 2143289344
      · exact hy0.symm
      · have hx0 : x = 2143289344 := by omega
        rw [if_pos hx0, if_neg hy0] at hk
        split at hk <;> omega
    · rw [if_neg hk]
      unfold key1 at hk
      by_cases hx0 : x = 2143289344
      · exact hx0.symm
      · have hy0 : y = 2143289344 := by omega
        rw [if_neg hx0, if_pos hy0] at hk
        split at hk <;> omega
  · have ox : ¬ x = 2143289344 := fun h => hn (.inl h)
    have oy : ¬ y = 2143289344 := fun h => hn (.inr h)
    have nx : Nu.fb x % 2147483648 ≤ 2139095040 := by omega
    have ny : Nu.fb y % 2147483648 ≤ 2139095040 := by omega
    have ho : Nu.ord (Nu.fb x) (Nu.fb y) = some (compare (sg (decide (2147483648 ≤ Nu.fb x)) (Nu.fb x % 2147483648)) (sg (decide (2147483648 ≤ Nu.fb y)) (Nu.fb y % 2147483648))) := by
      unfold Nu.ord Ieee.Format.order
      rw [Nu.read_eq _ hlx, Nu.read_eq _ hly]
      exact dat_order _ _ _ _ nx ny
    by_cases hz : (x = 0 ∨ x = 2147483648) ∧ (y = 0 ∨ y = 2147483648)
    · rw [(Nu.zeros_max x y hz.1 hz.2).1]
      obtain ⟨h1, h2⟩ := hz
      unfold key1 Nu.minI
      rcases h1 with rfl | rfl <;> rcases h2 with rfl | rfl <;> decide
    · by_cases hg : Nu.ord (Nu.fb x) (Nu.fb y) = some .gt
      · rw [Nu.max_gt x y hx hg, if_neg]
        rw [ho, Option.some.injEq] at hg
        have hs : sg (decide (2147483648 ≤ Nu.fb y)) (Nu.fb y % 2147483648) < sg (decide (2147483648 ≤ Nu.fb x)) (Nu.fb x % 2147483648) := by
          rcases Int.lt_trichotomy (sg (decide (2147483648 ≤ Nu.fb x)) (Nu.fb x % 2147483648)) (sg (decide (2147483648 ≤ Nu.fb y)) (Nu.fb y % 2147483648)) with h | h | h
          · rw [Nu.cmp_lt h] at hg; cases hg
          · rw [Nu.cmp_eq h] at hg; cases hg
          · exact h
        unfold sg at hs
        simp only [decide_eq_true_eq] at hs
        unfold key1
        rw [if_neg ox, if_neg oy]
        split at hs <;> split at hs <;> split <;> split <;> omega
      · rw [Nu.max_ngt x y hx hy hn hz hg]
        have hs : ¬ sg (decide (2147483648 ≤ Nu.fb y)) (Nu.fb y % 2147483648) < sg (decide (2147483648 ≤ Nu.fb x)) (Nu.fb x % 2147483648) := fun h => hg (by rw [ho, Nu.cmp_gt h])
        by_cases hk : key1 x < key1 y
        · rw [if_pos hk]
        · rw [if_neg hk]
          unfold sg at hs
          simp only [decide_eq_true_eq] at hs
          unfold key1 at hk
          rw [if_neg ox, if_neg oy] at hk
          split at hs <;> split at hs <;> split at hk <;> split at hk <;> omega

end Go.Proofs.YtahmmilhmoogbaaGreatDoor

namespace Go.Proofs.YtahmmilhmoogbaaGreatDoor

open Go.RowKit

theorem bin_max {t : Int} (ht : t = 1 ∨ t = 6 ∨ t = 7) {x y : Int} (hx : Nu.chk t x = true) (hy : Nu.chk t y = true) : (Nu.bin 4 t x y).1 = if keyT t x < keyT t y then y else x := by
  unfold Nu.bin
  rw [if_pos (by rw [hx, hy]; rfl)]
  rcases ht with rfl | rfl | rfl
  · rw [if_pos rfl]
    show Nu.maxF (Nu.fb x) (Nu.fb y) = _
    rw [max_key1 hx hy]
    rfl
  · have k : ∀ z, keyT 6 z = z := fun z => by unfold keyT; rw [if_neg (by decide)]
    rw [if_neg (by decide), if_neg (by decide), k, k]
    show Nu.wrapT 6 (if y > x then y else x) = _
    unfold Nu.chk at hx hy
    simp only [show ¬ (6 : Int) = 1 by decide, if_false, if_true, decide_eq_true_eq] at hx hy
    unfold Nu.wrapT wrap64 wrap32
    by_cases h : x < y
    · rw [if_pos rfl, if_pos h]
      omega
    · rw [if_pos rfl, if_neg h]
      omega
  · have k : ∀ z, keyT 7 z = z := fun z => by unfold keyT; rw [if_neg (by decide)]
    rw [if_neg (by decide), if_neg (by decide), k, k]
    show Nu.wrapT 7 (if y > x then y else x) = _
    unfold Nu.wrapT
    rw [if_neg (by decide)]

theorem key_inj {t x y : Int} (hx : Nu.chk t x = true) (hy : Nu.chk t y = true) (h : keyT t x = keyT t y) : x = y := by
  unfold keyT at h
  by_cases ht : t = 1
  · subst ht
    rw [if_pos rfl, if_pos rfl] at h
    unfold Nu.chk at hx hy
    rw [if_pos rfl] at hx hy
    simp only [decide_eq_true_eq] at hx hy
    unfold key1 at h
    split at h <;> split at h <;> (try split at h) <;> (try split at h) <;> omega
  · rw [if_neg ht, if_neg ht] at h
    exact h

def Top (t : Int) (ys : List Int) (m : Int) : Prop := m ∈ ys ∧ ∀ y ∈ ys, keyT t y ≤ keyT t m

theorem fold_top {t : Int} (ht : t = 1 ∨ t = 6 ∨ t = 7) : ∀ (l : List Int) (z : Int), Nu.chk t z = true → (∀ y ∈ l, Nu.chk t y = true) → Top t (z :: l) (l.foldl (fun x y => (Nu.bin 4 t x y).1) z)
  | [], z, _, _ => ⟨by simp, fun y hy => by simp at hy; subst hy; exact Int.le_refl _⟩
  | a :: l, z, hz, hl => by
    have ha := hl a (by simp)
    rw [List.foldl_cons, bin_max ht hz ha]
    by_cases h : keyT t z < keyT t a
    · rw [if_pos h]
      obtain ⟨m1, m2⟩ := fold_top ht l a ha (fun y hy => hl y (by simp [hy]))
      refine ⟨List.mem_cons_of_mem _ m1, fun y hy => ?_⟩
      rcases List.mem_cons.1 hy with rfl | hy
      · have := m2 a (by simp)
        omega
      · exact m2 y hy
    · rw [if_neg h]
      obtain ⟨m1, m2⟩ := fold_top ht l z hz (fun y hy => hl y (by simp [hy]))
      refine ⟨?_, fun y hy => ?_⟩
      · rcases List.mem_cons.1 m1 with e | m1
        · rw [e]; simp
        · simp [m1]
      · rcases List.mem_cons.1 hy with rfl | hy
        · exact m2 _ (by simp)
        · rcases List.mem_cons.1 hy with rfl | hy
          · have := m2 z (by simp)
            omega
          · exact m2 y (by simp [hy])

theorem mostL_top {t : Int} (ht : t = 1 ∨ t = 6 ∨ t = 7) {ys : List Int} (h0 : 0 < ys.length) (hc : ∀ y ∈ ys, Nu.chk t y = true) : Top t ys (mostL t ys) := by
  match ys, h0 with
  | z :: l, _ => exact fold_top ht l z (hc z (by simp)) (fun y hy => hc y (by simp [hy]))

theorem top_one {t : Int} {ys : List Int} {m m' : Int} (hc : ∀ y ∈ ys, Nu.chk t y = true) (h : Top t ys m) (h' : Top t ys m') : m = m' :=
  key_inj (hc _ h.1) (hc _ h'.1) (by have := h.2 _ h'.1; have := h'.2 _ h.1; omega)

theorem pick_mem {xs pl : List Int} {k p : Nat} {y : Int} : y ∈ pickL xs (grpR pl k p) ↔ ∃ i, i < k ∧ pl.getD i 0 = (p : Int) ∧ y = xs.getD i 0 := by
  unfold pickL grpR
  rw [List.map_map, List.mem_map]
  constructor
  · rintro ⟨i, hi, rfl⟩
    obtain ⟨h1, h2⟩ := List.mem_filter.1 hi
    exact ⟨i, List.mem_range.1 h1, by simpa using h2, rfl⟩
  · rintro ⟨i, h1, h2, rfl⟩
    exact ⟨i, List.mem_filter.2 ⟨List.mem_range.2 h1, by simpa using h2⟩, rfl⟩

theorem most_twice {t : Int} (ht : t = 1 ∨ t = 6 ∨ t = 7) {x xs : List Int} {ga gb : List Bool} (ha : ga.length = x.length) (hb : gb.length = x.length) (hx : ∀ z ∈ x, 1 ≤ z) (hl : (xs.length : Int) = prod x) (hc : ∀ z ∈ xs, Nu.chk t z = true) :
    eachL (mostL t) (eachL (mostL t) xs (plF x ga [0]) (cntF x ga)) (plF (keptL true x ga) gb [0]) (cntF (keptL true x ga) gb) = eachL (mostL t) xs (plF x (gor ga gb) [0]) (cntF x (gor ga gb)) := by
  have hk := kept_all x ga ha
  have hkf := (kept_fine true x ga hx).1
  have hor : (gor ga gb).length = x.length := by rw [gor_len (by omega)]; omega
  have Pa := pls_any x.length x ga rfl ha hx
  have Pb := pls_any x.length (keptL true x ga) gb hk (by omega) hkf
  have Po := pls_any x.length x (gor ga gb) rfl hor hx
  have Aa := plF_all x.length x ga rfl ha hx
  have Ab := plF_all x.length (keptL true x ga) gb hk (by omega) hkf
  have Ao := plF_all x.length x (gor ga gb) rfl hor hx
  have hca := cnt_kept x ga ha hx
  have hcb := cnt_kept (keptL true x ga) gb (by omega) hkf
  have hco := cnt_kept x (gor ga gb) hor hx
  rw [kept_kept x ga gb ha hb] at hcb
  have eC : cntF (keptL true x ga) gb = cntF x (gor ga gb) := by omega
  have lb : (plF (keptL true x ga) gb [0]).length = cntF x ga := by have := Pb.len; omega
  have la : (plF x ga [0]).length = xs.length := by have := Pa.len; omega
  have lo : (plF x (gor ga gb) [0]).length = xs.length := by have := Po.len; omega
  have PP := pl_pl x.length x ga gb rfl ha hb hx
  have chkp : ∀ {i : Nat}, i < xs.length → Nu.chk t (xs.getD i 0) = true := fun {i} hi => hc _ (by simp [List.getD, hi])
  have gchk : ∀ (pl : List Int) (p : Nat), ∀ y ∈ pickL xs (grpR pl xs.length p), Nu.chk t y = true := fun pl p y hy => by
    obtain ⟨i, hi, -, rfl⟩ := pick_mem.1 hy
    exact chkp hi
  have TA : ∀ j, j < cntF x ga → Top t (pickL xs (grpR (plF x ga [0]) xs.length j)) ((eachL (mostL t) xs (plF x ga [0]) (cntF x ga)).getD j 0) := fun j hj => by
    rw [eachL_at _ _ _ _ _ hj, la]
    refine mostL_top ht ?_ (gchk _ _)
    have := grpR_pos (Aa j hj)
    unfold pickL
    rw [List.length_map, ← la]
    exact this
  have bchk : ∀ p, ∀ y ∈ pickL (eachL (mostL t) xs (plF x ga [0]) (cntF x ga)) (grpR (plF (keptL true x ga) gb [0]) (cntF x ga) p), Nu.chk t y = true := fun p y hy => by
    obtain ⟨j, hj, -, rfl⟩ := pick_mem.1 hy
    exact gchk _ _ _ (TA j hj).1
  rw [eC]
  unfold eachL
  refine List.map_congr_left fun p hp => ?_
  have hpC := List.mem_range.1 hp
  show mostL t (pickL (eachL (mostL t) xs (plF x ga [0]) (cntF x ga)) (grpR (plF (keptL true x ga) gb [0]) (plF (keptL true x ga) gb [0]).length p)) = mostL t (pickL xs (grpR (plF x (gor ga gb) [0]) (plF x (gor ga gb) [0]).length p))
  rw [lb, lo]
  have TB := mostL_top ht (ys := pickL (eachL (mostL t) xs (plF x ga [0]) (cntF x ga)) (grpR (plF (keptL true x ga) gb [0]) (cntF x ga) p)) (by
    have := grpR_pos (Ab p (by omega))
    rw [lb] at this
    unfold pickL
    rw [List.length_map]
    exact this) (bchk p)
  have TO := mostL_top ht (ys := pickL xs (grpR (plF x (gor ga gb) [0]) xs.length p)) (by
    have := grpR_pos (Ao p hpC)
    rw [lo] at this
    unfold pickL
    rw [List.length_map]
    exact this) (gchk _ _)
  refine top_one (gchk _ _) ⟨?_, fun y hy => ?_⟩ TO
  · obtain ⟨j, hj, hjp, e⟩ := pick_mem.1 TB.1
    have h1 := (TA j hj).1
    rw [← e] at h1
    obtain ⟨i, hi, hij, e2⟩ := pick_mem.1 h1
    refine pick_mem.2 ⟨i, hi, ?_, e2⟩
    rw [PP i (by omega), hij, Int.toNat_natCast]
    exact hjp
  · obtain ⟨i, hi, hip, rfl⟩ := pick_mem.1 hy
    have hm := Pa.mem ((plF x ga [0]).getD i 0) (by simp [List.getD, show i < (plF x ga [0]).length by omega])
    obtain ⟨j, hj⟩ : ∃ j : Nat, (plF x ga [0]).getD i 0 = (j : Int) := ⟨_, (Int.toNat_of_nonneg hm.1).symm⟩
    have hjC : j < cntF x ga := by omega
    have h1 := (TA j hjC).2 (xs.getD i 0) (pick_mem.2 ⟨i, hi, hj, rfl⟩)
    rw [PP i (by omega), hj, Int.toNat_natCast] at hip
    have h2 := TB.2 _ (pick_mem.2 ⟨j, hjC, hip, rfl⟩)
    omega

theorem gor_comm (a b : List Bool) : gor a b = gor b a := by
  unfold gor
  rw [List.zipWith_comm]
  simp only [Bool.or_comm]

theorem maxR_inv {A : At} {t ty : Int} {x xs l zs : List Int} (h : maxR A t x xs = .ok (ty, l, zs)) : ty = t ∧ t ≠ 9 ∧ isTypeP t = true ∧ cntE x = 0 ∧ pbE t x xs = 0 ∧ reducedP A x = .ok l ∧ zs = eachL (mostL t) xs (plF x (goneP A x) [0]) (cntF x (goneP A x)) := by
  unfold maxR doR at h
  split at h
  · rename_i ty' l' hn
    obtain ⟨hall, ho⟩ := node_inv hn
    have ht : isTypeP t = true := by
      unfold outR at ho
      obtain ⟨_, hq, -⟩ := bind_ok ho
      exact isType_of hq
    obtain ⟨c1, hts, hp, c3⟩ := outR_inv ho
    simp only [tq, okT, List.all_cons, List.all_nil, Bool.and_true, beq_iff_eq] at hall
    unfold tySame at hts
    obtain ⟨_, hm, hts⟩ := bind_ok hts
    cases hts
    cases h
    refine ⟨rfl, ?_, ht, c1, hall, hp, rfl⟩
    intro e
    subst e
    simp [mustP] at hm
  · cases h

theorem nz_maxR (A : At) (t : Int) (x xs : List Int) : ∀ c, maxR A t x xs = .error c → c ≠ 0 := by
  intro c h
  unfold maxR doR at h
  split at h
  · cases h
  · rename_i c' hn
    cases h
    exact nz_node (nz_outR _ _ _ _ (nz_tysame _) (nz_reduced _ _)) _ hn

theorem most_answer {s1 s2 s3 : Sl} {t t1 t2 t3 a b : Int} {x xs x1 xs1 x2 xs2 x3 xs3 : List Int} (h1 : maxR (kpAt ⟨#[82, 101, 100, 117, 99, 101, 77, 97, 120]⟩ 1 s1 [a]) t x xs = .ok (t1, x1, xs1)) (h2 : maxR (kpAt ⟨#[82, 101, 100, 117, 99, 101, 77, 97, 120]⟩ 1 s2 [b]) t1 x1 xs1 = .ok (t2, x2, xs2)) (h3 : maxR (kpAt ⟨#[82, 101, 100, 117, 99, 101, 77, 97, 120]⟩ 1 s3 [a, b]) t x xs = .ok (t3, x3, xs3)) : t2 = t3 ∧ x2 = x3 ∧ xs2 = xs3 := by
  obtain ⟨rfl, n9, hty, c1, p1, d1, z1⟩ := maxR_inv h1
  obtain ⟨rfl, -, -, c2, p2, d2, z2⟩ := maxR_inv h2
  obtain ⟨rfl, -, -, -, -, d3, z3⟩ := maxR_inv h3
  have ht : t3 = 1 ∨ t3 = 6 ∨ t3 = 7 := by
    simp only [isTypeP, Bool.or_eq_true, beq_iff_eq] at hty
    omega
  have F := fine_of c1
  obtain ⟨k1, e1, l1, a1, g1⟩ := reduced_gone d1
  obtain ⟨k2, e2, l2, a2, g2⟩ := reduced_gone d2
  obtain ⟨k3, e3, l3, a3, g3⟩ := reduced_gone d3
  rw [kp_keep] at e1 e2 e3
  cases e1
  cases e2
  cases e3
  rw [kp_along2] at a1 a2 a3
  subst l1
  have hl := kept_all x _ g1
  rw [hl] at a2 g2
  have eg := axes_two a2 a1 a3
  rw [gor_comm] at eg
  refine ⟨rfl, ?_, ?_⟩
  · rw [l2, l3, eg, kept_kept x _ _ g1 g2]
  · rw [z2, z3, z1, eg]
    exact most_twice ht g1 g2 F.pos (pb_inv p1).2 (pb_chk p1)

end Go.Proofs.YtahmmilhmoogbaaGreatDoor

namespace Go.Proofs.YtahmmilhmoogbaaGreatDoor

open Go.RowKit

set_option maxRecDepth 100000 in
set_option maxHeartbeats 4000000 in
theorem axis_own (op : ByteArray) (hop : (op.toList == [65, 114, 103, 77, 97, 120]) = false) (a k : Int) (w : World) (ha : Rng a) : Calls Tryz.prog 10 #[.string op, .int .i64 a, .int .i64 k] w fun e w' => ∃ (s : Sl) (bi g cap base : Nat), e = .returned (nval ⟨op, ⟨#[]⟩, ⟨some ⟨bi, 0, none⟩, 1, 1⟩, ⟨#[122]⟩, ⟨some ⟨g, 0, none⟩, 1 + 1, cap⟩⟩) ∧ w.grownBy w' none ∧ (w'.heap[bi]? = some (.cells #[.string ⟨#[120]⟩] 9 (0, 0)) ∧ bi ≠ g) ∧ IsInts w' s.v [a] ∧ w.heap.size ≤ base ∧ w'.ownsRow base 41 9 (.slice (some ⟨g, 0, none⟩) (1 + 1) cap) (1 + 1) (acells (inI ⟨#[107, 101, 101, 112, 100, 105, 109, 115]⟩ k) ++ acells (inA ⟨#[97, 120, 101, 115]⟩ s)) := by
  obtain ⟨i1, hj, jz0, jz1, jz2⟩ := info_parts infoAtt
  obtain ⟨W1, hW1⟩ : ∃ W, W = ((((w.alloc (.cells #[.string ⟨#[]⟩, .string ⟨#[]⟩, .slice none 0 0, .string ⟨#[]⟩, .slice none 0 0] 35)).alloc (.cells #[.string ⟨#[120]⟩] 9)).alloc (.cells #[.string ⟨#[107, 101, 101, 112, 100, 105, 109, 115]⟩, .int .i64 2, .int .i64 0, .int .i64 k, .string ⟨#[]⟩, .int .i64 0, .slice none 0 0, .slice none 0 0, .slice none 0 0] 41)).alloc (.cells #[.string op, .string ⟨#[]⟩, .slice (some ⟨w.heap.size + 1, 0, none⟩) 1 1, .string ⟨#[122]⟩, .slice (some ⟨w.heap.size + 1 + 1, 0, none⟩) 1 1] 35)) := ⟨_, rfl⟩
  obtain ⟨b0, b1, b2, b3, g1, z1⟩ := four_boxes w _ _ _ _ W1 hW1
  obtain ⟨W3, hW3⟩ : ∃ W, W = ((W1.alloc (.cells #[.int .i64 a] 2)).alloc (.cells #[.string ⟨#[97, 120, 101, 115]⟩, .int .i64 7, .int .i64 0, .int .i64 0, .string ⟨#[]⟩, .int .i64 0, .slice none 0 0, .slice none 0 0, .slice (some ⟨w.heap.size + 1 + 1 + 1 + 1, 0, none⟩) 1 1] 41)) := ⟨_, rfl⟩
  have hb := two_boxes W1 (.cells #[.int .i64 a] 2) (.cells #[.string ⟨#[97, 120, 101, 115]⟩, .int .i64 7, .int .i64 0, .int .i64 0, .string ⟨#[]⟩, .int .i64 0, .slice none 0 0, .slice none 0 0, .slice (some ⟨w.heap.size + 1 + 1 + 1 + 1, 0, none⟩) 1 1] 41)
  rw [← hW3, z1] at hb
  have g3 : W1.grownBy W3 none := by rw [hW3]; exact grown_trans (grown_new _ _) (grown_new _ _)
  have D1 := hb.1
  have D2 := hb.2
  have B2 := box_kept b2 g3
  obtain ⟨n0, n1, n2, n3, n4⟩ := nod_cells (n := ⟨op, ⟨#[]⟩, ⟨some ⟨w.heap.size + 1, 0, none⟩, 1, 1⟩, ⟨#[122]⟩, ⟨some ⟨w.heap.size + 1 + 1, 0, none⟩, 1, 1⟩⟩) b3
  simp only at n0 n1 n2 n3 n4
  rw [hW1] at n4
  have FIN : Hid (∀ (w8 : World) (g cap : Nat), W3.grownBy w8 none → w8.ownsRow W3.heap.size 41 9 (.slice (some ⟨g, 0, none⟩) (1 + 1) cap) (1 + 1) (acells (inI ⟨#[107, 101, 101, 112, 100, 105, 109, 115]⟩ k) ++ acells (inA ⟨#[97, 120, 101, 115]⟩ ⟨some ⟨w.heap.size + 1 + 1 + 1 + 1, 0, none⟩, 1, 1⟩)) → w8.frozen? ⟨w.heap.size + 1 + 1 + 1, 4, none⟩ = false ∧ w8.cell? ⟨w.heap.size + 1 + 1 + 1, 4, none⟩ = some (.slice (some ⟨w.heap.size + 1 + 1, 0, none⟩) 1 1) ∧ ∀ q, q = w8.setCell ⟨w.heap.size + 1 + 1 + 1, 4, none⟩ (.slice (some ⟨g, 0, none⟩) (1 + 1) cap) → q.heap[w.heap.size + 1 + 1 + 1]? = some (.cells #[.string op, .string ⟨#[]⟩, .slice (some ⟨w.heap.size + 1, 0, none⟩) 1 1, .string ⟨#[122]⟩, .slice (some ⟨g, 0, none⟩) (1 + 1) cap] 35 (0, 0)) ∧ q.heap[w.heap.size]? = some (.cells #[.string ⟨#[]⟩, .string ⟨#[]⟩, .slice none 0 0, .string ⟨#[]⟩, .slice none 0 0] 35 (0, 0)) ∧ ∀ z, q.grownBy z (some (w.heap.size)) → w.grownBy z none ∧ (z.heap[w.heap.size + 1]? = some (.cells #[.string ⟨#[120]⟩] 9 (0, 0)) ∧ w.heap.size + 1 ≠ g) ∧ IsInts z (.slice (some ⟨w.heap.size + 1 + 1 + 1 + 1, 0, none⟩) 1 1) [a] ∧ w.heap.size ≤ W3.heap.size ∧ z.ownsRow W3.heap.size 41 9 (.slice (some ⟨g, 0, none⟩) (1 + 1) cap) (1 + 1) (acells (inI ⟨#[107, 101, 101, 112, 100, 105, 109, 115]⟩ k) ++ acells (inA ⟨#[97, 120, 101, 115]⟩ ⟨some ⟨w.heap.size + 1 + 1 + 1 + 1, 0, none⟩, 1, 1⟩))) := fun w8 g cap h1 h2 => by
    have hz3 : w.heap.size + 1 + 1 + 1 + 1 + 1 < W3.heap.size := (Array.getElem?_eq_some_iff.1 D2).1
    have k3 := box_kept b3 (grown_trans g3 h1)
    obtain ⟨-, -, -, -, m4⟩ := nod_cells (n := ⟨op, ⟨#[]⟩, ⟨some ⟨w.heap.size + 1, 0, none⟩, 1, 1⟩, ⟨#[122]⟩, ⟨some ⟨w.heap.size + 1 + 1, 0, none⟩, 1, 1⟩⟩) k3
    refine ⟨(nod_frozen k3).2.2.2.2, m4, fun q hq => ?_⟩
    have kq := heap_setCell_same w8 (w.heap.size + 1 + 1 + 1) 4 _ _ (.slice (some ⟨g, 0, none⟩) (1 + 1) cap) k3
    have gq := set_grownR w8 (w.heap.size + 1 + 1 + 1) 4 (.slice (some ⟨g, 0, none⟩) (1 + 1) cap)
    rw [← hq] at kq gq
    have hs := h1.size
    have g13 := grown_trans g1 (grown_trans g3 h1)
    have hg1 := (World.ownsRow.lt h2 g rfl).1
    refine ⟨by simpa using kq, (gq.block _ (by omega) (by simp only [ne_eq, Option.some.injEq]; omega)).trans (box_kept b0 (grown_trans g3 h1)), fun z hz => ?_⟩
    have up : ∀ (i : Nat) (o : Obj), i ≠ w.heap.size → i ≠ w.heap.size + 1 + 1 + 1 → i < w8.heap.size → w8.heap[i]? = some o → z.heap[i]? = some o := fun i o e1 e2 e3 e4 => (hz.block i (Nat.lt_of_lt_of_le e3 gq.size) (by simp only [ne_eq, Option.some.injEq]; exact e1)).trans ((gq.block i e3 (by simp only [ne_eq, Option.some.injEq]; exact e2)).trans e4)
    refine ⟨grown_drop (grown_drop g13 gq (by omega)) hz (Nat.le_refl _), ⟨up _ _ (by omega) (by omega) (by omega) (box_kept b1 (grown_trans g3 h1)), by omega⟩, blk_ints (zs := [a]) (up _ _ (by omega) (by omega) (by omega) (box_kept D1 h1)) (by simp) (fun z hz => by simp at hz; subst hz; exact ha), by omega, World.ownsRow.kept (World.ownsRow.kept h2 gq (.inr (by simp only [Value.ownBlock, ne_eq, Option.some.injEq]; omega))) hz (.inr (by simp only [Value.ownBlock, ne_eq, Option.some.injEq]; omega))⟩
  have H2 := hide B2
  have HD2 := hide D2
  have Z1 := hide z1
  clear b0 b1 b2 b3 g1 g3 n0 n1 n2 n3 B2 D2 z1 D1 hb ha
  go_enter Tryz.func10, Tryz.ntmps10
  go_wp2_with (first | (at_builtin; rw [← hW1, ← hW3]; refine wpList_append_grows _ rfl (.tmp 24) (.tmp 28) 33 rfl 41 i1 (.agg #[.string ⟨#[]⟩, .int .i64 0, .int .i64 0, .int .i64 0, .string ⟨#[]⟩, .int .i64 0, .slice none 0 0, .slice none 0 0, .slice none 0 0]) 9 136 Tryz.underlying33 hj jz0 jz1 jz2 rfl (by decide) (some ⟨w.heap.size + 1 + 1, 0, none⟩) 1 1 (acells (inI ⟨#[107, 101, 101, 112, 100, 105, 109, 115]⟩ k)) rfl (fun e => by cases e) rfl (fun b e => by cases e; exact World.news_of_block H2.out) ⟨w.heap.size + 1 + 1 + 1 + 1 + 1, 0, none⟩ 1 1 (acells (inA ⟨#[97, 120, 101, 115]⟩ ⟨some ⟨w.heap.size + 1 + 1 + 1 + 1, 0, none⟩, 1, 1⟩)) rfl rfl (World.news_of_block HD2.out) (acell_one _) (by omega) (by simp only [maxLen]; omega) (by omega) ?_; intro v8 w8 hown8 hg8; obtain ⟨g, cap, rfl⟩ := own_sliceR hown8 (by omega); obtain ⟨f4, c4, fq⟩ := FIN.out w8 g cap hg8 hown8; obtain ⟨kq, k0, fz⟩ := fq _ rfl; obtain ⟨m0, m1, m2, m3, m4⟩ := nod_cells (n := ⟨op, ⟨#[]⟩, ⟨some ⟨w.heap.size + 1, 0, none⟩, 1, 1⟩, ⟨#[122]⟩, ⟨some ⟨g, 0, none⟩, 1 + 1, cap⟩⟩) kq; obtain ⟨r0, r1, r2, r3, r4⟩ := nod_cells (n := ⟨⟨#[]⟩, ⟨#[]⟩, ⟨none, 0, 0⟩, ⟨#[]⟩, ⟨none, 0, 0⟩⟩) k0; simp only at m0 m1 m2 m3 m4 r0 r1 r2 r3 r4; obtain ⟨f0, f1, f2, f3, f5⟩ := nod_frozen k0; obtain ⟨st, sg⟩ := store5r (.string op) (.string ⟨#[]⟩) (.slice (some ⟨w.heap.size + 1, 0, none⟩) 1 1) (.string ⟨#[122]⟩) (.slice (some ⟨g, 0, none⟩) (1 + 1) cap) k0; have FZ := hide (fz _ sg); have ST := hide st; clear hown8 hg8 n4 fq kq k0 fz st sg) | fail)
  refine bodyPost_ret (ret_nod rfl _ _ w.heap.size rfl ST.out) rfl ?_
  exact ⟨⟨some ⟨w.heap.size + 1 + 1 + 1 + 1, 0, none⟩, 1, 1⟩, _, g, cap, _, rfl, FZ.out⟩

end Go.Proofs.YtahmmilhmoogbaaGreatDoor
