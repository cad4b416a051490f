/- Joined texts: RdIntsQ, RdIntsR, RdAxO. -/
import Derived.Test.YtahmmilhmoogbaaGreatDoorPartBN
namespace Go.Proofs.YtahmmilhmoogbaaGreatDoor

open Go.RowKit

def SI (f : Nat → Int) : Nat → Int
  | 0 => 0
  | n + 1 => SI f n + f n

theorem SI_congr {f g : Nat → Int} : ∀ n, (∀ i, i < n → f i = g i) → SI f n = SI g n
  | 0, _ => rfl
  | n + 1, h => by
    simp only [SI]
    rw [SI_congr n (fun i hi => h i (by omega)), h n (by omega)]

theorem grp_sum (xs pl : List Int) (p : Nat) : ∀ k, (pickL xs (grpR pl k p)).sum = SI (fun i => if pl.getD i 0 = (p : Int) then xs.getD i 0 else 0) k
  | 0 => rfl
  | k + 1 => by
    have ih := grp_sum xs pl p k
    rw [grpR_step]
    unfold pickL at ih ⊢
    rw [List.map_append, List.sum_append, ih]
    simp only [SI]
    congr 1
    by_cases h : pl.getD k 0 = (p : Int)
    · rw [if_pos (by rw [h]; simp), if_pos h]
      simp
    · rw [if_neg (by simpa using h), if_neg h]
      rfl

def WT (t z : Int) : Int := Nu.wrapT t (wrap64 z)

theorem WT_left {t : Int} (ht : t = 6 ∨ t = 7) (a b : Int) : WT t (WT t a + b) = WT t (a + b) := by
  rcases ht with rfl | rfl
  · unfold WT Nu.wrapT wrap64 wrap32
    simp only [if_pos]
    omega
  · unfold WT Nu.wrapT wrap64
    simp only [show ¬ (7 : Int) = 6 by decide, if_false]
    omega

theorem WT_right {t : Int} (ht : t = 6 ∨ t = 7) (a b : Int) : WT t (a + WT t b) = WT t (a + b) := by
  rw [Int.add_comm a, WT_left ht, Int.add_comm]

theorem WT_chk {t : Int} (ht : t = 6 ∨ t = 7) (a : Int) : Nu.chk t (WT t a) = true := by
  rcases ht with rfl | rfl
  · unfold WT Nu.wrapT wrap64 wrap32 Nu.chk
    simp only [if_pos, show ¬ (6 : Int) = 1 by decide, if_false, decide_eq_true_eq]
    omega
  · unfold Nu.chk
    simp

theorem WT_zero {t : Int} (ht : t = 6 ∨ t = 7) : WT t 0 = 0 ∧ Nu.chk t 0 = true := by
  rcases ht with rfl | rfl
  · exact ⟨by kernel_rfl, by kernel_rfl⟩
  · exact ⟨by kernel_rfl, by kernel_rfl⟩

theorem bin_add {t : Int} (ht : t = 6 ∨ t = 7) {x y : Int} (hx : Nu.chk t x = true) (hy : Nu.chk t y = true) : (Nu.bin 0 t x y).1 = WT t (x + y) := by
  unfold Nu.bin
  rw [hx, hy]
  rcases ht with rfl | rfl
  · simp [Nu.binIn, WT]
  · simp [Nu.binIn, WT]

theorem fold_sum {t : Int} (ht : t = 6 ∨ t = 7) : ∀ (ys : List Int) (z : Int), (∀ y ∈ ys, Nu.chk t y = true) → Nu.chk t z = true → WT t z = z → ys.foldl (fun x y => (Nu.bin 0 t x y).1) z = WT t (z + ys.sum)
  | [], z, _, _, hw => by simp [hw]
  | y :: ys, z, hy, hz, hw => by
    rw [List.foldl_cons, bin_add ht hz (hy y (by simp)), fold_sum ht ys _ (fun q hq => hy q (by simp [hq])) (WT_chk ht _) (by
      have := WT_left ht (z + y) 0
      simpa using this), List.sum_cons, WT_left ht, Int.add_assoc]

theorem addL_sum {t : Int} (ht : t = 6 ∨ t = 7) {ys : List Int} (hy : ∀ y ∈ ys, Nu.chk t y = true) : addL t ys = WT t ys.sum := by
  unfold addL
  rw [fold_sum ht ys 0 hy (WT_zero ht).2 (WT_zero ht).1, Int.zero_add]

theorem SI_WT {t : Int} (ht : t = 6 ∨ t = 7) (c : Nat → Prop) [DecidablePred c] (s : Nat → Int) : ∀ n, WT t (SI (fun j => if c j then WT t (s j) else 0) n) = WT t (SI (fun j => if c j then s j else 0) n)
  | 0 => rfl
  | n + 1 => by
    have ih := SI_WT ht c s n
    simp only [SI]
    by_cases h : c n
    · rw [if_pos h, if_pos h, WT_right ht, ← WT_left ht, ih, WT_left ht]
    · rw [if_neg h, if_neg h, ← WT_left ht, ih, WT_left ht]

theorem SI_zero : ∀ n, SI (fun _ => 0) n = 0
  | 0 => rfl
  | n + 1 => by simp [SI, SI_zero n]

theorem SI_add (f g : Nat → Int) : ∀ n, SI (fun i => f i + g i) n = SI f n + SI g n
  | 0 => rfl
  | n + 1 => by
    simp only [SI, SI_add f g n]
    omega

theorem SI_one (c : Nat → Prop) [DecidablePred c] (v : Int) (m : Nat) : ∀ n, SI (fun j => if c j then (if (m : Int) = (j : Int) then v else 0) else 0) n = if m < n then (if c m then v else 0) else 0
  | 0 => rfl
  | n + 1 => by
    simp only [SI, SI_one c v m n]
    by_cases e : m = n
    · subst e
      simp
    · have e' : ¬ (m : Int) = (n : Int) := fun h => e (by omega)
      simp only [e', if_false, ite_self, Int.add_zero]
      by_cases h : m < n
      · simp [h, Nat.lt_succ_of_lt h]
      · have h2 : ¬ m < n + 1 := by omega
        simp [h, h2]

theorem SI_swap (c : Nat → Prop) [DecidablePred c] (a x : Nat → Int) (M : Nat) : ∀ N, (∀ i, i < N → 0 ≤ a i ∧ a i < (M : Int)) → SI (fun j => if c j then SI (fun i => if a i = (j : Int) then x i else 0) N else 0) M = SI (fun i => if c (a i).toNat then x i else 0) N
  | 0, _ => by
    simp only [SI]
    rw [SI_congr M (g := fun _ => 0) (fun j _ => by split <;> rfl), SI_zero]
  | N + 1, h => by
    have ih := SI_swap c a x M N (fun i hi => h i (by omega))
    obtain ⟨h1, h2⟩ := h N (by omega)
    obtain ⟨m, hm⟩ : ∃ m : Nat, a N = (m : Int) := ⟨_, (Int.toNat_of_nonneg h1).symm⟩
    simp only [SI]
    rw [← ih, SI_congr M (g := fun j => (if c j then SI (fun i => if a i = (j : Int) then x i else 0) N else 0) + (if c j then (if (m : Int) = (j : Int) then x N else 0) else 0)) (fun j _ => by
      rw [hm]
      split <;> simp), SI_add, SI_one c (x N) m M, if_pos (by omega), hm, Int.toNat_natCast]

theorem eachL_at (f : List Int → Int) (xs pl : List Int) (c j : Nat) (h : j < c) : (eachL f xs pl c).getD j 0 = f (pickL xs (grpR pl pl.length j)) := by
  simp [eachL, List.getD, h]

theorem chk_at {t : Int} (ht : t = 6 ∨ t = 7) {xs : List Int} (h : ∀ z ∈ xs, Nu.chk t z = true) (i : Nat) : Nu.chk t (xs.getD i 0) = true := by
  simp only [List.getD]
  cases e : xs[i]? with
  | none => exact (WT_zero ht).2
  | some z => exact h z (List.mem_of_getElem? e)

theorem chk_pick {t : Int} (ht : t = 6 ∨ t = 7) {xs : List Int} (h : ∀ z ∈ xs, Nu.chk t z = true) (ns : List Int) : ∀ y ∈ pickL xs ns, Nu.chk t y = true := by
  intro y hy
  unfold pickL at hy
  obtain ⟨z, -, rfl⟩ := List.mem_map.1 hy
  exact chk_at ht h _

theorem sums_twice {t : Int} (ht : t = 6 ∨ t = 7) {x xs : List Int} {ga gb : List Bool} (ha : ga.length = x.length) (hb : gb.length = x.length) (hx : ∀ z ∈ x, 1 ≤ z) (hc : ∀ z ∈ xs, Nu.chk t z = true) :
    eachL (addL t) (eachL (addL t) xs (plF x ga [0]) (cntF x ga)) (plF (keptL true x ga) gb [0]) (cntF (keptL true x ga) gb) = eachL (addL t) xs (plF x (gor ga gb) [0]) (cntF x (gor ga gb)) := by
  have hk := kept_all x ga ha
  have hkf := (kept_fine true x ga hx).1
  have hor : (gor ga gb).length = x.length := by rw [gor_len (by omega)]; omega
  have Pa := pls_any x.length x ga rfl ha hx
  have Pb := pls_any x.length (keptL true x ga) gb hk (by omega) hkf
  have Po := pls_any x.length x (gor ga gb) rfl hor hx
  have hca := cnt_kept x ga ha hx
  have hcb := cnt_kept (keptL true x ga) gb (by omega) hkf
  have hco := cnt_kept x (gor ga gb) hor hx
  rw [kept_kept x ga gb ha hb] at hcb
  have eC : cntF (keptL true x ga) gb = cntF x (gor ga gb) := by omega
  have lb : (plF (keptL true x ga) gb [0]).length = cntF x ga := by have := Pb.len; omega
  have lo : (plF x (gor ga gb) [0]).length = (plF x ga [0]).length := by have := Po.len; have := Pa.len; omega
  have hc1 : ∀ z ∈ eachL (addL t) xs (plF x ga [0]) (cntF x ga), Nu.chk t z = true := by
    intro z hz
    unfold eachL at hz
    obtain ⟨p, -, rfl⟩ := List.mem_map.1 hz
    rw [addL_sum ht (chk_pick ht hc _)]
    exact WT_chk ht _
  rw [eC]
  unfold eachL
  refine List.map_congr_left fun p hp => ?_
  have hpC := List.mem_range.1 hp
  show addL t (pickL (eachL (addL t) xs (plF x ga [0]) (cntF x ga)) (grpR (plF (keptL true x ga) gb [0]) (plF (keptL true x ga) gb [0]).length p)) = addL t (pickL xs (grpR (plF x (gor ga gb) [0]) (plF x (gor ga gb) [0]).length p))
  rw [addL_sum ht (chk_pick ht hc1 _), addL_sum ht (chk_pick ht hc _), grp_sum, grp_sum, lb, lo]
  rw [SI_congr (cntF x ga) (g := fun j => if (plF (keptL true x ga) gb [0]).getD j 0 = (p : Int) then WT t (SI (fun i => if (plF x ga [0]).getD i 0 = (j : Int) then xs.getD i 0 else 0) (plF x ga [0]).length) else 0) (fun j hj => by
    rw [eachL_at _ _ _ _ _ hj, addL_sum ht (chk_pick ht hc _), grp_sum])]
  rw [SI_WT ht (fun j => (plF (keptL true x ga) gb [0]).getD j 0 = (p : Int)) (fun j => SI (fun i => if (plF x ga [0]).getD i 0 = (j : Int) then xs.getD i 0 else 0) (plF x ga [0]).length)]
  rw [SI_swap (fun j => (plF (keptL true x ga) gb [0]).getD j 0 = (p : Int)) (fun i => (plF x ga [0]).getD i 0) (fun i => xs.getD i 0) (cntF x ga) (plF x ga [0]).length (fun i hi => Pa.mem _ (by simp [List.getD, hi]))]
  congr 1
  exact SI_congr _ fun i hi => by rw [pl_pl x.length x ga gb rfl ha hb hx i hi]

end Go.Proofs.YtahmmilhmoogbaaGreatDoor

namespace Go.Proofs.YtahmmilhmoogbaaGreatDoor

open Go.RowKit

theorem axes_one {n : Nat} {a : Int} {g : List Bool} (h : axesO n [a] (List.replicate n false) = some g) : ∃ i, axisO a n = some i ∧ g = (List.replicate n false).set i true := by
  unfold axesO at h
  split at h
  · cases h
  · rename_i i hi
    split at h
    · cases h
    · unfold axesO at h
      cases h
      exact ⟨i, hi, rfl⟩

theorem axes_two {n : Nat} {a b : Int} {ga gb g : List Bool} (ha : axesO n [a] (List.replicate n false) = some ga) (hb : axesO n [b] (List.replicate n false) = some gb) (h : axesO n [b, a] (List.replicate n false) = some g) : g = gor ga gb := by
  obtain ⟨i, hi, rfl⟩ := axes_one ha
  obtain ⟨j, hj, rfl⟩ := axes_one hb
  unfold axesO at h
  rw [hj] at h
  simp only at h
  split at h
  · cases h
  · unfold axesO at h
    rw [hi] at h
    simp only at h
    split at h
    · cases h
    · unfold axesO at h
      cases h
      unfold gor
      apply List.ext_getElem?
      intro k
      rw [List.getElem?_zipWith]
      by_cases hk : k < n
      · simp only [List.getElem?_set, List.length_set, List.length_replicate]
        by_cases e1 : i = k
        · subst e1
          by_cases e2 : j = i
          · subst e2
            simp [hk]
          · simp [hk, e2]
        · by_cases e2 : j = k
          · subst e2
            simp [hk, e1]
          · simp [hk, e1, e2]
      · rw [List.getElem?_eq_none (by simp; omega), List.getElem?_eq_none (by simp; omega)]

theorem sumR_inv {A : At} {t ty : Int} {x xs l zs : List Int} (h : sumR A t x xs = .ok (ty, l, zs)) : ty = t ∧ t ≠ 9 ∧ isTypeP t = true ∧ cntE x = 0 ∧ pbE t x xs = 0 ∧ reducedP A x = .ok l ∧ zs = eachL (addL t) xs (plF x (goneP A x) [0]) (cntF x (goneP A x)) := by
  unfold sumR doR at h
  split at h
  · rename_i ty' l' hn
    obtain ⟨hall, ho⟩ := node_inv hn
    have ht : isTypeP t = true := by
      unfold outR at ho
      obtain ⟨_, hq, -⟩ := bind_ok ho
      exact isType_of hq
    obtain ⟨c1, hts, hp, c3⟩ := outR_inv ho
    simp only [tq, okT, List.all_cons, List.all_nil, Bool.and_true, beq_iff_eq] at hall
    unfold tySame at hts
    obtain ⟨_, hm, hts⟩ := bind_ok hts
    cases hts
    cases h
    refine ⟨rfl, ?_, ht, c1, hall, hp, rfl⟩
    intro e
    subst e
    simp [mustP] at hm
  · cases h

theorem pb_chk {t : Int} {x xs : List Int} (h : pbE t x xs = 0) : ∀ z ∈ xs, chk t z = true := by
  unfold pbE at h
  split at h
  · cases h
  · split at h
    · rename_i h1 h2
      exact absurd h (by simpa using h2)
    · split at h
      · cases h
      · split at h
        · rename_i h4
          exact fun z hz => List.all_eq_true.1 h4 z hz
        · cases h

theorem nz_sumR (A : At) (t : Int) (x xs : List Int) : ∀ c, sumR A t x xs = .error c → c ≠ 0 := by
  intro c h
  unfold sumR doR at h
  split at h
  · cases h
  · rename_i c' hn
    cases h
    exact nz_node (nz_outR _ _ _ _ (nz_tysame _) (nz_reduced _ _)) _ hn

theorem ints_answer {s1 s2 s3 : Sl} {t t1 t2 t3 a b : Int} {x xs x1 xs1 x2 xs2 x3 xs3 : List Int} (hf : t ≠ 1) (h1 : sumR (kpAt ⟨#[82, 101, 100, 117, 99, 101, 83, 117, 109]⟩ 1 s1 [a]) t x xs = .ok (t1, x1, xs1)) (h2 : sumR (kpAt ⟨#[82, 101, 100, 117, 99, 101, 83, 117, 109]⟩ 1 s2 [b]) t1 x1 xs1 = .ok (t2, x2, xs2)) (h3 : sumR (kpAt ⟨#[82, 101, 100, 117, 99, 101, 83, 117, 109]⟩ 1 s3 [b, a]) t x xs = .ok (t3, x3, xs3)) : t2 = t3 ∧ x2 = x3 ∧ xs2 = xs3 := by
  obtain ⟨rfl, n9, hty, c1, p1, d1, z1⟩ := sumR_inv h1
  obtain ⟨rfl, -, -, c2, p2, d2, z2⟩ := sumR_inv h2
  obtain ⟨rfl, -, -, -, -, d3, z3⟩ := sumR_inv h3
  have ht : t3 = 6 ∨ t3 = 7 := by
    simp only [isTypeP, Bool.or_eq_true, beq_iff_eq] at hty
    omega
  have F := fine_of c1
  obtain ⟨k1, e1, l1, a1, g1⟩ := reduced_gone d1
  obtain ⟨k2, e2, l2, a2, g2⟩ := reduced_gone d2
  obtain ⟨k3, e3, l3, a3, g3⟩ := reduced_gone d3
  rw [kp_keep] at e1 e2 e3
  cases e1
  cases e2
  cases e3
  rw [kp_along1] at a1 a2 a3
  subst l1
  have hl := kept_all x _ g1
  rw [hl] at a2 g2
  have eg := axes_two a1 a2 a3
  refine ⟨rfl, ?_, ?_⟩
  · rw [l2, l3, eg, kept_kept x _ _ g1 g2]
  · rw [z2, z3, z1, eg]
    exact sums_twice ht g1 g2 F.pos (pb_chk p1)

end Go.Proofs.YtahmmilhmoogbaaGreatDoor

namespace Go.Proofs.YtahmmilhmoogbaaGreatDoor

open Go.RowKit

set_option maxRecDepth 100000 in
set_option maxHeartbeats 4000000 in
theorem axis_own (op : ByteArray) (hop : (op.toList == [65, 114, 103, 77, 97, 120]) = false) (a k : Int) (w : World) (ha : Rng a) : Calls Tryz.prog 10 #[.string op, .int .i64 a, .int .i64 k] w fun e w' => ∃ (s : Sl) (bi g cap base : Nat), e = .returned (nval ⟨op, ⟨#[]⟩, ⟨some ⟨bi, 0, none⟩, 1, 1⟩, ⟨#[122]⟩, ⟨some ⟨g, 0, none⟩, 1 + 1, cap⟩⟩) ∧ w.grownBy w' none ∧ (w'.heap[bi]? = some (.cells #[.string ⟨#[120]⟩] 9 (0, 0)) ∧ bi ≠ g) ∧ IsInts w' s.v [a] ∧ w.heap.size ≤ base ∧ w'.ownsRow base 41 9 (.slice (some ⟨g, 0, none⟩) (1 + 1) cap) (1 + 1) (acells (inI ⟨#[107, 101, 101, 112, 100, 105, 109, 115]⟩ k) ++ acells (inA ⟨#[97, 120, 101, 115]⟩ s)) := by
  obtain ⟨i1, hj, jz0, jz1, jz2⟩ := info_parts infoAtt
  obtain ⟨W1, hW1⟩ : ∃ W, W = ((((w.alloc (.cells #[.string ⟨#[]⟩, .string ⟨#[]⟩, .slice none 0 0, .string ⟨#[]⟩, .slice none 0 0] 35)).alloc (.cells #[.string ⟨#[120]⟩] 9)).alloc (.cells #[.string ⟨#[107, 101, 101, 112, 100, 105, 109, 115]⟩, .int .i64 2, .int .i64 0, .int .i64 k, .string ⟨#[]⟩, .int .i64 0, .slice none 0 0, .slice none 0 0, .slice none 0 0] 41)).alloc (.cells #[.string op, .string ⟨#[]⟩, .slice (some ⟨w.heap.size + 1, 0, none⟩) 1 1, .string ⟨#[122]⟩, .slice (some ⟨w.heap.size + 1 + 1, 0, none⟩) 1 1] 35)) := ⟨_, rfl⟩
  obtain ⟨b0, b1, b2, b3, g1, z1⟩ := four_boxes w _ _ _ _ W1 hW1
  obtain ⟨W3, hW3⟩ : ∃ W, W = ((W1.alloc (.cells #[.int .i64 a] 2)).alloc (.cells #[.string ⟨#[97, 120, 101, 115]⟩, .int .i64 7, .int .i64 0, .int .i64 0, .string ⟨#[]⟩, .int .i64 0, .slice none 0 0, .slice none 0 0, .slice (some ⟨w.heap.size + 1 + 1 + 1 + 1, 0, none⟩) 1 1] 41)) := ⟨_, rfl⟩
  have hb := two_boxes W1 (.cells #[.int .i64 a] 2) (.cells #[.string ⟨#[97, 120, 101, 115]⟩, .int .i64 7, .int .i64 0, .int .i64 0, .string ⟨#[]⟩, .int .i64 0, .slice none 0 0, .slice none 0 0, .slice (some ⟨w.heap.size + 1 + 1 + 1 + 1, 0, none⟩) 1 1] 41)
  rw [← hW3, z1] at hb
  have g3 : W1.grownBy W3 none := by rw [hW3]; exact grown_trans (grown_new _ _) (grown_new _ _)
  have D1 := hb.1
  have D2 := hb.2
  have B2 := box_kept b2 g3
  obtain ⟨n0, n1, n2, n3, n4⟩ := nod_cells (n := ⟨op, ⟨#[]⟩, ⟨some ⟨w.heap.size + 1, 0, none⟩, 1, 1⟩, ⟨#[122]⟩, ⟨some ⟨w.heap.size + 1 + 1, 0, none⟩, 1, 1⟩⟩) b3
  simp only at n0 n1 n2 n3 n4
  rw [hW1] at n4
  have FIN : Hid (∀ (w8 : World) (g cap : Nat), W3.grownBy w8 none → w8.ownsRow W3.heap.size 41 9 (.slice (some ⟨g, 0, none⟩) (1 + 1) cap) (1 + 1) (acells (inI ⟨#[107, 101, 101, 112, 100, 105, 109, 115]⟩ k) ++ acells (inA ⟨#[97, 120, 101, 115]⟩ ⟨some ⟨w.heap.size + 1 + 1 + 1 + 1, 0, none⟩, 1, 1⟩)) → w8.frozen? ⟨w.heap.size + 1 + 1 + 1, 4, none⟩ = false ∧ w8.cell? ⟨w.heap.size + 1 + 1 + 1, 4, none⟩ = some (.slice (some ⟨w.heap.size + 1 + 1, 0, none⟩) 1 1) ∧ ∀ q, q = w8.setCell ⟨w.heap.size + 1 + 1 + 1, 4, none⟩ (.slice (some ⟨g, 0, none⟩) (1 + 1) cap) → q.heap[w.heap.size + 1 + 1 + 1]? = some (.cells #[.string op, .string ⟨#[]⟩, .slice (some ⟨w.heap.size + 1, 0, none⟩) 1 1, .string ⟨#[122]⟩, .slice (some ⟨g, 0, none⟩) (1 + 1) cap] 35 (0, 0)) ∧ q.heap[w.heap.size]? = some (.cells #[.string ⟨#[]⟩, .string ⟨#[]⟩, .slice none 0 0, .string ⟨#[]⟩, .slice none 0 0] 35 (0, 0)) ∧ ∀ z, q.grownBy z (some (w.heap.size)) → w.grownBy z none ∧ (z.heap[w.heap.size + 1]? = some (.cells #[.string ⟨#[120]⟩] 9 (0, 0)) ∧ w.heap.size + 1 ≠ g) ∧ IsInts z (.slice (some ⟨w.heap.size + 1 + 1 + 1 + 1, 0, none⟩) 1 1) [a] ∧ w.heap.size ≤ W3.heap.size ∧ z.ownsRow W3.heap.size 41 9 (.slice (some ⟨g, 0, none⟩) (1 + 1) cap) (1 + 1) (acells (inI ⟨#[107, 101, 101, 112, 100, 105, 109, 115]⟩ k) ++ acells (inA ⟨#[97, 120, 101, 115]⟩ ⟨some ⟨w.heap.size + 1 + 1 + 1 + 1, 0, none⟩, 1, 1⟩))) := fun w8 g cap h1 h2 => by
    have hz3 : w.heap.size + 1 + 1 + 1 + 1 + 1 < W3.heap.size := (Array.getElem?_eq_some_iff.1 D2).1
    have k3 := box_kept b3 (grown_trans g3 h1)
    obtain ⟨-, -, -, -, m4⟩ := nod_cells (n := ⟨op, ⟨#[]⟩, ⟨some ⟨w.heap.size + 1, 0, none⟩, 1, 1⟩, ⟨#[122]⟩, ⟨some ⟨w.heap.size + 1 + 1, 0, none⟩, 1, 1⟩⟩) k3
    refine ⟨(nod_frozen k3).2.2.2.2, m4, fun q hq => ?_⟩
    have kq := heap_setCell_same w8 (w.heap.size + 1 + 1 + 1) 4 _ _ (.slice (some ⟨g, 0, none⟩) (1 + 1) cap) k3
    have gq := set_grownR w8 (w.heap.size + 1 + 1 + 1) 4 (.slice (some ⟨g, 0, none⟩) (1 + 1) cap)
    rw [← hq] at kq gq
    have hs := h1.size
    have g13 := grown_trans g1 (grown_trans g3 h1)
    have hg1 := (World.ownsRow.lt h2 g rfl).1
    refine ⟨by simpa using kq, (gq.block _ (by omega) (by simp only [ne_eq, Option.some.injEq]; omega)).trans (box_kept b0 (grown_trans g3 h1)), fun z hz => ?_⟩
    have up : ∀ (i : Nat) (o : Obj), i ≠ w.heap.size → i ≠ w.heap.size + 1 + 1 + 1 → i < w8.heap.size → w8.heap[i]? = some o → z.heap[i]? = some o := fun i o e1 e2 e3 e4 => (hz.block i (Nat.lt_of_lt_of_le e3 gq.size) (by simp only [ne_eq, Option.some.injEq]; exact e1)).trans ((gq.block i e3 (by simp only [ne_eq, Option.some.injEq]; exact e2)).trans e4)
    refine ⟨grown_drop (grown_drop g13 gq (by omega)) hz (Nat.le_refl _), ⟨up _ _ (by omega) (by omega) (by omega) (box_kept b1 (grown_trans g3 h1)), by omega⟩, blk_ints (zs := [a]) (up _ _ (by omega) (by omega) (by omega) (box_kept D1 h1)) (by simp) (fun z hz => by simp at hz; subst hz; exact ha), by omega, World.ownsRow.kept (World.ownsRow.kept h2 gq (.inr (by simp only [Value.ownBlock, ne_eq, Option.some.injEq]; omega))) hz (.inr (by simp only [Value.ownBlock, ne_eq, Option.some.injEq]; omega))⟩
  have H2 := hide B2
  have HD2 := hide D2
  have Z1 := hide z1
  clear b0 b1 b2 b3 g1 g3 n0 n1 n2 n3 B2 D2 z1 D1 hb ha
  go_enter Tryz.func10, Tryz.ntmps10
  go_wp2_with (first | (at_builtin; rw [← hW1, ← hW3]; refine wpList_append_grows _ rfl (.tmp 24) (.tmp 28) 33 rfl 41 i1 (.agg #[.string ⟨#[]⟩, .int .i64 0, .int .i64 0, .int .i64 0, .string ⟨#[]⟩, .int .i64 0, .slice none 0 0, .slice none 0 0, .slice none 0 0]) 9 136 Tryz.underlying33 hj jz0 jz1 jz2 rfl (by decide) (some ⟨w.heap.size + 1 + 1, 0, none⟩) 1 1 (acells (inI ⟨#[107, 101, 101, 112, 100, 105, 109, 115]⟩ k)) rfl (fun e => by cases e) rfl (fun b e => by cases e; exact World.news_of_block H2.out) ⟨w.heap.size + 1 + 1 + 1 + 1 + 1, 0, none⟩ 1 1 (acells (inA ⟨#[97, 120, 101, 115]⟩ ⟨some ⟨w.heap.size + 1 + 1 + 1 + 1, 0, none⟩, 1, 1⟩)) rfl rfl (World.news_of_block HD2.out) (acell_one _) (by omega) (by simp only [maxLen]; omega) (by omega) ?_; intro v8 w8 hown8 hg8; obtain ⟨g, cap, rfl⟩ := own_sliceR hown8 (by omega); obtain ⟨f4, c4, fq⟩ := FIN.out w8 g cap hg8 hown8; obtain ⟨kq, k0, fz⟩ := fq _ rfl; obtain ⟨m0, m1, m2, m3, m4⟩ := nod_cells (n := ⟨op, ⟨#[]⟩, ⟨some ⟨w.heap.size + 1, 0, none⟩, 1, 1⟩, ⟨#[122]⟩, ⟨some ⟨g, 0, none⟩, 1 + 1, cap⟩⟩) kq; obtain ⟨r0, r1, r2, r3, r4⟩ := nod_cells (n := ⟨⟨#[]⟩, ⟨#[]⟩, ⟨none, 0, 0⟩, ⟨#[]⟩, ⟨none, 0, 0⟩⟩) k0; simp only at m0 m1 m2 m3 m4 r0 r1 r2 r3 r4; obtain ⟨f0, f1, f2, f3, f5⟩ := nod_frozen k0; obtain ⟨st, sg⟩ := store5r (.string op) (.string ⟨#[]⟩) (.slice (some ⟨w.heap.size + 1, 0, none⟩) 1 1) (.string ⟨#[122]⟩) (.slice (some ⟨g, 0, none⟩) (1 + 1) cap) k0; have FZ := hide (fz _ sg); have ST := hide st; clear hown8 hg8 n4 fq kq k0 fz st sg) | fail)
  refine bodyPost_ret (ret_nod rfl _ _ w.heap.size rfl ST.out) rfl ?_
  exact ⟨⟨some ⟨w.heap.size + 1 + 1 + 1 + 1, 0, none⟩, 1, 1⟩, _, g, cap, _, rfl, FZ.out⟩

end Go.Proofs.YtahmmilhmoogbaaGreatDoor
