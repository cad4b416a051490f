/- LinearOne, over plain lists. -/
import Derived.Test.YtfladhogkhhlcaaGreatDoorPartW
namespace Go.Proofs.YtfladhogkhhlcaaGreatDoor
open Go.RowKit

theorem plc_two (b k : Nat) : Vw.plc [(b : Int), (k : Int)] [1, (b : Int)] 0 = (List.range b).flatMap fun j => (List.range k).map fun i => ((i * b + j : Nat) : Int) := by
  simp only [Vw.plc, Int.toNat_natCast]
  unfold List.flatMap
  congr 1
  refine List.map_congr_left fun j _ => ?_
  induction (List.range k) with
  | nil => rfl
  | cons i l ih =>
    simp only [List.map_cons, List.flatten_cons] at ih ⊢
    rw [ih]
    simp only [List.singleton_append, List.cons.injEq, and_true]
    omega

theorem yt_two {k b : Nat} {ys : List Int} (hc : cntE [(k : Int), (b : Int)] = 0) (hl : (ys.length : Int) = prod [(k : Int), (b : Int)]) : ytL [(k : Int), (b : Int)] ys = trn k b ys := by
  have h := rd_turned (A := []) (k := k) (b := b) (by simp) hc hl
  have e1 : Vw.pickL [(k : Int), (b : Int)] (swapP 0) = [(b : Int), (k : Int)] := by simp [Vw.pickL, swapP, upToP, List.range, List.range.loop]
  have e2 : Vw.pickL (strd [(k : Int), (b : Int)]) (swapP 0) = [1, (b : Int)] := by simp [strd, prod, Vw.pickL, swapP, upToP, List.range, List.range.loop]
  simp only [List.length_nil, List.nil_append] at h
  rw [e1, e2] at h
  unfold ytL
  simp only [List.length_cons, List.length_nil, Nat.zero_add, Nat.reduceAdd, Nat.sub_self]
  rw [e1, e2, Vw.rdL, if_pos h, Vw.shows, plc_two, trn, List.map_flatMap]
  unfold List.flatMap
  congr 1
  refine List.map_congr_left fun j _ => ?_
  rw [List.map_map]
  refine List.map_congr_left fun i _ => ?_
  simp only [Function.comp_apply, Int.toNat_natCast]

/-- The matrix that has 1 where both coordinates are the same, once t rows are written. -/
def oneL (d : Nat) : Nat → List Int
  | 0 => List.replicate (d * d) 0
  | t + 1 => (oneL d t).set (t * d + t) 1065353216

theorem oneL_len (d : Nat) : ∀ t, (oneL d t).length = d * d
  | 0 => by simp [oneL]
  | t + 1 => by rw [oneL, List.length_set, oneL_len d t]

theorem oneL_rng (d : Nat) : ∀ t, ∀ z ∈ oneL d t, z = 0 ∨ z = 1065353216
  | 0, z, h => by
    simp only [oneL] at h
    exact .inl (List.mem_replicate.1 h).2
  | t + 1, z, h => by
    simp only [oneL] at h
    rcases List.mem_or_eq_of_mem_set h with h | h
    · exact oneL_rng d t z h
    · exact .inr h

theorem place_lt {d i j : Nat} (hi : i < d) (hj : j < d) : i * d + j < d * d := by
  have : i * d + d ≤ d * d := by
    rw [show i * d + d = (i + 1) * d from by rw [Nat.add_mul]; omega]
    exact Nat.mul_le_mul_right _ hi
  omega

theorem place_inj {d i j i' j' : Nat} (hj : j < d) (hj' : j' < d) (h : i * d + j = i' * d + j') : i = i' ∧ j = j' := by
  have hd : 0 < d := by omega
  have h1 : (i * d + j) / d = i := by rw [Nat.mul_comm, Nat.mul_add_div hd, Nat.div_eq_of_lt hj, Nat.add_zero]
  have h2 : (i' * d + j') / d = i' := by rw [Nat.mul_comm, Nat.mul_add_div hd, Nat.div_eq_of_lt hj', Nat.add_zero]
  have e : i = i' := by rw [← h1, ← h2, h]
  subst e
  exact ⟨rfl, by omega⟩

theorem oneL_at (d : Nat) : ∀ t, t ≤ d → ∀ i j, i < d → j < d → (oneL d t).getD (i * d + j) 0 = if i = j ∧ i < t then 1065353216 else 0
  | 0, _, i, j, hi, hj => by
    rw [if_neg (by omega), oneL, List.getD, List.getElem?_eq_getElem (by rw [List.length_replicate]; exact place_lt hi hj)]
    simp
  | t + 1, ht, i, j, hi, hj => by
    have ih := oneL_at d t (by omega) i j hi hj
    have hp := place_lt hi hj
    rw [oneL, List.getD, List.getElem?_set]
    by_cases h : t * d + t = i * d + j
    · obtain ⟨e1, e2⟩ := place_inj (by omega) hj h
      subst e1 e2
      rw [if_pos rfl, if_pos (by rw [oneL_len]; exact hp), if_pos (by omega)]
      rfl
    · rw [if_neg h]
      rw [List.getD] at ih
      rw [ih]
      by_cases hij : i = j
      · subst hij
        have : i ≠ t := fun e => h (by rw [e])
        by_cases h1 : i < t
        · rw [if_pos ⟨rfl, h1⟩, if_pos ⟨rfl, by omega⟩]
        · rw [if_neg (by omega), if_neg (by omega)]
      · rw [if_neg (by omega), if_neg (by omega)]

/-- What LinearOne says. -/
theorem one_answer {tx ty : Int} {x xs l zs : List Int} {d : Nat} (hx : x.length = 2) (hd : x.getD 1 0 = d) (hf : ∀ z ∈ xs, Nu.chk 1 z = true → fin z) (h : mmR tx 1 x [(d : Int), (d : Int)] xs (oneL d d) = .ok (ty, l, zs)) : ty = 1 ∧ tx = 1 ∧ l = x ∧ zs = xs.map normF := by
  unfold mmR doR at h
  split at h
  · rename_i ty' l' hn
    obtain ⟨hall, ho⟩ := node_inv hn
    obtain ⟨e1, e2, e3, c1, c2, hp, c3⟩ := outM_inv ho
    cases h
    have ht : Twin x [(d : Int), (d : Int)] := by
      match x, hx with
      | [p0, q0], _ => exact ⟨[], p0, q0, d, d, by simp, rfl, rfl⟩
    obtain ⟨A, a, k, b, hs, hle⟩ := twin_shp ht c1 c2 hp c3
    obtain rfl : A = [] := by
      have := hs.len.1
      rw [hx] at this
      exact List.length_eq_zero_iff.1 (by omega)
    have ey := hs.ey
    simp only [List.nil_append, List.cons.injEq, and_true] at ey
    obtain ⟨ek, eb⟩ := ey
    obtain rfl : k = d := by omega
    obtain rfl : b = k := by omega
    simp only [tq, okT, List.all_cons, List.all_nil, Bool.and_true, Bool.and_eq_true, beq_iff_eq] at hall
    obtain ⟨px, py⟩ := hall
    obtain ⟨-, lx⟩ := pb_inv px
    obtain ⟨cy, ly⟩ := pb_inv py
    have hxe : x = [(a : Int), (b : Int)] := by have := hs.ex; simpa using this
    subst e2
    refine ⟨e1, rfl, by rw [hle, hxe]; rfl, ?_⟩
    rw [hs.mm, show (prod []).toNat = 1 from rfl, yt_two cy ly]
    refine one_law xs (oneL b b) a b (fun z hz => hf z hz ?_) ?_ (fun i j hi hj => ?_)
    · have hch : xs.all (chk 1) = true := by
        unfold pbE at px
        rw [if_neg (by simp [chk])] at px
        split at px
        · rename_i h1; exact absurd px h1
        · split at px
          · omega
          · split at px
            · assumption
            · omega
      have := List.all_eq_true.1 hch z hz
      exact this
    · rw [hxe] at lx
      rw [show prod [(a : Int), (b : Int)] = ((a * b : Nat) : Int) from by simp [prod]] at lx
      omega
    · rw [oneL_at b b (Nat.le_refl _) i j hi hj]
      by_cases h : i = j
      · rw [if_pos ⟨h, hi⟩, if_pos h]
      · rw [if_neg (by omega), if_neg h]
  · cases h
end Go.Proofs.YtfladhogkhhlcaaGreatDoor
