/- ShapeEven, by the walk. -/
import Derived.Test.YtfamjlikpoiecaaSLive
namespace Go.Proofs.Ytfamjlikpoiecaa
open Go.RowKit

theorem apart_comm (p q : Int) : apartAt p q = apartAt q p := by
  have e : (p == q) = (q == p) := by
    rw [Bool.eq_iff_iff, beq_iff_eq, beq_iff_eq]
    exact eq_comm
  simp only [apartAt, Bool.and_comm (!(p == 1)), e]
theorem bcL_comm (a b : List Int) (k : Nat) : bcL a b k = bcL b a k := by
  induction k with
  | zero => rfl
  | succ k ih => simp only [bcL, ih, Int.max_comm]
theorem bcBad_comm (a b : List Int) (k : Nat) : bcBad a b k = bcBad b a k := by
  induction k with
  | zero => rfl
  | succ k ih => simp only [bcBad, ih, apart_comm]
theorem rank_comm (a b : List Int) : rank a b = rank b a := Nat.max_comm _ _

/-- What an answer of Broadcast says. -/
structure Spread (a b : List Int) : Prop where
  left : Fine a
  right : Fine b
  good : bcBad a b (rank a b) = false
  fine : Fine (bcL a b (rank a b))

theorem spread_of {a b : List Int} (h : bcE a b = 0) : Spread a b := by
  unfold bcE at h
  split at h
  · rename_i h1; exact absurd h h1
  · rename_i h1
    split at h
    · rename_i h2; exact absurd h h2
    · rename_i h2
      split at h
      · simp at h
      · rename_i h3
        exact ⟨fine_of (by simpa using h1), fine_of (by simpa using h2), by simpa using h3, fine_of h⟩

theorem Spread.ok {a b : List Int} (h : Spread a b) : bcE a b = 0 := by simp [bcE, h.left.ok, h.right.ok, h.good, h.fine.ok]
theorem Spread.res {a b : List Int} (h : Spread a b) : bcR a b = bcL a b (rank a b) := by simp [bcR, h.ok]
theorem Spread.comm {a b : List Int} (h : Spread a b) : Spread b a :=
  ⟨h.right, h.left, by rw [rank_comm, bcBad_comm]; exact h.good, by rw [rank_comm, bcL_comm]; exact h.fine⟩
theorem bcE_comm0 {a b : List Int} : bcE a b = 0 ↔ bcE b a = 0 := ⟨fun h => (spread_of h).comm.ok, fun h => (spread_of h).comm.ok⟩
theorem bcR_comm (a b : List Int) : bcR a b = bcR b a := by
  unfold bcR
  by_cases h : bcE a b = 0
  · rw [if_pos h, if_pos (bcE_comm0.1 h), bcL_comm, rank_comm]
  · rw [if_neg h, if_neg (fun h' => h (bcE_comm0.2 h'))]

theorem bcL_at (a b : List Int) : ∀ (n i : Nat), i < n → (bcL a b n).getD (n - 1 - i) 0 = max (bh a i) (bh b i)
  | n + 1, i, h => by
    rcases lt_succ_cases h with h1 | rfl
    · have := bcL_at a b n i h1
      rw [show n + 1 - 1 - i = (n - 1 - i) + 1 by omega]
      simpa [bcL, List.getD] using this
    · simp [bcL, List.getD]

theorem bh_out {zs : List Int} {i : Nat} (h : zs.length ≤ i) : bh zs i = 1 := by simp [bh, h]

theorem bh_bcL (a b : List Int) (i : Nat) : bh (bcL a b (rank a b)) i = max (bh a i) (bh b i) := by
  by_cases h : rank a b ≤ i
  · have h1 : a.length ≤ i := by simp only [rank] at h; omega
    have h2 : b.length ≤ i := by simp only [rank] at h; omega
    rw [bh_out (by rw [bcL_length]; exact h), bh_out h1, bh_out h2]
    rfl
  · have := bcL_at a b (rank a b) i (by omega)
    rw [bh_in (by rw [bcL_length]; omega), bcL_length]
    exact this

theorem bcBad_false {a b : List Int} : ∀ {n : Nat}, bcBad a b n = false → ∀ i, i < n → apartAt (bh a i) (bh b i) = false
  | n + 1, h, i, hi => by
    simp only [bcBad, Bool.or_eq_false_iff] at h
    rcases lt_succ_cases hi with h1 | rfl
    · exact bcBad_false h.2 i h1
    · exact h.1

theorem bcBad_none {a b : List Int} : ∀ {n : Nat}, (∀ i, i < n → apartAt (bh a i) (bh b i) = false) → bcBad a b n = false
  | 0, _ => rfl
  | n + 1, h => by
    simp only [bcBad, Bool.or_eq_false_iff]
    exact ⟨h n (by omega), bcBad_none fun i hi => h i (by omega)⟩

theorem near_iff (p q : Int) : apartAt p q = false ↔ p = q ∨ p = 1 ∨ q = 1 := by
  have : apartAt p q = false ↔ ¬ (¬ p = q ∧ ¬ p = 1 ∧ ¬ q = 1) := by
    rw [Bool.eq_false_iff]
    simp [apartAt]
  rw [this]
  omega

theorem Spread.near {a b : List Int} (h : Spread a b) (i : Nat) : bh a i = bh b i ∨ bh a i = 1 ∨ bh b i = 1 := by
  by_cases hi : i < rank a b
  · exact (near_iff _ _).1 (bcBad_false h.good i hi)
  · exact Or.inr (Or.inl (bh_out (by simp only [rank] at hi; omega)))

theorem bcL_congr {a b c d : List Int} {n : Nat} (h : ∀ i, i < n → max (bh a i) (bh b i) = max (bh c i) (bh d i)) : bcL a b n = bcL c d n := by
  induction n with
  | zero => rfl
  | succ n ih => simp only [bcL, h n (by omega), ih fun i hi => h i (by omega)]

theorem Spread.again {a b : List Int} (h : Spread a b) : Spread a (bcL a b (rank a b)) ∧ bcR a (bcL a b (rank a b)) = bcL a b (rank a b) := by
  have hr : rank a (bcL a b (rank a b)) = rank a b := by simp only [rank, bcL_length]; omega
  have hl : bcL a (bcL a b (rank a b)) (rank a b) = bcL a b (rank a b) := bcL_congr fun i _ => by rw [bh_bcL]; omega
  have hs : Spread a (bcL a b (rank a b)) := by
    refine ⟨h.left, h.fine, ?_, by rw [hr, hl]; exact h.fine⟩
    refine bcBad_none fun i _ => (near_iff _ _).2 ?_
    rw [bh_bcL]
    have h1 := bh_pos (k := i) h.left.pos
    have h2 := bh_pos (k := i) h.right.pos
    have h3 := h.near i
    omega
  exact ⟨hs, by rw [hs.res, hr, hl]⟩

theorem Spread.three {a b c : List Int} (h : Spread a b) (h1 : Spread (bcL a b (rank a b)) c) (h2 : Spread b c) :
    Spread a (bcL b c (rank b c)) ∧ bcR a (bcL b c (rank b c)) = bcL (bcL a b (rank a b)) c (rank (bcL a b (rank a b)) c) := by
  have hr : rank a (bcL b c (rank b c)) = rank (bcL a b (rank a b)) c := by simp only [rank, bcL_length]; omega
  have hl : bcL a (bcL b c (rank b c)) (rank (bcL a b (rank a b)) c) = bcL (bcL a b (rank a b)) c (rank (bcL a b (rank a b)) c) := bcL_congr fun i _ => by rw [bh_bcL, bh_bcL]; omega
  have hs : Spread a (bcL b c (rank b c)) := by
    refine ⟨h.left, h2.fine, ?_, by rw [hr, hl]; exact h1.fine⟩
    refine bcBad_none fun i _ => (near_iff _ _).2 ?_
    rw [bh_bcL]
    have p1 := bh_pos (k := i) h.left.pos
    have p2 := bh_pos (k := i) h.right.pos
    have p3 := bh_pos (k := i) h2.right.pos
    have q1 := h.near i
    have q2 := h1.near i
    have q3 := h2.near i
    rw [bh_bcL] at q2
    omega
  exact ⟨hs, by rw [hs.res, hr, hl]⟩

set_option maxHeartbeats 1600000 in
theorem even_walk (va : Value) (a : List Int) (vb : Value) (b : List Int) (vc : Value) (c : List Int) (w : World) (ha : IsInts w va a) (hb : IsInts w vb b) (hc : IsInts w vc c) :
    Calls Try.prog 8 #[va, vb, vc] w fun e w' => e = .returned (.bool true) ∧ Below w.heap.size w w' := by
  have A := hide ha
  have B := hide hb
  have C := hide hc
  have c1 := hide (bc_any va vb a b w ha hb)
  clear ha hb hc
  by_cases hE : bcE a b = 0
  · have hF := bcE_comm0.1 hE
    have S1 := hide (spread_of hE)
    rw [hE, S1.out.res] at c1
    have R2 := hide (show bcR b a = bcL a b (rank a b) by rw [bcR_comm, S1.out.res])
    have E2 := hide hF
    clear hE hF
    go_enter Try.func8, Try.ntmps8
    go_wp2_with fail
    refine c1.out.mono ?_
    rintro e w1 ⟨x, rfl, ox, hg1⟩
    have OX := hide ox.ints
    have c2 := hide (bc_any vb va b a w1 (B.out.more hg1) (A.out.more hg1))
    rw [E2.out, R2.out] at c2
    clear ox
    go_wp2_with fail
    refine c2.out.mono ?_
    rintro e w2 ⟨y, rfl, oy, hg2⟩
    have c3 := same_any x y _ _ w2 (OX.out.more hg2) oy.ints
    rw [decide_eq_true rfl] at c3
    have C3 := hide c3
    clear c3 oy
    go_wp2_with fail
    refine C3.out.mono ?_
    rintro e w3 ⟨rfl, hg3⟩
    have g13 := grown_trans hg2 hg3
    have g03 := grown_trans hg1 g13
    have c4 := bc_any va x a _ w3 (A.out.more g03) (OX.out.more g13)
    rw [S1.out.again.1.ok, S1.out.again.2] at c4
    have C4 := hide c4
    clear c4
    go_wp2_with fail
    refine C4.out.mono ?_
    rintro e w4 ⟨z, rfl, oz, hg4⟩
    have c5 := same_any z x _ _ w4 oz.ints (OX.out.more (grown_trans g13 hg4))
    rw [decide_eq_true rfl] at c5
    have C5 := hide c5
    clear c5 oz
    go_wp2_with fail
    refine C5.out.mono ?_
    rintro e w5 ⟨rfl, hg5⟩
    have g15 := grown_trans g13 (grown_trans hg4 hg5)
    have g05 := grown_trans hg1 g15
    have C6 := hide (bc_any x vc _ c w5 (OX.out.more g15) (C.out.more g05))
    clear hg2 hg3 g13 g03 hg4 hg5
    by_cases h6 : bcE (bcL a b (rank a b)) c = 0
    · have S6 := hide (spread_of h6)
      rw [h6, S6.out.res] at C6
      clear h6
      go_wp2_with fail
      refine C6.out.mono ?_
      rintro e w6 ⟨u, rfl, ou, hg6⟩
      have OU := hide ou.ints
      clear ou
      have g06 := grown_trans g05 hg6
      have C7 := hide (bc_any vb vc b c w6 (B.out.more g06) (C.out.more g06))
      by_cases h7 : bcE b c = 0
      · have S7 := hide (spread_of h7)
        rw [h7, S7.out.res] at C7
        clear h7
        go_wp2_with fail
        refine C7.out.mono ?_
        rintro e w7 ⟨v, rfl, ov, hg7⟩
        have g07 := grown_trans g06 hg7
        have c8 := bc_any va v a _ w7 (A.out.more g07) ov.ints
        have ht := S1.out.three S6.out S7.out
        rw [ht.1.ok, ht.2] at c8
        have C8 := hide c8
        clear c8 ht ov
        go_wp2_with fail
        refine C8.out.mono ?_
        rintro e w8 ⟨t, rfl, ot, hg8⟩
        have c9 := same_any u t _ _ w8 (OU.out.more (grown_trans hg7 hg8)) ot.ints
        rw [decide_eq_true rfl] at c9
        have C9 := hide c9
        clear c9 ot
        go_wp2_with fail
        refine C9.out.mono ?_
        rintro e w9 ⟨rfl, hg9⟩
        go_wp2_with fail
        refine (live_any _).mono ?_
        rintro e w10 ⟨rfl, hg10⟩
        go_wp2
        go_ret
        exact ⟨rfl, grown_below (grown_trans g07 (grown_trans hg8 (grown_trans hg9 hg10)))⟩
      · have h7' := beq_zero_false h7
        obtain ⟨E, hE⟩ : ∃ E, E = bcE b c := ⟨_, rfl⟩
        rw [← hE] at C7 h7'
        clear h7 hE
        go_wp2_with fail
        refine C7.out.mono ?_
        rintro e w7 ⟨v, rfl, ov, hg7⟩
        clear ov
        go_wp2_with fail
        refine (live_any _).mono ?_
        rintro e w8 ⟨rfl, hg8⟩
        go_wp2
        go_ret
        exact ⟨rfl, grown_below (grown_trans g06 (grown_trans hg7 hg8))⟩
    · have h6' := beq_zero_false h6
      obtain ⟨E, hE⟩ : ∃ E, E = bcE (bcL a b (rank a b)) c := ⟨_, rfl⟩
      rw [← hE] at C6 h6'
      clear h6 hE
      go_wp2_with fail
      refine C6.out.mono ?_
      rintro e w6 ⟨u, rfl, ou, hg6⟩
      have g06 := grown_trans g05 hg6
      have C7 := hide (bc_any vb vc b c w6 (B.out.more g06) (C.out.more g06))
      clear ou
      go_wp2_with fail
      refine C7.out.mono ?_
      rintro e w7 ⟨v, rfl, ov, hg7⟩
      clear ov
      go_wp2_with fail
      refine (live_any _).mono ?_
      rintro e w8 ⟨rfl, hg8⟩
      go_wp2
      go_ret
      exact ⟨rfl, grown_below (grown_trans g06 (grown_trans hg7 hg8))⟩
  · have hF : ¬ bcE b a = 0 := fun h => hE (bcE_comm0.2 h)
    have R2 := hide (bcR_comm b a)
    have hE' := beq_zero_false hE
    have hF' := beq_zero_false hF
    obtain ⟨E, hEE⟩ : ∃ E, E = bcE a b := ⟨_, rfl⟩
    obtain ⟨F, hFF⟩ : ∃ F, F = bcE b a := ⟨_, rfl⟩
    rw [← hEE] at hE' c1
    rw [← hFF] at hF'
    have HF := hide hFF
    clear hE hF hEE hFF
    go_enter Try.func8, Try.ntmps8
    go_wp2_with fail
    refine c1.out.mono ?_
    rintro e w1 ⟨x, rfl, ox, hg1⟩
    have OX := hide ox.ints
    have c2 := hide (bc_any vb va b a w1 (B.out.more hg1) (A.out.more hg1))
    rw [R2.out, ← HF.out] at c2
    clear ox
    go_wp2_with fail
    refine c2.out.mono ?_
    rintro e w2 ⟨y, rfl, oy, hg2⟩
    have c3 := same_any x y _ _ w2 (OX.out.more hg2) oy.ints
    rw [decide_eq_true rfl] at c3
    have C3 := hide c3
    clear c3 oy
    go_wp2_with fail
    refine C3.out.mono ?_
    rintro e w3 ⟨rfl, hg3⟩
    go_wp2_with fail
    refine (live_any _).mono ?_
    rintro e w8 ⟨rfl, hg8⟩
    go_wp2
    go_ret
    exact ⟨rfl, grown_below (grown_trans hg1 (grown_trans hg2 (grown_trans hg3 hg8)))⟩
end Go.Proofs.Ytfamjlikpoiecaa
