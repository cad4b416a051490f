/- Of two the type and the dims are the same in either order: plain facts. -/
import Derived.Test.YteigfipgmghgmaaGreatDoorIErr
namespace Go.Proofs.YteigfipgmghgmaaGreatDoor

theorem apart_commI (p q : Int) : apartAt p q = apartAt q p := by
  have e : (p == q) = (q == p) := by
    rw [Bool.eq_iff_iff, beq_iff_eq, beq_iff_eq]
    exact eq_comm
  simp only [apartAt, Bool.and_comm (!(p == 1)), e]
theorem bcL_commI (a b : List Int) (k : Nat) : bcL a b k = bcL b a k := by
  induction k with
  | zero => rfl
  | succ k ih => simp only [bcL, ih, Int.max_comm]
theorem bcBad_commI (a b : List Int) (k : Nat) : bcBad a b k = bcBad b a k := by
  induction k with
  | zero => rfl
  | succ k ih => simp only [bcBad, ih, apart_commI]
theorem rank_commI (a b : List Int) : rank a b = rank b a := Nat.max_comm _ _

theorem spreadP_comm {a b : List Int} (ha : cntE a = 0) (hb : cntE b = 0) : spreadP a b = spreadP b a := by
  have e : bcE a b = bcE b a := by
    unfold bcE
    simp only [ha, hb, ne_eq, not_true_eq_false, if_false]
    rw [rank_commI a b, bcBad_commI a b, bcL_commI a b]
  have e2 : bcR a b = bcR b a := by unfold bcR; rw [e, bcL_commI a b, rank_commI a b]
  unfold spreadP
  rw [e, e2]

def grpL (l : List UInt8) : Nat × Nat := ((grps.find? (fun r => r.1 == l)).map (·.2)).getD (99, 99)

set_option maxRecDepth 100000 in
theorem two_grp : ∀ r ∈ rules, r.2.1 ≤ 2 → 2 ≤ r.2.2.1 → r.1 ≠ [77, 97, 116, 77, 117, 108] → r.1 ≠ [71, 101, 109, 109] → r.1 ≠ [67, 111, 110, 118] → r.1 ≠ [71, 97, 116, 104, 101, 114] → r.1 ≠ [67, 111, 110, 99, 97, 116] → ((grpL r.1).1 = 8 ∨ (grpL r.1).1 = 9) ∧ (grpL r.1).2 = 2 := by decide +kernel

theorem sameP_two {s t : Int} {a : Int} (h : sameP [s, t] = .ok a) : s = t ∧ a = s := by
  simp only [sameP, List.all_cons, List.all_nil, Bool.and_true] at h
  split at h
  · rename_i e
    cases h
    exact ⟨(by simpa using e : t = s).symm, rfl⟩
  · cases h

theorem vinP_two {p q : Val × List Int} (h : vinP [p, q] = .ok ()) : vinP [q, p] = .ok () ∧ cntE p.2 = 0 ∧ cntE q.2 = 0 := by
  simp only [vinP] at h ⊢
  obtain ⟨_, h1, h⟩ := bind_ok h
  obtain ⟨_, h2, h⟩ := bind_ok h
  obtain ⟨_, h3, h⟩ := bind_ok h
  obtain ⟨_, h4, h⟩ := bind_ok h
  rw [h3, h1]
  refine ⟨?_, count_ok' h2, count_ok' h4⟩
  show (countP q.2).bind _ = _
  rw [h4]
  show (countP p.2).bind _ = _
  rw [h2]
  rfl

theorem OutOk.turned {n : Nod} {ins : List ByteArray} {A : At} {p q : Val × List Int} {r : Int × List Int} (h : OutOk n ins A [p, q] r) (m1 : n.op.toList ≠ [77, 97, 116, 77, 117, 108]) (m2 : n.op.toList ≠ [71, 101, 109, 109]) (m3 : n.op.toList ≠ [67, 111, 110, 118]) (m4 : n.op.toList ≠ [71, 97, 116, 104, 101, 114]) (m5 : n.op.toList ≠ [67, 111, 110, 99, 97, 116]) : OutOk n ins A [q, p] r := by
  obtain ⟨R0, hr, h1, h2, h3⟩ := checkF_zero h.chk
  have hl : ins.length = 2 := by have := h.len; simp at this; omega
  rw [hl] at h2 h3
  obtain ⟨g1, g2⟩ := two_grp R0 hr (by simpa using h2) (by simpa using h3) (by rw [h1]; exact m1) (by rw [h1]; exact m2) (by rw [h1]; exact m3) (by rw [h1]; exact m4) (by rw [h1]; exact m5)
  rw [h1] at g1 g2
  have eg : grp n.op = grpL n.op.toList := rfl
  rw [← eg] at g1 g2
  obtain ⟨v1, c1, c2⟩ := vinP_two h.vin
  refine ⟨h.chk, by have := h.len; simpa using this, v1, ?_, ?_, h.cnt, h.thn⟩
  · have ht := h.typ
    have e : sameP (tysOf [q, p]) = sameP (tysOf [p, q]) ∨ ∃ c, sameP (tysOf [p, q]) = .error c := by
      cases hs : sameP (tysOf [p, q]) with
      | error c => exact .inr ⟨c, rfl⟩
      | ok a =>
        obtain ⟨e1, e2⟩ := sameP_two (s := p.1.ty) (t := q.1.ty) hs
        left
        rw [← hs]
        show sameP [q.1.ty, p.1.ty] = sameP [p.1.ty, q.1.ty]
        rw [e1]
    rcases e with e | ⟨c, e⟩
    · rcases g1 with g | g
      · rw [g] at ht ⊢; simp only [typeG] at ht ⊢; rw [e]; exact ht
      · rw [g] at ht ⊢; simp only [typeG] at ht ⊢; rw [e]; exact ht
    · rcases g1 with g | g
      · rw [g] at ht; simp only [typeG] at ht; rw [e] at ht; cases ht
      · rw [g] at ht; simp only [typeG] at ht; rw [e] at ht; cases ht
  · have hd := h.dim
    rw [g2] at hd ⊢
    show spreadP q.2 p.2 = _
    rw [spreadP_comm c2 c1]
    exact hd

/-- The type, the dims and the error of an answer. -/
def tyR : R (Int × List Int) → Int
  | .ok r => r.1
  | .error _ => 0
def dmR : R (Int × List Int) → List Int
  | .ok r => r.2
  | .error _ => []
def erR : R (Int × List Int) → Int
  | .ok _ => 0
  | .error c => c

theorem att_res {out : ByteArray} {w w' : World} {X : R (Int × List Int)} {e : Ending} (h : AttQ out w X e w') : ∃ (nm : ByteArray) (s : Sl), e = .returned (.tuple #[.agg #[.string nm, .int .i64 (tyR X), .slice s.a s.n s.c], .int .i64 (erR X)]) ∧ IsInts w' s.v (dmR X) ∧ w.grownBy w' none ∧ (∀ B, B < w.heap.size → s.v.ownBlock ≠ some B) ∧ (∀ r, X = .ok r → nm = out) := by
  cases X with
  | error c => exact ⟨⟨#[]⟩, ⟨none, 0, 0⟩, h.2, ints_nilI w', h.1, (fun B _ e => by simp [Value.ownBlock] at e), fun r hr => by cases hr⟩
  | ok r =>
    obtain ⟨hg, s, he, ho⟩ := h
    refine ⟨out, s, he, ho.ints, hg, fun B hB e => ?_, fun _ _ => rfl⟩
    rcases ho.1.2 with ⟨e1, -⟩ | ⟨gg, cap', cur, e1, hgg, -⟩
    · rw [e1] at e; simp [Value.ownBlock] at e
    · rw [e1] at e; simp [Value.ownBlock] at e; omega

theorem two_same {X Y : R (Int × List Int)} (h1 : ∀ r, X = .ok r → Y = .ok r) (h2 : ∀ r, Y = .ok r → X = .ok r) (n1 : ∀ c, X = .error c → c ≠ 0) (n2 : ∀ c, Y = .error c → c ≠ 0) : tyR X = tyR Y ∧ dmR X = dmR Y ∧ ((erR X == 0) == (erR Y == 0)) = true := by
  cases X with
  | ok r => rw [h1 r rfl]; exact ⟨rfl, rfl, by simp⟩
  | error c =>
    cases Y with
    | ok r => have := h2 r rfl; cases this
    | error d =>
      have a := n1 c rfl
      have b := n2 d rfl
      refine ⟨rfl, rfl, ?_⟩
      show ((c == 0) == (d == 0)) = true
      rw [beq_eq_false_iff_ne.2 a, beq_eq_false_iff_ne.2 b]
      rfl
end Go.Proofs.YteigfipgmghgmaaGreatDoor
