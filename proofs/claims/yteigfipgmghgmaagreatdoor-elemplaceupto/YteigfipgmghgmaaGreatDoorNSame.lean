/- What Check answers hangs on no place where lists lie. -/
import Derived.Test.YteigfipgmghgmaaGreatDoorNCheckC
namespace Go.Proofs.YteigfipgmghgmaaGreatDoor
open Go.RowKit

theorem isA_strip (nm : ByteArray) (kd : Int) (a : Atr) : isA nm kd (strip a) = isA nm kd a := rfl

theorem find_strip (nm : ByteArray) (kd : Int) (xs : List Atr) : (xs.map strip).find? (isA nm kd) = (xs.find? (isA nm kd)).map strip := by
  rw [List.find?_map]
  rfl

theorem thenE_strip (o : Option Atr) : thenE (o.map strip) = thenE o := by cases o <;> rfl

theorem any_strip (nm : ByteArray) (l : List Atr) : (l.map strip).any (aheadA nm) = l.any (aheadA nm) := by
  rw [List.any_map]
  rfl

theorem chk1_strip (rs : List Ra) (xs : List Atr) : ∀ (l : List Atr) (i : Nat), chk1 rs (xs.map strip) (l.map strip) i = chk1 rs xs l i
  | [], _ => rfl
  | a :: l, i => by
    rw [List.map_cons, chk1, chk1, chk1_strip rs xs l (i + 1), ← List.map_take, any_strip]
    rfl

theorem lacks_strip (rs : List Ra) (xs : List Atr) : lacks rs (xs.map strip) = lacks rs xs := by
  unfold lacks
  congr 1
  funext r
  rw [find_strip]
  cases xs.find? (isA r.name r.kind) <;> rfl

theorem attrsE_strip (rs : List Ra) (xs : List Atr) : attrsE rs (xs.map strip) = attrsE rs xs := by
  unfold attrsE
  rw [chk1_strip, lacks_strip]

theorem checkE_strip (r : Option (Int × Int × List Ra)) (ins : List ByteArray) (out : ByteArray) (xs : List Atr) : checkE r ins out (xs.map strip) = checkE r ins out xs := by
  unfold checkE
  cases r with
  | none => rfl
  | some t =>
    obtain ⟨lo, hi, rs⟩ := t
    simp only
    rw [attrsE_strip, find_strip, thenE_strip]

theorem zip_strip : ∀ (xs : List Atr) (cs : List Cont) (P : Atr → Bool), (∀ a, P (strip a) = P a) → ((xs.map strip).zip cs).find? (fun p => P p.1) = ((xs.zip cs).find? (fun p => P p.1)).map (fun p => (strip p.1, p.2))
  | [], _, _, _ => by simp
  | x :: l, [], _, _ => by simp
  | x :: l, c :: cs, P, h => by
    rw [List.map_cons, List.zip_cons_cons, List.zip_cons_cons, List.find?_cons, List.find?_cons]
    simp only [h]
    cases P x
    · simpa using zip_strip l cs P h
    · rfl

theorem constE_strip (xs : List Atr) (cs : List Cont) : constE (xs.map strip) cs = constE xs cs := by
  unfold constE
  rw [zip_strip xs cs (isA ⟨#[118, 97, 108, 117, 101]⟩ 4) (fun _ => rfl)]
  cases (xs.zip cs).find? (fun p => isA ⟨#[118, 97, 108, 117, 101]⟩ 4 p.1) <;> rfl

theorem checkF_strip {r : Option (Int × Int × List Ra)} {op : ByteArray} {ins : List ByteArray} {out : ByteArray} {xs ys : List Atr} {cs : List Cont} (h : ys.map strip = xs.map strip) : checkF r op ins out ys cs = checkF r op ins out xs cs := by
  unfold checkF
  rw [← checkE_strip r ins out ys, ← constE_strip ys, h, checkE_strip, constE_strip]

/-- What a node that may be has. -/
theorem checkE_ok {r : Option (Int × Int × List Ra)} {ins : List ByteArray} {out : ByteArray} {xs : List Atr} (h : checkE r ins out xs = 0) :
    ∃ lo hi rs, r = some (lo, hi, rs) ∧ ¬ (ins.length : Int) < lo ∧ ¬ hi < (ins.length : Int) ∧ ((out.toList == []) || ins.any (isS ⟨#[]⟩)) = false ∧ attrsE rs xs = 0 ∧ thenE (xs.find? (isA ⟨#[116, 104, 101, 110]⟩ 3)) = 0 := by
  unfold checkE at h
  cases r with
  | none => simp at h
  | some t =>
    obtain ⟨lo, hi, rs⟩ := t
    simp only at h
    by_cases h1 : (ins.length : Int) < lo
    · rw [if_pos h1] at h; simp at h
    · rw [if_neg h1] at h
      by_cases h2 : hi < (ins.length : Int)
      · rw [if_pos h2] at h; simp at h
      · rw [if_neg h2] at h
        by_cases h3 : ((out.toList == []) || ins.any (isS ⟨#[]⟩)) = true
        · rw [if_pos h3] at h; simp at h
        · rw [if_neg h3] at h
          by_cases h4 : attrsE rs xs = 0
          · rw [if_pos h4] at h
            exact ⟨lo, hi, rs, rfl, h1, h2, by simpa using h3, h4, h⟩
          · rw [if_neg h4] at h
            exact absurd h h4

theorem attrsE_ok {rs : List Ra} {xs : List Atr} (h : attrsE rs xs = 0) : chk1 rs xs xs 0 = none ∧ lacks rs xs = false := by
  unfold attrsE at h
  cases hc : chk1 rs xs xs 0 with
  | some e =>
    rw [hc] at h
    have : ∀ (l : List Atr) (i : Nat) (e : Int), chk1 rs xs l i = some e → e ≠ 0 := by
      intro l
      induction l with
      | nil => intro i e h; cases h
      | cons a l ih =>
        intro i e h
        rw [chk1] at h
        cases hf : rs.find? (sameR a.name) with
        | none => rw [hf] at h; cases h; decide
        | some r =>
          rw [hf] at h
          simp only at h
          split at h
          · cases h; decide
          · split at h
            · cases h; decide
            · exact ih _ _ h
    exact absurd h (this _ _ _ hc)
  | none =>
    rw [hc] at h
    refine ⟨rfl, ?_⟩
    cases hl : lacks rs xs with
    | false => rfl
    | true => rw [hl] at h; simp at h

theorem chk1_append (rs : List Ra) (zs : List Atr) : ∀ (l m : List Atr) (i : Nat), chk1 rs zs l i = none → chk1 rs zs (l ++ m) i = chk1 rs zs m (i + l.length)
  | [], m, i, _ => rfl
  | a :: l, m, i, h => by
    rw [chk1] at h
    rw [List.cons_append, chk1]
    cases hf : rs.find? (sameR a.name) with
    | none => rw [hf] at h; cases h
    | some r =>
      rw [hf] at h
      simp only at h ⊢
      split at h
      · cases h
      · split at h
        · cases h
        · rename_i h1 h2
          rw [if_neg h1, if_neg h2, chk1_append rs zs l m (i + 1) h, List.length_cons]
          congr 1
          omega

/-- What stands behind makes no difference to what stands ahead. -/
theorem chk1_front (rs : List Ra) (xs zs : List Atr) : ∀ (l : List Atr) (i : Nat), i + l.length ≤ xs.length → chk1 rs (xs ++ zs) l i = chk1 rs xs l i
  | [], _, _ => rfl
  | a :: l, i, h => by
    rw [List.length_cons] at h
    rw [chk1, chk1, List.take_append_of_le_length (by omega), chk1_front rs xs zs l (i + 1) (by omega)]

/-- Each attribute that may be is one that the operator has. -/
theorem chk1_each (rs : List Ra) (xs : List Atr) : ∀ (l : List Atr) (i : Nat), chk1 rs xs l i = none → ∀ a ∈ l, rs.find? (sameR a.name) ≠ none
  | [], _, _, a, h => by cases h
  | x :: l, i, h, a, ha => by
    rw [chk1] at h
    cases hf : rs.find? (sameR x.name) with
    | none => rw [hf] at h; cases h
    | some r =>
      rw [hf] at h
      simp only at h
      split at h
      · cases h
      · split at h
        · cases h
        · rcases List.mem_cons.1 ha with rfl | ha
          · rw [hf]; simp
          · exact chk1_each rs xs l (i + 1) h a ha

theorem attrsE_twice {rs : List Ra} {xs : List Atr} {a : Atr} (h : attrsE rs xs = 0) (ha : a ∈ xs) : attrsE rs (xs ++ [a]) = 4 := by
  obtain ⟨h1, -⟩ := attrsE_ok h
  have h2 : chk1 rs (xs ++ [a]) xs 0 = none := by rw [chk1_front rs xs [a] xs 0 (by omega)]; exact h1
  refine attrsE_some ?_
  rw [chk1_append rs _ xs [a] 0 h2, chk1, Nat.zero_add, List.take_left]
  cases hf : rs.find? (sameR a.name) with
  | none => exact absurd hf (chk1_each rs xs xs 0 h1 a ha)
  | some r =>
    have : xs.any (aheadA a.name) = true := List.any_eq_true.2 ⟨a, ha, by simp [aheadA]⟩
    simp only [this, Bool.or_true, if_true]

theorem checkE_twice {r : Option (Int × Int × List Ra)} {op : ByteArray} {ins : List ByteArray} {out : ByteArray} {xs : List Atr} {cs ds : List Cont} {a : Atr} (h : checkF r op ins out xs cs = 0) (ha : a ∈ xs) : checkF r op ins out (xs ++ [a]) ds = 4 := by
  have h0 : checkE r ins out xs = 0 := by
    unfold checkF at h
    by_cases h1 : checkE r ins out xs = 0
    · exact h1
    · rw [if_pos h1] at h; exact h
  obtain ⟨lo, hi, rs, rfl, h1, h2, h3, h4, -⟩ := checkE_ok h0
  refine checkF_no ?_ (by decide)
  unfold checkE
  simp only
  rw [if_neg h1, if_neg h2, if_neg (by rw [h3]; decide), attrsE_twice h4 ha, if_neg (by decide)]
end Go.Proofs.YteigfipgmghgmaaGreatDoor
