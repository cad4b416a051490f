/- Two texts put together: the fields of both. -/
import Derived.Test.YtoadpjegdhlphaaWFld
namespace Go.Proofs.Ytoadpjegdhlphaa

theorem allF_fuel' {α : Type} {item : Nat → Option (α × Nat)} {size : Nat} (hi : ∀ {p : Nat} {x : α} {q : Nat}, item p = some (x, q) → p < q) : ∀ {f f' p : Nat}, size ≤ p + f → size ≤ p + f' → allF item size f p = allF item size f' p := by
  intro f
  induction f with
  | zero => intro f' p h h'; rw [allF_end (by omega), allF_end (by omega)]
  | succ f ih =>
    intro f' p h h'
    by_cases hp : p < size
    · cases f' with
      | zero => omega
      | succ f' =>
        unfold allF
        rw [if_pos hp, if_pos hp]
        cases hx : item p with
        | none => rfl
        | some y =>
          obtain ⟨x, q⟩ := y
          have := hi hx
          simp only
          rw [ih (f' := f') (by omega) (by omega)]
    · rw [allF_end (by omega), allF_end (by omega)]

theorem bt_left (s t : ByteArray) (i : Nat) (h : i < s.size) : bt (s ++ t) i = bt s i := by
  unfold bt
  rw [dif_pos (by rw [ByteArray.size_append]; omega), dif_pos h, ByteArray.getElem_append_left h]

theorem bt_right (s t : ByteArray) (i : Nat) : bt (s ++ t) (s.size + i) = bt t i := by
  unfold bt
  by_cases h : i < t.size
  · rw [dif_pos (by rw [ByteArray.size_append]; omega), dif_pos h, ByteArray.getElem_append_right (by omega)]
    simp
  · rw [dif_neg (by rw [ByteArray.size_append]; omega), dif_neg h]

theorem tkF_left (s t : ByteArray) (p : Nat) : ∀ (f i u : Nat) {v n : Nat}, tkF s p f i u = some (v, n) → tkF (s ++ t) p f i u = some (v, n) := by
  intro f
  induction f with
  | zero => intro i u v n h; cases h
  | succ f ih =>
    intro i u v n h
    unfold tkF at h ⊢
    by_cases h1 : p + i < s.size
    · rw [if_pos h1] at h
      rw [if_pos (by rw [ByteArray.size_append]; omega), bt_left s t _ h1]
      split at h
      · cases h
      · rename_i h2
        rw [if_neg h2]
        split at h
        · rename_i h3; rw [if_pos h3]; exact h
        · rename_i h3; rw [if_neg h3]; exact ih _ _ h
    · rw [if_neg h1] at h; cases h

theorem tkF_right (s t : ByteArray) (p : Nat) : ∀ (f i u : Nat), tkF (s ++ t) (s.size + p) f i u = (tkF t p f i u).map fun x => (x.1, s.size + x.2) := by
  intro f
  induction f with
  | zero => intro i u; rfl
  | succ f ih =>
    intro i u
    unfold tkF
    have e : s.size + p + i = s.size + (p + i) := by omega
    rw [e, bt_right, ByteArray.size_append]
    by_cases h1 : p + i < t.size
    · rw [if_pos h1, if_pos (by omega)]
      by_cases h2 : i = 9 ∧ 1 < bt t (p + i)
      · rw [if_pos h2, if_pos h2]; rfl
      · rw [if_neg h2, if_neg h2]
        by_cases h3 : bt t (p + i) < 128
        · rw [if_pos h3, if_pos h3]; rfl
        · rw [if_neg h3, if_neg h3]; exact ih _ _
    · rw [if_neg h1, if_neg (by omega)]; rfl

theorem tk_left {s t : ByteArray} {p v n : Nat} (h : tk s p = some (v, n)) : tk (s ++ t) p = some (v, n) := tkF_left s t p _ _ _ h
theorem tk_right (s t : ByteArray) (p : Nat) : tk (s ++ t) (s.size + p) = (tk t p).map fun x => (x.1, s.size + x.2) := tkF_right s t p _ _ _

theorem low_left (s t : ByteArray) : ∀ (n p : Nat), p + n ≤ s.size → low (s ++ t) p n = low s p n := by
  intro n
  induction n with
  | zero => intro p _; rfl
  | succ n ih => intro p h; rw [low, low, ih (p + 1) (by omega), bt_left s t p (by omega)]
theorem low_right (s t : ByteArray) : ∀ (n p : Nat), low (s ++ t) (s.size + p) n = low t p n := by
  intro n
  induction n with
  | zero => intro p; rfl
  | succ n ih => intro p; rw [low, low, bt_right, show s.size + p + 1 = s.size + (p + 1) by omega, ih]

theorem ext_left (s t : ByteArray) (a b : Nat) (h : b ≤ s.size) : (s ++ t).extract a b = s.extract a b := by
  rw [ByteArray.extract_append]
  have : t.extract (a - s.size) (b - s.size) = ByteArray.empty := by
    rw [show b - s.size = 0 by omega]
    apply ByteArray.ext
    simp
  rw [this]; simp
theorem ext_right (s t : ByteArray) (a b : Nat) : (s ++ t).extract (s.size + a) (s.size + b) = t.extract a b := by
  rw [ByteArray.extract_append]
  have : s.extract (s.size + a) (s.size + b) = ByteArray.empty := by
    have h0 : (s.extract (s.size + a) (s.size + b)).size = 0 := by rw [ByteArray.size_extract]; omega
    exact ByteArray.ext (Array.eq_empty_of_size_eq_zero h0)
  rw [this]; simp

theorem fdT_left {s t : ByteArray} {c q : Nat} {x : Fld} {r : Nat} (h : fdT s c q = some (x, r)) : fdT (s ++ t) c q = some (x, r) := by
  have hsz : (s ++ t).size = s.size + t.size := ByteArray.size_append
  unfold fdT at h ⊢
  split at h
  · cases h
  · rename_i h0
    rw [if_neg h0]
    split at h
    · rename_i h1
      rw [if_pos h1]
      cases hk : tk s q with
      | none => rw [hk] at h; cases h
      | some y => obtain ⟨v, n⟩ := y; rw [hk] at h; rw [tk_left hk]; exact h
    · rename_i h1
      rw [if_neg h1]
      split at h
      · rename_i h2
        rw [if_pos h2]
        split at h
        · rename_i h3; rw [if_pos (by omega), low_left s t 8 q h3]; exact h
        · cases h
      · rename_i h2
        rw [if_neg h2]
        split at h
        · rename_i h4
          rw [if_pos h4]
          split at h
          · rename_i h3; rw [if_pos (by omega), low_left s t 4 q h3]; exact h
          · cases h
        · rename_i h4
          rw [if_neg h4]
          split at h
          · rename_i h5
            rw [if_pos h5]
            cases hk : tk s q with
            | none => rw [hk] at h; cases h
            | some y =>
              obtain ⟨v, n⟩ := y
              have hsp := tk_spec hk
              rw [hk] at h
              rw [tk_left hk]
              simp only at h ⊢
              split at h
              · rename_i h6
                rw [if_pos (by omega), ext_left s t _ _ (by omega)]
                exact h
              · cases h
          · cases h

theorem fd_left {s t : ByteArray} {p : Nat} {x : Fld} {r : Nat} (h : fd s p = some (x, r)) : fd (s ++ t) p = some (x, r) := by
  unfold fd at h ⊢
  cases hk : tk s p with
  | none => rw [hk] at h; cases h
  | some y => obtain ⟨c, q⟩ := y; rw [hk] at h; rw [tk_left hk]; exact fdT_left h

theorem fdT_right (s t : ByteArray) (c q : Nat) (hq : q ≤ t.size) : fdT (s ++ t) c (s.size + q) = (fdT t c q).map fun x => (x.1, s.size + x.2) := by
  have hsz : (s ++ t).size = s.size + t.size := ByteArray.size_append
  unfold fdT
  rw [tk_right, low_right, low_right, hsz]
  split
  · rfl
  · split
    · cases tk t q <;> rfl
    · split
      · by_cases h : q + 8 ≤ t.size
        · rw [if_pos h, if_pos (by omega)]; rfl
        · rw [if_neg h, if_neg (by omega)]; rfl
      · split
        · by_cases h : q + 4 ≤ t.size
          · rw [if_pos h, if_pos (by omega)]; rfl
          · rw [if_neg h, if_neg (by omega)]; rfl
        · split
          · cases hk : tk t q with
            | none => rfl
            | some y =>
              obtain ⟨n, r⟩ := y
              have hsp := tk_spec hk
              simp only [Option.map_some]
              by_cases h : n ≤ t.size - r
              · rw [if_pos h, if_pos (by omega), show s.size + r + n = s.size + (r + n) by omega, ext_right]; rfl
              · rw [if_neg h, if_neg (by omega)]; rfl
          · rfl

theorem fd_right (s t : ByteArray) (p : Nat) : fd (s ++ t) (s.size + p) = (fd t p).map fun x => (x.1, s.size + x.2) := by
  unfold fd
  rw [tk_right]
  cases hk : tk t p with
  | none => rfl
  | some y =>
    obtain ⟨c, q⟩ := y
    have hsp := tk_spec hk
    exact fdT_right s t c q (by omega)

theorem allF_right (s t : ByteArray) : ∀ (f p : Nat), allF (fd (s ++ t)) (s.size + t.size) f (s.size + p) = allF (fd t) t.size f p := by
  intro f
  induction f with
  | zero => intro p; rfl
  | succ f ih =>
    intro p
    unfold allF
    by_cases h : p < t.size
    · rw [if_pos h, if_pos (by omega), fd_right]
      cases hk : fd t p with
      | none => rfl
      | some y => obtain ⟨x, q⟩ := y; simp only [Option.map_some]; rw [ih]
    · rw [if_neg h, if_neg (by omega)]

theorem allF_left (s t : ByteArray) (ys : List Fld) (hy : all (fd t) t.size = some ys) : ∀ (f p : Nat) (xs : List Fld), s.size ≤ p + f → p ≤ s.size → allF (fd s) s.size f p = some xs → allF (fd (s ++ t)) (s.size + t.size) (f + t.size) p = some (xs ++ ys) := by
  intro f
  induction f with
  | zero =>
    intro p xs h1 h2 h
    obtain rfl : p = s.size := by omega
    cases h
    rw [Nat.zero_add]
    exact (allF_right s t t.size 0).trans hy
  | succ f ih =>
    intro p xs h1 h2 h
    by_cases hp : p < s.size
    · unfold allF at h
      rw [if_pos hp] at h
      cases hk : fd s p with
      | none => rw [hk] at h; cases h
      | some y =>
        obtain ⟨x, q⟩ := y
        have hsp := fd_spec hk
        rw [hk] at h
        simp only at h
        cases hr : allF (fd s) s.size f q with
        | none => rw [hr] at h; cases h
        | some zs =>
          rw [hr] at h
          cases h
          rw [show f + 1 + t.size = f + t.size + 1 by omega]
          unfold allF
          rw [if_pos (by omega), fd_left hk]
          simp only
          rw [ih q zs (by omega) (by omega) hr]
          rfl
    · obtain rfl : p = s.size := by omega
      rw [allF_end (Nat.le_refl _)] at h
      cases h
      have e : allF (fd (s ++ t)) (s.size + t.size) (f + 1 + t.size) s.size = allF (fd t) t.size (f + 1 + t.size) 0 := allF_right s t (f + 1 + t.size) 0
      rw [e, List.nil_append]
      rw [← hy]
      exact allF_fuel' (fun h => by have := fd_spec h; omega) (by omega) (by omega)

theorem all_join {s t : ByteArray} {xs ys : List Fld} (hx : all (fd s) s.size = some xs) (hy : all (fd t) t.size = some ys) : all (fd (s ++ t)) (s ++ t).size = some (xs ++ ys) := by
  unfold all
  rw [ByteArray.size_append]
  exact allF_left s t ys hy s.size 0 xs (by omega) (by omega) hx
end Go.Proofs.Ytoadpjegdhlphaa
