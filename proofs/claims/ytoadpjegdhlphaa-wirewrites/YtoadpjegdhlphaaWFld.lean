/- Fields of a text, one behind the other, by recursion alone. -/
import Derived.Test.YtoadpjegdhlphaaWPlain
namespace Go.Proofs.Ytoadpjegdhlphaa

structure Fld where
  num : Int
  kind : Int
  u : Int
  b : ByteArray

/-- So many bytes from p on, the lowest eight bits first. -/
def low (s : ByteArray) (p : Nat) : Nat → Nat
  | 0 => 0
  | n + 1 => bt s p + 256 * low s (p + 1) n

theorem low_lt (s : ByteArray) : ∀ (n p : Nat), low s p n < 256 ^ n := by
  intro n
  induction n with
  | zero => intro p; simp [low]
  | succ n ih =>
    intro p
    have h1 := ih (p + 1)
    have h2 := bt_lt s p
    rw [low, Nat.pow_succ]
    omega

theorem low_snoc (s : ByteArray) : ∀ (n p : Nat), low s p (n + 1) = low s p n + bt s (p + n) * 256 ^ n := by
  intro n
  induction n with
  | zero => intro p; simp [low]
  | succ n ih =>
    intro p
    rw [low, ih (p + 1), low, Nat.pow_succ, show p + 1 + n = p + (n + 1) by omega, Nat.mul_add, Nat.add_assoc]
    congr 1
    congr 1
    rw [Nat.mul_comm 256, Nat.mul_assoc]

/-- What follows a field's head. -/
def fdT (s : ByteArray) (t q : Nat) : Option (Fld × Nat) :=
  if 4294967295 < t ∨ t < 8 then none
  else if t % 8 = 0 then (tk s q).map fun x => (⟨(t / 8 : Nat), 0, x.1, ByteArray.empty⟩, x.2)
  else if t % 8 = 1 then (if q + 8 ≤ s.size then some (⟨(t / 8 : Nat), 1, low s q 8, ByteArray.empty⟩, q + 8) else none)
  else if t % 8 = 5 then (if q + 4 ≤ s.size then some (⟨(t / 8 : Nat), 5, low s q 4, ByteArray.empty⟩, q + 4) else none)
  else if t % 8 = 2 then (match tk s q with
    | none => none
    | some (n, r) => if n ≤ s.size - r then some (⟨(t / 8 : Nat), 2, 0, s.extract r (r + n)⟩, r + n) else none)
  else none

def fd (s : ByteArray) (p : Nat) : Option (Fld × Nat) :=
  match tk s p with
  | none => none
  | some (t, q) => fdT s t q

/-- What stands one behind the other, until the text is at its end. -/
def allF {α : Type} (item : Nat → Option (α × Nat)) (size : Nat) : Nat → Nat → Option (List α)
  | 0, _ => some []
  | f + 1, p => if p < size then (match item p with
    | none => none
    | some (x, q) => (allF item size f q).map (x :: ·)) else some []

def all {α : Type} (item : Nat → Option (α × Nat)) (size : Nat) : Option (List α) := allF item size size 0

theorem allF_end {α : Type} {item : Nat → Option (α × Nat)} {size f p : Nat} (h : size ≤ p) : allF item size f p = some [] := by
  cases f with
  | zero => rfl
  | succ f => unfold allF; rw [if_neg (by omega)]

theorem allF_none {α : Type} {item : Nat → Option (α × Nat)} {size f p : Nat} (h : p < size) (hf : size ≤ p + f) (hi : item p = none) : allF item size f p = none := by
  cases f with
  | zero => omega
  | succ f => unfold allF; rw [if_pos h, hi]

theorem allF_some {α : Type} {item : Nat → Option (α × Nat)} {size f p : Nat} {x : α} {q : Nat} (h : p < size) (hf : size ≤ p + f) (hi : item p = some (x, q)) : allF item size f p = (allF item size (f - 1) q).map (x :: ·) := by
  cases f with
  | zero => omega
  | succ f => conv => lhs; unfold allF
              rw [if_pos h, hi]; rfl

theorem app_cons {α : Type} (acc : List α) (x : α) (o : Option (List α)) : ((o.map (x :: ·)).map (acc ++ ·)) = o.map ((acc ++ [x]) ++ ·) := by
  cases o <;> simp

theorem fdT_spec {s : ByteArray} {t q : Nat} {x : Fld} {r : Nat} (h : fdT s t q = some (x, r)) :
    q ≤ r ∧ r ≤ s.size ∧ 1 ≤ x.num ∧ x.num ≤ 536870911 ∧ 0 ≤ x.kind ∧ x.kind ≤ 5 ∧ 0 ≤ x.u ∧ x.u < 18446744073709551616 ∧ x.b.size ≤ r - q := by
  unfold fdT at h
  have l8 := low_lt s 8 q
  have l4 := low_lt s 4 q
  split at h
  · cases h
  · have ht : ¬ (4294967295 < t ∨ t < 8) := by assumption
    split at h
    · cases hk : tk s q with
      | none => rw [hk] at h; cases h
      | some y =>
        rw [hk] at h
        obtain ⟨v, n⟩ := y
        have := tk_spec hk
        cases h
        simp
        omega
    · split at h
      · split at h
        · cases h; simp at *; omega
        · cases h
      · split at h
        · split at h
          · cases h; simp at *; omega
          · cases h
        · split at h
          · cases hk : tk s q with
            | none => rw [hk] at h; cases h
            | some y =>
              obtain ⟨v, n⟩ := y
              have := tk_spec hk
              rw [hk] at h
              simp only at h
              split at h
              · cases h; simp [ByteArray.size_extract] at *; omega
              · cases h
          · cases h

theorem fd_spec {s : ByteArray} {p : Nat} {x : Fld} {r : Nat} (h : fd s p = some (x, r)) :
    p < r ∧ r ≤ s.size ∧ 1 ≤ x.num ∧ x.num ≤ 536870911 ∧ 0 ≤ x.kind ∧ x.kind ≤ 5 ∧ 0 ≤ x.u ∧ x.u < 18446744073709551616 ∧ x.b.size ≤ r - p := by
  unfold fd at h
  cases hk : tk s p with
  | none => rw [hk] at h; cases h
  | some y =>
    obtain ⟨t, q⟩ := y
    have h1 := tk_spec hk
    rw [hk] at h
    have h2 := fdT_spec h
    omega

end Go.Proofs.Ytoadpjegdhlphaa
