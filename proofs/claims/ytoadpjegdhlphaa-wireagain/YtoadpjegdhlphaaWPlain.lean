/- Numbers and fields of package wire, by recursion alone: what stands at a place of a text, and the bytes of a number. -/
import Derived.WalkKit
namespace Go.Proofs.Ytoadpjegdhlphaa

/-- The byte at a place of a text; 0 beyond its end. -/
def bt (s : ByteArray) (i : Nat) : Nat := if h : i < s.size then s[i].toNat else 0

theorem bt_lt (s : ByteArray) (i : Nat) : bt s i < 256 := by
  unfold bt; split
  · exact UInt8.toNat_lt _
  · omega

theorem bt_at (s : ByteArray) (i : Nat) (h : i < s.size) : s[i].toNat = bt s i := by unfold bt; rw [dif_pos h]

/-- The number whose groups stand from p on, from group i on, with what the groups ahead came to; and the place behind it. -/
def tkF (s : ByteArray) (p : Nat) : Nat → Nat → Nat → Option (Nat × Nat)
  | 0, _, _ => none
  | f + 1, i, u => if p + i < s.size then (if i = 9 ∧ 1 < bt s (p + i) then none else if bt s (p + i) < 128 then some (u + bt s (p + i) * 128 ^ i, p + i + 1) else tkF s p f (i + 1) (u + bt s (p + i) % 128 * 128 ^ i)) else none

def tk (s : ByteArray) (p : Nat) : Option (Nat × Nat) := tkF s p 10 0 0

theorem tkF_end {s : ByteArray} {p f i u : Nat} (h : s.size ≤ p + i) : tkF s p f i u = none := by
  cases f with
  | zero => rfl
  | succ f => unfold tkF; rw [if_neg (by omega)]
theorem tkF_big {s : ByteArray} {p f u : Nat} (hb : 1 < bt s (p + 9)) : tkF s p f 9 u = none := by
  cases f with
  | zero => rfl
  | succ f => unfold tkF; split
              · rw [if_pos ⟨rfl, hb⟩]
              · rfl
theorem tkF_done {s : ByteArray} {p f i u : Nat} (h : p + i < s.size) (h9 : ¬ (i = 9 ∧ 1 < bt s (p + i))) (hb : bt s (p + i) < 128) : tkF s p (f + 1) i u = some (u + bt s (p + i) * 128 ^ i, p + i + 1) := by
  unfold tkF; rw [if_pos h, if_neg h9, if_pos hb]
theorem tkF_next {s : ByteArray} {p f i u : Nat} (h : p + i < s.size) (h9 : ¬ i = 9) (hb : ¬ bt s (p + i) < 128) : tkF s p (f + 1) i u = tkF s p f (i + 1) (u + bt s (p + i) % 128 * 128 ^ i) := by
  conv => lhs; unfold tkF
  rw [if_pos h, if_neg (by omega), if_neg hb]

theorem pow_cases {i : Nat} (hi : i ≤ 9) : i = 0 ∨ i = 1 ∨ i = 2 ∨ i = 3 ∨ i = 4 ∨ i = 5 ∨ i = 6 ∨ i = 7 ∨ i = 8 ∨ i = 9 := by omega

/-- One group more: below the next power. -/
theorem grp_lt {u b i : Nat} (hi : i ≤ 8) (hu : u < 128 ^ i) : u + b % 128 * 128 ^ i < 128 ^ (i + 1) := by
  rcases pow_cases (i := i) (by omega) with rfl | rfl | rfl | rfl | rfl | rfl | rfl | rfl | rfl | rfl <;> simp at * <;> omega

theorem tkF_spec {s : ByteArray} {p : Nat} : ∀ (f i u : Nat), i + f = 10 → u < 128 ^ i → ∀ {v n}, tkF s p f i u = some (v, n) → v < 18446744073709551616 ∧ p + i < n ∧ n ≤ s.size ∧ n ≤ p + 10 := by
  intro f
  induction f with
  | zero => intro i u _ _ v n h; cases h
  | succ f ih =>
    intro i u hf hu v n h
    unfold tkF at h
    by_cases h1 : p + i < s.size
    · rw [if_pos h1] at h
      by_cases h2 : i = 9 ∧ 1 < bt s (p + i)
      · rw [if_pos h2] at h; cases h
      · rw [if_neg h2] at h
        by_cases h3 : bt s (p + i) < 128
        · rw [if_pos h3] at h
          cases h
          have hi : i ≤ 9 := by omega
          refine ⟨?_, by omega, by omega, by omega⟩
          generalize bt s (p + i) = b at *
          rcases pow_cases hi with rfl | rfl | rfl | rfl | rfl | rfl | rfl | rfl | rfl | rfl <;> simp at * <;> omega
        · rw [if_neg h3] at h
          have hb : i ≠ 9 := by intro e; subst e; omega
          have := ih (i + 1) _ (by omega) (grp_lt (by omega) hu) h
          omega
    · rw [if_neg h1] at h; cases h

theorem tk_spec {s : ByteArray} {p v n : Nat} (h : tk s p = some (v, n)) : v < 18446744073709551616 ∧ p < n ∧ n ≤ s.size ∧ n ≤ p + 10 := by
  have := tkF_spec 10 0 0 rfl (by simp) h
  omega

/-- The number, the place behind it, and whether there is one. -/
def tkU (s : ByteArray) (p : Nat) : Nat := ((tk s p).map (·.1)).getD 0
def tkN (s : ByteArray) (p : Nat) : Nat := ((tk s p).map (·.2)).getD 0
def tkB (s : ByteArray) (p : Nat) : Bool := (tk s p).isSome

/-- The bytes of a number. -/
def vbF : Nat → Nat → List Nat
  | 0, u => [u % 256]
  | f + 1, u => if u < 128 then [u] else (u % 128 + 128) :: vbF f (u / 128)

def vb (u : Nat) : List Nat := vbF 10 u

end Go.Proofs.Ytoadpjegdhlphaa
