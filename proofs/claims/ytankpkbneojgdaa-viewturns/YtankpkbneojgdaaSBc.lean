/- Broadcast, by the walk: of the code, and the document's. -/
import Derived.Test.YtankpkbneojgdaaSStr
namespace Go.Proofs.Ytankpkbneojgdaa
open Go.RowKit

/-- Two dimensions that can't be spread to one another. -/
def apartAt (p q : Int) : Bool := !(p == q) && (!(p == 1) && !(q == 1))
/-- The greater ones, of the last k places. -/
def bcL (a b : List Int) : Nat → List Int
  | 0 => []
  | k + 1 => max (bh a k) (bh b k) :: bcL a b k
def bcBad (a b : List Int) : Nat → Bool
  | 0 => false
  | k + 1 => apartAt (bh a k) (bh b k) || bcBad a b k
def rank (a b : List Int) : Nat := max a.length b.length
def bcE (a b : List Int) : Int := if cntE a ≠ 0 then cntE a else if cntE b ≠ 0 then cntE b else if bcBad a b (rank a b) = true then 4 else cntE (bcL a b (rank a b))
def bcR (a b : List Int) : List Int := if bcE a b = 0 then bcL a b (rank a b) else []

theorem bcL_length (a b : List Int) (k : Nat) : (bcL a b k).length = k := by
  induction k with
  | zero => rfl
  | succ k ih => simp [bcL, ih]

theorem bcBad_of {a b : List Int} {k n : Nat} (hk : k < n) (h : apartAt (bh a k) (bh b k) = true) : bcBad a b n = true := by
  induction n with
  | zero => omega
  | succ n ih =>
    rcases lt_succ_cases hk with h1 | rfl
    · simp [bcBad, ih h1]
    · simp [bcBad, h]

theorem bh_wf {zs : List Int} (h : ∀ z ∈ zs, -9223372036854775808 ≤ z ∧ z ≤ 9223372036854775807) (i : Nat) : -9223372036854775808 ≤ bh zs i ∧ bh zs i ≤ 9223372036854775807 := by
  unfold bh
  split
  · omega
  · exact h _ (by rw [List.getD, List.getElem?_eq_getElem (by omega)]; simp)

theorem bcL_wf {a b : List Int} (ha : ∀ z ∈ a, -9223372036854775808 ≤ z ∧ z ≤ 9223372036854775807) (hb : ∀ z ∈ b, -9223372036854775808 ≤ z ∧ z ≤ 9223372036854775807) (k : Nat) : ∀ z ∈ bcL a b k, -9223372036854775808 ≤ z ∧ z ≤ 9223372036854775807 := by
  induction k with
  | zero => intro z hz; simp [bcL] at hz
  | succ k ih =>
    intro z hz
    rcases List.mem_cons.1 hz with rfl | hz
    · have h1 := bh_wf ha k
      have h2 := bh_wf hb k
      omega
    · exact ih z hz

theorem apart_cases (p q : Int) (h : apartAt p q = true) : (p == q) = false ∧ (p == 1) = false ∧ (q == 1) = false := by
  simp only [apartAt, Bool.and_eq_true, Bool.not_eq_true'] at h
  exact h

theorem ret_bc {E : Int} {a b : List Int} {w w' : World} (h : bcE a b = E) (h0 : E ≠ 0) (hg : w.grownBy w' none) :
    ∃ u, Ending.returned (.tuple #[.slice none 0 0, .int .i64 E]) = .returned (.tuple #[u, .int .i64 (bcE a b)]) ∧ Owns w' w.heap.size u (bcR a b) ∧ w.grownBy w' none :=
  ⟨_, by rw [h], by rw [show bcR a b = [] by simp [bcR, h, h0]]; exact owns_nil _ _, hg⟩

theorem cntE_neq {zs : List Int} (h : cntE zs ≠ 0) : (cntE zs == 0) = false := by simpa using h

end Go.Proofs.Ytankpkbneojgdaa
