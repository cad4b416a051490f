/- What a field's bytes are, by recursion alone; and which fields may be written. -/
import Derived.Test.YtoadpjegdhlphaaWVar
namespace Go.Proofs.Ytoadpjegdhlphaa
open Go.RowKit

/-- So many bytes of a number, the lowest first. -/
def lo (u : Nat) : Nat → List Nat
  | 0 => []
  | n + 1 => u % 256 :: lo (u / 256) n

theorem lo_len (n : Nat) : ∀ u, (lo u n).length = n := by
  induction n with
  | zero => intro u; rfl
  | succ n ih => intro u; simp [lo, ih]

def bytesOf (s : ByteArray) : List Nat := s.data.toList.map UInt8.toNat

theorem bytesOf_len (s : ByteArray) : (bytesOf s).length = s.size := by
  unfold bytesOf
  rw [List.length_map]
  exact Array.length_toList

def tagOf (x : Fld) : Nat := x.num.toNat * 8 + x.kind.toNat

/-- What stands behind a field's head. -/
def tailOf (x : Fld) : List Nat :=
  if x.kind = 0 then vb x.u.toNat else if x.kind = 1 then lo x.u.toNat 8 else if x.kind = 5 then lo x.u.toNat 4 else vb x.b.size ++ bytesOf x.b

def fb (x : Fld) : List Nat := vb (tagOf x) ++ tailOf x

/-- The field may be written. -/
def fok (x : Fld) : Bool :=
  decide (1 ≤ x.num ∧ x.num ≤ 536870911) && (if x.kind = 0 ∨ x.kind = 1 then decide (x.b.size = 0) else if x.kind = 5 then decide (x.b.size = 0 ∧ x.u < 4294967296) else if x.kind = 2 then decide (x.u = 0) else false)

/-- What a value of the type is. -/
def FldIn (x : Fld) : Prop := -9223372036854775808 ≤ x.num ∧ x.num ≤ 9223372036854775807 ∧ -9223372036854775808 ≤ x.kind ∧ x.kind ≤ 9223372036854775807 ∧ 0 ≤ x.u ∧ x.u < 18446744073709551616 ∧ x.b.size ≤ 140737488351232

theorem fok_num {x : Fld} (h : fok x = true) : 1 ≤ x.num ∧ x.num ≤ 536870911 := by
  unfold fok at h
  simp only [Bool.and_eq_true, decide_eq_true_eq] at h
  exact h.1

theorem fok_kind {x : Fld} (h : fok x = true) : (x.kind = 0 ∧ x.b.size = 0) ∨ (x.kind = 1 ∧ x.b.size = 0) ∨ (x.kind = 5 ∧ x.b.size = 0 ∧ x.u < 4294967296) ∨ (x.kind = 2 ∧ x.u = 0) := by
  unfold fok at h
  simp only [Bool.and_eq_true] at h
  obtain ⟨_, h⟩ := h
  split at h
  · rename_i hk
    simp only [decide_eq_true_eq] at h
    omega
  · split at h
    · simp only [decide_eq_true_eq] at h; omega
    · split at h
      · simp only [decide_eq_true_eq] at h; omega
      · cases h

theorem tag_lt {x : Fld} (h : fok x = true) : tagOf x < 4294967296 ∧ 8 ≤ tagOf x ∧ tagOf x / 8 = x.num.toNat ∧ tagOf x % 8 = x.kind.toNat := by
  have h1 := fok_num h
  have h2 := fok_kind h
  unfold tagOf
  omega

theorem fb_len {x : Fld} : 2 ≤ (fb x).length ∧ (fb x).length ≤ 22 + x.b.size := by
  have h1 := vbF_len 10 (tagOf x)
  have h2 := vbF_len 10 x.u.toNat
  have h3 := vbF_len 10 x.b.size
  have h4 := bytesOf_len x.b
  have h5 := lo_len 8 x.u.toNat
  have h6 := lo_len 4 x.u.toNat
  unfold fb tailOf vb
  rw [List.length_append]
  split
  · omega
  · split
    · omega
    · split
      · omega
      · rw [List.length_append]; omega
end Go.Proofs.Ytoadpjegdhlphaa
