/- A part. -/
import Derived.WalkKit
namespace Go.Proofs.YtbgbpfbjeleooaaGreat
def jco : List Int → Int
 | [] => 1
 | z :: zs => z * jco zs
theorem jdP (a b : List Int) : jco (a ++ b) = jco a * jco b := by
 induction a with
 | nil => simp [jco]
 | cons z zs ih => simp [jco, ih, Int.mul_assoc]
theorem prod_pos : ∀ (zs : List Int), (∀ z ∈ zs, 1 ≤ z) → 1 ≤ jco zs
 | [], _ => by simp [jco]
 | z :: zs, h => by
  have h1 := h z (by simp)
  have h2 := prod_pos zs (fun y hy => h y (by simp [hy]))
  have := Int.mul_le_mul h1 h2 (by omega) (by omega)
  simpa [jco] using this
theorem jdQ {a b : Int} (ha : 1 ≤ a) (hb : 0 ≤ b) : b ≤ a * b := by
 have := Int.mul_le_mul_of_nonneg_right ha hb
 omega
theorem jf3 {a b : Int} (ha : 1 ≤ a) (hb : 0 ≤ b) : b ≤ b * a := by
 rw [Int.mul_comm]; exact jdQ ha hb
theorem jeF {zs : List Int} (h : ∀ z ∈ zs, 1 ≤ z) (k : Nat) : ∀ z ∈ zs.drop k, 1 ≤ z := fun z hz => h z (List.mem_of_mem_drop hz)
theorem jfB {zs : List Int} (h : ∀ z ∈ zs, 1 ≤ z) (k : Nat) : ∀ z ∈ zs.take k, 1 ≤ z := fun z hz => h z (List.mem_of_mem_take hz)
theorem jev {zs : List Int} (h : ∀ z ∈ zs, 1 ≤ z) (k : Nat) : jco (zs.drop k) ≤ jco zs := by
 have e : jco zs = jco (zs.take k) * jco (zs.drop k) := by rw [← jdP, List.take_append_drop]
 rw [e]
 have h2 := prod_pos _ (jeF h k)
 exact jdQ (prod_pos _ (jfB h k)) (by omega)
theorem jf4 {zs : List Int} (h : ∀ z ∈ zs, 1 ≤ z) (k : Nat) : jco (zs.take k) ≤ jco zs := by
 have e : jco zs = jco (zs.take k) * jco (zs.drop k) := by rw [← jdP, List.take_append_drop]
 rw [e]
 have h2 := prod_pos _ (jfB h k)
 exact jf3 (prod_pos _ (jeF h k)) (by omega)
theorem jia (zs : List Int) (k : Nat) (hk : k < zs.length) : zs.drop k = zs.getD k 0 :: zs.drop (k + 1) := by
 rw [List.drop_eq_getElem_cons hk]
 simp [List.getD, hk]
theorem jfg (zs : List Int) (k : Nat) (hk : k < zs.length) : jco (zs.drop k) = zs.getD k 0 * jco (zs.drop (k + 1)) := by
 rw [jia zs k hk]; rfl
theorem jf5 (zs : List Int) (k : Nat) (hk : k < zs.length) : zs.take (k + 1) = zs.take k ++ [zs.getD k 0] := by
 rw [List.take_add_one]
 simp [List.getD, hk]
theorem jfh (zs : List Int) (k : Nat) (hk : k < zs.length) : jco (zs.take (k + 1)) = jco (zs.take k) * zs.getD k 0 := by
 rw [jf5 zs k hk, jdP]
 simp [jco]
def jcH (zs : List Int) : Int := if zs.any (fun z => decide (z < 1)) = true then 4 else if 6 < zs.length then 6 else if 65536 < jco zs then 6 else 0
def cnt (zs : List Int) : Int := if jcH zs = 0 then jco zs else 0
theorem jib (zs : List Int) : zs.any (fun z => decide (z < 1)) = true ↔ ∃ z ∈ zs, z < 1 := by simp [List.any_eq_true]
theorem jg8 {zs : List Int} (h : ∃ z ∈ zs, z < 1) : jcH zs = 4 := by simp [jcH, (jib zs).2 h]
theorem jgH {zs : List Int} (h : ∀ z ∈ zs, 1 ≤ z) : zs.any (fun z => decide (z < 1)) = false := by
 rw [Bool.eq_false_iff, ne_eq, jib]
 rintro ⟨z, hz, h1⟩
 have := h z hz
 omega
theorem jf6 {zs : List Int} (h : ∀ z ∈ zs, 1 ≤ z) (hl : 6 < zs.length) : jcH zs = 6 := by simp [jcH, jgH h, hl]
theorem jfm {zs : List Int} (h : ∀ z ∈ zs, 1 ≤ z) (hp : 65536 < jco zs) : jcH zs = 6 := by
 simp only [jcH, jgH h, Bool.false_eq_true, if_false, hp, if_true]
 split <;> rfl
theorem jkl {zs : List Int} (h : ∀ z ∈ zs, 1 ≤ z) (hl : zs.length ≤ 6) (hp : jco zs ≤ 65536) : jcH zs = 0 := by
 simp only [jcH, jgH h, Bool.false_eq_true, if_false, if_neg (show ¬ 6 < zs.length by omega), if_neg (show ¬ 65536 < jco zs by omega)]
structure Fine (zs : List Int) : Prop where
 pos : ∀ z ∈ zs, 1 ≤ z
 few : zs.length ≤ 6
 le : jco zs ≤ 65536
theorem Fine.ok {zs : List Int} (h : Fine zs) : jcH zs = 0 := jkl h.pos h.few h.le
theorem Fine.cnt {zs : List Int} (h : Fine zs) : cnt zs = jco zs := by simp [Go.Proofs.YtbgbpfbjeleooaaGreat.cnt, h.ok]
theorem jkm {zs : List Int} (h : jcH zs ≠ 0) : cnt zs = 0 := by simp [cnt, h]
theorem jkN (zs : List Int) : jcH zs = 0 ∨ jcH zs = 4 ∨ jcH zs = 6 := by
 unfold jcH; split <;> (try split) <;> (try split) <;> simp
theorem Fine.drop {zs : List Int} (h : Fine zs) (k : Nat) : Fine (zs.drop k) :=
 ⟨jeF h.pos k, by have := h.few; simp; omega, Int.le_trans (jev h.pos k) h.le⟩
theorem Fine.prod_pos {zs : List Int} (h : Fine zs) : 1 ≤ jco zs := Go.Proofs.YtbgbpfbjeleooaaGreat.prod_pos zs h.pos
theorem Fine.at {zs : List Int} (h : Fine zs) (k : Nat) (hk : k < zs.length) : 1 ≤ zs.getD k 0 := h.pos _ (by simp [List.getD, hk])
end Go.Proofs.YtbgbpfbjeleooaaGreat
namespace Go.Proofs.YtbgbpfbjeleooaaGreat.Wr
def bt (s : ByteArray) (i : Nat) : Nat := if h : i < s.size then s[i].toNat else 0
theorem bt_lt (s : ByteArray) (i : Nat) : bt s i < 256 := by
 unfold bt; split
 ·exact UInt8.toNat_lt _
 ·omega
theorem bt_at (s : ByteArray) (i : Nat) (h : i < s.size) : s[i].toNat = bt s i := by unfold bt; rw [dif_pos h]
def tkF (s : ByteArray) (p : Nat) : Nat → Nat → Nat → Option (Nat × Nat)
 | 0, _, _ => none
 | f + 1, i, u => if p + i < s.size then (if i = 9 ∧ 1 < bt s (p + i) then none else if bt s (p + i) < 128 then some (u + bt s (p + i) * 128 ^ i, p + i + 1) else tkF s p f (i + 1) (u + bt s (p + i) % 128 * 128 ^ i)) else none
def tk (s : ByteArray) (p : Nat) : Option (Nat × Nat) := tkF s p 10 0 0
theorem jic {s : ByteArray} {p f i u : Nat} (h : s.size ≤ p + i) : tkF s p f i u = none := by
 cases f with
 | zero => rfl
 | succ f => unfold tkF; rw [if_neg (by omega)]
theorem jkn {s : ByteArray} {p f u : Nat} (hb : 1 < bt s (p + 9)) : tkF s p f 9 u = none := by
 cases f with
 | zero => rfl
 | succ f => unfold tkF; split
             ·rw [if_pos ⟨rfl, hb⟩]
             ·rfl
theorem jg9 {s : ByteArray} {p f i u : Nat} (h : p + i < s.size) (h9 : ¬ (i = 9 ∧ 1 < bt s (p + i))) (hb : bt s (p + i) < 128) : tkF s p (f + 1) i u = some (u + bt s (p + i) * 128 ^ i, p + i + 1) := by
 unfold tkF; rw [if_pos h, if_neg h9, if_pos hb]
theorem jjj {s : ByteArray} {p f i u : Nat} (h : p + i < s.size) (h9 : ¬ i = 9) (hb : ¬ bt s (p + i) < 128) : tkF s p (f + 1) i u = tkF s p f (i + 1) (u + bt s (p + i) % 128 * 128 ^ i) := by
 conv => lhs; unfold tkF
 rw [if_pos h, if_neg (by omega), if_neg hb]
theorem jd0 {i : Nat} (hi : i ≤ 9) : i = 0 ∨ i = 1 ∨ i = 2 ∨ i = 3 ∨ i = 4 ∨ i = 5 ∨ i = 6 ∨ i = 7 ∨ i = 8 ∨ i = 9 := by omega
theorem jid {u b i : Nat} (hi : i ≤ 8) (hu : u < 128 ^ i) : u + b % 128 * 128 ^ i < 128 ^ (i + 1) := by
 rcases jd0 (i := i) (by omega) with rfl | rfl | rfl | rfl | rfl | rfl | rfl | rfl | rfl | rfl <;> simp at * <;> omega
theorem jjk {s : ByteArray} {p : Nat} : ∀ (f i u : Nat), i + f = 10 → u < 128 ^ i → ∀ {v n}, tkF s p f i u = some (v, n) → v < 18446744073709551616 ∧ p + i < n ∧ n ≤ s.size ∧ n ≤ p + 10 := by
 intro f
 induction f with
 | zero => intro i u _ _ v n h; cases h
 | succ f ih =>
  intro i u hf hu v n h
  unfold tkF at h
  by_cases h1 : p + i < s.size
  ·rw [if_pos h1] at h
   by_cases h2 : i = 9 ∧ 1 < bt s (p + i)
   ·rw [if_pos h2] at h; cases h
   ·rw [if_neg h2] at h
    by_cases h3 : bt s (p + i) < 128
    ·rw [if_pos h3] at h
     cases h
     have hi : i ≤ 9 := by omega
     refine ⟨?_, by omega, by omega, by omega⟩
     generalize bt s (p + i) = b at *
     rcases jd0 hi with rfl | rfl | rfl | rfl | rfl | rfl | rfl | rfl | rfl | rfl <;> simp at * <;> omega
    ·rw [if_neg h3] at h
     have hb : i ≠ 9 := by intro e; subst e; omega
     have := ih (i + 1) _ (by omega) (jid (by omega) hu) h
     omega
  ·rw [if_neg h1] at h; cases h
theorem tk_spec {s : ByteArray} {p v n : Nat} (h : tk s p = some (v, n)) : v < 18446744073709551616 ∧ p < n ∧ n ≤ s.size ∧ n ≤ p + 10 := by
 have := jjk 10 0 0 rfl (by simp) h
 omega
def vbF : Nat → Nat → List Nat
 | 0, u => [u % 256]
 | f + 1, u => if u < 128 then [u] else (u % 128 + 128) :: vbF f (u / 128)
def vb (u : Nat) : List Nat := vbF 10 u
end Go.Proofs.YtbgbpfbjeleooaaGreat.Wr
namespace Go.Proofs.YtbgbpfbjeleooaaGreat.Wr
structure Fld where
 num : Int
 kind : Int
 u : Int
 b : ByteArray
def low (s : ByteArray) (p : Nat) : Nat → Nat
 | 0 => 0
 | n + 1 => bt s p + 256 * low s (p + 1) n
theorem jha (s : ByteArray) : ∀ (n p : Nat), low s p n < 256 ^ n := by
 intro n
 induction n with
 | zero => intro p; simp [low]
 | succ n ih =>
  intro p
  have h1 := ih (p + 1)
  have h2 := bt_lt s p
  rw [low, Nat.pow_succ]
  omega
theorem jhb (s : ByteArray) : ∀ (n p : Nat), low s p (n + 1) = low s p n + bt s (p + n) * 256 ^ n := by
 intro n
 induction n with
 | zero => intro p; simp [low]
 | succ n ih =>
  intro p
  rw [low, ih (p + 1), low, Nat.pow_succ, show p + 1 + n = p + (n + 1) by omega, Nat.mul_add, Nat.add_assoc]
  congr 1
  congr 1
  rw [Nat.mul_comm 256, Nat.mul_assoc]
def fdT (s : ByteArray) (t q : Nat) : Option (Fld × Nat) :=
 if 4294967295 < t ∨ t < 8 then none
 else if t % 8 = 0 then (tk s q).map fun x => (⟨(t / 8 : Nat), 0, x.1, ByteArray.empty⟩, x.2)
 else if t % 8 = 1 then (if q + 8 ≤ s.size then some (⟨(t / 8 : Nat), 1, low s q 8, ByteArray.empty⟩, q + 8) else none)
 else if t % 8 = 5 then (if q + 4 ≤ s.size then some (⟨(t / 8 : Nat), 5, low s q 4, ByteArray.empty⟩, q + 4) else none)
 else if t % 8 = 2 then (match tk s q with
  | none => none
  | some (n, r) => if n ≤ s.size - r then some (⟨(t / 8 : Nat), 2, 0, s.extract r (r + n)⟩, r + n) else none)
 else none
def fd (s : ByteArray) (p : Nat) : Option (Fld × Nat) :=
 match tk s p with
 | none => none
 | some (t, q) => fdT s t q
def allF {α : Type} (item : Nat → Option (α × Nat)) (size : Nat) : Nat → Nat → Option (List α)
 | 0, _ => some []
 | f + 1, p => if p < size then (match item p with
  | none => none
  | some (x, q) => (allF item size f q).map (x :: ·)) else some []
def all {α : Type} (item : Nat → Option (α × Nat)) (size : Nat) : Option (List α) := allF item size size 0
theorem jdr {α : Type} {item : Nat → Option (α × Nat)} {size f p : Nat} (h : size ≤ p) : allF item size f p = some [] := by
 cases f with
 | zero => rfl
 | succ f => unfold allF; rw [if_neg (by omega)]
theorem jcS {α : Type} {item : Nat → Option (α × Nat)} {size f p : Nat} (h : p < size) (hf : size ≤ p + f) (hi : item p = none) : allF item size f p = none := by
 cases f with
 | zero => omega
 | succ f => unfold allF; rw [if_pos h, hi]
theorem jf7 {α : Type} {item : Nat → Option (α × Nat)} {size f p : Nat} {x : α} {q : Nat} (h : p < size) (hf : size ≤ p + f) (hi : item p = some (x, q)) : allF item size f p = (allF item size (f - 1) q).map (x :: ·) := by
 cases f with
 | zero => omega
 | succ f => conv => lhs; unfold allF
             rw [if_pos h, hi]; rfl
theorem jhc {α : Type} (acc : List α) (x : α) (o : Option (List α)) : ((o.map (x :: ·)).map (acc ++ ·)) = o.map ((acc ++ [x]) ++ ·) := by
 cases o <;> simp
theorem jjl {s : ByteArray} {t q : Nat} {x : Fld} {r : Nat} (h : fdT s t q = some (x, r)) :
    q ≤ r ∧ r ≤ s.size ∧ 1 ≤ x.num ∧ x.num ≤ 536870911 ∧ 0 ≤ x.kind ∧ x.kind ≤ 5 ∧ 0 ≤ x.u ∧ x.u < 18446744073709551616 ∧ x.b.size ≤ r - q := by
     unfold fdT at h
     have l8 := jha s 8 q
     have l4 := jha s 4 q
     split at h
     ·cases h
     ·have ht : ¬ (4294967295 < t ∨ t < 8) := by assumption
      split at h
      ·cases hk : tk s q with
       | none => rw [hk] at h; cases h
       | some y =>
        rw [hk] at h
        obtain ⟨v, n⟩ := y
        have := tk_spec hk
        cases h
        simp
        omega
      ·split at h
       ·split at h
        ·cases h; simp at *; omega
        ·cases h
       ·split at h
        ·split at h
         ·cases h; simp at *; omega
         ·cases h
        ·split at h
         ·cases hk : tk s q with
          | none => rw [hk] at h; cases h
          | some y =>
           obtain ⟨v, n⟩ := y
           have := tk_spec hk
           rw [hk] at h
           simp only at h
           split at h
           ·cases h; simp [ByteArray.size_extract] at *; omega
           ·cases h
         ·cases h
theorem fd_spec {s : ByteArray} {p : Nat} {x : Fld} {r : Nat} (h : fd s p = some (x, r)) :
    p < r ∧ r ≤ s.size ∧ 1 ≤ x.num ∧ x.num ≤ 536870911 ∧ 0 ≤ x.kind ∧ x.kind ≤ 5 ∧ 0 ≤ x.u ∧ x.u < 18446744073709551616 ∧ x.b.size ≤ r - p := by
     unfold fd at h
     cases hk : tk s p with
     | none => rw [hk] at h; cases h
     | some y =>
      obtain ⟨t, q⟩ := y
      have h1 := tk_spec hk
      rw [hk] at h
      have h2 := jjl h
      omega
end Go.Proofs.YtbgbpfbjeleooaaGreat.Wr
