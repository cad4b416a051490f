/- A part. -/
import Derived.WalkKit
import Derived.WalkSpells
import Derived.WalkLawsBesides
import Derived.Laws.FloatArith
import Derived.Laws.BitsAllLaws
namespace Go.Proofs.YtkefdkboejimeaaGreatDoor.Nu
open Go.RowKit
theorem jfF (a : Nat) (h : a < 4294967296) : a &&& 18446744071562067967 = a % 2147483648 := by
 have h1 : a &&& 4294967295 = a := by
  have := Nat.and_two_pow_sub_one_eq_mod a 32
  simp only [Nat.reducePow, Nat.reduceSub] at this
  rw [this]; exact Nat.mod_eq_of_lt h
 have h2 : a % 2147483648 = a &&& 2147483647 := by
  have := Nat.and_two_pow_sub_one_eq_mod a 31
  simp only [Nat.reducePow, Nat.reduceSub] at this
  exact this.symm
 rw [h2]
 conv => lhs; rw [← h1]
 rw [Nat.and_assoc]
 have e : (4294967295 : Nat) &&& 18446744071562067967 = 2147483647 := by decide
 rw [e]
theorem jbA (n : Int) : IntKind.i64.wrap n = wrap64 n := by
 simp [IntKind.wrap, IntKind.bits, IntKind.signed, wrap64]; split <;> omega
theorem jdQ (x : Int) (h0 : 0 ≤ x) (h : x < 4294967296) : bits .andNot .i64 x 2147483648 = x % 2147483648 := by
 obtain ⟨a, rfl⟩ := Int.eq_ofNat_of_zero_le h0
 have ha : a < 4294967296 := by omega
 show IntKind.i64.wrap ((BitVec.ofInt 64 (a : Int) &&& ~~~BitVec.ofInt 64 (2147483648 : Int)).toNat : Int) = _
 have e1 : (BitVec.ofInt 64 (a : Int)).toNat = a := ofInt_u64 a (by omega)
 have e2 : (~~~BitVec.ofInt 64 (2147483648 : Int)).toNat = 18446744071562067967 := by decide
 rw [BitVec.toNat_and, e1, e2, jfF a ha]
 have hm : a % 2147483648 < 2147483648 := Nat.mod_lt _ (by decide)
 have : ((a % 2147483648 : Nat) : Int) = (a : Int) % 2147483648 := by omega
 rw [this]
 rw [jbA]
 unfold wrap64; omega
def chk (t x : Int) : Bool :=
 if t = 1 then decide (0 ≤ x ∧ x < 4294967296 ∧ (x = 2143289344 ∨ x % 2147483648 ≤ 2139095040))
 else if t = 6 then decide (-2147483648 ≤ x ∧ x ≤ 2147483647)
 else if t = 7 then true
 else if t = 9 then decide (x = 0 ∨ x = 1)
 else false
theorem chk6 (x : Int) : (x == wrap64 (wrap32 x)) = decide (-2147483648 ≤ x ∧ x ≤ 2147483647) := by
 rw [Bool.eq_iff_iff]
 simp only [beq_iff_eq, decide_eq_true_eq]
 unfold wrap64 wrap32
 omega
theorem jdq (t x : Int) (h : t = 1) : chk t x = decide (0 ≤ x ∧ x < 4294967296 ∧ (x = 2143289344 ∨ x % 2147483648 ≤ 2139095040)) := by
 simp [chk, h]
end Go.Proofs.YtkefdkboejimeaaGreatDoor.Nu
namespace Go.Proofs.YtkefdkboejimeaaGreatDoor.Nu
open Go.RowKit
def tob (b : Nat) : Int := if (FloatKind.f32.format.order b b != some .eq) = true then 2143289344 else (b : Int)
def tobO : Option Nat → Int
 | none => 2143289344
 | some r => tob r
def fb (x : Int) : Nat := (x % 4294967296).toNat
theorem fb_lt (x : Int) : fb x < 4294967296 := by unfold fb; omega
theorem jd9 (d : Ieee.Datum) : d.order d = if d.isNaN then none else some .eq := by
 cases d <;> simp [Ieee.Datum.order, Ieee.Datum.isNaN]
theorem ji2 (b : Nat) : FloatKind.f32.format.order b b = if (FloatKind.f32.format.read b).isNaN then none else some .eq := jd9 _
theorem jpN (b : Nat) : tob b = if (FloatKind.f32.format.read b).isNaN then 2143289344 else (b : Int) := by
 unfold tob
 rw [ji2]
 cases (FloatKind.f32.format.read b).isNaN <;> simp
theorem ji3 (b : Nat) (_h : b < 4294967296) : (FloatKind.f32.format.read b).isNaN = decide (2139095040 < b % 2147483648) := by
 have e1 : FloatKind.f32.format.signWeight = 2147483648 := rfl
 have e2 : FloatKind.f32.format.binade = 8388608 := rfl
 have e3 : FloatKind.f32.format.infRung = 2139095040 := rfl
 have e4 : FloatKind.f32.format.leastPlace = -149 := rfl
 unfold Ieee.Format.read
 simp only [e1, e2, e3, e4]
 split
 ·simp [Ieee.Datum.isNaN]; omega
 ·split
  ·simp [Ieee.Datum.isNaN]; omega
  ·split
   ·simp [Ieee.Datum.isNaN]; omega
   ·simp [Ieee.Datum.isNaN]; omega
theorem jj7 (b : Nat) (h : b < 4294967296) : tob b = if 2139095040 < b % 2147483648 then 2143289344 else (b : Int) := by
 rw [jpN, ji3 b h]; simp
theorem chk_tob (b : Nat) (h : b < 4294967296) : chk 1 (tob b) = true := by
 rw [jj7 b h, jdq 1 _ rfl]
 split
 ·decide
 ·simp; omega
theorem jov (t : Nat) (x y : Nat) : tob ((Question.nanBits .f32 x y).cut t) = 2143289344 := by
 have h1 := Nat.mod_lt t (show 0 < 2 by decide)
 have h2 := Nat.mod_lt (t / 2) (show 0 < 8388607 by decide)
 have e : (Question.nanBits .f32 x y).cut t = (t % 2) * 2147483648 + 2139095040 + 1 + (t / 2) % 8388607 := rfl
 rw [e]
 generalize t % 2 = a at *
 generalize t / 2 % 8388607 = b at *
 rw [jj7 _ (by omega), if_pos (by omega)]
def nb (x y t : Nat) : Nat := (Question.nanBits .f32 x y).cut t
theorem jj8 (x y t : Nat) : nb x y t < 4294967296 := by
 have h1 := Nat.mod_lt t (show 0 < 2 by decide)
 have h2 := Nat.mod_lt (t / 2) (show 0 < 8388607 by decide)
 have e : nb x y t = (t % 2) * 2147483648 + 2139095040 + 1 + (t / 2) % 8388607 := rfl
 rw [e]
 generalize t % 2 = a at *
 generalize t / 2 % 8388607 = b at *
 omega
theorem jj9 (x y t : Nat) : tob (nb x y t) = 2143289344 := jov t x y
theorem jde {P : Program} (w : World) (op : BinOp) (t : TypeId) (x y : Nat) (ho : op = .add ∨ op = .sub ∨ op = .mul ∨ op = .quo) (h : floatBits op .f32 x y = none) :
    (binOp op t (.float .f32 x) (.float .f32 y)).run P w = .ok (.float .f32 (nb x y (w.tape w.drawn (.nanBits .f32 x y)))) w.drew := by
     unfold floatBits at h
     rcases ho with rfl | rfl | rfl | rfl <;> simp only at h <;> simp [binOp, Op.floatArith, h, nb, Question.forced]
end Go.Proofs.YtkefdkboejimeaaGreatDoor.Nu
namespace Go.Proofs.YtkefdkboejimeaaGreatDoor.Nu
open Go.RowKit
def b2i (b : Bool) : Int := if b then 1 else 0
def ord (x y : Nat) : Option Ordering := FloatKind.f32.format.order x y
def maxF (x y : Nat) : Int :=
 match ord x y with
 | none => 2143289344
 | some .lt => tob y
 | some .gt => tob x
 | some .eq => if (FloatKind.f32.decode x).neg then tob y else tob x
def minF (x y : Nat) : Int :=
 match ord x y with
 | none => 2143289344
 | some .lt => tob x
 | some .gt => tob y
 | some .eq => if (FloatKind.f32.decode x).neg then tob x else tob y
def jpO (k : Nat) (x y : Nat) : Int × Int :=
 match k with
 | 0 => (tobO (floatBits .add .f32 x y), 0)
 | 1 => (tobO (floatBits .sub .f32 x y), 0)
 | 2 => (tobO (floatBits .mul .f32 x y), 0)
 | 3 => (tobO (floatBits .quo .f32 x y), 0)
 | 4 => (maxF x y, 0)
 | 5 => (minF x y, 0)
 | 9 => (b2i (ord x y == some .eq), 0)
 | 10 => (b2i (ord x y == some .lt), 0)
 | 11 => (b2i (ord x y == some .gt), 0)
 | _ => (0, 1)
def wrapT (t n : Int) : Int := if t = 6 then wrap64 (wrap32 n) else n
def maxI (x y : Int) : Int := if y > x then y else x
def minI (x y : Int) : Int := if y < x then y else x
def jow (k : Nat) (t x y : Int) : Int × Int :=
 match k with
 | 0 => (wrapT t (wrap64 (x + y)), 0)
 | 1 => (wrapT t (wrap64 (x - y)), 0)
 | 2 => (wrapT t (wrap64 (x * y)), 0)
 | 3 => if y = 0 then (0, 7) else (wrapT t (wrap64 (x.tdiv y)), 0)
 | 4 => (wrapT t (maxI x y), 0)
 | 5 => (wrapT t (minI x y), 0)
 | 9 => (b2i (x == y), 0)
 | 10 => (b2i (decide (x < y)), 0)
 | 11 => (b2i (decide (y < x)), 0)
 | _ => (0, 1)
def jpP (k : Nat) (x y : Int) : Int × Int :=
 match k with
 | 6 => (x * y, 0)
 | 7 => (x + y - x * y, 0)
 | 8 => (x + y - 2 * (x * y), 0)
 | 9 => (b2i (x == y), 0)
 | _ => (0, 1)
def bin (k : Nat) (t x y : Int) : Int × Int :=
 if (chk t x && chk t y) = true then (if t = 1 then jpO k (fb x) (fb y) else if t = 9 then jpP k x y else jow k t x y) else (0, 1)
section
variable {P : Program} (w : World) (ts : Array TypeId) (t : TypeId) (x y : Nat)
theorem jfH (h : ord x y = none) : (Builtin.max_ ts t #[.float .f32 x, .float .f32 y]).run P w = .ok (.float .f32 (nb x y (w.tape w.drawn (.nanMinMax .f32 true x y)))) w.drew := by
 unfold ord at h; simp [Builtin.max_, Builtin.max2, h, nb, Question.forced, Question.cut]
theorem jmm (h : ord x y = none) : (Builtin.min_ ts t #[.float .f32 x, .float .f32 y]).run P w = .ok (.float .f32 (nb x y (w.tape w.drawn (.nanMinMax .f32 false x y)))) w.drew := by
 unfold ord at h; simp [Builtin.min_, Builtin.min2, h, nb, Question.forced, Question.cut]
theorem jhr (h : ord x y = some .lt) : (Builtin.max_ ts t #[.float .f32 x, .float .f32 y]).run P w = .ok (.float .f32 y) w := by
 unfold ord at h; simp [Builtin.max_, Builtin.max2, h]
theorem jox (h : ord x y = some .lt) : (Builtin.min_ ts t #[.float .f32 x, .float .f32 y]).run P w = .ok (.float .f32 x) w := by
 unfold ord at h; simp [Builtin.min_, Builtin.min2, h]
theorem jhs (h : ord x y = some .gt) : (Builtin.max_ ts t #[.float .f32 x, .float .f32 y]).run P w = .ok (.float .f32 x) w := by
 unfold ord at h; simp [Builtin.max_, Builtin.max2, h]
theorem joy (h : ord x y = some .gt) : (Builtin.min_ ts t #[.float .f32 x, .float .f32 y]).run P w = .ok (.float .f32 y) w := by
 unfold ord at h; simp [Builtin.min_, Builtin.min2, h]
theorem jeA (h : ord x y = some .eq) : (Builtin.max_ ts t #[.float .f32 x, .float .f32 y]).run P w = .ok (.float .f32 (if (FloatKind.f32.decode x).neg then y else x)) w := by
 unfold ord at h; simp [Builtin.max_, Builtin.max2, h]
theorem joz (h : ord x y = some .eq) : (Builtin.min_ ts t #[.float .f32 x, .float .f32 y]).run P w = .ok (.float .f32 (if (FloatKind.f32.decode x).neg then x else y)) w := by
 unfold ord at h; simp [Builtin.min_, Builtin.min2, h]
end
end Go.Proofs.YtkefdkboejimeaaGreatDoor.Nu
namespace Go.Proofs.YtkefdkboejimeaaGreatDoor
open Go.RowKit
theorem joA {op : BinOp} {x y r : Nat} (h : floatBits op .f32 x y = some r) : r < 4294967296 := by
 have := floatBits_wf h
 simpa [Lit.wf] using this
theorem jmn (o : Option Nat) (h : ∀ r, o = some r → r < 4294967296) : Nu.chk 1 (Nu.tobO o) = true := by
 cases o with
 | none => rfl
 | some r => exact Nu.chk_tob r (h r rfl)
def jdR (a b : Int) : Int := (Nu.bin 0 1 a b).1
def jht (a b : Int) : Int := (Nu.bin 2 1 a b).1
theorem jmo (a b : Int) : Nu.chk 1 (jdR a b) = true := by
 unfold jdR Nu.bin
 split
 ·exact jmn _ fun r h => joA h
 ·rfl
def fin (z : Int) : Prop := 0 ≤ z ∧ z < 4294967296 ∧ z % 2147483648 < 2139095040
end Go.Proofs.YtkefdkboejimeaaGreatDoor
namespace Go.Proofs.YtkefdkboejimeaaGreatDoor
open Go.RowKit
def jcI : Int → List Int → List Int → Int
 | s, x :: xs, y :: ys => jcI (jdR s (jht x y)) xs ys
 | s, _, _ => s
def blk (zs : List Int) (i h k : Nat) : List (List Int) := (List.range h).map fun r => ((zs.drop (i * (h * k))).drop (r * k)).take k
def tms (a b : List (List Int)) : List Int := a.flatMap fun r => b.map fun c => jcI 0 r c
def jeB (xs yt : List Int) (n a k b : Nat) : List Int := (List.range n).flatMap fun i => tms (blk xs i a k) (blk yt i b k)
def trn (k b : Nat) (ys : List Int) : List Int := (List.range b).flatMap fun j => (List.range k).map fun i => ys.getD (i * b + j) 0
theorem jfI : ∀ (xs ys : List Int) (s : Int), Nu.chk 1 s = true → Nu.chk 1 (jcI s xs ys) = true
 | [], _, _, h => by simpa [jcI] using h
 | _ :: _, [], _, h => by simpa [jcI] using h
 | x :: xs, y :: ys, s, _ => by simp only [jcI]; exact jfI xs ys _ (jmo _ _)
theorem jfJ (xs ys : List Int) : 0 ≤ jcI 0 xs ys ∧ jcI 0 xs ys < 4294967296 := by
 have h := jfI xs ys 0 rfl
 unfold Nu.chk at h
 simp only [if_true, decide_eq_true_eq] at h
 omega
theorem jgq : ∀ (xs ys : List Int) (s x y : Int), xs.length = ys.length → jcI s (xs ++ [x]) (ys ++ [y]) = jdR (jcI s xs ys) (jht x y)
 | [], [], s, x, y, _ => by simp [jcI]
 | a :: xs, b :: ys, s, x, y, h => by simp only [List.cons_append, jcI]; exact jgq xs ys _ x y (by simpa using h)
 | [], _ :: _, _, _, _, h => by simp at h
 | _ :: _, [], _, _, _, h => by simp at h
theorem jaR (zs : List Int) (i h k : Nat) : (blk zs i h k).length = h := by simp [blk]
theorem jbL (a b : List (List Int)) : (tms a b).length = a.length * b.length := by
 unfold tms
 induction a with
 | nil => simp
 | cons r a ih => rw [List.flatMap_cons, List.length_append, ih, List.length_map, List.length_cons, Nat.add_mul]; omega
theorem jhu (a b : List (List Int)) : ∀ z ∈ tms a b, Nu.chk 1 z = true ∧ 0 ≤ z ∧ z < 4294967296 := by
 intro z hz
 unfold tms at hz
 obtain ⟨r, -, hz⟩ := List.mem_flatMap.1 hz
 obtain ⟨c, -, rfl⟩ := List.mem_map.1 hz
 exact ⟨jfI _ _ _ rfl, jfJ _ _⟩
theorem jka (xs yt : List Int) (n a k b : Nat) : ∀ z ∈ jeB xs yt n a k b, Nu.chk 1 z = true ∧ 0 ≤ z ∧ z < 4294967296 := by
 intro z hz
 unfold jeB at hz
 obtain ⟨i, -, hz⟩ := List.mem_flatMap.1 hz
 exact jhu _ _ z hz
theorem jbF {α : Type} (f : Nat → List α) (L : Nat) : ∀ n, (∀ i, i < n → (f i).length = L) → ((List.range n).flatMap f).length = n * L
 | 0, _ => by simp
 | n + 1, h => by
  rw [List.range_succ, List.flatMap_append, List.length_append, jbF f L n (fun i hi => h i (by omega))]
  simp [h n (by omega), Nat.add_mul]
theorem ji4 (xs yt : List Int) (n a k b : Nat) : (jeB xs yt n a k b).length = n * (a * b) := jbF _ _ _ fun i _ => by rw [jbL, jaR, jaR]
theorem jeC {α : Type} (f : Nat → List α) (L : Nat) : ∀ n, (∀ i, i < n → (f i).length = L) → ∀ t, t < n → (((List.range n).flatMap f).drop (t * L)).take L = f t
 | 0, _, t, ht => by omega
 | n + 1, h, t, ht => by
  have hl := jbF f L n (fun i hi => h i (by omega))
  rw [List.range_succ, List.flatMap_append]
  by_cases hn : t < n
  ·have ih := jeC f L n (fun i hi => h i (by omega)) t hn
   have e : t * L + L ≤ n * L := by
    rw [show t * L + L = (t + 1) * L from by rw [Nat.add_mul]; omega]
    exact Nat.mul_le_mul_right _ (by omega)
   rw [List.drop_append_of_le_length (by omega), List.take_append_of_le_length (by rw [List.length_drop]; omega)]
   exact ih
  ·obtain rfl : t = n := by omega
   rw [List.drop_append, hl, List.drop_of_length_le (by omega), Nat.sub_self]
   simp only [List.flatMap_cons, List.flatMap_nil, List.append_nil, List.nil_append, List.drop_zero]
   exact List.take_of_length_le (by rw [h t ht]; exact Nat.le_refl _)
theorem jmp (a b : List (List Int)) : tms a b = (List.range a.length).flatMap fun r => b.map fun c => jcI 0 (a.getD r []) c := by
 unfold tms
 conv => lhs; rw [show a = (List.range a.length).map (fun r => a.getD r []) from List.ext_getElem (by simp) fun i h1 h2 => by simp [List.getD, show i < a.length from h1]]
 rw [List.flatMap_map]
theorem joB (a b : List (List Int)) (r : Nat) (hr : r < a.length) : ((tms a b).drop (r * b.length)).take b.length = b.map fun c => jcI 0 (a.getD r []) c := by
 rw [jmp]
 exact jeC _ b.length a.length (fun i _ => by simp) r hr
theorem joC (zs : List Int) (i h k r : Nat) (hr : r < h) : (blk zs i h k).getD r [] = ((zs.drop (i * (h * k))).drop (r * k)).take k := by
 simp [blk, List.getD, hr]
theorem jkb (xs yt : List Int) (a k b : Nat) : jeB xs yt 1 a k b = tms (blk xs 0 a k) (blk yt 0 b k) := by simp [jeB]
theorem jc1 (k b : Nat) (ys : List Int) : (trn k b ys).length = b * k := jbF _ _ _ fun j _ => by simp
theorem jkc (k b : Nat) (ys : List Int) (j : Nat) (hj : j < b) : ((trn k b ys).drop (j * k)).take k = (List.range k).map fun i => ys.getD (i * b + j) 0 := jeC _ k b (fun j _ => by simp) j hj
theorem jn3 (k b : Nat) (ys : List Int) (i j : Nat) (hi : i < k) (hj : j < b) : (trn k b ys).getD (j * k + i) 0 = ys.getD (i * b + j) 0 := by
 have h : (((trn k b ys).drop (j * k)).take k).getD i 0 = ((List.range k).map fun i => ys.getD (i * b + j) 0).getD i 0 := by rw [jkc k b ys j hj]
 have hl : j * k + k ≤ (trn k b ys).length := by
  rw [jc1, show j * k + k = (j + 1) * k from by rw [Nat.add_mul]; omega]
  exact Nat.mul_le_mul_right _ (by omega)
 have e1 : (((trn k b ys).drop (j * k)).take k).getD i 0 = (trn k b ys).getD (j * k + i) 0 := by
  simp only [List.getD]
  rw [List.getElem?_take_of_lt hi, List.getElem?_drop]
 have e2 : ((List.range k).map fun i => ys.getD (i * b + j) 0).getD i 0 = ys.getD (i * b + j) 0 := by simp [List.getD, hi]
 rw [← e1, h, e2]
theorem joD (a k : Nat) (xs : List Int) (h : xs.length = a * k) : trn k a (trn a k xs) = xs := by
 refine List.ext_getElem (by rw [jc1, h]) fun p h1 h2 => ?_
 have hp : p < a * k := by rw [← h]; exact h2
 have hk : 0 < k := by
  rcases Nat.eq_zero_or_pos k with rfl | hk
  ·simp at hp
  ·exact hk
 have hi : p % k < k := Nat.mod_lt _ hk
 have hj : p / k < a := by rw [Nat.div_lt_iff_lt_mul hk]; exact hp
 have e := jn3 k a (trn a k xs) (p % k) (p / k) hi hj
 rw [jn3 a k xs (p / k) (p % k) hj hi] at e
 have ep : p / k * k + p % k = p := by rw [Nat.mul_comm]; exact Nat.div_add_mod p k
 rw [ep] at e
 simpa [List.getD, h1, h2] using e
end Go.Proofs.YtkefdkboejimeaaGreatDoor
namespace Go.Proofs.YtkefdkboejimeaaGreatDoor
def wpl (W kh kw h w : Nat) : List (Nat × Nat) := (List.range kh).flatMap fun i => (List.range kw).map fun j => (i * kw + j, (h + i) * W + (w + j))
def jkd (W kw h w i j : Nat) : List (Nat × Nat) := ((List.range i).flatMap fun i => (List.range kw).map fun j => (i * kw + j, (h + i) * W + (w + j))) ++ (List.range j).map fun j => (i * kw + j, (h + i) * W + (w + j))
theorem jpQ (W kw h w i : Nat) : jkd W kw h w i 0 = wpl W i kw h w := by simp [jkd, wpl]
theorem jke (W kw h w i j : Nat) : jkd W kw h w i (j + 1) = jkd W kw h w i j ++ [(i * kw + j, (h + i) * W + (w + j))] := by
 simp [jkd, List.range_succ]
theorem jmq (W kw h w i : Nat) : jkd W kw h w i kw = wpl W (i + 1) kw h w := by
 simp [jkd, wpl, List.range_succ]
theorem wpl_len (W kh kw h w : Nat) : (wpl W kh kw h w).length = kh * kw := by
 unfold wpl
 exact jbF _ kw kh (fun i _ => by simp)
theorem jmr (W kw h w i j : Nat) : (jkd W kw h w i j).length = i * kw + j := by
 unfold jkd
 rw [List.length_append, jbF _ kw i (fun i _ => by simp)]
 simp
theorem joE (W kw h w i j : Nat) {kh : Nat} (hi : i < kh) (hj : j < kw) : (jkd W kw h w i j).length < kh * kw := by
 rw [jmr]
 have : (i + 1) * kw ≤ kh * kw := Nat.mul_le_mul_right _ hi
 rw [Nat.add_mul] at this
 omega
theorem jkf {H W kh kw h w i j : Nat} (hh : h + kh ≤ H) (hw : w + kw ≤ W) (hi : i < kh) (hj : j < kw) : (h + i) * W + (w + j) < H * W := by
 have : (h + i + 1) * W ≤ H * W := Nat.mul_le_mul_right _ (by omega)
 rw [Nat.add_mul] at this
 omega
theorem jfK {kh kw i j : Nat} (hi : i < kh) (hj : j < kw) : i * kw + j < kh * kw := by
 have : (i + 1) * kw ≤ kh * kw := Nat.mul_le_mul_right _ hi
 rw [Nat.add_mul] at this
 omega
def jhv (img : List Int) (W kh kw h w : Nat) : List Int := (wpl W kh kw h w).map fun p => img.getD p.2 0
def jbG (f : Nat → Nat → Int) (oh ow : Nat) : List Int := (List.range oh).flatMap fun h => (List.range ow).map (f h)
def jbI (f : Nat → Nat → Int) (ow h w : Nat) : List Int := ((List.range h).flatMap fun h => (List.range ow).map (f h)) ++ (List.range w).map (f h)
theorem jdS (f : Nat → Nat → Int) (ow h : Nat) : jbI f ow h 0 = jbG f h ow := by simp [jbI, jbG]
theorem jfm (f : Nat → Nat → Int) (ow h w : Nat) : jbI f ow h (w + 1) = jbI f ow h w ++ [f h w] := by simp [jbI, List.range_succ]
theorem jgr (f : Nat → Nat → Int) (ow h : Nat) : jbI f ow h ow = jbG f (h + 1) ow := by simp [jbI, jbG, List.range_succ]
theorem jdr (f : Nat → Nat → Int) (oh ow : Nat) : (jbG f oh ow).length = oh * ow := jbF _ ow oh (fun i _ => by simp)
theorem jeD (f : Nat → Nat → Int) (ow h w : Nat) : (jbI f ow h w).length = h * ow + w := by
 unfold jbI
 rw [List.length_append, jbF _ ow h (fun i _ => by simp)]
 simp
theorem eachU_lt (f : Nat → Nat → Int) {oh ow h w : Nat} (hh : h < oh) (hw : w < ow) : (jbI f ow h w).length < oh * ow := by
 rw [jeD]
 exact jfK hh hw
def jdT (xs : List Int) (s i : Nat) : List Int := (xs.drop (i * s)).take s
theorem jiq {xs : List Int} {s n i : Nat} (h : xs.length = n * s) (hi : i < n) : (jdT xs s i).length = s := by
 unfold jdT
 have : (i + 1) * s ≤ n * s := Nat.mul_le_mul_right _ hi
 rw [Nat.add_mul] at this
 rw [List.length_take, List.length_drop]
 omega
theorem jkg {xs : List Int} {s i t : Nat} (ht : t < s) : (jdT xs s i).getD t 0 = xs.getD (i * s + t) 0 := by
 unfold jdT
 simp [List.getD, ht]
def jcy (f : List Int → Int) (xs : List Int) (n H W kh kw oh ow : Nat) : List Int := (List.range n).flatMap fun i => jbG (fun h w => f (jhv (jdT xs (H * W) i) W kh kw h w)) oh ow
theorem jkh (f : List Int → Int) (xs : List Int) (n H W kh kw oh ow : Nat) : (jcy f xs n H W kh kw oh ow).length = n * (oh * ow) := jbF _ _ n (fun _ _ => jdr _ _ _)
theorem ji5 (f : List Int → Int) (xs : List Int) (n H W kh kw oh ow : Nat) : jcy f xs (n + 1) H W kh kw oh ow = jcy f xs n H W kh kw oh ow ++ jbG (fun h w => f (jhv (jdT xs (H * W) n) W kh kw h w)) oh ow := by
 simp [jcy, List.range_succ]
theorem jki {xs : List Int} {s i : Nat} : ∀ z ∈ jdT xs s i, z ∈ xs := fun _ hz => List.mem_of_mem_drop (List.mem_of_mem_take hz)
end Go.Proofs.YtkefdkboejimeaaGreatDoor
namespace Go.Proofs.YtkefdkboejimeaaGreatDoor.Nu
open Go.RowKit
theorem ji6 (b : Nat) (h : b < 4294967296) : bits .andNot .u32 (b : Int) 2147483648 = ((b % 2147483648 : Nat) : Int) := by
 have e := u32_andNot_nat b 2147483648 h (by decide)
 have e' : bits .andNot .u32 (b : Int) 2147483648 = ((b &&& (4294967295 - 2147483648) : Nat) : Int) := e
 rw [e']
 have := Nat.and_two_pow_sub_one_eq_mod b 31
 simp only [Nat.reducePow, Nat.reduceSub] at this ⊢
 rw [this]
def jpA (b : Nat) : Nat := b ^^^ 2147483648
def joF (b : Nat) : Nat := b % 2147483648
def jeE (b : Nat) : Nat := if (FloatKind.f32.format.order b 0 == some .gt) = true then b else if (FloatKind.f32.format.order b b != some .eq) = true then b else 0
theorem jfL (b : Nat) : Op.unary .neg (.float .f32 b) = pure (.float .f32 (jpA b)) := rfl
theorem joG (b : Nat) (h : b < 4294967296) : jpA b = if b < 2147483648 then b + 2147483648 else b - 2147483648 := by
 unfold jpA
 have hd : (b ^^^ 2147483648) / 2 ^ 31 = b / 2 ^ 31 ^^^ 2147483648 / 2 ^ 31 := Nat.xor_div_two_pow
 have hm : (b ^^^ 2147483648) % 2 ^ 31 = b % 2 ^ 31 ^^^ 2147483648 % 2 ^ 31 := Nat.xor_mod_two_pow
 have e1 : (2147483648 : Nat) / 2 ^ 31 = 1 := by decide
 have e2 : (2147483648 : Nat) % 2 ^ 31 = 0 := by decide
 rw [e1] at hd
 rw [e2, Nat.xor_zero] at hm
 simp only [Nat.reducePow] at hd hm
 have hq : b / 2147483648 = 0 ∨ b / 2147483648 = 1 := by omega
 rcases hq with hq | hq
 ·rw [hq] at hd
  have : (0 ^^^ 1 : Nat) = 1 := by decide
  rw [this] at hd
  rw [if_pos (by omega)]; omega
 ·rw [hq] at hd
  have : (1 ^^^ 1 : Nat) = 0 := by decide
  rw [this] at hd
  rw [if_neg (by omega)]; omega
theorem jkj (b : Nat) (h : b < 4294967296) : jpA b < 4294967296 := by
 rw [joG b h]; split <;> omega
theorem joH (b : Nat) : joF b < 4294967296 := by
 have := Nat.mod_lt b (show 0 < 2147483648 by decide)
 unfold joF; omega
theorem jms (b : Nat) (h : b < 4294967296) : jeE b < 4294967296 := by
 unfold jeE; split
 ·exact h
 ·split
  ·exact h
  ·omega
def unFl (k : Nat) (b : Nat) : Int × Int :=
 match k with
 | 1 => (tob (jpA b), 0)
 | 2 => (tob (joF b), 0)
 | 4 => (tob (jeE b), 0)
 | _ => (0, 1)
def absI (t x : Int) : Int := if x < 0 then wrapT t (wrap64 (-x)) else x
def unIn (k : Nat) (t x : Int) : Int × Int :=
 match k with
 | 1 => (wrapT t (wrap64 (-x)), 0)
 | 2 => (absI t x, 0)
 | _ => (0, 1)
def unBo (k : Nat) (x : Int) : Int × Int :=
 match k with
 | 3 => (1 - x, 0)
 | _ => (0, 1)
def un (k : Nat) (t x : Int) : Int × Int :=
 if chk t x = true then (if k = 0 then (x, 0) else if t = 1 then unFl k (fb x) else if t = 9 then unBo k x else unIn k t x) else (0, 1)
end Go.Proofs.YtkefdkboejimeaaGreatDoor.Nu
namespace Go.Proofs.YtkefdkboejimeaaGreatDoor.Nu
open Go.RowKit
def jmt (op : BinOp) (k : FloatKind) (x y : Nat) (w : World) : Nat :=
 match floatBits op k x y with
 | some r => r
 | none => (Question.nanBits k x y).cut (w.tape w.drawn (.nanBits k x y))
def fdr (op : BinOp) (k : FloatKind) (x y : Nat) : Nat :=
 match floatBits op k x y with
 | some _ => 0
 | none => 1
theorem jeg {P : Program} (w : World) (op : BinOp) (t : TypeId) (k : FloatKind) (x y : Nat) (ho : op = .add ∨ op = .sub ∨ op = .mul ∨ op = .quo) :
    (binOp op t (.float k x) (.float k y)).run P w = .ok (.float k (jmt op k x y w)) (w.drewN (fdr op k x y)) := by
     cases h : floatBits op k x y with
     | some r => rw [run_float_arith w op t k x y r h]; simp only [jmt, fdr, h]; rfl
     | none =>
      simp only [jmt, fdr, h]
      unfold floatBits at h
      rcases ho with rfl | rfl | rfl | rfl <;> simp only at h <;> simp [binOp, Op.floatArith, h, Question.forced] <;> rfl
section
variable {P : Program} (w : World) (t : TypeId) (k : FloatKind) (x y : Nat)
theorem jfM : (binOp .add t (.float k x) (.float k y)).run P w = .ok (.float k (jmt .add k x y w)) (w.drewN (fdr .add k x y)) := jeg w .add t k x y (by decide)
theorem jfN : (binOp .sub t (.float k x) (.float k y)).run P w = .ok (.float k (jmt .sub k x y w)) (w.drewN (fdr .sub k x y)) := jeg w .sub t k x y (by decide)
theorem jfO : (binOp .mul t (.float k x) (.float k y)).run P w = .ok (.float k (jmt .mul k x y w)) (w.drewN (fdr .mul k x y)) := jeg w .mul t k x y (by decide)
theorem jfP : (binOp .quo t (.float k x) (.float k y)).run P w = .ok (.float k (jmt .quo k x y w)) (w.drewN (fdr .quo k x y)) := jeg w .quo t k x y (by decide)
end
theorem jkk (op : BinOp) (x y : Nat) (w : World) : jmt op .f32 x y w < 4294967296 := by
 unfold jmt
 split
 ·rename_i r h
  have := floatBits_wf h
  simpa [Lit.wf] using this
 ·exact jj8 x y _
def cq (s k : FloatKind) (b : Nat) : Question := if (s.decode b).isNaN then .nanConv k b else .floatToFloat b
def joI (s k : FloatKind) (b : Nat) (w : World) : Nat :=
 match floatToFloatBits s b k with
 | some r => r
 | none => (cq s k b).cut (w.tape w.drawn (cq s k b))
def cdr (s k : FloatKind) (b : Nat) : Nat :=
 match floatToFloatBits s b k with
 | some _ => 0
 | none => 1
theorem jir {P : Program} (w : World) (src dst : TypeId) (s k : FloatKind) (b : Nat) (hs : (P.underlying src).isSome = true) (hd : P.underlying dst = some (.float k)) :
    (convert src dst (.float s b)).run P w = .ok (.float k (joI s k b w)) (w.drewN (cdr s k b)) := by
     cases h : floatToFloatBits s b k with
     | some r => rw [run_convert_float_float w src dst s k b r hs hd h]; simp only [joI, cdr, h]; rfl
     | none =>
      simp only [joI, cdr, h]
      obtain ⟨u, hs'⟩ := Option.isSome_iff_exists.1 hs
      unfold floatToFloatBits at h
      split at h
      ·cases h
      ·rename_i ne
       split at h
       ·rename_i a c he
        cases u <;> simp [convert, run_underlying hs', run_underlying hd, Conv.floatToFloat, ne, he, cq, Ieee.Datum.isNaN, Question.forced] <;> rfl
       ·cases h
       ·rename_i sg m e he
        split at h
        ·rename_i ho
         cases u <;> simp [convert, run_underlying hs', run_underlying hd, Conv.floatToFloat, ne, he, ho, cq, Ieee.Datum.isNaN, Question.forced] <;> rfl
        ·cases h
theorem jeF (b : Nat) (w : World) : joI .f64 .f32 b w < 4294967296 := by
 unfold joI
 split
 ·rename_i r h
  unfold floatToFloatBits at h
  rw [if_neg (by decide)] at h
  split at h
  ·cases h
  ·cases h; have := encode_wf .f32 (.infinity ‹_›); simpa [Lit.wf] using this
  ·split at h
   ·cases h
   ·cases h; rename_i a b c _ _; have := encode_wf .f32 (.number a b c); simpa [Lit.wf] using this
 ·unfold cq
  split
  ·exact jj8 b b _
  ·show _ % 2 ^ 32 < _
   exact Nat.mod_lt _ (by decide)
def ival (s : FloatKind) (k : IntKind) (b : Nat) (w : World) : Int :=
 match floatToIntVal s b k with
 | some n => n
 | none => k.wrap ((Question.floatToInt s b k).cut (w.tape w.drawn (.floatToInt s b k)))
def idr (s : FloatKind) (k : IntKind) (b : Nat) : Nat :=
 match floatToIntVal s b k with
 | some _ => 0
 | none => 1
theorem jmu {P : Program} (w : World) (src dst : TypeId) (s : FloatKind) (k : IntKind) (b : Nat) (hs : (P.underlying src).isSome = true) (hd : P.underlying dst = some (.int k)) :
    (convert src dst (.float s b)).run P w = .ok (.int k (ival s k b w)) (w.drewN (idr s k b)) := by
     cases h : floatToIntVal s b k with
     | some r => rw [run_convert_float_int w src dst s k b r hs hd h]; simp only [ival, idr, h]; rfl
     | none =>
      simp only [ival, idr, h]
      obtain ⟨u, hs'⟩ := Option.isSome_iff_exists.1 hs
      unfold floatToIntVal at h
      split at h
      ·rename_i m he
       split at h
       ·cases h
       ·rename_i hb
        cases u <;> simp [convert, run_underlying hs', run_underlying hd, Conv.floatToInt, he, hb, Question.forced] <;> rfl
      ·rename_i he
       cases u <;> simp [convert, run_underlying hs', run_underlying hd, Conv.floatToInt, he, Question.forced] <;> rfl
end Go.Proofs.YtkefdkboejimeaaGreatDoor.Nu
