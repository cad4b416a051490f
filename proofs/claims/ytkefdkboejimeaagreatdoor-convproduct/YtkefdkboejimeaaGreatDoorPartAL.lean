/- Joined texts: NuPlain, NuPlainF, NuPlainG, LnFloat, LnPure, CvP, NuPlainU, NuPlainK. -/
import Derived.WalkKit
import Derived.WalkSpells
import Derived.WalkLawsBesides
import Derived.Laws.FloatArith
import Derived.Laws.BitsAllLaws
namespace Go.Proofs.YtkefdkboejimeaaGreatDoor.Nu

open Go.RowKit

theorem and_mask (a : Nat) (h : a < 4294967296) : a &&& 18446744071562067967 = a % 2147483648 := by
  have h1 : a &&& 4294967295 = a := by
    have := Nat.and_two_pow_sub_one_eq_mod a 32
    simp only [Nat.reducePow, Nat.reduceSub] at this
    rw [this]; exact Nat.mod_eq_of_lt h
  have h2 : a % 2147483648 = a &&& 2147483647 := by
    have := Nat.and_two_pow_sub_one_eq_mod a 31
    simp only [Nat.reducePow, Nat.reduceSub] at this
    exact this.symm
  rw [h2]
  conv => lhs; rw [← h1]
  rw [Nat.and_assoc]
  have e : (4294967295 : Nat) &&& 18446744071562067967 = 2147483647 := by decide
  rw [e]

theorem wrap_i64_eq (n : Int) : IntKind.i64.wrap n = wrap64 n := by
  simp [IntKind.wrap, IntKind.bits, IntKind.signed, wrap64]; split <;> omega

theorem andNot_i64 (x : Int) (h0 : 0 ≤ x) (h : x < 4294967296) : bits .andNot .i64 x 2147483648 = x % 2147483648 := by
  obtain ⟨a, rfl⟩ := Int.eq_ofNat_of_zero_le h0
  have ha : a < 4294967296 := by omega
  show IntKind.i64.wrap ((BitVec.ofInt 64 (a : Int) &&& ~~~BitVec.ofInt 64 (2147483648 : Int)).toNat : Int) = _
  have e1 : (BitVec.ofInt 64 (a : Int)).toNat = a := ofInt_u64 a (by omega)
  have e2 : (~~~BitVec.ofInt 64 (2147483648 : Int)).toNat = 18446744071562067967 := by decide
  rw [BitVec.toNat_and, e1, e2, and_mask a ha]
  have hm : a % 2147483648 < 2147483648 := Nat.mod_lt _ (by decide)
  have : ((a % 2147483648 : Nat) : Int) = (a : Int) % 2147483648 := by omega
  rw [this]
  rw [wrap_i64_eq]
  unfold wrap64; omega

def chk (t x : Int) : Bool :=
  if t = 1 then decide (0 ≤ x ∧ x < 4294967296 ∧ (x = 2143289344 ∨ x % 2147483648 ≤ 2139095040))
  else if t = 6 then decide (-2147483648 ≤ x ∧ x ≤ 2147483647)
  else if t = 7 then true
  else if t = 9 then decide (x = 0 ∨ x = 1)
  else false

theorem chk6 (x : Int) : (x == wrap64 (wrap32 x)) = decide (-2147483648 ≤ x ∧ x ≤ 2147483647) := by
  rw [Bool.eq_iff_iff]
  simp only [beq_iff_eq, decide_eq_true_eq]
  unfold wrap64 wrap32
  omega

theorem chk_float (t x : Int) (h : t = 1) : chk t x = decide (0 ≤ x ∧ x < 4294967296 ∧ (x = 2143289344 ∨ x % 2147483648 ≤ 2139095040)) := by
  simp [chk, h]

end Go.Proofs.YtkefdkboejimeaaGreatDoor.Nu

namespace Go.Proofs.YtkefdkboejimeaaGreatDoor.Nu

open Go.RowKit

def tob (b : Nat) : Int := if (FloatKind.f32.format.order b b != some .eq) = true then 2143289344 else (b : Int)

def tobO : Option Nat → Int
  | none => 2143289344
  | some r => tob r

def fb (x : Int) : Nat := (x % 4294967296).toNat

theorem fb_lt (x : Int) : fb x < 4294967296 := by unfold fb; omega

theorem datum_order_self (d : Ieee.Datum) : d.order d = if d.isNaN then none else some .eq := by
  cases d <;> simp [Ieee.Datum.order, Ieee.Datum.isNaN]

theorem order_self (b : Nat) : FloatKind.f32.format.order b b = if (FloatKind.f32.format.read b).isNaN then none else some .eq := datum_order_self _

theorem tob_eq (b : Nat) : tob b = if (FloatKind.f32.format.read b).isNaN then 2143289344 else (b : Int) := by
  unfold tob
  rw [order_self]
  cases (FloatKind.f32.format.read b).isNaN <;> simp

theorem read32_nan (b : Nat) (_h : b < 4294967296) : (FloatKind.f32.format.read b).isNaN = decide (2139095040 < b % 2147483648) := by
  have e1 : FloatKind.f32.format.signWeight = 2147483648 := rfl
  have e2 : FloatKind.f32.format.binade = 8388608 := rfl
  have e3 : FloatKind.f32.format.infRung = 2139095040 := rfl
  have e4 : FloatKind.f32.format.leastPlace = -149 := rfl
  unfold Ieee.Format.read
  simp only [e1, e2, e3, e4]
  split
  · simp [Ieee.Datum.isNaN]; omega
  · split
    · simp [Ieee.Datum.isNaN]; omega
    · split
      · simp [Ieee.Datum.isNaN]; omega
      · simp [Ieee.Datum.isNaN]; omega

theorem tob_num (b : Nat) (h : b < 4294967296) : tob b = if 2139095040 < b % 2147483648 then 2143289344 else (b : Int) := by
  rw [tob_eq, read32_nan b h]; simp

theorem chk_tob (b : Nat) (h : b < 4294967296) : chk 1 (tob b) = true := by
  rw [tob_num b h, chk_float 1 _ rfl]
  split
  · decide
  · simp; omega

theorem nan_cut (t : Nat) (x y : Nat) : tob ((Question.nanBits .f32 x y).cut t) = 2143289344 := by
  have h1 := Nat.mod_lt t (show 0 < 2 by decide)
  have h2 := Nat.mod_lt (t / 2) (show 0 < 8388607 by decide)
  have e : (Question.nanBits .f32 x y).cut t = (t % 2) * 2147483648 + 2139095040 + 1 + (t / 2) % 8388607 := rfl
  rw [e]
  generalize t % 2 = a at *
  generalize t / 2 % 8388607 = b at *
  rw [tob_num _ (by omega), if_pos (by omega)]

def nb (x y t : Nat) : Nat := (Question.nanBits .f32 x y).cut t

theorem nb_lt (x y t : Nat) : nb x y t < 4294967296 := by
  have h1 := Nat.mod_lt t (show 0 < 2 by decide)
  have h2 := Nat.mod_lt (t / 2) (show 0 < 8388607 by decide)
  have e : nb x y t = (t % 2) * 2147483648 + 2139095040 + 1 + (t / 2) % 8388607 := rfl
  rw [e]
  generalize t % 2 = a at *
  generalize t / 2 % 8388607 = b at *
  omega

theorem tob_nb (x y t : Nat) : tob (nb x y t) = 2143289344 := nan_cut t x y

theorem run_float_none {P : Program} (w : World) (op : BinOp) (t : TypeId) (x y : Nat) (ho : op = .add ∨ op = .sub ∨ op = .mul ∨ op = .quo) (h : floatBits op .f32 x y = none) :
    (binOp op t (.float .f32 x) (.float .f32 y)).run P w = .ok (.float .f32 (nb x y (w.tape w.drawn (.nanBits .f32 x y)))) w.drew := by
  unfold floatBits at h
  rcases ho with rfl | rfl | rfl | rfl <;> simp only at h <;> simp [binOp, Op.floatArith, h, nb, Question.forced]

end Go.Proofs.YtkefdkboejimeaaGreatDoor.Nu

namespace Go.Proofs.YtkefdkboejimeaaGreatDoor.Nu

open Go.RowKit

def b2i (b : Bool) : Int := if b then 1 else 0

def ord (x y : Nat) : Option Ordering := FloatKind.f32.format.order x y

def maxF (x y : Nat) : Int :=
  match ord x y with
  | none => 2143289344
  | some .lt => tob y
  | some .gt => tob x
  | some .eq => if (FloatKind.f32.decode x).neg then tob y else tob x
def minF (x y : Nat) : Int :=
  match ord x y with
  | none => 2143289344
  | some .lt => tob x
  | some .gt => tob y
  | some .eq => if (FloatKind.f32.decode x).neg then tob x else tob y

def binFl (k : Nat) (x y : Nat) : Int × Int :=
  match k with
  | 0 => (tobO (floatBits .add .f32 x y), 0)
  | 1 => (tobO (floatBits .sub .f32 x y), 0)
  | 2 => (tobO (floatBits .mul .f32 x y), 0)
  | 3 => (tobO (floatBits .quo .f32 x y), 0)
  | 4 => (maxF x y, 0)
  | 5 => (minF x y, 0)
  | 9 => (b2i (ord x y == some .eq), 0)
  | 10 => (b2i (ord x y == some .lt), 0)
  | 11 => (b2i (ord x y == some .gt), 0)
  | _ => (0, 1)

def wrapT (t n : Int) : Int := if t = 6 then wrap64 (wrap32 n) else n

def maxI (x y : Int) : Int := if y > x then y else x
def minI (x y : Int) : Int := if y < x then y else x

def binIn (k : Nat) (t x y : Int) : Int × Int :=
  match k with
  | 0 => (wrapT t (wrap64 (x + y)), 0)
  | 1 => (wrapT t (wrap64 (x - y)), 0)
  | 2 => (wrapT t (wrap64 (x * y)), 0)
  | 3 => if y = 0 then (0, 7) else (wrapT t (wrap64 (x.tdiv y)), 0)
  | 4 => (wrapT t (maxI x y), 0)
  | 5 => (wrapT t (minI x y), 0)
  | 9 => (b2i (x == y), 0)
  | 10 => (b2i (decide (x < y)), 0)
  | 11 => (b2i (decide (y < x)), 0)
  | _ => (0, 1)

def binBo (k : Nat) (x y : Int) : Int × Int :=
  match k with
  | 6 => (x * y, 0)
  | 7 => (x + y - x * y, 0)
  | 8 => (x + y - 2 * (x * y), 0)
  | 9 => (b2i (x == y), 0)
  | _ => (0, 1)

def bin (k : Nat) (t x y : Int) : Int × Int :=
  if (chk t x && chk t y) = true then (if t = 1 then binFl k (fb x) (fb y) else if t = 9 then binBo k x y else binIn k t x y) else (0, 1)

section

variable {P : Program} (w : World) (ts : Array TypeId) (t : TypeId) (x y : Nat)

theorem run_maxF_none (h : ord x y = none) : (Builtin.max_ ts t #[.float .f32 x, .float .f32 y]).run P w = .ok (.float .f32 (nb x y (w.tape w.drawn (.nanMinMax .f32 true x y)))) w.drew := by
  unfold ord at h; simp [Builtin.max_, Builtin.max2, h, nb, Question.forced, Question.cut]
theorem run_minF_none (h : ord x y = none) : (Builtin.min_ ts t #[.float .f32 x, .float .f32 y]).run P w = .ok (.float .f32 (nb x y (w.tape w.drawn (.nanMinMax .f32 false x y)))) w.drew := by
  unfold ord at h; simp [Builtin.min_, Builtin.min2, h, nb, Question.forced, Question.cut]
theorem run_maxF_lt (h : ord x y = some .lt) : (Builtin.max_ ts t #[.float .f32 x, .float .f32 y]).run P w = .ok (.float .f32 y) w := by
  unfold ord at h; simp [Builtin.max_, Builtin.max2, h]
theorem run_minF_lt (h : ord x y = some .lt) : (Builtin.min_ ts t #[.float .f32 x, .float .f32 y]).run P w = .ok (.float .f32 x) w := by
  unfold ord at h; simp [Builtin.min_, Builtin.min2, h]
theorem run_maxF_gt (h : ord x y = some .gt) : (Builtin.max_ ts t #[.float .f32 x, .float .f32 y]).run P w = .ok (.float .f32 x) w := by
  unfold ord at h; simp [Builtin.max_, Builtin.max2, h]
theorem run_minF_gt (h : ord x y = some .gt) : (Builtin.min_ ts t #[.float .f32 x, .float .f32 y]).run P w = .ok (.float .f32 y) w := by
  unfold ord at h; simp [Builtin.min_, Builtin.min2, h]
theorem run_maxF_eq (h : ord x y = some .eq) : (Builtin.max_ ts t #[.float .f32 x, .float .f32 y]).run P w = .ok (.float .f32 (if (FloatKind.f32.decode x).neg then y else x)) w := by
  unfold ord at h; simp [Builtin.max_, Builtin.max2, h]
theorem run_minF_eq (h : ord x y = some .eq) : (Builtin.min_ ts t #[.float .f32 x, .float .f32 y]).run P w = .ok (.float .f32 (if (FloatKind.f32.decode x).neg then x else y)) w := by
  unfold ord at h; simp [Builtin.min_, Builtin.min2, h]

end

end Go.Proofs.YtkefdkboejimeaaGreatDoor.Nu

namespace Go.Proofs.YtkefdkboejimeaaGreatDoor

open Go.RowKit

theorem bits_lt {op : BinOp} {x y r : Nat} (h : floatBits op .f32 x y = some r) : r < 4294967296 := by
  have := floatBits_wf h
  simpa [Lit.wf] using this

theorem tobO_chk (o : Option Nat) (h : ∀ r, o = some r → r < 4294967296) : Nu.chk 1 (Nu.tobO o) = true := by
  cases o with
  | none => rfl
  | some r => exact Nu.chk_tob r (h r rfl)

def fadd (a b : Int) : Int := (Nu.bin 0 1 a b).1
def fmul (a b : Int) : Int := (Nu.bin 2 1 a b).1

theorem fadd_chk (a b : Int) : Nu.chk 1 (fadd a b) = true := by
  unfold fadd Nu.bin
  split
  · exact tobO_chk _ fun r h => bits_lt h
  · rfl

def fin (z : Int) : Prop := 0 ≤ z ∧ z < 4294967296 ∧ z % 2147483648 < 2139095040

end Go.Proofs.YtkefdkboejimeaaGreatDoor

namespace Go.Proofs.YtkefdkboejimeaaGreatDoor

open Go.RowKit

def dotF : Int → List Int → List Int → Int
  | s, x :: xs, y :: ys => dotF (fadd s (fmul x y)) xs ys
  | s, _, _ => s

def blk (zs : List Int) (i h k : Nat) : List (List Int) := (List.range h).map fun r => ((zs.drop (i * (h * k))).drop (r * k)).take k

def tms (a b : List (List Int)) : List Int := a.flatMap fun r => b.map fun c => dotF 0 r c

def matL (xs yt : List Int) (n a k b : Nat) : List Int := (List.range n).flatMap fun i => tms (blk xs i a k) (blk yt i b k)

def trn (k b : Nat) (ys : List Int) : List Int := (List.range b).flatMap fun j => (List.range k).map fun i => ys.getD (i * b + j) 0

theorem dotF_chk : ∀ (xs ys : List Int) (s : Int), Nu.chk 1 s = true → Nu.chk 1 (dotF s xs ys) = true
  | [], _, _, h => by simpa [dotF] using h
  | _ :: _, [], _, h => by simpa [dotF] using h
  | x :: xs, y :: ys, s, _ => by simp only [dotF]; exact dotF_chk xs ys _ (fadd_chk _ _)

theorem dotF_rng (xs ys : List Int) : 0 ≤ dotF 0 xs ys ∧ dotF 0 xs ys < 4294967296 := by
  have h := dotF_chk xs ys 0 rfl
  unfold Nu.chk at h
  simp only [if_true, decide_eq_true_eq] at h
  omega

theorem dotF_snoc : ∀ (xs ys : List Int) (s x y : Int), xs.length = ys.length → dotF s (xs ++ [x]) (ys ++ [y]) = fadd (dotF s xs ys) (fmul x y)
  | [], [], s, x, y, _ => by simp [dotF]
  | a :: xs, b :: ys, s, x, y, h => by simp only [List.cons_append, dotF]; exact dotF_snoc xs ys _ x y (by simpa using h)
  | [], _ :: _, _, _, _, h => by simp at h
  | _ :: _, [], _, _, _, h => by simp at h

theorem blk_length (zs : List Int) (i h k : Nat) : (blk zs i h k).length = h := by simp [blk]

theorem tms_length (a b : List (List Int)) : (tms a b).length = a.length * b.length := by
  unfold tms
  induction a with
  | nil => simp
  | cons r a ih => rw [List.flatMap_cons, List.length_append, ih, List.length_map, List.length_cons, Nat.add_mul]; omega

theorem tms_all (a b : List (List Int)) : ∀ z ∈ tms a b, Nu.chk 1 z = true ∧ 0 ≤ z ∧ z < 4294967296 := by
  intro z hz
  unfold tms at hz
  obtain ⟨r, -, hz⟩ := List.mem_flatMap.1 hz
  obtain ⟨c, -, rfl⟩ := List.mem_map.1 hz
  exact ⟨dotF_chk _ _ _ rfl, dotF_rng _ _⟩

theorem mat_all (xs yt : List Int) (n a k b : Nat) : ∀ z ∈ matL xs yt n a k b, Nu.chk 1 z = true ∧ 0 ≤ z ∧ z < 4294967296 := by
  intro z hz
  unfold matL at hz
  obtain ⟨i, -, hz⟩ := List.mem_flatMap.1 hz
  exact tms_all _ _ z hz

theorem flat_len' {α : Type} (f : Nat → List α) (L : Nat) : ∀ n, (∀ i, i < n → (f i).length = L) → ((List.range n).flatMap f).length = n * L
  | 0, _ => by simp
  | n + 1, h => by
    rw [List.range_succ, List.flatMap_append, List.length_append, flat_len' f L n (fun i hi => h i (by omega))]
    simp [h n (by omega), Nat.add_mul]

theorem mat_length (xs yt : List Int) (n a k b : Nat) : (matL xs yt n a k b).length = n * (a * b) := flat_len' _ _ _ fun i _ => by rw [tms_length, blk_length, blk_length]

theorem flat_part {α : Type} (f : Nat → List α) (L : Nat) : ∀ n, (∀ i, i < n → (f i).length = L) → ∀ t, t < n → (((List.range n).flatMap f).drop (t * L)).take L = f t
  | 0, _, t, ht => by omega
  | n + 1, h, t, ht => by
    have hl := flat_len' f L n (fun i hi => h i (by omega))
    rw [List.range_succ, List.flatMap_append]
    by_cases hn : t < n
    · have ih := flat_part f L n (fun i hi => h i (by omega)) t hn
      have e : t * L + L ≤ n * L := by
        rw [show t * L + L = (t + 1) * L from by rw [Nat.add_mul]; omega]
        exact Nat.mul_le_mul_right _ (by omega)
      rw [List.drop_append_of_le_length (by omega), List.take_append_of_le_length (by rw [List.length_drop]; omega)]
      exact ih
    · obtain rfl : t = n := by omega
      rw [List.drop_append, hl, List.drop_of_length_le (by omega), Nat.sub_self]
      simp only [List.flatMap_cons, List.flatMap_nil, List.append_nil, List.nil_append, List.drop_zero]
      exact List.take_of_length_le (by rw [h t ht]; exact Nat.le_refl _)

theorem tms_flat (a b : List (List Int)) : tms a b = (List.range a.length).flatMap fun r => b.map fun c => dotF 0 (a.getD r []) c := by
  unfold tms
  conv => lhs; rw [show a = (List.range a.length).map (fun r => a.getD r []) from List.ext_getElem (by simp) fun i h1 h2 => by simp [List.getD, show i < a.length from h1]]
  rw [List.flatMap_map]

theorem tms_row (a b : List (List Int)) (r : Nat) (hr : r < a.length) : ((tms a b).drop (r * b.length)).take b.length = b.map fun c => dotF 0 (a.getD r []) c := by
  rw [tms_flat]
  exact flat_part _ b.length a.length (fun i _ => by simp) r hr

theorem blk_row (zs : List Int) (i h k r : Nat) (hr : r < h) : (blk zs i h k).getD r [] = ((zs.drop (i * (h * k))).drop (r * k)).take k := by
  simp [blk, List.getD, hr]

theorem mat_one (xs yt : List Int) (a k b : Nat) : matL xs yt 1 a k b = tms (blk xs 0 a k) (blk yt 0 b k) := by simp [matL]

theorem trn_length (k b : Nat) (ys : List Int) : (trn k b ys).length = b * k := flat_len' _ _ _ fun j _ => by simp

theorem trn_row (k b : Nat) (ys : List Int) (j : Nat) (hj : j < b) : ((trn k b ys).drop (j * k)).take k = (List.range k).map fun i => ys.getD (i * b + j) 0 := flat_part _ k b (fun j _ => by simp) j hj

theorem trn_at (k b : Nat) (ys : List Int) (i j : Nat) (hi : i < k) (hj : j < b) : (trn k b ys).getD (j * k + i) 0 = ys.getD (i * b + j) 0 := by
  have h : (((trn k b ys).drop (j * k)).take k).getD i 0 = ((List.range k).map fun i => ys.getD (i * b + j) 0).getD i 0 := by rw [trn_row k b ys j hj]
  have hl : j * k + k ≤ (trn k b ys).length := by
    rw [trn_length, show j * k + k = (j + 1) * k from by rw [Nat.add_mul]; omega]
    exact Nat.mul_le_mul_right _ (by omega)
  have e1 : (((trn k b ys).drop (j * k)).take k).getD i 0 = (trn k b ys).getD (j * k + i) 0 := by
    simp only [List.getD]
    rw [List.getElem?_take_of_lt hi, List.getElem?_drop]
  have e2 : ((List.range k).map fun i => ys.getD (i * b + j) 0).getD i 0 = ys.getD (i * b + j) 0 := by simp [List.getD, hi]
  rw [← e1, h, e2]

theorem trn_trn (a k : Nat) (xs : List Int) (h : xs.length = a * k) : trn k a (trn a k xs) = xs := by
  refine List.ext_getElem (by rw [trn_length, h]) fun p h1 h2 => ?_
  have hp : p < a * k := by rw [← h]; exact h2
  have hk : 0 < k := by
    rcases Nat.eq_zero_or_pos k with rfl | hk
    · simp at hp
    · exact hk
  have hi : p % k < k := Nat.mod_lt _ hk
  have hj : p / k < a := by rw [Nat.div_lt_iff_lt_mul hk]; exact hp
  have e := trn_at k a (trn a k xs) (p % k) (p / k) hi hj
  rw [trn_at a k xs (p / k) (p % k) hj hi] at e
  have ep : p / k * k + p % k = p := by rw [Nat.mul_comm]; exact Nat.div_add_mod p k
  rw [ep] at e
  simpa [List.getD, h1, h2] using e

end Go.Proofs.YtkefdkboejimeaaGreatDoor

namespace Go.Proofs.YtkefdkboejimeaaGreatDoor

def wpl (W kh kw h w : Nat) : List (Nat × Nat) := (List.range kh).flatMap fun i => (List.range kw).map fun j => (i * kw + j, (h + i) * W + (w + j))

def wplU (W kw h w i j : Nat) : List (Nat × Nat) := ((List.range i).flatMap fun i => (List.range kw).map fun j => (i * kw + j, (h + i) * W + (w + j))) ++ (List.range j).map fun j => (i * kw + j, (h + i) * W + (w + j))

theorem wplU_0 (W kw h w i : Nat) : wplU W kw h w i 0 = wpl W i kw h w := by simp [wplU, wpl]
theorem wplU_step (W kw h w i j : Nat) : wplU W kw h w i (j + 1) = wplU W kw h w i j ++ [(i * kw + j, (h + i) * W + (w + j))] := by
  simp [wplU, List.range_succ]
theorem wplU_row (W kw h w i : Nat) : wplU W kw h w i kw = wpl W (i + 1) kw h w := by
  simp [wplU, wpl, List.range_succ]

theorem wpl_len (W kh kw h w : Nat) : (wpl W kh kw h w).length = kh * kw := by
  unfold wpl
  exact flat_len' _ kw kh (fun i _ => by simp)
theorem wplU_len (W kw h w i j : Nat) : (wplU W kw h w i j).length = i * kw + j := by
  unfold wplU
  rw [List.length_append, flat_len' _ kw i (fun i _ => by simp)]
  simp

theorem wplU_lt (W kw h w i j : Nat) {kh : Nat} (hi : i < kh) (hj : j < kw) : (wplU W kw h w i j).length < kh * kw := by
  rw [wplU_len]
  have : (i + 1) * kw ≤ kh * kw := Nat.mul_le_mul_right _ hi
  rw [Nat.add_mul] at this
  omega

theorem wplace_lt {H W kh kw h w i j : Nat} (hh : h + kh ≤ H) (hw : w + kw ≤ W) (hi : i < kh) (hj : j < kw) : (h + i) * W + (w + j) < H * W := by
  have : (h + i + 1) * W ≤ H * W := Nat.mul_le_mul_right _ (by omega)
  rw [Nat.add_mul] at this
  omega
theorem wnum_lt {kh kw i j : Nat} (hi : i < kh) (hj : j < kw) : i * kw + j < kh * kw := by
  have : (i + 1) * kw ≤ kh * kw := Nat.mul_le_mul_right _ hi
  rw [Nat.add_mul] at this
  omega

def winL (img : List Int) (W kh kw h w : Nat) : List Int := (wpl W kh kw h w).map fun p => img.getD p.2 0

def eachW (f : Nat → Nat → Int) (oh ow : Nat) : List Int := (List.range oh).flatMap fun h => (List.range ow).map (f h)
def eachU (f : Nat → Nat → Int) (ow h w : Nat) : List Int := ((List.range h).flatMap fun h => (List.range ow).map (f h)) ++ (List.range w).map (f h)

theorem eachU_0 (f : Nat → Nat → Int) (ow h : Nat) : eachU f ow h 0 = eachW f h ow := by simp [eachU, eachW]
theorem eachU_step (f : Nat → Nat → Int) (ow h w : Nat) : eachU f ow h (w + 1) = eachU f ow h w ++ [f h w] := by simp [eachU, List.range_succ]
theorem eachU_row (f : Nat → Nat → Int) (ow h : Nat) : eachU f ow h ow = eachW f (h + 1) ow := by simp [eachU, eachW, List.range_succ]
theorem eachW_len (f : Nat → Nat → Int) (oh ow : Nat) : (eachW f oh ow).length = oh * ow := flat_len' _ ow oh (fun i _ => by simp)
theorem eachU_len (f : Nat → Nat → Int) (ow h w : Nat) : (eachU f ow h w).length = h * ow + w := by
  unfold eachU
  rw [List.length_append, flat_len' _ ow h (fun i _ => by simp)]
  simp
theorem eachU_lt (f : Nat → Nat → Int) {oh ow h w : Nat} (hh : h < oh) (hw : w < ow) : (eachU f ow h w).length < oh * ow := by
  rw [eachU_len]
  exact wnum_lt hh hw

def imgL (xs : List Int) (s i : Nat) : List Int := (xs.drop (i * s)).take s

theorem imgL_len {xs : List Int} {s n i : Nat} (h : xs.length = n * s) (hi : i < n) : (imgL xs s i).length = s := by
  unfold imgL
  have : (i + 1) * s ≤ n * s := Nat.mul_le_mul_right _ hi
  rw [Nat.add_mul] at this
  rw [List.length_take, List.length_drop]
  omega

theorem imgL_at {xs : List Int} {s i t : Nat} (ht : t < s) : (imgL xs s i).getD t 0 = xs.getD (i * s + t) 0 := by
  unfold imgL
  simp [List.getD, ht]

def poolL (f : List Int → Int) (xs : List Int) (n H W kh kw oh ow : Nat) : List Int := (List.range n).flatMap fun i => eachW (fun h w => f (winL (imgL xs (H * W) i) W kh kw h w)) oh ow

theorem poolL_len (f : List Int → Int) (xs : List Int) (n H W kh kw oh ow : Nat) : (poolL f xs n H W kh kw oh ow).length = n * (oh * ow) := flat_len' _ _ n (fun _ _ => eachW_len _ _ _)
theorem poolL_step (f : List Int → Int) (xs : List Int) (n H W kh kw oh ow : Nat) : poolL f xs (n + 1) H W kh kw oh ow = poolL f xs n H W kh kw oh ow ++ eachW (fun h w => f (winL (imgL xs (H * W) n) W kh kw h w)) oh ow := by
  simp [poolL, List.range_succ]

theorem img_mem {xs : List Int} {s i : Nat} : ∀ z ∈ imgL xs s i, z ∈ xs := fun _ hz => List.mem_of_mem_drop (List.mem_of_mem_take hz)

end Go.Proofs.YtkefdkboejimeaaGreatDoor

namespace Go.Proofs.YtkefdkboejimeaaGreatDoor.Nu

open Go.RowKit

theorem andNot_u32 (b : Nat) (h : b < 4294967296) : bits .andNot .u32 (b : Int) 2147483648 = ((b % 2147483648 : Nat) : Int) := by
  have e := u32_andNot_nat b 2147483648 h (by decide)
  have e' : bits .andNot .u32 (b : Int) 2147483648 = ((b &&& (4294967295 - 2147483648) : Nat) : Int) := e
  rw [e']
  have := Nat.and_two_pow_sub_one_eq_mod b 31
  simp only [Nat.reducePow, Nat.reduceSub] at this ⊢
  rw [this]

def negF (b : Nat) : Nat := b ^^^ 2147483648
def absF (b : Nat) : Nat := b % 2147483648
def reluF (b : Nat) : Nat := if (FloatKind.f32.format.order b 0 == some .gt) = true then b else if (FloatKind.f32.format.order b b != some .eq) = true then b else 0

theorem negF_eq (b : Nat) : Op.unary .neg (.float .f32 b) = pure (.float .f32 (negF b)) := rfl

theorem xor_top (b : Nat) (h : b < 4294967296) : negF b = if b < 2147483648 then b + 2147483648 else b - 2147483648 := by
  unfold negF
  have hd : (b ^^^ 2147483648) / 2 ^ 31 = b / 2 ^ 31 ^^^ 2147483648 / 2 ^ 31 := Nat.xor_div_two_pow
  have hm : (b ^^^ 2147483648) % 2 ^ 31 = b % 2 ^ 31 ^^^ 2147483648 % 2 ^ 31 := Nat.xor_mod_two_pow
  have e1 : (2147483648 : Nat) / 2 ^ 31 = 1 := by decide
  have e2 : (2147483648 : Nat) % 2 ^ 31 = 0 := by decide
  rw [e1] at hd
  rw [e2, Nat.xor_zero] at hm
  simp only [Nat.reducePow] at hd hm
  have hq : b / 2147483648 = 0 ∨ b / 2147483648 = 1 := by omega
  rcases hq with hq | hq
  · rw [hq] at hd
    have : (0 ^^^ 1 : Nat) = 1 := by decide
    rw [this] at hd
    rw [if_pos (by omega)]; omega
  · rw [hq] at hd
    have : (1 ^^^ 1 : Nat) = 0 := by decide
    rw [this] at hd
    rw [if_neg (by omega)]; omega

theorem negF_lt (b : Nat) (h : b < 4294967296) : negF b < 4294967296 := by
  rw [xor_top b h]; split <;> omega

theorem absF_lt (b : Nat) : absF b < 4294967296 := by
  have := Nat.mod_lt b (show 0 < 2147483648 by decide)
  unfold absF; omega

theorem reluF_lt (b : Nat) (h : b < 4294967296) : reluF b < 4294967296 := by
  unfold reluF; split
  · exact h
  · split
    · exact h
    · omega

def unFl (k : Nat) (b : Nat) : Int × Int :=
  match k with
  | 1 => (tob (negF b), 0)
  | 2 => (tob (absF b), 0)
  | 4 => (tob (reluF b), 0)
  | _ => (0, 1)

def absI (t x : Int) : Int := if x < 0 then wrapT t (wrap64 (-x)) else x

def unIn (k : Nat) (t x : Int) : Int × Int :=
  match k with
  | 1 => (wrapT t (wrap64 (-x)), 0)
  | 2 => (absI t x, 0)
  | _ => (0, 1)

def unBo (k : Nat) (x : Int) : Int × Int :=
  match k with
  | 3 => (1 - x, 0)
  | _ => (0, 1)

def un (k : Nat) (t x : Int) : Int × Int :=
  if chk t x = true then (if k = 0 then (x, 0) else if t = 1 then unFl k (fb x) else if t = 9 then unBo k x else unIn k t x) else (0, 1)

end Go.Proofs.YtkefdkboejimeaaGreatDoor.Nu

namespace Go.Proofs.YtkefdkboejimeaaGreatDoor.Nu

open Go.RowKit

def fval (op : BinOp) (k : FloatKind) (x y : Nat) (w : World) : Nat :=
  match floatBits op k x y with
  | some r => r
  | none => (Question.nanBits k x y).cut (w.tape w.drawn (.nanBits k x y))
def fdr (op : BinOp) (k : FloatKind) (x y : Nat) : Nat :=
  match floatBits op k x y with
  | some _ => 0
  | none => 1

theorem run_fval {P : Program} (w : World) (op : BinOp) (t : TypeId) (k : FloatKind) (x y : Nat) (ho : op = .add ∨ op = .sub ∨ op = .mul ∨ op = .quo) :
    (binOp op t (.float k x) (.float k y)).run P w = .ok (.float k (fval op k x y w)) (w.drewN (fdr op k x y)) := by
  cases h : floatBits op k x y with
  | some r => rw [run_float_arith w op t k x y r h]; simp only [fval, fdr, h]; rfl
  | none =>
    simp only [fval, fdr, h]
    unfold floatBits at h
    rcases ho with rfl | rfl | rfl | rfl <;> simp only at h <;> simp [binOp, Op.floatArith, h, Question.forced] <;> rfl

section

variable {P : Program} (w : World) (t : TypeId) (k : FloatKind) (x y : Nat)

theorem run_fadd : (binOp .add t (.float k x) (.float k y)).run P w = .ok (.float k (fval .add k x y w)) (w.drewN (fdr .add k x y)) := run_fval w .add t k x y (by decide)
theorem run_fsub : (binOp .sub t (.float k x) (.float k y)).run P w = .ok (.float k (fval .sub k x y w)) (w.drewN (fdr .sub k x y)) := run_fval w .sub t k x y (by decide)
theorem run_fmul : (binOp .mul t (.float k x) (.float k y)).run P w = .ok (.float k (fval .mul k x y w)) (w.drewN (fdr .mul k x y)) := run_fval w .mul t k x y (by decide)
theorem run_fquo : (binOp .quo t (.float k x) (.float k y)).run P w = .ok (.float k (fval .quo k x y w)) (w.drewN (fdr .quo k x y)) := run_fval w .quo t k x y (by decide)

end

theorem fval_lt (op : BinOp) (x y : Nat) (w : World) : fval op .f32 x y w < 4294967296 := by
  unfold fval
  split
  · rename_i r h
    have := floatBits_wf h
    simpa [Lit.wf] using this
  · exact nb_lt x y _

def cq (s k : FloatKind) (b : Nat) : Question := if (s.decode b).isNaN then .nanConv k b else .floatToFloat b
def cval (s k : FloatKind) (b : Nat) (w : World) : Nat :=
  match floatToFloatBits s b k with
  | some r => r
  | none => (cq s k b).cut (w.tape w.drawn (cq s k b))
def cdr (s k : FloatKind) (b : Nat) : Nat :=
  match floatToFloatBits s b k with
  | some _ => 0
  | none => 1

theorem run_cval {P : Program} (w : World) (src dst : TypeId) (s k : FloatKind) (b : Nat) (hs : (P.underlying src).isSome = true) (hd : P.underlying dst = some (.float k)) :
    (convert src dst (.float s b)).run P w = .ok (.float k (cval s k b w)) (w.drewN (cdr s k b)) := by
  cases h : floatToFloatBits s b k with
  | some r => rw [run_convert_float_float w src dst s k b r hs hd h]; simp only [cval, cdr, h]; rfl
  | none =>
    simp only [cval, cdr, h]
    obtain ⟨u, hs'⟩ := Option.isSome_iff_exists.1 hs
    unfold floatToFloatBits at h
    split at h
    · cases h
    · rename_i ne
      split at h
      · rename_i a c he
        cases u <;> simp [convert, run_underlying hs', run_underlying hd, Conv.floatToFloat, ne, he, cq, Ieee.Datum.isNaN, Question.forced] <;> rfl
      · cases h
      · rename_i sg m e he
        split at h
        · rename_i ho
          cases u <;> simp [convert, run_underlying hs', run_underlying hd, Conv.floatToFloat, ne, he, ho, cq, Ieee.Datum.isNaN, Question.forced] <;> rfl
        · cases h

theorem cval_lt (b : Nat) (w : World) : cval .f64 .f32 b w < 4294967296 := by
  unfold cval
  split
  · rename_i r h
    unfold floatToFloatBits at h
    rw [if_neg (by decide)] at h
    split at h
    · cases h
    · cases h; have := encode_wf .f32 (.infinity ‹_›); simpa [Lit.wf] using this
    · split at h
      · cases h
      · cases h; rename_i a b c _ _; have := encode_wf .f32 (.number a b c); simpa [Lit.wf] using this
  · unfold cq
    split
    · exact nb_lt b b _
    · show _ % 2 ^ 32 < _
      exact Nat.mod_lt _ (by decide)

def ival (s : FloatKind) (k : IntKind) (b : Nat) (w : World) : Int :=
  match floatToIntVal s b k with
  | some n => n
  | none => k.wrap ((Question.floatToInt s b k).cut (w.tape w.drawn (.floatToInt s b k)))
def idr (s : FloatKind) (k : IntKind) (b : Nat) : Nat :=
  match floatToIntVal s b k with
  | some _ => 0
  | none => 1

theorem run_ival {P : Program} (w : World) (src dst : TypeId) (s : FloatKind) (k : IntKind) (b : Nat) (hs : (P.underlying src).isSome = true) (hd : P.underlying dst = some (.int k)) :
    (convert src dst (.float s b)).run P w = .ok (.int k (ival s k b w)) (w.drewN (idr s k b)) := by
  cases h : floatToIntVal s b k with
  | some r => rw [run_convert_float_int w src dst s k b r hs hd h]; simp only [ival, idr, h]; rfl
  | none =>
    simp only [ival, idr, h]
    obtain ⟨u, hs'⟩ := Option.isSome_iff_exists.1 hs
    unfold floatToIntVal at h
    split at h
    · rename_i m he
      split at h
      · cases h
      · rename_i hb
        cases u <;> simp [convert, run_underlying hs', run_underlying hd, Conv.floatToInt, he, hb, Question.forced] <;> rfl
    · rename_i he
      cases u <;> simp [convert, run_underlying hs', run_underlying hd, Conv.floatToInt, he, Question.forced] <;> rfl

end Go.Proofs.YtkefdkboejimeaaGreatDoor.Nu
