/- A part. -/
import Derived.WalkKit
import Derived.WalkSpells
import Derived.WalkLawsBesides
import Derived.Laws.FloatArith
import Derived.Laws.BitsAllLaws
namespace Go.Proofs.YteigfipgmghgmaaGreatDoor.Nu
open Go.RowKit
theorem jf8 (a : Nat) (h : a < 4294967296) : a &&& 18446744071562067967 = a % 2147483648 := by
 have h1 : a &&& 4294967295 = a := by
  have := Nat.and_two_pow_sub_one_eq_mod a 32
  simp only [Nat.reducePow, Nat.reduceSub] at this
  rw [this]; exact Nat.mod_eq_of_lt h
 have h2 : a % 2147483648 = a &&& 2147483647 := by
  have := Nat.and_two_pow_sub_one_eq_mod a 31
  simp only [Nat.reducePow, Nat.reduceSub] at this
  exact this.symm
 rw [h2]
 conv => lhs; rw [← h1]
 rw [Nat.and_assoc]
 have e : (4294967295 : Nat) &&& 18446744071562067967 = 2147483647 := by decide
 rw [e]
theorem jbS (n : Int) : IntKind.i64.wrap n = wrap64 n := by
 simp [IntKind.wrap, IntKind.bits, IntKind.signed, wrap64]; split <;> omega
theorem jd5 (x : Int) (h0 : 0 ≤ x) (h : x < 4294967296) : bits .andNot .i64 x 2147483648 = x % 2147483648 := by
 obtain ⟨a, rfl⟩ := Int.eq_ofNat_of_zero_le h0
 have ha : a < 4294967296 := by omega
 show IntKind.i64.wrap ((BitVec.ofInt 64 (a : Int) &&& ~~~BitVec.ofInt 64 (2147483648 : Int)).toNat : Int) = _
 have e1 : (BitVec.ofInt 64 (a : Int)).toNat = a := ofInt_u64 a (by omega)
 have e2 : (~~~BitVec.ofInt 64 (2147483648 : Int)).toNat = 18446744071562067967 := by decide
 rw [BitVec.toNat_and, e1, e2, jf8 a ha]
 have hm : a % 2147483648 < 2147483648 := Nat.mod_lt _ (by decide)
 have : ((a % 2147483648 : Nat) : Int) = (a : Int) % 2147483648 := by omega
 rw [this]
 rw [jbS]
 unfold wrap64; omega
def chk (t x : Int) : Bool :=
 if t = 1 then decide (0 ≤ x ∧ x < 4294967296 ∧ (x = 2143289344 ∨ x % 2147483648 ≤ 2139095040))
 else if t = 6 then decide (-2147483648 ≤ x ∧ x ≤ 2147483647)
 else if t = 7 then true
 else if t = 9 then decide (x = 0 ∨ x = 1)
 else false
theorem chk6 (x : Int) : (x == wrap64 (wrap32 x)) = decide (-2147483648 ≤ x ∧ x ≤ 2147483647) := by
 rw [Bool.eq_iff_iff]
 simp only [beq_iff_eq, decide_eq_true_eq]
 unfold wrap64 wrap32
 omega
theorem jcX (t x : Int) (h : t = 1) : chk t x = decide (0 ≤ x ∧ x < 4294967296 ∧ (x = 2143289344 ∨ x % 2147483648 ≤ 2139095040)) := by
 simp [chk, h]
end Go.Proofs.YteigfipgmghgmaaGreatDoor.Nu
namespace Go.Proofs.YteigfipgmghgmaaGreatDoor.Nu
open Go.RowKit
def tob (b : Nat) : Int := if (FloatKind.f32.format.order b b != some .eq) = true then 2143289344 else (b : Int)
def tobO : Option Nat → Int
 | none => 2143289344
 | some r => tob r
def fb (x : Int) : Nat := (x % 4294967296).toNat
theorem jcS (x : Int) : fb x < 4294967296 := by unfold fb; omega
theorem jem (d : Ieee.Datum) : d.order d = if d.isNaN then none else some .eq := by
 cases d <;> simp [Ieee.Datum.order, Ieee.Datum.isNaN]
theorem jjO (b : Nat) : FloatKind.f32.format.order b b = if (FloatKind.f32.format.read b).isNaN then none else some .eq := jem _
theorem jqX (b : Nat) : tob b = if (FloatKind.f32.format.read b).isNaN then 2143289344 else (b : Int) := by
 unfold tob
 rw [jjO]
 cases (FloatKind.f32.format.read b).isNaN <;> simp
theorem jde (b : Nat) (_h : b < 4294967296) : (FloatKind.f32.format.read b).isNaN = decide (2139095040 < b % 2147483648) := by
 have e1 : FloatKind.f32.format.signWeight = 2147483648 := rfl
 have e2 : FloatKind.f32.format.binade = 8388608 := rfl
 have e3 : FloatKind.f32.format.infRung = 2139095040 := rfl
 have e4 : FloatKind.f32.format.leastPlace = -149 := rfl
 unfold Ieee.Format.read
 simp only [e1, e2, e3, e4]
 split
 ·simp [Ieee.Datum.isNaN]; omega
 ·split
  ·simp [Ieee.Datum.isNaN]; omega
  ·split
   ·simp [Ieee.Datum.isNaN]; omega
   ·simp [Ieee.Datum.isNaN]; omega
theorem jpQ (b : Nat) (h : b < 4294967296) : tob b = if 2139095040 < b % 2147483648 then 2143289344 else (b : Int) := by
 rw [jqX, jde b h]; simp
theorem jpR (t : Nat) (x y : Nat) : tob ((Question.nanBits .f32 x y).cut t) = 2143289344 := by
 have h1 := Nat.mod_lt t (show 0 < 2 by decide)
 have h2 := Nat.mod_lt (t / 2) (show 0 < 8388607 by decide)
 have e : (Question.nanBits .f32 x y).cut t = (t % 2) * 2147483648 + 2139095040 + 1 + (t / 2) % 8388607 := rfl
 rw [e]
 generalize t % 2 = a at *
 generalize t / 2 % 8388607 = b at *
 rw [jpQ _ (by omega), if_pos (by omega)]
def nb (x y t : Nat) : Nat := (Question.nanBits .f32 x y).cut t
theorem jhc (x y t : Nat) : nb x y t < 4294967296 := by
 have h1 := Nat.mod_lt t (show 0 < 2 by decide)
 have h2 := Nat.mod_lt (t / 2) (show 0 < 8388607 by decide)
 have e : nb x y t = (t % 2) * 2147483648 + 2139095040 + 1 + (t / 2) % 8388607 := rfl
 rw [e]
 generalize t % 2 = a at *
 generalize t / 2 % 8388607 = b at *
 omega
theorem jfJ (x y t : Nat) : tob (nb x y t) = 2143289344 := jpR t x y
theorem jbY {P : Program} (w : World) (op : BinOp) (t : TypeId) (x y : Nat) (ho : op = .add ∨ op = .sub ∨ op = .mul ∨ op = .quo) (h : floatBits op .f32 x y = none) :
    (binOp op t (.float .f32 x) (.float .f32 y)).run P w = .ok (.float .f32 (nb x y (w.tape w.drawn (.nanBits .f32 x y)))) w.drew := by
     unfold floatBits at h
     rcases ho with rfl | rfl | rfl | rfl <;> simp only at h <;> simp [binOp, Op.floatArith, h, nb, Question.forced]
theorem jpS (x : Int) (h : chk 1 x = true) : (fb x : Int) = x := by
 rw [jcX 1 _ rfl] at h; simp at h; unfold fb; omega
end Go.Proofs.YteigfipgmghgmaaGreatDoor.Nu
namespace Go.Proofs.YteigfipgmghgmaaGreatDoor.Nu
open Go.RowKit
def b2i (b : Bool) : Int := if b then 1 else 0
def ord (x y : Nat) : Option Ordering := FloatKind.f32.format.order x y
def maxF (x y : Nat) : Int :=
 match ord x y with
 | none => 2143289344
 | some .lt => tob y
 | some .gt => tob x
 | some .eq => if (FloatKind.f32.decode x).neg then tob y else tob x
def minF (x y : Nat) : Int :=
 match ord x y with
 | none => 2143289344
 | some .lt => tob x
 | some .gt => tob y
 | some .eq => if (FloatKind.f32.decode x).neg then tob x else tob y
def binFl (k : Nat) (x y : Nat) : Int × Int :=
 match k with
 | 0 => (tobO (floatBits .add .f32 x y), 0)
 | 1 => (tobO (floatBits .sub .f32 x y), 0)
 | 2 => (tobO (floatBits .mul .f32 x y), 0)
 | 3 => (tobO (floatBits .quo .f32 x y), 0)
 | 4 => (maxF x y, 0)
 | 5 => (minF x y, 0)
 | 9 => (b2i (ord x y == some .eq), 0)
 | 10 => (b2i (ord x y == some .lt), 0)
 | 11 => (b2i (ord x y == some .gt), 0)
 | _ => (0, 1)
def wrapT (t n : Int) : Int := if t = 6 then wrap64 (wrap32 n) else n
def maxI (x y : Int) : Int := if y > x then y else x
def minI (x y : Int) : Int := if y < x then y else x
def binIn (k : Nat) (t x y : Int) : Int × Int :=
 match k with
 | 0 => (wrapT t (wrap64 (x + y)), 0)
 | 1 => (wrapT t (wrap64 (x - y)), 0)
 | 2 => (wrapT t (wrap64 (x * y)), 0)
 | 3 => if y = 0 then (0, 7) else (wrapT t (wrap64 (x.tdiv y)), 0)
 | 4 => (wrapT t (maxI x y), 0)
 | 5 => (wrapT t (minI x y), 0)
 | 9 => (b2i (x == y), 0)
 | 10 => (b2i (decide (x < y)), 0)
 | 11 => (b2i (decide (y < x)), 0)
 | _ => (0, 1)
def binBo (k : Nat) (x y : Int) : Int × Int :=
 match k with
 | 6 => (x * y, 0)
 | 7 => (x + y - x * y, 0)
 | 8 => (x + y - 2 * (x * y), 0)
 | 9 => (b2i (x == y), 0)
 | _ => (0, 1)
def bin (k : Nat) (t x y : Int) : Int × Int :=
 if (chk t x && chk t y) = true then (if t = 1 then binFl k (fb x) (fb y) else if t = 9 then binBo k x y else binIn k t x y) else (0, 1)
section
variable {P : Program} (w : World) (ts : Array TypeId) (t : TypeId) (x y : Nat)
theorem jgm (h : ord x y = none) : (Builtin.max_ ts t #[.float .f32 x, .float .f32 y]).run P w = .ok (.float .f32 (nb x y (w.tape w.drawn (.nanMinMax .f32 true x y)))) w.drew := by
 unfold ord at h; simp [Builtin.max_, Builtin.max2, h, nb, Question.forced, Question.cut]
theorem jgn (h : ord x y = none) : (Builtin.min_ ts t #[.float .f32 x, .float .f32 y]).run P w = .ok (.float .f32 (nb x y (w.tape w.drawn (.nanMinMax .f32 false x y)))) w.drew := by
 unfold ord at h; simp [Builtin.min_, Builtin.min2, h, nb, Question.forced, Question.cut]
theorem jib (h : ord x y = some .lt) : (Builtin.max_ ts t #[.float .f32 x, .float .f32 y]).run P w = .ok (.float .f32 y) w := by
 unfold ord at h; simp [Builtin.max_, Builtin.max2, h]
theorem jic (h : ord x y = some .lt) : (Builtin.min_ ts t #[.float .f32 x, .float .f32 y]).run P w = .ok (.float .f32 x) w := by
 unfold ord at h; simp [Builtin.min_, Builtin.min2, h]
theorem jid (h : ord x y = some .gt) : (Builtin.max_ ts t #[.float .f32 x, .float .f32 y]).run P w = .ok (.float .f32 x) w := by
 unfold ord at h; simp [Builtin.max_, Builtin.max2, h]
theorem jie (h : ord x y = some .gt) : (Builtin.min_ ts t #[.float .f32 x, .float .f32 y]).run P w = .ok (.float .f32 y) w := by
 unfold ord at h; simp [Builtin.min_, Builtin.min2, h]
theorem jeN (h : ord x y = some .eq) : (Builtin.max_ ts t #[.float .f32 x, .float .f32 y]).run P w = .ok (.float .f32 (if (FloatKind.f32.decode x).neg then y else x)) w := by
 unfold ord at h; simp [Builtin.max_, Builtin.max2, h]
theorem jeO (h : ord x y = some .eq) : (Builtin.min_ ts t #[.float .f32 x, .float .f32 y]).run P w = .ok (.float .f32 (if (FloatKind.f32.decode x).neg then x else y)) w := by
 unfold ord at h; simp [Builtin.min_, Builtin.min2, h]
end
end Go.Proofs.YteigfipgmghgmaaGreatDoor.Nu
namespace Go.Proofs.YteigfipgmghgmaaGreatDoor.Nu
open Go.RowKit
theorem jjP (b : Nat) (h : b < 4294967296) : bits .andNot .u32 (b : Int) 2147483648 = ((b % 2147483648 : Nat) : Int) := by
 have e := u32_andNot_nat b 2147483648 h (by decide)
 have e' : bits .andNot .u32 (b : Int) 2147483648 = ((b &&& (4294967295 - 2147483648) : Nat) : Int) := e
 rw [e']
 have := Nat.and_two_pow_sub_one_eq_mod b 31
 simp only [Nat.reducePow, Nat.reduceSub] at this ⊢
 rw [this]
def jqJ (b : Nat) : Nat := b ^^^ 2147483648
def jpT (b : Nat) : Nat := b % 2147483648
def jeP (b : Nat) : Nat := if (FloatKind.f32.format.order b 0 == some .gt) = true then b else if (FloatKind.f32.format.order b b != some .eq) = true then b else 0
theorem jgo (b : Nat) : Op.unary .neg (.float .f32 b) = pure (.float .f32 (jqJ b)) := rfl
theorem jpU (b : Nat) (h : b < 4294967296) : jqJ b = if b < 2147483648 then b + 2147483648 else b - 2147483648 := by
 unfold jqJ
 have hd : (b ^^^ 2147483648) / 2 ^ 31 = b / 2 ^ 31 ^^^ 2147483648 / 2 ^ 31 := Nat.xor_div_two_pow
 have hm : (b ^^^ 2147483648) % 2 ^ 31 = b % 2 ^ 31 ^^^ 2147483648 % 2 ^ 31 := Nat.xor_mod_two_pow
 have e1 : (2147483648 : Nat) / 2 ^ 31 = 1 := by decide
 have e2 : (2147483648 : Nat) % 2 ^ 31 = 0 := by decide
 rw [e1] at hd
 rw [e2, Nat.xor_zero] at hm
 simp only [Nat.reducePow] at hd hm
 have hq : b / 2147483648 = 0 ∨ b / 2147483648 = 1 := by omega
 rcases hq with hq | hq
 ·rw [hq] at hd
  have : (0 ^^^ 1 : Nat) = 1 := by decide
  rw [this] at hd
  rw [if_pos (by omega)]; omega
 ·rw [hq] at hd
  have : (1 ^^^ 1 : Nat) = 0 := by decide
  rw [this] at hd
  rw [if_neg (by omega)]; omega
theorem jlk (b : Nat) (h : b < 4294967296) : jqJ b < 4294967296 := by
 rw [jpU b h]; split <;> omega
theorem jpV (b : Nat) : jpT b < 4294967296 := by
 have := Nat.mod_lt b (show 0 < 2147483648 by decide)
 unfold jpT; omega
theorem jnY (b : Nat) (h : b < 4294967296) : jeP b < 4294967296 := by
 unfold jeP; split
 ·exact h
 ·split
  ·exact h
  ·omega
def unFl (k : Nat) (b : Nat) : Int × Int :=
 match k with
 | 1 => (tob (jqJ b), 0)
 | 2 => (tob (jpT b), 0)
 | 4 => (tob (jeP b), 0)
 | _ => (0, 1)
def absI (t x : Int) : Int := if x < 0 then wrapT t (wrap64 (-x)) else x
def unIn (k : Nat) (t x : Int) : Int × Int :=
 match k with
 | 1 => (wrapT t (wrap64 (-x)), 0)
 | 2 => (absI t x, 0)
 | _ => (0, 1)
def unBo (k : Nat) (x : Int) : Int × Int :=
 match k with
 | 3 => (1 - x, 0)
 | _ => (0, 1)
def un (k : Nat) (t x : Int) : Int × Int :=
 if chk t x = true then (if k = 0 then (x, 0) else if t = 1 then unFl k (fb x) else if t = 9 then unBo k x else unIn k t x) else (0, 1)
end Go.Proofs.YteigfipgmghgmaaGreatDoor.Nu
namespace Go.Proofs.YteigfipgmghgmaaGreatDoor.Nu
open Go.RowKit
def jnZ (op : BinOp) (k : FloatKind) (x y : Nat) (w : World) : Nat :=
 match floatBits op k x y with
 | some r => r
 | none => (Question.nanBits k x y).cut (w.tape w.drawn (.nanBits k x y))
def fdr (op : BinOp) (k : FloatKind) (x y : Nat) : Nat :=
 match floatBits op k x y with
 | some _ => 0
 | none => 1
theorem jet {P : Program} (w : World) (op : BinOp) (t : TypeId) (k : FloatKind) (x y : Nat) (ho : op = .add ∨ op = .sub ∨ op = .mul ∨ op = .quo) :
    (binOp op t (.float k x) (.float k y)).run P w = .ok (.float k (jnZ op k x y w)) (w.drewN (fdr op k x y)) := by
     cases h : floatBits op k x y with
     | some r => rw [run_float_arith w op t k x y r h]; simp only [jnZ, fdr, h]; rfl
     | none =>
      simp only [jnZ, fdr, h]
      unfold floatBits at h
      rcases ho with rfl | rfl | rfl | rfl <;> simp only at h <;> simp [binOp, Op.floatArith, h, Question.forced] <;> rfl
section
variable {P : Program} (w : World) (t : TypeId) (k : FloatKind) (x y : Nat)
theorem jgp : (binOp .add t (.float k x) (.float k y)).run P w = .ok (.float k (jnZ .add k x y w)) (w.drewN (fdr .add k x y)) := jet w .add t k x y (by decide)
theorem jgq : (binOp .sub t (.float k x) (.float k y)).run P w = .ok (.float k (jnZ .sub k x y w)) (w.drewN (fdr .sub k x y)) := jet w .sub t k x y (by decide)
theorem jgr : (binOp .mul t (.float k x) (.float k y)).run P w = .ok (.float k (jnZ .mul k x y w)) (w.drewN (fdr .mul k x y)) := jet w .mul t k x y (by decide)
theorem jgs : (binOp .quo t (.float k x) (.float k y)).run P w = .ok (.float k (jnZ .quo k x y w)) (w.drewN (fdr .quo k x y)) := jet w .quo t k x y (by decide)
end
theorem jll (op : BinOp) (x y : Nat) (w : World) : jnZ op .f32 x y w < 4294967296 := by
 unfold jnZ
 split
 ·rename_i r h
  have := floatBits_wf h
  simpa [Lit.wf] using this
 ·exact jhc x y _
def cq (s k : FloatKind) (b : Nat) : Question := if (s.decode b).isNaN then .nanConv k b else .floatToFloat b
def jpW (s k : FloatKind) (b : Nat) (w : World) : Nat :=
 match floatToFloatBits s b k with
 | some r => r
 | none => (cq s k b).cut (w.tape w.drawn (cq s k b))
def cdr (s k : FloatKind) (b : Nat) : Nat :=
 match floatToFloatBits s b k with
 | some _ => 0
 | none => 1
theorem jjb {P : Program} (w : World) (src dst : TypeId) (s k : FloatKind) (b : Nat) (hs : (P.underlying src).isSome = true) (hd : P.underlying dst = some (.float k)) :
    (convert src dst (.float s b)).run P w = .ok (.float k (jpW s k b w)) (w.drewN (cdr s k b)) := by
     cases h : floatToFloatBits s b k with
     | some r => rw [run_convert_float_float w src dst s k b r hs hd h]; simp only [jpW, cdr, h]; rfl
     | none =>
      simp only [jpW, cdr, h]
      obtain ⟨u, hs'⟩ := Option.isSome_iff_exists.1 hs
      unfold floatToFloatBits at h
      split at h
      ·cases h
      ·rename_i ne
       split at h
       ·rename_i a c he
        cases u <;> simp [convert, run_underlying hs', run_underlying hd, Conv.floatToFloat, ne, he, cq, Ieee.Datum.isNaN, Question.forced] <;> rfl
       ·cases h
       ·rename_i sg m e he
        split at h
        ·rename_i ho
         cases u <;> simp [convert, run_underlying hs', run_underlying hd, Conv.floatToFloat, ne, he, ho, cq, Ieee.Datum.isNaN, Question.forced] <;> rfl
        ·cases h
theorem jeQ (b : Nat) (w : World) : jpW .f64 .f32 b w < 4294967296 := by
 unfold jpW
 split
 ·rename_i r h
  unfold floatToFloatBits at h
  rw [if_neg (by decide)] at h
  split at h
  ·cases h
  ·cases h; have := encode_wf .f32 (.infinity ‹_›); simpa [Lit.wf] using this
  ·split at h
   ·cases h
   ·cases h; rename_i a b c _ _; have := encode_wf .f32 (.number a b c); simpa [Lit.wf] using this
 ·unfold cq
  split
  ·exact jhc b b _
  ·show _ % 2 ^ 32 < _
   exact Nat.mod_lt _ (by decide)
def ival (s : FloatKind) (k : IntKind) (b : Nat) (w : World) : Int :=
 match floatToIntVal s b k with
 | some n => n
 | none => k.wrap ((Question.floatToInt s b k).cut (w.tape w.drawn (.floatToInt s b k)))
def idr (s : FloatKind) (k : IntKind) (b : Nat) : Nat :=
 match floatToIntVal s b k with
 | some _ => 0
 | none => 1
theorem jn0 {P : Program} (w : World) (src dst : TypeId) (s : FloatKind) (k : IntKind) (b : Nat) (hs : (P.underlying src).isSome = true) (hd : P.underlying dst = some (.int k)) :
    (convert src dst (.float s b)).run P w = .ok (.int k (ival s k b w)) (w.drewN (idr s k b)) := by
     cases h : floatToIntVal s b k with
     | some r => rw [run_convert_float_int w src dst s k b r hs hd h]; simp only [ival, idr, h]; rfl
     | none =>
      simp only [ival, idr, h]
      obtain ⟨u, hs'⟩ := Option.isSome_iff_exists.1 hs
      unfold floatToIntVal at h
      split at h
      ·rename_i m he
       split at h
       ·cases h
       ·rename_i hb
        cases u <;> simp [convert, run_underlying hs', run_underlying hd, Conv.floatToInt, he, hb, Question.forced] <;> rfl
      ·rename_i he
       cases u <;> simp [convert, run_underlying hs', run_underlying hd, Conv.floatToInt, he, Question.forced] <;> rfl
end Go.Proofs.YteigfipgmghgmaaGreatDoor.Nu
namespace Go.Proofs.YteigfipgmghgmaaGreatDoor.Nu
open Go.RowKit
def rdm (neg : Bool) (rung : Nat) : Ieee.Datum :=
 if rung < 8388608 then .number neg rung (-149)
 else if rung < 2139095040 then .number neg (8388608 + rung % 8388608) (-149 + (rung / 8388608 - 1 : Nat))
 else if rung = 2139095040 then .infinity neg
 else .nan neg (rung - 2139095040)
theorem jif (b : Nat) (h : b < 4294967296) : FloatKind.f32.format.read b = rdm (decide (2147483648 ≤ b)) (b % 2147483648) := by
 have e1 : FloatKind.f32.format.signWeight = 2147483648 := rfl
 have e2 : FloatKind.f32.format.binade = 8388608 := rfl
 have e3 : FloatKind.f32.format.infRung = 2139095040 := rfl
 have e4 : FloatKind.f32.format.leastPlace = -149 := rfl
 have e5 : (b / 2147483648 % 2 == 1) = decide (2147483648 ≤ b) := by
  rw [Bool.eq_iff_iff]; simp only [beq_iff_eq, decide_eq_true_eq]; omega
 unfold Ieee.Format.read rdm
 simp only [e1, e2, e3, e4, e5]
theorem jgt (x : Int) (h : chk 1 x = true) : (FloatKind.f32.format.read (fb x)).isNaN = decide (x = 2143289344) := by
 rw [jde _ (jcS x), Bool.eq_iff_iff]
 have := jpS x h
 rw [jcX 1 _ rfl] at h; simp at h
 simp only [decide_eq_true_eq]
 omega
theorem jjQ (x y : Ieee.Datum) : x.order y = none ↔ x.isNaN = true ∨ y.isNaN = true := by
 cases x <;> cases y <;> simp [Ieee.Datum.order, Ieee.Datum.isNaN]
theorem jn1 (x y : Int) (hx : chk 1 x = true) (hy : chk 1 y = true) : ord (fb x) (fb y) = none ↔ x = 2143289344 ∨ y = 2143289344 := by
 unfold ord Ieee.Format.order
 rw [jjQ, jgt x hx, jgt y hy]; simp
end Go.Proofs.YteigfipgmghgmaaGreatDoor.Nu
namespace Go.Proofs.YteigfipgmghgmaaGreatDoor.Nu
open Go.RowKit
theorem jeR {a b : Int} (h : a < b) : compare a b = .lt := by simp [compare, compareOfLessAndEq, h]
theorem jeS {a b : Int} (h : b < a) : compare a b = .gt := by
 have h1 : ¬ a < b := by omega
 have h2 : ¬ a = b := by omega
 simp [compare, compareOfLessAndEq, h1, h2]
theorem jfK {a b : Int} (h : a = b) : compare a b = .eq := by simp [compare, compareOfLessAndEq, h]
theorem jn2 (s : Bool) (r : Nat) : (rdm s r).neg = s := by
 unfold rdm
 split
 ·rfl
 ·split
  ·rfl
  ·split <;> rfl
end Go.Proofs.YteigfipgmghgmaaGreatDoor.Nu
namespace Go.Proofs.YteigfipgmghgmaaGreatDoor.Nu
open Go.RowKit
theorem jn3 (a b : Int) : compare b a = (compare a b).swap := by
 rcases Int.lt_trichotomy a b with h | h | h
 ·rw [jeR h, jeS h]; rfl
 ·rw [jfK h, jfK h.symm]; rfl
 ·rw [jeS h, jeR h]; rfl
theorem jjR (x y : Ieee.Datum) : y.order x = (x.order y).map Ordering.swap := by
 cases x with
 | nan s t => cases y <;> rfl
 | infinity s => cases y with
  | nan => rfl
  | infinity t => cases s <;> cases t <;> rfl
  | number => cases s <;> rfl
 | number s m i => cases y with
  | nan => rfl
  | infinity t => cases t <;> rfl
  | number t n j =>
   simp only [Ieee.Datum.order, Option.map]
   rw [Int.min_comm j i, jn3]
theorem jgu (x y : Nat) : ord y x = (ord x y).map Ordering.swap := jjR _ _
theorem jn4 (x y : Ieee.Datum) : x.sum y = y.sum x := by
 cases x with
 | nan s t => cases y <;> rfl
 | infinity s => cases y with
  | nan => rfl
  | infinity t => cases s <;> cases t <;> rfl
  | number => rfl
 | number s m i => cases y with
  | nan => rfl
  | infinity t => rfl
  | number t n j =>
   simp only [Ieee.Datum.sum]
   rw [Int.min_comm j i, Int.add_comm, Bool.and_comm]
theorem jhd (x y : Ieee.Datum) : x.product y = y.product x := by
 cases x with
 | nan s t => cases y <;> rfl
 | infinity s => cases y with
  | nan => rfl
  | infinity t => cases s <;> cases t <;> rfl
  | number => rfl
 | number s m i => cases y with
  | nan => rfl
  | infinity t => rfl
  | number t n j =>
   simp only [Ieee.Datum.product]
   rw [Nat.mul_comm, Int.add_comm, Bool.xor_comm]
def val (r : Nat) : Nat := if r < 8388608 then r else (8388608 + r % 8388608) * 2 ^ (r / 8388608 - 1)
theorem jqY (r : Nat) (h : 8388608 ≤ r) : 2 ^ (22 + r / 8388608) ≤ val r := by
 unfold val; rw [if_neg (by omega)]
 have e : 22 + r / 8388608 = 23 + (r / 8388608 - 1) := by omega
 rw [e, Nat.pow_add]
 exact Nat.mul_le_mul_right _ (by omega)
theorem jqZ (r : Nat) : val r < 2 ^ (23 + r / 8388608) := by
 unfold val
 by_cases h : r < 8388608
 ·rw [if_pos h, show r / 8388608 = 0 from by omega]; omega
 ·rw [if_neg h]
  have e : 23 + r / 8388608 = 24 + (r / 8388608 - 1) := by omega
  rw [e, Nat.pow_add]
  exact Nat.mul_lt_mul_of_pos_right (by have := Nat.mod_lt r (show 0 < 8388608 by decide); omega) (Nat.two_pow_pos _)
theorem jpa (r s : Nat) (h : r < s) : val r < val s := by
 by_cases he : r / 8388608 = s / 8388608
 ·unfold val
  by_cases h1 : s < 8388608
  ·rw [if_pos (by omega), if_pos h1]; exact h
  ·rw [if_neg (by omega), if_neg h1, he]
   exact Nat.mul_lt_mul_of_pos_right (by omega) (Nat.two_pow_pos _)
 ·have hlt : r / 8388608 < s / 8388608 := by omega
  have h1 := jqZ r
  have h2 := jqY s (by omega)
  have h3 : 2 ^ (23 + r / 8388608) ≤ 2 ^ (22 + s / 8388608) := Nat.pow_le_pow_right (by decide) (by omega)
  omega
theorem jlm (r s : Nat) (h : val r = val s) : r = s := by
 rcases Nat.lt_trichotomy r s with h1 | h1 | h1
 ·have := jpa r s h1; omega
 ·exact h1
 ·have := jpa s r h1; omega
theorem jgv (s : Bool) (r : Nat) (h : r < 2139095040) : ∃ (m : Nat) (d : Nat), rdm s r = .number s m (-149 + (d : Int)) ∧ val r = m * 2 ^ d := by
 unfold rdm val
 by_cases h1 : r < 8388608
 ·rw [if_pos h1, if_pos h1]; exact ⟨r, 0, by simp, by simp⟩
 ·rw [if_neg h1, if_neg h1, if_pos h]; exact ⟨_, r / 8388608 - 1, rfl, rfl⟩
theorem jq0 (m n d e : Nat) (b : Int) (hb : b = min (-149 + (d : Int)) (-149 + (e : Int))) :
    ∃ k : Nat, m * 2 ^ d = (m <<< (-149 + (d : Int) - b).toNat) * 2 ^ k ∧ n * 2 ^ e = (n <<< (-149 + (e : Int) - b).toNat) * 2 ^ k := by
     refine ⟨(b + 149).toNat, ?_, ?_⟩
     ·rw [Nat.shiftLeft_eq, Nat.mul_assoc, ← Nat.pow_add]; congr 2; omega
     ·rw [Nat.shiftLeft_eq, Nat.mul_assoc, ← Nat.pow_add]; congr 2; omega
theorem jjS (s : Bool) (r t : Nat) (hr : r < 2139095040) (ht : t < 2139095040) : (rdm s r).order (rdm s t) = some (if s then compare (val t : Int) (val r) else compare (val r : Int) (val t)) := by
 obtain ⟨m, d, e1, v1⟩ := jgv s r hr
 obtain ⟨n, e, e2, v2⟩ := jgv s t ht
 rw [e1, e2, v1, v2]
 simp only [Ieee.Datum.order, Option.some.injEq, Ieee.signed]
 obtain ⟨k, h1, h2⟩ := jq0 m n d e _ rfl
 rw [h1, h2]
 generalize m <<< (-149 + (d : Int) - min (-149 + (d : Int)) (-149 + (e : Int))).toNat = a
 generalize n <<< (-149 + (e : Int) - min (-149 + (d : Int)) (-149 + (e : Int))).toNat = b
 have pk : 0 < 2 ^ k := Nat.two_pow_pos k
 have key : ∀ a b : Nat, compare (a : Int) b = compare ((a * 2 ^ k : Nat) : Int) ((b * 2 ^ k : Nat) : Int) := by
  intro a b
  rcases Nat.lt_trichotomy a b with h | h | h
  ·have := Nat.mul_lt_mul_of_pos_right h pk
   rw [jeR (by omega), jeR (by omega)]
  ·subst h; rw [jfK rfl, jfK rfl]
  ·have := Nat.mul_lt_mul_of_pos_right h pk
   rw [jeS (by omega), jeS (by omega)]
 cases s with
 | false => exact key a b
 | true =>
  have : compare (-(a : Int)) (-(b : Int)) = compare (b : Int) a := by
   rcases Int.lt_trichotomy (a : Int) b with h | h | h
   ·rw [jeS (by omega), jeS (by omega)]
   ·rw [jfK (by omega), jfK (by omega)]
   ·rw [jeR (by omega), jeR (by omega)]
  simp only [if_true]
  rw [this]; exact key b a
theorem jgw (s : Bool) (r t : Nat) (hr : r ≤ 2139095040) (ht : t ≤ 2139095040) (h : (rdm s r).order (rdm s t) = some .eq) : r = t := by
 have inf : ∀ s : Bool, rdm s 2139095040 = .infinity s := fun s => by simp [rdm]
 have key : ∀ p q : Int, compare p q = .eq → p = q := by
  intro p q hpq
  rcases Int.lt_trichotomy p q with h | h | h
  ·rw [jeR h] at hpq; cases hpq
  ·exact h
  ·rw [jeS h] at hpq; cases hpq
 by_cases h1 : r = 2139095040
 ·by_cases h2 : t = 2139095040
  ·omega
  ·obtain ⟨n, e, e2, _⟩ := jgv s t (by omega)
   rw [h1, inf, e2] at h
   cases s <;> simp [Ieee.Datum.order] at h
 ·by_cases h2 : t = 2139095040
  ·obtain ⟨n, e, e2, _⟩ := jgv s r (by omega)
   rw [h2, inf, e2] at h
   cases s <;> simp [Ieee.Datum.order] at h
  ·rw [jjS s r t (by omega) (by omega)] at h
   simp only [Option.some.injEq] at h
   cases s
   ·exact jlm _ _ (by have := key _ _ h; omega)
   ·exact (jlm _ _ (by have := key _ _ h; omega)).symm
theorem jln (x y : Int) (hx : chk 1 x = true) (hy : chk 1 y = true) (h : ord (fb x) (fb y) = some .eq) (hs : decide (2147483648 ≤ fb x) = decide (2147483648 ≤ fb y)) : x = y := by
 have hlx := jcS x
 have hly := jcS y
 have fx := jpS x hx
 have fy := jpS y hy
 have hnn : ¬ (x = 2143289344 ∨ y = 2143289344) := by
  intro hh; rw [(jn1 x y hx hy).2 hh] at h; cases h
 have nx : fb x % 2147483648 ≤ 2139095040 := by
  have := jgt x hx
  rw [jde _ hlx] at this
  simp at this; omega
 have ny : fb y % 2147483648 ≤ 2139095040 := by
  have := jgt y hy
  rw [jde _ hly] at this
  simp at this; omega
 unfold ord Ieee.Format.order at h
 rw [jif _ hlx, jif _ hly, hs] at h
 have := jgw _ _ _ nx ny h
 simp at hs
 omega
theorem jjc (x : Int) : (FloatKind.f32.decode (fb x)).neg = decide (2147483648 ≤ fb x) := by
 show (FloatKind.f32.format.read (fb x)).neg = _
 rw [jif _ (jcS x), jn2]
theorem jlo (x y : Int) (hx : chk 1 x = true) (hy : chk 1 y = true) : maxF (fb x) (fb y) = maxF (fb y) (fb x) := by
 unfold maxF
 rw [jgu (fb x) (fb y)]
 cases h : ord (fb x) (fb y) with
 | none => rfl
 | some c =>
  cases c with
  | lt => rfl
  | gt => rfl
  | eq =>
   simp only [Option.map, Ordering.swap, jjc]
   by_cases hs : decide (2147483648 ≤ fb x) = decide (2147483648 ≤ fb y)
   ·have := jln x y hx hy h hs
    subst this; rfl
   ·cases h1 : decide (2147483648 ≤ fb x) <;> cases h2 : decide (2147483648 ≤ fb y) <;> simp_all
theorem jlp (x y : Int) (hx : chk 1 x = true) (hy : chk 1 y = true) : minF (fb x) (fb y) = minF (fb y) (fb x) := by
 unfold minF
 rw [jgu (fb x) (fb y)]
 cases h : ord (fb x) (fb y) with
 | none => rfl
 | some c =>
  cases c with
  | lt => rfl
  | gt => rfl
  | eq =>
   simp only [Option.map, Ordering.swap, jjc]
   by_cases hs : decide (2147483648 ≤ fb x) = decide (2147483648 ≤ fb y)
   ·have := jln x y hx hy h hs
    subst this; rfl
   ·cases h1 : decide (2147483648 ≤ fb x) <;> cases h2 : decide (2147483648 ≤ fb y) <;> simp_all
theorem turns_all (k : Nat) (t x y : Int) (hk : k = 0 ∨ k = 2 ∨ k = 4 ∨ k = 5 ∨ k = 6 ∨ k = 7 ∨ k = 8 ∨ k = 9) : bin k t y x = bin k t x y := by
 cases hx : chk t x with
 | false => simp [bin, hx]
 | true =>
  cases hy : chk t y with
  | false => simp [bin, hy]
  | true =>
   by_cases h1 : t = 1
   ·subst h1
    have e : ∀ a b : Int, chk 1 a = true → chk 1 b = true → bin k 1 a b = binFl k (fb a) (fb b) := fun a b ha hb => by simp [bin, ha, hb]
    rw [e _ _ hy hx, e _ _ hx hy]
    rcases hk with rfl | rfl | rfl | rfl | rfl | rfl | rfl | rfl
    ·simp only [binFl]; congr 2
     show ((FloatKind.f32.format.read (fb y)).sum (FloatKind.f32.format.read (fb x))).map _ = ((FloatKind.f32.format.read (fb x)).sum (FloatKind.f32.format.read (fb y))).map _
     rw [jn4]
    ·simp only [binFl]; congr 2
     show ((FloatKind.f32.format.read (fb y)).product (FloatKind.f32.format.read (fb x))).map _ = ((FloatKind.f32.format.read (fb x)).product (FloatKind.f32.format.read (fb y))).map _
     rw [jhd]
    ·simp only [binFl]; rw [jlo y x hy hx]
    ·simp only [binFl]; rw [jlp y x hy hx]
    ·rfl
    ·rfl
    ·rfl
    ·simp only [binFl]
     rw [jgu (fb x) (fb y)]
     cases ord (fb x) (fb y) with
     | none => rfl
     | some c => cases c <;> rfl
   ·by_cases h9 : t = 9
    ·subst h9
     have e : ∀ a b : Int, chk 9 a = true → chk 9 b = true → bin k 9 a b = binBo k a b := fun a b ha hb => by simp [bin, ha, hb]
     rw [e _ _ hy hx, e _ _ hx hy]
     have hm : y * x = x * y := Int.mul_comm y x
     have hb : (y == x) = (x == y) := by rw [Bool.eq_iff_iff]; simp; exact eq_comm
     rcases hk with rfl | rfl | rfl | rfl | rfl | rfl | rfl | rfl <;> simp only [binBo, hm, hb, Int.add_comm y x]
    ·have e : ∀ a b : Int, chk t a = true → chk t b = true → bin k t a b = binIn k t a b := fun a b ha hb => by simp [bin, ha, hb, h1, h9]
     rw [e _ _ hy hx, e _ _ hx hy]
     have hb : (y == x) = (x == y) := by rw [Bool.eq_iff_iff]; simp; exact eq_comm
     have hM : maxI y x = maxI x y := by unfold maxI; split <;> split <;> omega
     have hN : minI y x = minI x y := by unfold minI; split <;> split <;> omega
     rcases hk with rfl | rfl | rfl | rfl | rfl | rfl | rfl | rfl <;> simp only [binIn, hb, hM, hN, Int.add_comm y x, Int.mul_comm y x]
end Go.Proofs.YteigfipgmghgmaaGreatDoor.Nu
