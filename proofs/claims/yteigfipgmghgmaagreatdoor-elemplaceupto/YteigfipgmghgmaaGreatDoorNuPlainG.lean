/- What package num's operators give, as plain functions of numbers. Nothing here names the program. -/
import Derived.Test.YteigfipgmghgmaaGreatDoorNuPlainF
namespace Go.Proofs.YteigfipgmghgmaaGreatDoor.Nu
open Go.RowKit

def b2i (b : Bool) : Int := if b then 1 else 0

def ord (x y : Nat) : Option Ordering := FloatKind.f32.format.order x y

/-- The greater one, the less one, of two floats. -/
def maxF (x y : Nat) : Int :=
  match ord x y with
  | none => 2143289344
  | some .lt => tob y
  | some .gt => tob x
  | some .eq => if (FloatKind.f32.decode x).neg then tob y else tob x
def minF (x y : Nat) : Int :=
  match ord x y with
  | none => 2143289344
  | some .lt => tob x
  | some .gt => tob y
  | some .eq => if (FloatKind.f32.decode x).neg then tob x else tob y

/-- Operators of two, by their numbers: Add 0, Sub 1, Mul 2, Div 3, Max 4, Min 5, And 6, Or 7, Xor 8, Equal 9, Less 10, Greater 11. -/
def binFl (k : Nat) (x y : Nat) : Int × Int :=
  match k with
  | 0 => (tobO (floatBits .add .f32 x y), 0)
  | 1 => (tobO (floatBits .sub .f32 x y), 0)
  | 2 => (tobO (floatBits .mul .f32 x y), 0)
  | 3 => (tobO (floatBits .quo .f32 x y), 0)
  | 4 => (maxF x y, 0)
  | 5 => (minF x y, 0)
  | 9 => (b2i (ord x y == some .eq), 0)
  | 10 => (b2i (ord x y == some .lt), 0)
  | 11 => (b2i (ord x y == some .gt), 0)
  | _ => (0, 1)

def wrapT (t n : Int) : Int := if t = 6 then wrap64 (wrap32 n) else n

def maxI (x y : Int) : Int := if y > x then y else x
def minI (x y : Int) : Int := if y < x then y else x

def binIn (k : Nat) (t x y : Int) : Int × Int :=
  match k with
  | 0 => (wrapT t (wrap64 (x + y)), 0)
  | 1 => (wrapT t (wrap64 (x - y)), 0)
  | 2 => (wrapT t (wrap64 (x * y)), 0)
  | 3 => if y = 0 then (0, 7) else (wrapT t (wrap64 (x.tdiv y)), 0)
  | 4 => (wrapT t (maxI x y), 0)
  | 5 => (wrapT t (minI x y), 0)
  | 9 => (b2i (x == y), 0)
  | 10 => (b2i (decide (x < y)), 0)
  | 11 => (b2i (decide (y < x)), 0)
  | _ => (0, 1)

def binBo (k : Nat) (x y : Int) : Int × Int :=
  match k with
  | 6 => (x * y, 0)
  | 7 => (x + y - x * y, 0)
  | 8 => (x + y - 2 * (x * y), 0)
  | 9 => (b2i (x == y), 0)
  | _ => (0, 1)

def bin (k : Nat) (t x y : Int) : Int × Int :=
  if (chk t x && chk t y) = true then (if t = 1 then binFl k (fb x) (fb y) else if t = 9 then binBo k x y else binIn k t x y) else (0, 1)

section
variable {P : Program} (w : World) (ts : Array TypeId) (t : TypeId) (x y : Nat)
theorem run_maxF_none (h : ord x y = none) : (Builtin.max_ ts t #[.float .f32 x, .float .f32 y]).run P w = .ok (.float .f32 (nb x y (w.tape w.drawn (.nanMinMax .f32 true x y)))) w.drew := by
  unfold ord at h; simp [Builtin.max_, Builtin.max2, h, nb, Question.forced, Question.cut]
theorem run_minF_none (h : ord x y = none) : (Builtin.min_ ts t #[.float .f32 x, .float .f32 y]).run P w = .ok (.float .f32 (nb x y (w.tape w.drawn (.nanMinMax .f32 false x y)))) w.drew := by
  unfold ord at h; simp [Builtin.min_, Builtin.min2, h, nb, Question.forced, Question.cut]
theorem run_maxF_lt (h : ord x y = some .lt) : (Builtin.max_ ts t #[.float .f32 x, .float .f32 y]).run P w = .ok (.float .f32 y) w := by
  unfold ord at h; simp [Builtin.max_, Builtin.max2, h]
theorem run_minF_lt (h : ord x y = some .lt) : (Builtin.min_ ts t #[.float .f32 x, .float .f32 y]).run P w = .ok (.float .f32 x) w := by
  unfold ord at h; simp [Builtin.min_, Builtin.min2, h]
theorem run_maxF_gt (h : ord x y = some .gt) : (Builtin.max_ ts t #[.float .f32 x, .float .f32 y]).run P w = .ok (.float .f32 x) w := by
  unfold ord at h; simp [Builtin.max_, Builtin.max2, h]
theorem run_minF_gt (h : ord x y = some .gt) : (Builtin.min_ ts t #[.float .f32 x, .float .f32 y]).run P w = .ok (.float .f32 y) w := by
  unfold ord at h; simp [Builtin.min_, Builtin.min2, h]
theorem run_maxF_eq (h : ord x y = some .eq) : (Builtin.max_ ts t #[.float .f32 x, .float .f32 y]).run P w = .ok (.float .f32 (if (FloatKind.f32.decode x).neg then y else x)) w := by
  unfold ord at h; simp [Builtin.max_, Builtin.max2, h]
theorem run_minF_eq (h : ord x y = some .eq) : (Builtin.min_ ts t #[.float .f32 x, .float .f32 y]).run P w = .ok (.float .f32 (if (FloatKind.f32.decode x).neg then x else y)) w := by
  unfold ord at h; simp [Builtin.min_, Builtin.min2, h]
end
end Go.Proofs.YteigfipgmghgmaaGreatDoor.Nu
