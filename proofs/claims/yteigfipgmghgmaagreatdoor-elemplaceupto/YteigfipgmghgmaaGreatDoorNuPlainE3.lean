/- What Exp makes of a float, as a function: the steps in 64 bits, and that each of them has an answer. Nothing here names the program. -/
import Derived.Test.YteigfipgmghgmaaGreatDoorNuPlainE2
import Derived.Test.YteigfipgmghgmaaGreatDoorNuPlainZ
namespace Go.Proofs.YteigfipgmghgmaaGreatDoor.Nu
open Go.RowKit Mo

theorem tests_bound (b : Nat) (hb : b < 4294967296) (hn : b % 2147483648 ≤ 2139095040) (h2 : (FloatKind.f32.format.order b 1118961664 == some .gt) = false) (h3 : (FloatKind.f32.format.order b 3268542464 == some .lt) = false) : b % 2147483648 ≤ 1121058816 := by
  have e1 : FloatKind.f32.format.read b = rdm (decide (2147483648 ≤ b)) (b % 2147483648) := read_eq b hb
  have c1 : FloatKind.f32.format.read 1118961664 = rdm false 1118961664 := read_eq 1118961664 (by decide)
  have c2 : FloatKind.f32.format.read 3268542464 = rdm true 1121058816 := read_eq 3268542464 (by decide)
  unfold Ieee.Format.order at h2 h3
  rw [e1] at h2 h3
  rw [c1] at h2
  rw [c2] at h3
  apply Decidable.byContradiction
  intro hc
  by_cases hs : 2147483648 ≤ b
  · rw [decide_eq_true hs] at h3
    by_cases hf : b % 2147483648 < 2139095040
    · rw [order_same true _ _ hf (by decide), if_pos rfl, cmp_lt (by exact_mod_cast val_lt _ _ (by omega))] at h3
      exact absurd h3 (by decide)
    · rw [show b % 2147483648 = 2139095040 from by omega] at h3
      exact absurd h3 (by decide +kernel)
  · rw [decide_eq_false hs] at h2
    by_cases hf : b % 2147483648 < 2139095040
    · rw [order_same false _ _ hf (by decide), if_neg (by decide), cmp_gt (by exact_mod_cast val_lt _ _ (by omega))] at h2
      exact absurd h2 (by decide)
    · rw [show b % 2147483648 = 2139095040 from by omega] at h2
      exact absurd h2 (by decide +kernel)

def oD (o : Option Nat) : Nat := o.getD 0
def z1D (y : Nat) : Nat := oD (Ieee.double.mul y 4609176140021203710)
def z2D (y : Nat) : Nat := oD (Ieee.double.add (z1D y) 4602678819172646912)
/-- The whole number by whose power of two the sum is multiplied. -/
def kD (y : Nat) : Nat := Ieee.double.write ((Ieee.double.read (z2D y)).integral .down)
def klD (y : Nat) : Nat := oD (Ieee.double.mul (kD y) 4604418534313441775)
def rD (y : Nat) : Nat := oD (Ieee.double.sub y (klD y))
def kI (y : Nat) : Int := match (Ieee.double.read (z2D y)).integral .down with
  | .number s M _ => if s then -(M : Int) else M
  | _ => 0
/-- The words of 13, 12 .. 1. -/
def dvD (n : Nat) : Nat := [4623507967449235456, 4622945017495814144, 4622382067542392832, 4621819117588971520, 4621256167635550208, 4620693217682128896, 4619567317775286272, 4618441417868443648, 4617315517961601024, 4616189618054758400, 4613937818241073152, 4611686018427387904, 4607182418800017408].getD n 4607182418800017408
def aD (r p : Nat) : Nat := oD (Ieee.double.mul p r)
def bD (r p n : Nat) : Nat := oD (Ieee.double.div (aD r p) (dvD n))
/-- The sum, once n terms are there. -/
def pD (r : Nat) : Nat → Nat
  | 0 => 4607182418800017408
  | n + 1 => oD (Ieee.double.add 4607182418800017408 (bD r (pD r n) n))

theorem oD_some {o : Option Nat} {x : Nat} (h : o = some x) : o = some (oD o) := by rw [h]; rfl

theorem dv_ok (n : Nat) : dvD n < 9218868437227405312 ∧ pw 1074 ≤ v64 (dvD n) := by
  by_cases h : n < 13
  · have : ∀ n : Fin 13, dvD n.1 < 9218868437227405312 ∧ pw 1074 ≤ v64 (dvD n.1) := by decide +kernel
    exact this ⟨n, h⟩
  · unfold dvD
    rw [List.getD_eq_getElem?_getD, List.getElem?_eq_none (by simp; omega)]
    decide +kernel

/-- The sum's steps: each has an answer, and the sum stays small. -/
theorem sum_steps (sr : Bool) (rr : Nat) (h3 : rr ≤ 4600427019358961664) : ∀ n, (∃ rp, pD (Ieee.double.word sr rr) n = Ieee.double.word false rp ∧ 4600427019358961664 ≤ rp ∧ rp ≤ 4609997168567123968) ∧
    Ieee.double.mul (pD (Ieee.double.word sr rr) n) (Ieee.double.word sr rr) = some (aD (Ieee.double.word sr rr) (pD (Ieee.double.word sr rr) n)) ∧
    Ieee.double.div (aD (Ieee.double.word sr rr) (pD (Ieee.double.word sr rr) n)) (dvD n) = some (bD (Ieee.double.word sr rr) (pD (Ieee.double.word sr rr) n) n) ∧
    Ieee.double.add 4607182418800017408 (bD (Ieee.double.word sr rr) (pD (Ieee.double.word sr rr) n) n) = some (pD (Ieee.double.word sr rr) (n + 1)) := by
  have step : ∀ n rp, pD (Ieee.double.word sr rr) n = Ieee.double.word false rp → 4600427019358961664 ≤ rp → rp ≤ 4609997168567123968 →
      Ieee.double.mul (pD (Ieee.double.word sr rr) n) (Ieee.double.word sr rr) = some (aD (Ieee.double.word sr rr) (pD (Ieee.double.word sr rr) n)) ∧
      Ieee.double.div (aD (Ieee.double.word sr rr) (pD (Ieee.double.word sr rr) n)) (dvD n) = some (bD (Ieee.double.word sr rr) (pD (Ieee.double.word sr rr) n) n) ∧
      ∃ c, Ieee.double.add 4607182418800017408 (bD (Ieee.double.word sr rr) (pD (Ieee.double.word sr rr) n) n) = some (Ieee.double.word false c) ∧ 4600427019358961664 ≤ c ∧ c ≤ 4609997168567123968 := by
    intro n rp e h1 h2
    obtain ⟨q1, q2⟩ := dv_ok n
    obtain ⟨a, b, c, m1, m2, m3, c1, c2⟩ := horner rp h1 h2 sr rr h3 (dvD n) q1 q2
    rw [show Ieee.double.word false (dvD n) = dvD n from rfl] at m2
    have ea : aD (Ieee.double.word sr rr) (pD (Ieee.double.word sr rr) n) = a := by unfold aD; rw [e, m1]; rfl
    have eb : bD (Ieee.double.word sr rr) (pD (Ieee.double.word sr rr) n) n = b := by unfold bD; rw [ea, m2]; rfl
    rw [ea, eb, e]
    exact ⟨m1, m2, c, m3, c1, c2⟩
  intro n
  induction n with
  | zero =>
    obtain ⟨s1, s2, c, s3, c1, c2⟩ := step 0 4607182418800017408 rfl (by decide) (by decide)
    exact ⟨⟨_, rfl, by decide, by decide⟩, s1, s2, oD_some s3⟩
  | succ n ih =>
    obtain ⟨⟨rp, e, h1, h2⟩, -, -, -⟩ := ih
    obtain ⟨s1, s2, c, s3, c1, c2⟩ := step n rp e h1 h2
    have e' : pD (Ieee.double.word sr rr) (n + 1) = Ieee.double.word false c := by
      show oD _ = _
      rw [s3]; rfl
    obtain ⟨t1, t2, c', t3, _, _⟩ := step (n + 1) c e' c1 c2
    exact ⟨⟨c, e', c1, c2⟩, t1, t2, oD_some t3⟩

/-- All that is known of the steps. -/
structure ExpF (b : Nat) : Prop where
  up : floatToFloatBits .f32 b .f64 = some (cv b)
  z1 : floatBits .mul .f64 (cv b) 4609176140021203710 = some (z1D (cv b))
  z2 : floatBits .add .f64 (z1D (cv b)) 4602678819172646912 = some (z2D (cv b))
  k : ∀ k, FlS (z2D (cv b)) k → k = kD (cv b)
  kl : floatBits .mul .f64 (kD (cv b)) 4604418534313441775 = some (klD (cv b))
  r : floatBits .sub .f64 (cv b) (klD (cv b)) = some (rD (cv b))
  a : ∀ n, floatBits .mul .f64 (pD (rD (cv b)) n) (rD (cv b)) = some (aD (rD (cv b)) (pD (rD (cv b)) n))
  d : ∀ n, floatBits .quo .f64 (aD (rD (cv b)) (pD (rD (cv b)) n)) (dvD n) = some (bD (rD (cv b)) (pD (rD (cv b)) n) n)
  s : ∀ n, floatBits .add .f64 4607182418800017408 (bD (rD (cv b)) (pD (rD (cv b)) n) n) = some (pD (rD (cv b)) (n + 1))
  p : ∃ rp, pD (rD (cv b)) 13 = Ieee.double.word false rp ∧ 4600427019358961664 ≤ rp ∧ rp ≤ 4609997168567123968
  kw : ∃ (s : Bool) (M rk : Nat), kD (cv b) = Ieee.double.word s rk ∧ rk < 9218868437227405312 ∧ v64 rk = M * pw 1074 ∧ M ≤ 160 ∧ kI (cv b) = (if s then -(M : Int) else (M : Int)) ∧ (b % 2147483648 ≤ 1107296256 → M ≤ 60)

theorem exp_facts (b : Nat) (hb : b < 4294967296) (h : b % 2147483648 ≤ 1121058816) : ExpF b := by
  obtain ⟨ry, e1, e2', e3, e4⟩ := cv_word b hb (by omega)
  have e2 : ry < 9218868437227405312 := by omega
  have hv : ∀ r s : Nat, r ≤ s → val r ≤ val s := fun r s h => by
    rcases Nat.lt_or_eq_of_le h with h | h
    · exact Nat.le_of_lt (val_lt _ _ h)
    · rw [h]; exact Nat.le_refl _
  have hy : v64 ry ≤ 105 * pw 1074 := by
    rw [e3, show 105 * pw 1074 = val 1121058816 * pw 925 from by decide +kernel]
    exact Nat.mul_le_mul_right _ (hv _ _ h)
  have hy20 : b % 2147483648 ≤ 1107296256 → v64 ry ≤ 32 * pw 1074 := fun h => by
    rw [e3, show 32 * pw 1074 = val 1107296256 * pw 925 from by decide +kernel]
    exact Nat.mul_le_mul_right _ (hv _ _ h)
  obtain ⟨z1, z2, r2, s2, m1, m2, hz2, hr2, M, rk, kl, r, f1, f2, f3, f4, f5, f6, m3, m4, sr, rr, hr, hrr⟩ := exp_core (decide (2147483648 ≤ b)) ry e2 hy
  rw [← e1] at m1 m4
  have hz1 : z1D (cv b) = z1 := by unfold z1D; rw [m1]; rfl
  have hz2' : z2D (cv b) = z2 := by unfold z2D; rw [hz1, m2]; rfl
  have hk : kD (cv b) = Ieee.double.word s2 rk := by unfold kD; rw [hz2', f1]
  have hkl : klD (cv b) = kl := by unfold klD; rw [hk, m3]; rfl
  have hrD : rD (cv b) = Ieee.double.word sr rr := by unfold rD; rw [hkl, m4, hr]; rfl
  have st := sum_steps sr rr hrr
  rw [← hrD] at st
  obtain ⟨m, p, er, -⟩ := read_word s2 r2 hr2
  exact ⟨e4, by rw [hz1]; exact m1, by rw [hz1, hz2']; exact m2, fun k hk' => by
      unfold FlS at hk'
      rw [hz2'] at hk'
      have er' : FloatKind.f64.decode z2 = .number s2 m p := by rw [hz2]; exact er
      rw [er'] at hk'
      unfold kD
      rw [hz2', show Ieee.double.read z2 = .number s2 m p from er']
      exact hk', by rw [hk, hkl]; exact m3, by rw [hkl, hrD, ← hr]; exact m4, fun n => (st n).2.1, fun n => (st n).2.2.1, fun n => (st n).2.2.2, (st 13).1, ⟨s2, M, rk, hk, f5, f6, f3, by unfold kI; rw [hz2', f2], fun h => f4 (hy20 h)⟩⟩
end Go.Proofs.YteigfipgmghgmaaGreatDoor.Nu
