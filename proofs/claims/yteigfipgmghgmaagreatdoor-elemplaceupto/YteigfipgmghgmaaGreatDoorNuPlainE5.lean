/- The square root of a float of 32 bits, by 64 bits: it is never too great for 32 bits. Nothing here names the program. -/
import Derived.Test.YteigfipgmghgmaaGreatDoorNuPlainE4
namespace Go.Proofs.YteigfipgmghgmaaGreatDoor.Nu
open Go.RowKit Mo

theorem root_sq (n : Nat) : ∀ todo root : Nat, root * root ≤ n → Ieee.Datum.rootFrom n todo root * Ieee.Datum.rootFrom n todo root ≤ n
  | 0, root, h => h
  | todo + 1, root, h => by
    unfold Ieee.Datum.rootFrom
    simp only
    split
    · rename_i h'; exact root_sq n todo _ h'
    · exact root_sq n todo root h

theorem sqrt_fin (m : Nat) (p : Int) (hp : -1074 ≤ p) (hp2 : p ≤ 971) (hm : m < 9007199254740992) (h0 : m ≠ 0) (hv : m * 2 ^ (p + 1074).toNat ≤ pw 1203) (r : Nat) (hr : ((Ieee.Datum.number false m p).root 54).map Ieee.double.write = some r) : r < 5183643170835005440 := by
  have hml : m.log2 ≤ 52 := by have := (Nat.log2_lt h0 (k := 53)).2 (by simpa using hm); omega
  obtain ⟨l1, l2⟩ : 2 ^ m.log2 ≤ m ∧ m < 2 ^ (m.log2 + 1) := ⟨Nat.log2_self_le h0, Nat.lt_log2_self⟩
  have hpl : p + m.log2 ≤ 129 := by
    apply Decidable.byContradiction
    intro hc
    have h1 : 2 ^ m.log2 * 2 ^ (p + 1074).toNat ≤ pw 1203 := Nat.le_trans (Nat.mul_le_mul_right _ l1) hv
    rw [← Nat.pow_add] at h1
    obtain ⟨c, hc1⟩ : ∃ c : Nat, c = 1203 := ⟨_, rfl⟩
    have h2 := Nat.pow_lt_pow_right (a := 2) (by decide) (show c < m.log2 + (p + 1074).toNat by omega)
    rw [← hc1, pw_eq] at h1
    omega
  unfold Ieee.Datum.root at hr
  simp only [h0, if_false, Bool.false_eq_true] at hr
  generalize hmo : 2 * 54 - m.log2 + ((p - ((2 * 54 - m.log2 : Nat) : Int)) % 2).toNat = more at hr
  have hm1 : more ≤ 109 := by omega
  have hm2 : 108 ≤ more + m.log2 := by omega
  have hm3 : more + m.log2 ≤ 109 := by omega
  have hsq := root_sq (m <<< more) ((m <<< more).log2 / 2 + 1) 0 (by simp)
  generalize hw : Ieee.Datum.rootFrom (m <<< more) ((m <<< more).log2 / 2 + 1) 0 = W at hr hsq
  have hW : W < 2 ^ 56 := by
    apply Decidable.byContradiction
    intro hc
    have h1 : 2 ^ 56 * 2 ^ 56 ≤ W * W := Nat.mul_le_mul (by omega) (by omega)
    have h2 : m <<< more < 2 ^ (m.log2 + 1 + more) := by rw [Nat.shiftLeft_eq, Nat.pow_add]; exact Nat.mul_lt_mul_of_pos_right l2 (Nat.two_pow_pos _)
    have h3 : 2 ^ (m.log2 + 1 + more) ≤ 2 ^ 112 := Nat.pow_le_pow_right (by decide) (by omega)
    have h4 : (2 : Nat) ^ 56 * 2 ^ 56 = 2 ^ 112 := by decide
    omega
  simp only [Option.map_some, Option.some.injEq] at hr
  have hr' : Ieee.double.nearest false (2 * W + (W * W != m <<< more).toNat) ((p - more) / 2 - 1) = r := hr
  rw [near_rg, show Ieee.double.word false (min (rg (2 * W + (W * W != m <<< more).toNat) ((p - more) / 2 - 1)) 9218868437227405312) = min (rg (2 * W + (W * W != m <<< more).toNat) ((p - more) / 2 - 1)) 9218868437227405312 from rfl] at hr'
  have hc : v64 5057542381537067008 = pw 1174 := by decide +kernel
  have hle : rg (2 * W + (W * W != m <<< more).toNat) ((p - more) / 2 - 1) ≤ 5057542381537067008 := by
    obtain ⟨b, hb⟩ : ∃ b : Nat, b = 2000 := ⟨_, rfl⟩
    refine near_le _ _ _ b (b - 1074) rfl (by omega) (by omega) ?_
    have hM : 2 * W + (W * W != m <<< more).toNat ≤ 2 ^ 57 := by have := Bool.toNat_le (W * W != m <<< more); omega
    refine Nat.le_trans (Nat.mul_le_mul_right _ hM) ?_
    obtain ⟨c, hcc⟩ : ∃ c : Nat, c = 1174 := ⟨_, rfl⟩
    rw [hc, ← hcc, pw_eq, pw_eq, ← Nat.pow_add, ← Nat.pow_add]
    exact Nat.pow_le_pow_right (by decide) (by omega)
  omega

/-- The square root of a float of 32 bits, if there is one, is a float of 32 bits. -/
theorem sq_some (b : Nat) (hb : b < 4294967296) (x r : Nat) (hx : floatToFloatBits .f32 b .f64 = some x) (hr : Ieee.double.sqrt x = some r) : ∃ r32, floatToFloatBits .f64 r .f32 = some r32 := by
  have hd : FloatKind.f32.decode b = rdm (decide (2147483648 ≤ b)) (b % 2147483648) := read_eq b hb
  by_cases h1 : b % 2147483648 < 2139095040
  · obtain ⟨ry, e1, e2, e3, e4⟩ := cv_word b hb h1
    rw [hx] at e4
    simp only [Option.some.injEq] at e4
    obtain ⟨m, p, f1, f2, f3, f4, f5⟩ := read_word (decide (2147483648 ≤ b)) ry (by omega)
    have hrd : Ieee.double.read x = .number (decide (2147483648 ≤ b)) m p := by rw [e4, e1, f1]
    unfold Ieee.Format.sqrt at hr
    rw [hrd] at hr
    by_cases h0 : m = 0
    · subst h0
      have hr2 : some (Ieee.double.nearest (decide (2147483648 ≤ b)) 0 p) = some r := hr
      rw [near_nil] at hr2
      simp only [Option.some.injEq] at hr2
      rw [← hr2]
      unfold floatToFloatBits
      rw [if_neg (by decide), read64_nil]
      simp only
      have ew : FloatKind.f32.encode (.number (decide (2147483648 ≤ b)) 0 (-1074)) = Ieee.single.word (decide (2147483648 ≤ b)) 0 := near_nil Ieee.single _ (-1074)
      rw [ew, read32_nil]
      exact ⟨_, rfl⟩
    · cases hs : decide (2147483648 ≤ b) with
      | true =>
        rw [hs] at hr
        unfold Ieee.Datum.root at hr
        simp [h0] at hr
      | false =>
        rw [hs] at hr
        have hv : m * 2 ^ (p + 1074).toNat ≤ pw 1203 := by
          rw [f5, ← show v64 5188146770730811392 = pw 1203 from by decide +kernel]
          exact v64_le e2
        exact ⟨_, (down_fin r (sqrt_fin m p f2 f3 f4 h0 hv r hr)).1⟩
  · by_cases h2 : b % 2147483648 = 2139095040
    · obtain ⟨s, g1, g2⟩ := inf_dec b hb h2
      unfold floatToFloatBits at hx
      rw [if_neg (by decide), g1] at hx
      simp only [Option.some.injEq] at hx
      have hrd : Ieee.double.read x = .infinity s := by rw [← hx]; exact inf64 s
      unfold Ieee.Format.sqrt at hr
      rw [hrd] at hr
      unfold Ieee.Datum.root at hr
      cases s with
      | true => simp at hr
      | false =>
        simp only [Bool.false_eq_true, if_false, Option.map_some, Option.some.injEq] at hr
        rw [← hr]
        unfold floatToFloatBits
        rw [if_neg (by decide), show FloatKind.f64.decode (Ieee.double.write (.infinity false)) = .infinity false from inf64 false]
        exact ⟨_, rfl⟩
    · exfalso
      unfold floatToFloatBits at hx
      rw [if_neg (by decide)] at hx
      have hn : (FloatKind.f32.decode b).isNaN = true := by
        have := read32_nan b hb
        rw [show FloatKind.f32.decode b = FloatKind.f32.format.read b from rfl, this, decide_eq_true (by omega)]
      cases hc : FloatKind.f32.decode b with
      | nan s t => rw [hc] at hx; cases hx
      | number s m p => rw [hc] at hn; cases hn
      | infinity s => rw [hc] at hn; cases hn
end Go.Proofs.YteigfipgmghgmaaGreatDoor.Nu
