/- Plain facts on casts from floats: how a float of 32 bits stands to the ends of the whole numbers, and its whole part. Nothing here names the program. -/
import Derived.Test.YteigfipgmghgmaaGreatDoorNuPlainT
namespace Go.Proofs.YteigfipgmghgmaaGreatDoor.Nu
open Go.RowKit

/-- A float of 32 bits as one of 64. -/
def cv (b : Nat) : Nat := FloatKind.f64.encode (FloatKind.f32.decode b)

theorem f32_digits (b m d : Nat) (e1 : rdm (decide (2147483648 ≤ b)) (b % 2147483648) = .number (decide (2147483648 ≤ b)) m (-149 + (d : Int))) : m < 16777216 ∧ d ≤ 254 := by
  unfold rdm at e1
  split at e1
  · injection e1 with _ h2 h3; omega
  · split at e1
    · injection e1 with _ h2 h3; omega
    · split at e1 <;> cases e1

/-- A finite word of 32 bits: its number, in 64 bits. -/
theorem cv_fin (b : Nat) (hb : b < 4294967296) (h : b % 2147483648 < 2139095040) :
    ∃ (m : Nat) (i : Int), FloatKind.f64.format.read (cv b) = .number (decide (2147483648 ≤ b)) m i ∧ (m = 0 ∧ b % 2147483648 = 0 ∨ -250 ≤ i ∧ size64 m i = val (b % 2147483648) * 2 ^ 101) ∧ floatToFloatBits .f32 b .f64 = some (cv b) := by
  have hd : FloatKind.f32.decode b = rdm (decide (2147483648 ≤ b)) (b % 2147483648) := read_eq b hb
  obtain ⟨m, d, e1, v1⟩ := rdm_num (decide (2147483648 ≤ b)) (b % 2147483648) h
  by_cases h0 : m = 0
  · have hv : val (b % 2147483648) = val 0 := by rw [v1, h0, Nat.zero_mul]; rfl
    have hr := val_inj _ _ hv
    subst h0
    have ec : cv b = Ieee.double.word (decide (2147483648 ≤ b)) 0 := by
      unfold cv; rw [hd, e1]; rfl
    have er : FloatKind.f64.format.read (cv b) = .number (decide (2147483648 ≤ b)) 0 (-1074) := by
      rw [ec]; cases decide (2147483648 ≤ b) <;> decide +kernel
    refine ⟨0, -1074, er, .inl ⟨rfl, hr⟩, ?_⟩
    unfold floatToFloatBits
    rw [if_neg (by decide), hd, e1]
    have ew : FloatKind.f64.encode (.number (decide (2147483648 ≤ b)) 0 (-149 + (d : Int))) = cv b := by unfold cv; rw [hd, e1]
    simp only [ew]
    have er' : FloatKind.f64.decode (cv b) = .number (decide (2147483648 ≤ b)) 0 (-1074) := er
    rw [er']; rfl
  · obtain ⟨hm, hdd⟩ := f32_digits b m d e1
    obtain ⟨r, w1, w2, w3⟩ := write64 (decide (2147483648 ≤ b)) m (-149 + (d : Int)) h0 (by omega) (by omega) (by omega)
    have ec : cv b = Ieee.double.word (decide (2147483648 ≤ b)) r := by
      unfold cv; rw [hd, e1]; exact w1
    have er : FloatKind.f64.format.read (cv b) = .number (decide (2147483648 ≤ b)) (m * 2 ^ (52 - m.log2)) (-149 + (d : Int) - (52 - m.log2 : Nat)) := by
      rw [ec]; exact w3
    refine ⟨_, _, er, .inr ⟨by omega, ?_⟩, ?_⟩
    · rw [v1]; unfold size64
      rw [Nat.mul_assoc, Nat.mul_assoc, ← Nat.pow_add, ← Nat.pow_add]
      have : 52 - m.log2 + (-149 + (d : Int) - (52 - m.log2 : Nat) + 250).toNat = d + 101 := by omega
      rw [this]
    · unfold floatToFloatBits
      rw [if_neg (by decide), hd, e1]
      have ew : FloatKind.f64.encode (.number (decide (2147483648 ≤ b)) m (-149 + (d : Int))) = cv b := by unfold cv; rw [hd, e1]
      simp only [ew]
      have er' : FloatKind.f64.decode (cv b) = .number (decide (2147483648 ≤ b)) (m * 2 ^ (52 - m.log2)) (-149 + (d : Int) - (52 - m.log2 : Nat)) := er
      rw [er']; rfl
end Go.Proofs.YteigfipgmghgmaaGreatDoor.Nu
