/- Exp's steps in 64 bits: where a float of 32 bits begins them, and the sum that they make. Nothing here names the program. -/
import Derived.Test.YteigfipgmghgmaaGreatDoorNuPlainE
import Derived.Test.YteigfipgmghgmaaGreatDoorNuPlainV
namespace Go.Proofs.YteigfipgmghgmaaGreatDoor.Nu
open Go.RowKit Mo

/-- A finite float of 32 bits, as a word of 64. -/
theorem cv_word (b : Nat) (hb : b < 4294967296) (h : b % 2147483648 < 2139095040) : ∃ ry, cv b = Ieee.double.word (decide (2147483648 ≤ b)) ry ∧ ry ≤ 5188146770730811392 ∧ v64 ry = val (b % 2147483648) * pw 925 ∧ floatToFloatBits .f32 b .f64 = some (cv b) := by
  obtain ⟨-, -, -, -, hfl⟩ := cv_fin b hb h
  have hd : FloatKind.f32.decode b = rdm (decide (2147483648 ≤ b)) (b % 2147483648) := read_eq b hb
  obtain ⟨m, d, e1, v1⟩ := rdm_num (decide (2147483648 ≤ b)) (b % 2147483648) h
  obtain ⟨hm, hdd⟩ := f32_digits b m d e1
  obtain ⟨c, hc⟩ : ∃ c : Nat, c = 925 := ⟨_, rfl⟩
  obtain ⟨ry, hry⟩ := rung_of m (d + c) (by omega)
  have hv : v64 ry = val (b % 2147483648) * pw c := by rw [hry, v1, pw_eq, pw_eq, Nat.pow_add, Nat.mul_assoc]
  have hx : m * 2 ^ (-149 + (d : Int) + ((1074 : Nat) : Int)).toNat = v64 ry * pw 0 := by
    rw [hry, show (-149 + (d : Int) + ((1074 : Nat) : Int)).toNat = d + c from by omega]
    show _ = m * pw (d + c) * 1
    rw [Nat.mul_one, pw_eq]
  have hn : rg m (-149 + (d : Int)) = ry := eq_rung (near_le _ _ ry 1074 0 rfl (by omega) (by omega) (Nat.le_of_eq hx)) (near_ge _ _ ry 1074 0 rfl (by omega) (by omega) (Nat.le_of_eq hx.symm))
  have hlt : ry ≤ 5188146770730811392 := le_of_v64 (by
    rw [hry, show v64 5188146770730811392 = 16777216 * pw 1179 from by decide +kernel]
    exact Nat.mul_le_mul (by omega) (le_pw (by omega)))
  refine ⟨ry, ?_, hlt, by rw [hv, hc], hfl⟩
  unfold cv
  rw [hd, e1]
  show Ieee.double.nearest _ _ _ = _
  rw [near_rg, hn, Nat.min_eq_left (by omega)]
end Go.Proofs.YteigfipgmghgmaaGreatDoor.Nu
