/- The walk of Ldexp: a number by a power of two. -/
import Derived.Test.YteigfipgmghgmaaGreatDoorNuWalkK2
import Derived.Test.YteigfipgmghgmaaGreatDoorNuPlainE4
namespace Go.Proofs.YteigfipgmghgmaaGreatDoor.Nu
open Go.RowKit Mo
attribute [local go_sem] conv_up conv_down conv_int ext_bits64 ext_from64 ext_from ext_bits negF_eq

theorem f64_pos (x q : Nat) (hx : x < 9218868437227405312) (hq : q < 9218868437227405312) : FloatKind.f64.format.order x q = some (compare (x : Int) (q : Int)) := order_pos x q hx hq

theorem f64_neg (x q : Nat) (hx : x < 9218868437227405312) (hq : q < 9218868437227405312) (h0 : 0 < x) : FloatKind.f64.format.order x (9223372036854775808 + q) = some .gt := by
  rw [show FloatKind.f64.format.order x (9223372036854775808 + q) = some (compare (sv false x) (sv true q)) from order_v false true x q hx hq]
  have := v64_lt 0 x h0
  rw [cmp_gt (by unfold sv; simp only [if_true, Bool.false_eq_true, if_false]; omega)]

theorem isnan_e (x : Nat) (w : World) (h1 : x < 9218868437227405312) : Calls Tryz.prog 159 #[.float .f64 x] w fun e w' => e = .returned (.bool false) ∧ w' = w := by
  have o1 : (FloatKind.f64.format.order x x != some .eq) = false := by rw [f64_pos x x h1 h1, cmp_eq rfl]; rfl
  go_enter Tryz.func159, Tryz.ntmps159
  go_wp2
  go_ret
  exact ⟨rfl, rfl⟩

theorem abs64 (x : Nat) (h : x < 9223372036854775808) : bits .andNot .u64 (x : Int) 9223372036854775808 = (x : Int) := by
  have e := u64_andNot_nat x 9223372036854775808 (by omega) (by decide)
  have e' : bits .andNot .u64 (x : Int) 9223372036854775808 = ((x &&& (2 ^ 63 - 1) : Nat) : Int) := e
  rw [e', Nat.and_two_pow_sub_one_eq_mod, Nat.mod_eq_of_lt h]

theorem low64 (x : Nat) (h : x < 9223372036854775808) : bits .andNot .u64 (x : Int) 9218868437227405312 = ((x % 4503599627370496 : Nat) : Int) := by
  have e := u64_andNot_nat x 9218868437227405312 (by omega) (by decide)
  have e' : bits .andNot .u64 (x : Int) 9218868437227405312 = ((x &&& 9227875636482146303 : Nat) : Int) := e
  rw [e']
  congr 1
  have h1 : (x &&& 9227875636482146303) / 2 ^ 52 = 0 := by
    rw [Nat.and_div_two_pow]
    have hd : ∀ q : Fin 2048, q.1 &&& (9227875636482146303 / 2 ^ 52) = 0 := by decide +kernel
    exact hd ⟨x / 2 ^ 52, by omega⟩
  have h2 : (x &&& 9227875636482146303) % 2 ^ 52 = x % 2 ^ 52 := by
    rw [Nat.and_mod_two_pow, show 9227875636482146303 % 2 ^ 52 = 2 ^ 52 - 1 from rfl, Nat.and_two_pow_sub_one_eq_mod, Nat.mod_mod]
  have h3 := Nat.div_add_mod (x &&& 9227875636482146303) (2 ^ 52)
  rw [h1, h2] at h3
  omega

theorem and2047 (q : Nat) (h : q < 2048) : bits .and .i64 (q : Int) 2047 = (q : Int) := by
  show IntKind.i64.wrap ((BitVec.ofInt 64 (q : Int) &&& BitVec.ofInt 64 (2047 : Int)).toNat : Int) = _
  have e1 : (BitVec.ofInt 64 (q : Int)).toNat = q := ofInt_u64 q (by omega)
  have e2 : (BitVec.ofInt 64 (2047 : Int)).toNat = 2 ^ 11 - 1 := by decide
  rw [BitVec.toNat_and, e1, e2, Nat.and_two_pow_sub_one_eq_mod, Nat.mod_eq_of_lt h, wrap_i64_eq]
  unfold wrap64; omega

theorem or64 (lo F : Nat) (h1 : lo < 4503599627370496) (h2 : F < 2048) : bits .or .u64 (lo : Int) ((F : Int) * 4503599627370496) = ((F * 4503599627370496 + lo : Nat) : Int) := by
  have e := u64_or_nat lo (F * 4503599627370496) (by omega) (by omega)
  rw [show ((F : Int) * 4503599627370496) = ((F * 4503599627370496 : Nat) : Int) from by omega, e]
  congr 1
  rw [Nat.or_comm, Nat.mul_comm F, show (4503599627370496 : Nat) = 2 ^ 52 from rfl, Nat.two_pow_add_eq_or_of_lt (by exact h1)]

theorem abs_e (x : Nat) (w : World) (h1 : x < 9218868437227405312) : Calls Tryz.prog 169 #[.float .f64 x] w fun e w' => e = .returned (.float .f64 x) ∧ w' = w := by
  have o1 := abs64 x (by omega)
  go_enter Tryz.func169, Tryz.ntmps169
  go_wp2
  go_ret
  exact ⟨rfl, rfl⟩

theorem isinf_e (x : Nat) (w : World) (h1 : x < 9218868437227405312) : Calls Tryz.prog 160 #[.float .f64 x, .int .i64 0] w fun e w' => e = .returned (.bool false) ∧ w' = w := by
  have o1 : (FloatKind.f64.format.order x 9218868437227405311 == some .gt) = false := by
    rw [f64_pos x _ h1 (by decide)]
    rcases Nat.lt_or_ge x 9218868437227405311 with h | h
    · rw [cmp_lt (by omega)]; rfl
    · rw [cmp_eq (by omega)]; rfl
  have A := fun w => abs_e x w h1
  go_enter Tryz.func160, Tryz.ntmps160
  go_wp2_with (first | (go_at_call 169; refine (A _).mono ?_; rintro e w' ⟨rfl, rfl⟩) | fail)
  go_ret
  exact ⟨rfl, rfl⟩

theorem normalize_e (x : Nat) (w : World) (h0 : 4503599627370496 ≤ x) (h1 : x < 9218868437227405312) : Calls Tryz.prog 172 #[.float .f64 x] w fun e w' => e = .returned (.tuple #[.float .f64 x, .int .i64 0]) ∧ w' = w := by
  have o1 : (FloatKind.f64.format.order x 4503599627370496 == some .lt) = false := by
    rw [f64_pos x _ h1 (by decide)]
    rcases Nat.lt_or_ge 4503599627370496 x with h | h
    · rw [cmp_gt (by omega)]; rfl
    · rw [cmp_eq (by omega)]; rfl
  have A := fun w => abs_e x w h1
  go_enter Tryz.func172, Tryz.ntmps172
  go_wp2_with (first | (go_at_call 169; refine (A _).mono ?_; rintro e w' ⟨rfl, rfl⟩) | fail)
  go_ret2
  exact ⟨rfl, rfl⟩

set_option maxRecDepth 4000 in
set_option maxHeartbeats 2000000 in
theorem ldexp_e (x : Nat) (m : Int) (w : World) (h1 : 4600427019358961664 ≤ x) (h2 : x ≤ 4609997168567123968) (m1 : -160 ≤ m) (m2 : m ≤ 160) : Calls Tryz.prog 163 #[.float .f64 x, .int .i64 m] w fun e w' => e = .returned (.float .f64 ((x : Int) + m * 4503599627370496).toNat) ∧ w' = w := by
  have o1 : (FloatKind.f64.format.order x 0 == some .eq) = false := by
    rw [f64_pos x 0 (by omega) (by omega), cmp_gt (by omega)]; rfl
  have A := fun w => isinf_e x w (by omega)
  have B := fun w => isnan_e x w (by omega)
  have C := fun w => normalize_e x w (by omega) (by omega)
  obtain ⟨q, hq⟩ : ∃ q : Nat, q = x / 4503599627370496 := ⟨_, rfl⟩
  obtain ⟨lo, hlo⟩ : ∃ lo : Nat, lo = x % 4503599627370496 := ⟨_, rfl⟩
  have hxq : x = q * 4503599627370496 + lo := by omega
  have lo1 : lo < 4503599627370496 := by omega
  have a1 := and2047 q (by omega)
  have ax : wrap64 ((x : Int) / 4503599627370496) = (q : Int) := by unfold wrap64; omega
  have am : wrap64 m = m := by unfold wrap64; omega
  have b1 := low64 x (by omega)
  rw [← hlo] at b1
  obtain ⟨q1, hq1⟩ : ∃ q1 : Int, q1 = (q : Int) - 1023 := ⟨_, rfl⟩
  have a2 : wrap64 ((q : Int) - 1023) = q1 := by unfold wrap64; omega
  obtain ⟨E, hE⟩ : ∃ E : Int, E = m + q1 := ⟨_, rfl⟩
  have a3 : wrap64 (m + q1) = E := by unfold wrap64; omega
  have E1 : -200 ≤ E := by omega
  have E2 : E ≤ 200 := by omega
  obtain ⟨R, hR⟩ : ∃ R : Nat, R = ((x : Int) + m * 4503599627370496).toNat := ⟨_, rfl⟩
  have c1 : bits .or .u64 (lo : Int) ((E + 1023) * 4503599627370496) = (R : Int) := by
    obtain ⟨F, hF⟩ : ∃ F : Nat, (F : Int) = E + 1023 := ⟨(E + 1023).toNat, by omega⟩
    rw [← hF, or64 lo F lo1 (by omega)]
    omega
  have hRb : R < 9218868437227405312 := by omega
  have mu : ∀ t w, (binOp .mul t (.float .f64 4607182418800017408) (.float .f64 R)).run Tryz.prog w = .ok (.float .f64 R) w := fun t w => run_float_arith w .mul t .f64 _ _ R (one_mul64 R hRb)
  rw [← hR]
  clear hq hlo hxq hq1 hE h1 h2 m1 m2 lo1 hR hRb
  go_enter Tryz.func163, Tryz.ntmps163
  go_wp2_with (first | (go_at_call 160; refine (A _).mono ?_; rintro e w' ⟨rfl, rfl⟩) | (go_at_call 159; refine (B _).mono ?_; rintro e w' ⟨rfl, rfl⟩) | (go_at_call 172; refine (C _).mono ?_; rintro e w' ⟨rfl, rfl⟩) | fail)
  go_ret
  exact ⟨rfl, rfl⟩

theorem Ldexp_e (x : Nat) (m : Int) (w : World) (h1 : 4600427019358961664 ≤ x) (h2 : x ≤ 4609997168567123968) (m1 : -160 ≤ m) (m2 : m ≤ 160) : Calls Tryz.prog 134 #[.float .f64 x, .int .i64 m] w fun e w' => e = .returned (.float .f64 ((x : Int) + m * 4503599627370496).toNat) ∧ w' = w := by
  have A := fun w => ldexp_e x m w h1 h2 m1 m2
  go_enter Tryz.func134, Tryz.ntmps134
  go_wp2_with (first | (go_at_call 163; refine (A _).mono ?_; rintro e w' ⟨rfl, rfl⟩) | fail)
  go_ret
  exact ⟨rfl, rfl⟩
end Go.Proofs.YteigfipgmghgmaaGreatDoor.Nu
