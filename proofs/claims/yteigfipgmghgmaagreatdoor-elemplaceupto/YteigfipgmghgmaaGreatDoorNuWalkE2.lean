/- The walk of exp: what it answers of any float. -/
import Derived.Test.YteigfipgmghgmaaGreatDoorNuWalkE
import Derived.Test.YteigfipgmghgmaaGreatDoorNuWalkZ
namespace Go.Proofs.YteigfipgmghgmaaGreatDoor.Nu
open Go.RowKit Mo
attribute [local go_sem] ext_bits64 ext_from64 ext_from ext_bits negF_eq

/-- Exp's sum by its power of two, in 64 bits. -/
def eB (y : Nat) : Nat := ((pD (rD y) 13 : Nat) + kI y * 4503599627370496 : Int).toNat
/-- What exp answers. -/
def exW (b : Nat) : Nat := if (FloatKind.f32.format.order b b != some .eq) = true then b else if (FloatKind.f32.format.order b 1118961664 == some .gt) = true then 2139095040 else if (FloatKind.f32.format.order b 3268542464 == some .lt) = true then 0 else
  if 5183643170835005440 ≤ eB (cv b) then 2139095040 else Ieee.single.write (Ieee.double.read (eB (cv b)))

theorem conv_dv (n : Nat) (hn : n < 13) (w : World) : (convert 3 119 (.int .i64 ((13 - n : Nat) : Int))).run Tryz.prog w = .ok (.float .f64 (dvD n)) w := by
  rcases n with _ | _ | _ | _ | _ | _ | _ | _ | _ | _ | _ | _ | _ | n
  all_goals first | omega | kernel_rfl

theorem run_some {op : BinOp} {x y r : Nat} (h : floatBits op .f64 x y = some r) (t : TypeId) (w : World) : (binOp op t (.float .f64 x) (.float .f64 y)).run Tryz.prog w = .ok (.float .f64 r) w := run_float_arith w op t .f64 x y r h

theorem k_int (s : Bool) (M rk : Nat) (h1 : rk < 9218868437227405312) (h2 : v64 rk = M * pw 1074) (hM : M ≤ 160) : floatToIntVal .f64 (Ieee.double.word s rk) .i64 = some (if s then -(M : Int) else (M : Int)) := by
  obtain ⟨m, p, e1, p1, p2, hm, e2⟩ := read_word s rk h1
  have key : Ieee.Toward.zero.cut s (m <<< p.toNat) (-p).toNat = M := by
    rw [cut_zero, Nat.shiftLeft_eq]
    obtain ⟨c, hc⟩ : ∃ c : Nat, c = 1074 := ⟨_, rfl⟩
    have hx : m * 2 ^ p.toNat * 2 ^ (c - (-p).toNat) = M * 2 ^ (-p).toNat * 2 ^ (c - (-p).toNat) := by
      rw [Nat.mul_assoc, Nat.mul_assoc, ← Nat.pow_add, ← Nat.pow_add, show p.toNat + (c - (-p).toNat) = (p + 1074).toNat from by omega, e2, h2, show (-p).toNat + (c - (-p).toNat) = c from by omega, hc, pw_eq]
    rw [Nat.eq_of_mul_eq_mul_right (Nat.two_pow_pos _) hx, Nat.mul_div_cancel _ (Nat.two_pow_pos _)]
  have ht : (FloatKind.f64.decode (Ieee.double.word s rk)).toInt .zero = some (if s then -(M : Int) else (M : Int)) := by
    rw [show FloatKind.f64.decode (Ieee.double.word s rk) = .number s m p from e1]
    unfold Ieee.Datum.toInt Ieee.Datum.integral
    simp only
    rw [key]
    unfold Ieee.signed
    simp
  unfold floatToIntVal
  rw [ht]
  simp only
  have e1 : IntKind.i64.min = -9223372036854775808 := rfl
  have e2 : IntKind.i64.max = 9223372036854775807 := rfl
  rw [if_pos (by rw [e1, e2]; split <;> omega)]

set_option maxHeartbeats 2000000 in
theorem exp_in (b : Nat) (w : World) (h1 : (FloatKind.f32.format.order b b != some .eq) = false) (h2 : (FloatKind.f32.format.order b 1118961664 == some .gt) = false) (h3 : (FloatKind.f32.format.order b 3268542464 == some .lt) = false) (X : ExpF b) : Calls Tryz.prog 83 #[.float .f32 b] w fun e w' => e = .returned (.float .f32 (exW b)) ∧ ∃ n, w' = w.drewN n := by
  have up : ∀ w, (convert 64 119 (.float .f32 b)).run Tryz.prog w = .ok (.float .f64 (cv b)) w := fun w => run_convert_float_float w _ _ .f32 .f64 b _ (by kernel_rfl) (by kernel_rfl) X.up
  have z1 := run_some X.z1
  have z2 := run_some X.z2
  have kl := run_some X.kl
  have rr := run_some X.r
  have HX : Hid (ExpF b) := X
  clear X
  go_enter Tryz.func83, Tryz.ntmps83
  go_wp2_with (first | (go_at_call 82; refine (floor_s _ _).mono ?_; rintro e w' ⟨kf, n1, hk, rfl, rfl⟩; obtain rfl := HX.out.k _ hk.out) | fail)
  go_loopw [6, 7] (fun p i wr => ∃ n : Nat, n ≤ 13 ∧ i = .int .i64 ((13 - n : Nat) : Int) ∧ p = .float .f64 (pD (rD (cv b)) n) ∧ wr = w.drewN n1) (fun _ i _ => (intOf i).toNat)
  case atStart => exact ⟨0, by omega, rfl, rfl, rfl⟩
  case round =>
    obtain ⟨n, hn, rfl, rfl, rfl⟩ := hrel
    by_cases hlt : n < 13
    · have l1 : (1 : Int) ≤ ((13 - n : Nat) : Int) := by omega
      have cd := conv_dv n hlt
      have s1 := run_some (HX.out.a n)
      have s2 := run_some (HX.out.d n)
      have s3 := run_some (HX.out.s n)
      have l2 : wrap64 (((13 - n : Nat) : Int) - 1) = ((13 - (n + 1) : Nat) : Int) := by unfold wrap64; omega
      obtain ⟨i0, hi0⟩ : ∃ i0 : Int, i0 = ((13 - n : Nat) : Int) := ⟨_, rfl⟩
      rw [← hi0] at l1 cd l2 ⊢
      have HI : Hid (i0 = ((13 - n : Nat) : Int)) := hi0
      clear hi0
      go_wp2
      go_roundw
      case rel => exact ⟨n + 1, by omega, by first | rfl | simp [l2], by first | rfl | trivial, by first | rfl | trivial⟩
      case measure => have := HI.out; simp [intOf]; omega
    · have he : n = 13 := by omega
      subst he
      obtain ⟨s, M, rk, q1, q2, q3, q4, q5, -⟩ := HX.out.kw
      obtain ⟨rp, p1, p2, p3⟩ := HX.out.p
      have ci : ∀ w, (convert 119 3 (.float .f64 (kD (cv b)))).run Tryz.prog w = .ok (.int .i64 (kI (cv b))) w := fun w => run_convert_float_int w _ _ .f64 .i64 _ _ (by kernel_rfl) (by kernel_rfl) (by rw [q1, q5]; exact k_int s M rk q2 q3 q4)
      have kb : -160 ≤ kI (cv b) ∧ kI (cv b) ≤ 160 := by rw [q5]; split <;> omega
      rw [show Ieee.double.word false rp = rp from rfl] at p1
      have LD : Hid (∀ w, Calls Tryz.prog 134 #[.float .f64 (pD (rD (cv b)) 13), .int .i64 (kI (cv b))] w fun e w' => e = .returned (.float .f64 (eB (cv b))) ∧ w' = w) := fun w => Ldexp_e _ _ w (by rw [p1]; exact p2) (by rw [p1]; exact p3) kb.1 kb.2
      have hE : eB (cv b) < 9218868437227405312 := by unfold eB; rw [p1]; omega
      have hW : exW b = (if 5183643170835005440 ≤ eB (cv b) then 2139095040 else Ieee.single.write (Ieee.double.read (eB (cv b)))) := by
        unfold exW
        rw [if_neg (by rw [h1]; decide), if_neg (by rw [h2]; decide), if_neg (by rw [h3]; decide)]
      clear q1 q2 q3 q4 q5 p1 p2 p3 kb hlt hn
      have FB : Hid (∀ w, Calls Tryz.prog 50 #[.int .i64 2139095040] w fun e w' => e = .returned (.float .f32 2139095040) ∧ w' = w) := fun w => from_any 2139095040 w
      by_cases hl : 5183643170835005440 ≤ eB (cv b)
      · have og : (FloatKind.f64.format.order (eB (cv b)) 5183643170835005440 == some .gt || FloatKind.f64.format.order (eB (cv b)) 5183643170835005440 == some .eq) = true := by
          rw [f64_pos _ _ hE (by decide)]
          rcases Nat.lt_or_eq_of_le hl with h | h
          · rw [cmp_gt (by omega)]; rfl
          · rw [cmp_eq (by omega)]; rfl
        rw [if_pos hl] at hW
        have HW : Hid (exW b = 2139095040) := hW
        clear hl hE hW
        generalize eB (cv b) = E at *
        go_wp2_with (first | (go_at_call 134; refine (LD.out _).mono ?_; rintro e w' ⟨rfl, rfl⟩) | (go_at_call 50; refine (FB.out _).mono ?_; rintro e w' ⟨rfl, rfl⟩) | fail)
        go_ret
        exact ⟨by rw [HW.out]; rfl, _, rfl⟩
      · have og : (FloatKind.f64.format.order (eB (cv b)) 5183643170835005440 == some .gt || FloatKind.f64.format.order (eB (cv b)) 5183643170835005440 == some .eq) = false := by
          rw [f64_pos _ _ hE (by decide), cmp_lt (by omega)]; rfl
        have dn : ∀ w, (convert 119 64 (.float .f64 (eB (cv b)))).run Tryz.prog w = .ok (.float .f32 (exW b)) w := fun w => run_convert_float_float w _ _ .f64 .f32 _ _ (by kernel_rfl) (by kernel_rfl) (by rw [hW, if_neg hl]; exact (down_fin _ (by omega)).1)
        clear hl hE hW
        generalize eB (cv b) = E at *
        go_wp2_with (first | (go_at_call 134; refine (LD.out _).mono ?_; rintro e w' ⟨rfl, rfl⟩) | fail)
        go_ret
        exact ⟨rfl, _, rfl⟩

theorem num_of (b : Nat) (hb : b < 4294967296) (h : (FloatKind.f32.format.order b b != some .eq) = false) : b % 2147483648 ≤ 2139095040 := by
  rw [order_self, read32_nan b hb] at h
  apply Decidable.byContradiction
  intro hc
  rw [decide_eq_true (by omega)] at h
  exact absurd h (by decide)

/-- What exp answers of any float. -/
theorem exp_e (b : Nat) (w : World) (hb : b < 4294967296) : Calls Tryz.prog 83 #[.float .f32 b] w fun e w' => e = .returned (.float .f32 (exW b)) ∧ ∃ n, w' = w.drewN n := by
  cases h1 : (FloatKind.f32.format.order b b != some .eq) with
  | true =>
    have HW : Hid (exW b = b) := by show exW b = b; unfold exW; rw [if_pos h1]
    go_enter Tryz.func83, Tryz.ntmps83
    go_wp2
    go_ret
    exact ⟨by rw [HW.out]; rfl, 0, rfl⟩
  | false =>
    cases h2 : (FloatKind.f32.format.order b 1118961664 == some .gt) with
    | true =>
      have HW : Hid (exW b = 2139095040) := by show exW b = _; unfold exW; rw [if_neg (by rw [h1]; decide), if_pos h2]
      have FB : Hid (∀ w, Calls Tryz.prog 50 #[.int .i64 2139095040] w fun e w' => e = .returned (.float .f32 2139095040) ∧ w' = w) := fun w => from_any 2139095040 w
      go_enter Tryz.func83, Tryz.ntmps83
      go_wp2_with (first | (go_at_call 50; refine (FB.out _).mono ?_; rintro e w' ⟨rfl, rfl⟩) | fail)
      go_ret
      exact ⟨by rw [HW.out]; rfl, 0, rfl⟩
    | false =>
      cases h3 : (FloatKind.f32.format.order b 3268542464 == some .lt) with
      | true =>
        have HW : Hid (exW b = 0) := by show exW b = _; unfold exW; rw [if_neg (by rw [h1]; decide), if_neg (by rw [h2]; decide), if_pos h3]
        go_enter Tryz.func83, Tryz.ntmps83
        go_wp2
        go_ret
        exact ⟨by rw [HW.out]; rfl, 0, rfl⟩
      | false => exact exp_in b w h1 h2 h3 (exp_facts b hb (tests_bound b hb (num_of b hb h1) h2 h3))

theorem exW_lt (b : Nat) (hb : b < 4294967296) : exW b < 4294967296 := by
  unfold exW
  split
  · exact hb
  · split
    · decide
    · split
      · decide
      · split
        · decide
        · rename_i h
          have := (down_fin _ (Nat.lt_of_not_le h)).2
          omega
end Go.Proofs.YteigfipgmghgmaaGreatDoor.Nu
