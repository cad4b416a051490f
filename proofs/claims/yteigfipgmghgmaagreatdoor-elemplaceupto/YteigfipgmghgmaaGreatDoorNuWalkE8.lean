/- Tanh of both sides. -/
import Derived.Test.YteigfipgmghgmaaGreatDoorNuWalkE7
import Derived.Test.YteigfipgmghgmaaGreatDoorNuPlainE6
namespace Go.Proofs.YteigfipgmghgmaaGreatDoor.Nu
open Go.RowKit Mo
attribute [local go_sem] ext_bits64 ext_from64 ext_from ext_bits negF_eq run_fadd run_fsub run_fmul run_fquo

theorem and_top (b : Nat) (h : b < 4294967296) : bits .and .u32 (b : Int) 2147483648 = ((b / 2147483648 * 2147483648 : Nat) : Int) := by
  have e := u32_and_nat b 2147483648 h (by decide)
  rw [show ((2147483648 : Nat) : Int) = 2147483648 from rfl] at e
  rw [e]
  congr 1
  have h1 : (b &&& 2147483648) / 2 ^ 31 = b / 2 ^ 31 &&& 1 := Nat.and_div_two_pow
  have h2 : (b &&& 2147483648) % 2 ^ 31 = 0 := by rw [Nat.and_mod_two_pow, show 2147483648 % 2 ^ 31 = 0 from rfl, Nat.and_zero]
  have h3 : b / 2 ^ 31 &&& 1 = b / 2 ^ 31 := by rw [Nat.and_one_is_mod]; omega
  rw [h3] at h1
  omega

theorem or_top (x y : Nat) (hx : x < 2147483648) (hy : y < 2) : bits .or .u32 (x : Int) ((y * 2147483648 : Nat) : Int) = ((x + y * 2147483648 : Nat) : Int) := by
  have e := u32_or_nat x (y * 2147483648) (by omega) (by omega)
  rw [e]
  congr 1
  rw [Nat.or_comm, Nat.mul_comm y, show (2147483648 : Nat) = 2 ^ 31 from rfl, ← Nat.two_pow_add_eq_or_of_lt (by exact hx), Nat.add_comm]

def wsF (x s : Nat) : Nat := x % 2147483648 + s / 2147483648 * 2147483648

theorem wsF_lt (x s : Nat) (hs : s < 4294967296) : wsF x s < 4294967296 := by unfold wsF; omega

set_option maxHeartbeats 400000 in
theorem withsign_any (x s : Nat) (w : World) (hx : x < 4294967296) (hs : s < 4294967296) : Calls Tryz.prog 135 #[.float .f32 x, .float .f32 s] w fun e w' => e = .returned (.float .f32 (wsF x s)) ∧ w' = w := by
  have b1 := andNot_u32 x hx
  have b2 := and_top s hs
  have b3 := or_top (x % 2147483648) (s / 2147483648) (Nat.mod_lt _ (by decide)) (by omega)
  obtain ⟨R, hR⟩ : ∃ R : Nat, R = wsF x s := ⟨_, rfl⟩
  rw [show x % 2147483648 + s / 2147483648 * 2147483648 = R from by rw [hR]; rfl] at b3
  rw [← hR]
  clear hR
  obtain ⟨p, hp⟩ : ∃ p : Nat, p = x % 2147483648 := ⟨_, rfl⟩
  obtain ⟨t, ht⟩ : ∃ t : Nat, t = s / 2147483648 * 2147483648 := ⟨_, rfl⟩
  rw [← hp] at b1 b3
  rw [← ht] at b2 b3
  clear hp ht hx hs
  go_enter Tryz.func135, Tryz.ntmps135
  go_wp2
  go_ret
  exact ⟨rfl, rfl⟩

def qT (a : Nat) : Nat := oD (floatBits .quo .f32 (oD (floatBits .sub .f32 (exW (oD (floatBits .add .f32 a a))) 1065353216)) (oD (floatBits .add .f32 (exW (oD (floatBits .add .f32 a a))) 1065353216)))
/-- What Tanh answers. -/
def thI (b : Nat) : Int := if 2139095040 < b % 2147483648 then 2143289344 else if (FloatKind.f32.format.order (absF b) 1092616192 == some .gt) = true then (wsF 1065353216 b : Int) else (wsF (qT (absF b)) b : Int)

theorem sub_nan1 (x y : Nat) (h : (FloatKind.f32.format.read x).isNaN = true) : floatBits .sub .f32 x y = none := by
  show (Option.map _ (Ieee.Datum.sum (FloatKind.f32.format.read x) (FloatKind.f32.format.read y).opposite)) = none
  rw [sum_comm, sum_nan _ _ h]; rfl

theorem quo_nan1 (x y : Nat) (h : (FloatKind.f32.format.read x).isNaN = true) : floatBits .quo .f32 x y = none := by
  show (Option.map _ (Ieee.Datum.quotient _ (FloatKind.f32.format.read x) (FloatKind.f32.format.read y))) = none
  cases hx : FloatKind.f32.format.read x with
  | nan s t => cases FloatKind.f32.format.read y <;> rfl
  | number s m i => rw [hx] at h; cases h
  | infinity s => rw [hx] at h; cases h

theorem fval_nan (op : BinOp) (x y : Nat) (w : World) (h : floatBits op .f32 x y = none) : (FloatKind.f32.format.read (fval op .f32 x y w)).isNaN = true := by
  unfold fval
  rw [h]
  exact nb_nan x y _

theorem th_nan (b s : Nat) (hs : s < 4294967296) (w1 w2 w3 w4 : World) (h : (FloatKind.f32.format.read b).isNaN = true) :
    tob (wsF (fval .quo .f32 (fval .sub .f32 (exW (fval .add .f32 b b w1)) 1065353216 w2) (fval .add .f32 (exW (fval .add .f32 b b w1)) 1065353216 w3) w4) s) = 2143289344 := by
  have h1 := fval_nan .add b b w1 (add_nan b b h)
  rw [exW_nan _ h1]
  have h2 := fval_nan .sub (fval .add .f32 b b w1) 1065353216 w2 (sub_nan1 _ _ h1)
  have h3 := fval_nan .quo (fval .sub .f32 (fval .add .f32 b b w1) 1065353216 w2) (fval .add .f32 (fval .add .f32 b b w1) 1065353216 w3) w4 (quo_nan1 _ _ h2)
  have hl := fval_lt .quo (fval .sub .f32 (fval .add .f32 b b w1) 1065353216 w2) (fval .add .f32 (fval .add .f32 b b w1) 1065353216 w3) w4
  generalize fval .quo .f32 (fval .sub .f32 (fval .add .f32 b b w1) 1065353216 w2) (fval .add .f32 (fval .add .f32 b b w1) 1065353216 w3) w4 = v at h3 hl ⊢
  rw [read32_nan v hl, decide_eq_true_eq] at h3
  rw [tob_num _ (wsF_lt v s hs)]
  unfold wsF
  rw [if_pos (by omega)]

theorem abs_le_ten (b : Nat) (hn : b % 2147483648 ≤ 2139095040) (h : (FloatKind.f32.format.order (absF b) 1092616192 == some .gt) = false) : absF b ≤ 1092616192 := by
  unfold absF at *
  unfold Ieee.Format.order at h
  rw [read_pos _ hn, read_pos 1092616192 (by decide)] at h
  apply Decidable.byContradiction
  intro hc
  by_cases hf : b % 2147483648 < 2139095040
  · rw [order_same false _ _ hf (by decide), if_neg (by decide), cmp_gt (by exact_mod_cast val_lt _ _ (by omega))] at h
    exact absurd h (by decide)
  · rw [show b % 2147483648 = 2139095040 from by omega] at h
    exact absurd h (by decide +kernel)

set_option maxHeartbeats 1000000 in
theorem tanh_e (b : Nat) (w : World) (hb : b < 4294967296) : Calls Tryz.prog 85 #[.float .f32 b] w fun e w' => ∃ r n, Hid (tob r = thI b ∧ r < 4294967296) ∧ e = .returned (.float .f32 r) ∧ w' = w.drewN n := by
  have AB : Hid (∀ w, Calls Tryz.prog 79 #[.float .f32 b] w fun e w' => e = .returned (.float .f32 (absF b)) ∧ w' = w) := fun w => absolute_any b w hb
  cases hg : (FloatKind.f32.format.order (absF b) 1092616192 == some .gt) with
  | true =>
    have hn : b % 2147483648 ≤ 2139095040 := by
      apply Decidable.byContradiction
      intro hc
      unfold Ieee.Format.order at hg
      have hx : (FloatKind.f32.format.read (absF b)).isNaN = true := by rw [read32_nan _ (absF_lt b)]; unfold absF; exact decide_eq_true (by omega)
      have ho : (FloatKind.f32.format.read (absF b)).order (FloatKind.f32.format.read 1092616192) = none := (order_none _ _).2 (.inl hx)
      rw [ho] at hg
      exact absurd hg (by decide)
    have HT : Hid (tob (wsF 1065353216 b) = thI b) := by
      show tob (wsF 1065353216 b) = thI b
      unfold thI
      rw [if_neg (by omega), if_pos hg, tob_id _ (wsF_lt _ _ hb) (by unfold wsF; omega)]
    have WS : Hid (∀ w, Calls Tryz.prog 135 #[.float .f32 1065353216, .float .f32 b] w fun e w' => e = .returned (.float .f32 (wsF 1065353216 b)) ∧ w' = w) := fun w => withsign_any _ _ w (by decide) hb
    have HB : Hid (wsF 1065353216 b < 4294967296) := wsF_lt _ _ hb
    clear hb hn
    go_enter Tryz.func85, Tryz.ntmps85
    go_wp2_with (first | (go_at_call 79; refine (AB.out _).mono ?_; rintro e w' ⟨rfl, rfl⟩) | (go_at_call 135; refine (WS.out _).mono ?_; rintro e w' ⟨rfl, rfl⟩) | fail)
    go_ret
    exact ⟨_, 0, ⟨HT.out, HB.out⟩, rfl, rfl⟩
  | false =>
    by_cases hn : b % 2147483648 ≤ 2139095040
    · obtain ⟨d, s1, s2, q, k1, k2, k3, k4, k5⟩ := th_core (absF b) (abs_le_ten b hn hg)
      have r1 : ∀ t w, (binOp .add t (.float .f32 (absF b)) (.float .f32 (absF b))).run Tryz.prog w = .ok (.float .f32 d) w := fun t w => run_float_arith w .add t .f32 _ _ _ k1
      have r2 : ∀ t w, (binOp .sub t (.float .f32 (exW d)) (.float .f32 1065353216)).run Tryz.prog w = .ok (.float .f32 s1) w := fun t w => run_float_arith w .sub t .f32 _ _ _ k3
      have r3 : ∀ t w, (binOp .add t (.float .f32 (exW d)) (.float .f32 1065353216)).run Tryz.prog w = .ok (.float .f32 s2) w := fun t w => run_float_arith w .add t .f32 _ _ _ k4
      have r4 : ∀ t w, (binOp .quo t (.float .f32 s1) (.float .f32 s2)).run Tryz.prog w = .ok (.float .f32 q) w := fun t w => run_float_arith w .quo t .f32 _ _ _ k5
      have hq : qT (absF b) = q := by unfold qT; rw [k1]; show oD (floatBits .quo .f32 (oD (floatBits .sub .f32 (exW d) 1065353216)) (oD (floatBits .add .f32 (exW d) 1065353216))) = q; rw [k3, k4]; show oD (floatBits .quo .f32 s1 s2) = q; rw [k5]; rfl
      obtain ⟨q1, q2⟩ := some_num k5
      have HT : Hid (tob (wsF q b) = thI b) := by
        show tob (wsF q b) = thI b
        unfold thI
        rw [if_neg (by omega), if_neg (by rw [hg]; decide), hq, tob_id _ (wsF_lt _ _ hb) (by unfold wsF; omega)]
      have WS : Hid (∀ w, Calls Tryz.prog 135 #[.float .f32 q, .float .f32 b] w fun e w' => e = .returned (.float .f32 (wsF q b)) ∧ w' = w) := fun w => withsign_any _ _ w q2 hb
      have EX : Hid (∀ w, Calls Tryz.prog 83 #[.float .f32 d] w fun e w' => e = .returned (.float .f32 (exW d)) ∧ ∃ n, w' = w.drewN n) := fun w => exp_e d w (by omega)
      have HB : Hid (wsF q b < 4294967296) := wsF_lt _ _ hb
      clear hb hn k1 k2 k3 k4 k5 hq q1 q2
      go_enter Tryz.func85, Tryz.ntmps85
      go_wp2_with (first | (go_at_call 79; refine (AB.out _).mono ?_; rintro e w' ⟨rfl, rfl⟩) | (go_at_call 83; refine (EX.out _).mono ?_; rintro e w' ⟨rfl, n, rfl⟩) | (go_at_call 135; refine (WS.out _).mono ?_; rintro e w' ⟨rfl, rfl⟩) | fail)
      go_ret
      exact ⟨_, _, ⟨HT.out, HB.out⟩, rfl, rfl⟩
    · have HT : Hid (thI b = 2143289344) := by show thI b = _; unfold thI; rw [if_pos (by omega)]
      have HN : Hid ((FloatKind.f32.format.read (absF b)).isNaN = true) := by show (FloatKind.f32.format.read (absF b)).isNaN = true; rw [read32_nan _ (absF_lt b)]; unfold absF; exact decide_eq_true (by omega)
      have HB : Hid (b < 4294967296) := hb
      clear hb hn
      go_enter Tryz.func85, Tryz.ntmps85
      go_wp2_with (first | (go_at_call 79; refine (AB.out _).mono ?_; rintro e w' ⟨rfl, rfl⟩) | (go_at_call 83; refine (exp_e _ _ (fval_lt _ _ _ _)).mono ?_; rintro e w' ⟨rfl, n, rfl⟩) | (go_at_call 135; refine (withsign_any _ _ _ (fval_lt _ _ _ _) HB.out).mono ?_; rintro e w' ⟨rfl, rfl⟩) | fail)
      go_ret
      exact ⟨_, _, ⟨(th_nan _ _ HB.out _ _ _ _ HN.out).trans HT.out.symm, wsF_lt _ _ HB.out⟩, rfl, rfl⟩
end Go.Proofs.YteigfipgmghgmaaGreatDoor.Nu
