/- The walks of package num's casts of floats to whole numbers. -/
import Derived.Test.YteigfipgmghgmaaGreatDoorNuWalkF
import Derived.Test.YteigfipgmghgmaaGreatDoorNuPlainX
namespace Go.Proofs.YteigfipgmghgmaaGreatDoor.Nu
open Go.RowKit

/-- A NaN's bits of 64, as they are drawn. -/
def nb64 (b t : Nat) : Nat := (Question.nanConv .f64 b).cut t

theorem nb64_nan (b t : Nat) : (FloatKind.f64.format.order (nb64 b t) (nb64 b t) != some .eq) = true := by
  have hs : ∀ d : Ieee.Datum, d.isNaN = true → d.order d = none := fun d h => by rw [datum_order_self, h]; rfl
  have hn : (FloatKind.f64.format.read (nb64 b t)).isNaN = true := by
    have h1 := Nat.mod_lt t (show 0 < 2 by decide)
    have h2 := Nat.mod_lt (t / 2) (show 0 < 4503599627370495 by decide)
    have e : nb64 b t = (t % 2) * 9223372036854775808 + 9218868437227405312 + 1 + (t / 2) % 4503599627370495 := rfl
    rw [e]
    generalize t % 2 = a at *
    generalize t / 2 % 4503599627370495 = c at *
    have e1 : FloatKind.f64.format.signWeight = 9223372036854775808 := rfl
    have e2 : FloatKind.f64.format.binade = 4503599627370496 := rfl
    have e3 : FloatKind.f64.format.infRung = 9218868437227405312 := rfl
    have m : (a * 9223372036854775808 + 9218868437227405312 + 1 + c) % 9223372036854775808 = 9218868437227405312 + 1 + c := by omega
    unfold Ieee.Format.read
    simp only [e1, e2, e3]
    rw [m, if_neg (by omega), if_neg (by omega), if_neg (by omega)]; rfl
  unfold Ieee.Format.order
  rw [hs _ hn]; rfl

theorem conv_nan {P : Program} (w : World) (src dst : TypeId) (b : Nat) (hs : (P.underlying src).isSome = true) (hd : P.underlying dst = some (.float .f64)) (h : (FloatKind.f32.format.read b).isNaN = true) :
    (convert src dst (.float .f32 b)).run P w = .ok (.float .f64 (nb64 b (w.tape w.drawn (.nanConv .f64 b)))) w.drew := by
  obtain ⟨u, hs'⟩ := Option.isSome_iff_exists.1 hs
  have hk : ∃ s t, FloatKind.f32.decode b = .nan s t := by
    have h' : (FloatKind.f32.decode b).isNaN = true := h
    cases hd : FloatKind.f32.decode b with
    | nan s t => exact ⟨s, t, rfl⟩
    | infinity s => rw [hd] at h'; cases h'
    | number s m e => rw [hd] at h'; cases h'
  obtain ⟨s, t, hk⟩ := hk
  cases u <;> simp [convert, run_underlying hs', run_underlying hd, Conv.floatToFloat, hk, nb64, Question.forced]

theorem low31 : floatOfInt .f64 (-2147483648) = 13970166044103278592 := by decide +kernel
theorem low63 : floatOfInt .f64 (-9223372036854775808) = 14114281232179134464 := by decide +kernel
theorem neg31 : Op.unary .neg (.float .f64 13970166044103278592) = pure (.float .f64 4746794007248502784) := rfl
theorem neg63 : Op.unary .neg (.float .f64 14114281232179134464) = pure (.float .f64 4890909195324358656) := rfl
attribute [local go_sem] low31 low63 neg31 neg63

theorem conv_ok (b : Nat) (hb : b < 4294967296) (hn : b % 2147483648 ≤ 2139095040) : floatToFloatBits .f32 b .f64 = some (cv b) ∧ (FloatKind.f64.format.order (cv b) (cv b) != some .eq) = false := by
  by_cases hf : b % 2147483648 = 2139095040
  · have : b = 2139095040 ∨ b = 4286578688 := by omega
    rcases this with rfl | rfl <;> exact ⟨by decide +kernel, by decide +kernel⟩
  · obtain ⟨m, i, e, _, h⟩ := cv_fin b hb (by omega)
    refine ⟨h, ?_⟩
    unfold Ieee.Format.order
    rw [datum_order_self, e]; rfl

theorem above_yes (b c : Nat) (h : above b c = true) : (FloatKind.f64.format.order (cv b) c == some .gt) = true ∨ (FloatKind.f64.format.order (cv b) c == some .gt) = false ∧ (FloatKind.f64.format.order (cv b) c == some .eq) = true := by
  unfold above at h
  cases h1 : (FloatKind.f64.format.order (cv b) c == some .gt)
  · rw [h1] at h; exact .inr ⟨rfl, by simpa using h⟩
  · exact .inl rfl
theorem above_no (b c : Nat) (h : above b c = false) : (FloatKind.f64.format.order (cv b) c == some .gt) = false ∧ (FloatKind.f64.format.order (cv b) c == some .eq) = false := by
  unfold above at h
  simpa using h

set_option maxHeartbeats 400000 in
theorem f2i6_nan (b : Nat) (w : World) (h : (FloatKind.f32.format.read b).isNaN = true) : Calls Tryz.prog 61 #[.int .i64 6, .float .f32 b] w fun e w' => e = .returned (.int .i64 0) ∧ ∃ n, w' = w.drewN n := by
  have hconv := fun w => conv_nan (P := Tryz.prog) w 64 119 b (by kernel_rfl) (by kernel_rfl) h
  have hn := nb64_nan b
  clear h
  go_enter Tryz.func61, Tryz.ntmps61
  go_wp2
  go_ret
  exact ⟨rfl, 1, rfl⟩

set_option maxHeartbeats 400000 in
theorem f2i6_lo (b : Nat) (w : World) (hc : floatToFloatBits .f32 b .f64 = some (cv b)) (hn : (FloatKind.f64.format.order (cv b) (cv b) != some .eq) = false) (h : (FloatKind.f64.format.order (cv b) 13970166044103278592 == some .lt) = true) : Calls Tryz.prog 61 #[.int .i64 6, .float .f32 b] w fun e w' => e = .returned (.int .i64 (-2147483648)) ∧ ∃ n, w' = w.drewN n := by
  have hconv := fun w => run_convert_float_float (P := Tryz.prog) w 64 119 .f32 .f64 b (cv b) (by kernel_rfl) (by kernel_rfl) hc
  clear hc
  go_enter Tryz.func61, Tryz.ntmps61
  go_wp2
  go_ret
  exact ⟨rfl, 0, rfl⟩

set_option maxHeartbeats 400000 in
theorem f2i6_hi (b : Nat) (w : World) (hc : floatToFloatBits .f32 b .f64 = some (cv b)) (hn : (FloatKind.f64.format.order (cv b) (cv b) != some .eq) = false) (h : (FloatKind.f64.format.order (cv b) 13970166044103278592 == some .lt) = false)
    (h2 : (FloatKind.f64.format.order (cv b) 4746794007248502784 == some .gt) = true ∨ (FloatKind.f64.format.order (cv b) 4746794007248502784 == some .gt) = false ∧ (FloatKind.f64.format.order (cv b) 4746794007248502784 == some .eq) = true) : Calls Tryz.prog 61 #[.int .i64 6, .float .f32 b] w fun e w' => e = .returned (.int .i64 2147483647) ∧ ∃ n, w' = w.drewN n := by
  have hconv := fun w => run_convert_float_float (P := Tryz.prog) w 64 119 .f32 .f64 b (cv b) (by kernel_rfl) (by kernel_rfl) hc
  clear hc
  rcases h2 with h2 | ⟨h2, h3⟩
  all_goals
    go_enter Tryz.func61, Tryz.ntmps61
    go_wp2
    go_ret
    exact ⟨rfl, 0, rfl⟩

set_option maxHeartbeats 400000 in
theorem f2i6_in (b : Nat) (w : World) (n : Int) (hc : floatToFloatBits .f32 b .f64 = some (cv b)) (hn : (FloatKind.f64.format.order (cv b) (cv b) != some .eq) = false) (h : (FloatKind.f64.format.order (cv b) 13970166044103278592 == some .lt) = false)
    (h2 : (FloatKind.f64.format.order (cv b) 4746794007248502784 == some .gt) = false) (h3 : (FloatKind.f64.format.order (cv b) 4746794007248502784 == some .eq) = false) (hv : floatToIntVal .f64 (cv b) .i64 = some n) : Calls Tryz.prog 61 #[.int .i64 6, .float .f32 b] w fun e w' => e = .returned (.int .i64 n) ∧ ∃ n, w' = w.drewN n := by
  have hconv := fun w => run_convert_float_float (P := Tryz.prog) w 64 119 .f32 .f64 b (cv b) (by kernel_rfl) (by kernel_rfl) hc
  have hint := fun w => run_convert_float_int (P := Tryz.prog) w 119 2 .f64 .i64 (cv b) n (by kernel_rfl) (by kernel_rfl) hv
  clear hc hv
  go_enter Tryz.func61, Tryz.ntmps61
  go_wp2
  go_ret
  exact ⟨rfl, 0, rfl⟩

set_option maxHeartbeats 400000 in
theorem f2i7_nan (b : Nat) (w : World) (h : (FloatKind.f32.format.read b).isNaN = true) : Calls Tryz.prog 61 #[.int .i64 7, .float .f32 b] w fun e w' => e = .returned (.int .i64 0) ∧ ∃ n, w' = w.drewN n := by
  have hconv := fun w => conv_nan (P := Tryz.prog) w 64 119 b (by kernel_rfl) (by kernel_rfl) h
  have hn := nb64_nan b
  clear h
  go_enter Tryz.func61, Tryz.ntmps61
  go_wp2
  go_ret
  exact ⟨rfl, 1, rfl⟩

set_option maxHeartbeats 400000 in
theorem f2i7_lo (b : Nat) (w : World) (hc : floatToFloatBits .f32 b .f64 = some (cv b)) (hn : (FloatKind.f64.format.order (cv b) (cv b) != some .eq) = false) (h : (FloatKind.f64.format.order (cv b) 14114281232179134464 == some .lt) = true) : Calls Tryz.prog 61 #[.int .i64 7, .float .f32 b] w fun e w' => e = .returned (.int .i64 (-9223372036854775808)) ∧ ∃ n, w' = w.drewN n := by
  have hconv := fun w => run_convert_float_float (P := Tryz.prog) w 64 119 .f32 .f64 b (cv b) (by kernel_rfl) (by kernel_rfl) hc
  clear hc
  go_enter Tryz.func61, Tryz.ntmps61
  go_wp2
  go_ret
  exact ⟨rfl, 0, rfl⟩

set_option maxHeartbeats 400000 in
theorem f2i7_hi (b : Nat) (w : World) (hc : floatToFloatBits .f32 b .f64 = some (cv b)) (hn : (FloatKind.f64.format.order (cv b) (cv b) != some .eq) = false) (h : (FloatKind.f64.format.order (cv b) 14114281232179134464 == some .lt) = false)
    (h2 : (FloatKind.f64.format.order (cv b) 4890909195324358656 == some .gt) = true ∨ (FloatKind.f64.format.order (cv b) 4890909195324358656 == some .gt) = false ∧ (FloatKind.f64.format.order (cv b) 4890909195324358656 == some .eq) = true) : Calls Tryz.prog 61 #[.int .i64 7, .float .f32 b] w fun e w' => e = .returned (.int .i64 9223372036854775807) ∧ ∃ n, w' = w.drewN n := by
  have hconv := fun w => run_convert_float_float (P := Tryz.prog) w 64 119 .f32 .f64 b (cv b) (by kernel_rfl) (by kernel_rfl) hc
  clear hc
  rcases h2 with h2 | ⟨h2, h3⟩
  all_goals
    go_enter Tryz.func61, Tryz.ntmps61
    go_wp2
    go_ret
    exact ⟨rfl, 0, rfl⟩

set_option maxHeartbeats 400000 in
theorem f2i7_in (b : Nat) (w : World) (n : Int) (hc : floatToFloatBits .f32 b .f64 = some (cv b)) (hn : (FloatKind.f64.format.order (cv b) (cv b) != some .eq) = false) (h : (FloatKind.f64.format.order (cv b) 14114281232179134464 == some .lt) = false)
    (h2 : (FloatKind.f64.format.order (cv b) 4890909195324358656 == some .gt) = false) (h3 : (FloatKind.f64.format.order (cv b) 4890909195324358656 == some .eq) = false) (hv : floatToIntVal .f64 (cv b) .i64 = some n) : Calls Tryz.prog 61 #[.int .i64 7, .float .f32 b] w fun e w' => e = .returned (.int .i64 n) ∧ ∃ n, w' = w.drewN n := by
  have hconv := fun w => run_convert_float_float (P := Tryz.prog) w 64 119 .f32 .f64 b (cv b) (by kernel_rfl) (by kernel_rfl) hc
  have hint := fun w => run_convert_float_int (P := Tryz.prog) w 119 2 .f64 .i64 (cv b) n (by kernel_rfl) (by kernel_rfl) hv
  clear hc hv
  go_enter Tryz.func61, Tryz.ntmps61
  go_wp2
  go_ret
  exact ⟨rfl, 0, rfl⟩

theorem val_bd (d : Nat) (n : Int) (h : floatToIntVal .f64 d .i64 = some n) : -9223372036854775808 ≤ n ∧ n ≤ 9223372036854775807 := by
  have := floatToIntVal_wf h
  simpa [Lit.wf, IntKind.min, IntKind.max, IntKind.signed, IntKind.bits] using this

def f2i (t : Int) (b : Nat) : Int :=
  if (FloatKind.f32.format.read b).isNaN then 0
  else if t = 6 then (if below b 13970166044103278592 then -2147483648 else if above b 4746794007248502784 then 2147483647 else (floatToIntVal .f64 (cv b) .i64).getD 0)
  else (if below b 14114281232179134464 then -9223372036854775808 else if above b 4890909195324358656 then 9223372036854775807 else (floatToIntVal .f64 (cv b) .i64).getD 0)

theorem not_nan_le (b : Nat) (hb : b < 4294967296) (h : (FloatKind.f32.format.read b).isNaN = false) : b % 2147483648 ≤ 2139095040 := by
  rw [read32_nan b hb] at h; simpa using h

theorem f2i6 (b : Nat) (w : World) (hb : b < 4294967296) : Calls Tryz.prog 61 #[.int .i64 6, .float .f32 b] w fun e w' => e = .returned (.int .i64 (f2i 6 b)) ∧ ∃ n, w' = w.drewN n := by
  cases hN : (FloatKind.f32.format.read b).isNaN with
  | true => rw [show f2i 6 b = 0 from by simp [f2i, hN]]; exact f2i6_nan b w hN
  | false =>
    have hle := not_nan_le b hb hN
    obtain ⟨hc, hn⟩ := conv_ok b hb hle
    cases hl : below b 13970166044103278592 with
    | true => rw [show f2i 6 b = -2147483648 from by simp [f2i, hN, hl]]; exact f2i6_lo b w hc hn hl
    | false =>
      cases ha : above b 4746794007248502784 with
      | true => rw [show f2i 6 b = 2147483647 from by simp [f2i, hN, hl, ha]]; exact f2i6_hi b w hc hn hl (above_yes b _ ha)
      | false =>
        have hv : ∃ n, floatToIntVal .f64 (cv b) .i64 = some n := by
          rcases int_cases b hb hle with ⟨h1, _, h3⟩ | ⟨_, h2, _, h4⟩ | ⟨_, _, _, _, n, hn, _⟩
          · rw [hl] at h1; cases h1
          · rw [ha] at h2; cases h2
          · exact ⟨n, hn⟩
        obtain ⟨n, hv⟩ := hv
        rw [show f2i 6 b = n from by simp [f2i, hN, hl, ha, hv]]
        exact f2i6_in b w n hc hn hl (above_no b _ ha).1 (above_no b _ ha).2 hv

theorem f2i7 (b : Nat) (w : World) (hb : b < 4294967296) : Calls Tryz.prog 61 #[.int .i64 7, .float .f32 b] w fun e w' => e = .returned (.int .i64 (f2i 7 b)) ∧ ∃ n, w' = w.drewN n := by
  cases hN : (FloatKind.f32.format.read b).isNaN with
  | true => rw [show f2i 7 b = 0 from by simp [f2i, hN]]; exact f2i7_nan b w hN
  | false =>
    have hle := not_nan_le b hb hN
    obtain ⟨hc, hn⟩ := conv_ok b hb hle
    cases hl : below b 14114281232179134464 with
    | true => rw [show f2i 7 b = -9223372036854775808 from by simp [f2i, hN, hl]]; exact f2i7_lo b w hc hn hl
    | false =>
      cases ha : above b 4890909195324358656 with
      | true => rw [show f2i 7 b = 9223372036854775807 from by simp [f2i, hN, hl, ha]]; exact f2i7_hi b w hc hn hl (above_yes b _ ha)
      | false =>
        have hv : ∃ n, floatToIntVal .f64 (cv b) .i64 = some n := by
          rcases int_cases b hb hle with ⟨h1, _, h3⟩ | ⟨_, h2, _, h4⟩ | ⟨_, _, _, _, n, hn, _⟩
          · rcases h3 with h3 | ⟨_, _, n, hn⟩; (rw [hl] at h3; cases h3); exact ⟨n, hn⟩
          · rcases h4 with h4 | ⟨_, n, hn, _⟩; (rw [ha] at h4; cases h4); exact ⟨n, hn⟩
          · exact ⟨n, hn⟩
        obtain ⟨n, hv⟩ := hv
        rw [show f2i 7 b = n from by simp [f2i, hN, hl, ha, hv]]
        exact f2i7_in b w n hc hn hl (above_no b _ ha).1 (above_no b _ ha).2 hv

end Go.Proofs.YteigfipgmghgmaaGreatDoor.Nu
