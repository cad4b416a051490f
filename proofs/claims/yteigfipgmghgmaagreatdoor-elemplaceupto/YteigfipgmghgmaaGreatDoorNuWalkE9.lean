/- The document's Tanh; and Unary of both sides, of a float. -/
import Derived.Test.YteigfipgmghgmaaGreatDoorNuWalkE8
namespace Go.Proofs.YteigfipgmghgmaaGreatDoor.Nu
open Go.RowKit Mo
attribute [local go_sem] ext_bits64 ext_from64 ext_from ext_bits negF_eq

theorem leq_of (b : Nat) (hn : b % 2147483648 ≤ 2139095040) : (FloatKind.f32.format.order (absF b) 1092616192 == some .lt || FloatKind.f32.format.order (absF b) 1092616192 == some .eq) = !(FloatKind.f32.format.order (absF b) 1092616192 == some .gt) := by
  cases ho : FloatKind.f32.format.order (absF b) 1092616192 with
  | none =>
    exfalso
    unfold Ieee.Format.order at ho
    rcases (order_none _ _).1 ho with h | h
    · rw [read32_nan _ (absF_lt b)] at h
      unfold absF at h
      rw [decide_eq_true_eq] at h
      omega
    · exact absurd h (by decide +kernel)
  | some o => cases o <;> rfl

theorem ws_val (q b : Nat) (hb : b < 4294967296) : wrap64 ((q : Int) % 2147483648 + wrap64 (wrap64 ((b : Int) / 2147483648) * 2147483648)) = (wsF q b : Int) := by
  have e0 : ∀ z : Int, 0 ≤ z → z < 4294967296 → wrap64 z = z := fun z h1 h2 => by unfold wrap64; omega
  rw [e0 ((b : Int) / 2147483648) (by omega) (by omega), e0 ((b : Int) / 2147483648 * 2147483648) (by omega) (by omega), e0 _ (by omega) (by omega)]
  unfold wsF; omega

set_option maxHeartbeats 400000 in
theorem round9_s (b : Nat) (w : World) (hb : b < 4294967296) : Calls Tryz.prog 49 #[.string ⟨#[84, 97, 110, 104]⟩, .float .f32 b] w fun e w' => ∃ n, e = .returned (.tuple #[.int .i64 (thI b), .int .i64 0]) ∧ w' = w.drewN n := by
  have SG : Hid (∀ w, Calls Tryz.prog 85 #[.float .f32 b] w fun e w' => ∃ r n, Hid (tob r = thI b ∧ r < 4294967296) ∧ e = .returned (.float .f32 r) ∧ w' = w.drewN n) := fun w => tanh_e b w hb
  clear hb
  go_enter Tryz.func49, Tryz.ntmps49
  go_wp2_with (first | (go_at_call 85; refine (SG.out _).mono ?_; rintro e w' ⟨r, n, hr, rfl, rfl⟩) | (go_at_call 62; refine (to_any _ _ hr.out.2).mono ?_; rintro e w' ⟨rfl, rfl⟩) | fail)
  go_ret2
  exact ⟨_, congrArg (fun z => Ending.returned (Value.tuple #[.int .i64 z, .int .i64 0])) hr.out.1, rfl⟩
end Go.Proofs.YteigfipgmghgmaaGreatDoor.Nu
