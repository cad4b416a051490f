/- Joined texts: NuWalkA, NuWalkB, NuWalkD, NuWalkL, NuWalkF, NuWalkU. -/
import Derived.Test.YtaoplfpigjkgpaaGreatDoorRows
import Derived.Test.YtaoplfpigjkgpaaGreatDoorPartAN
namespace Go.Proofs.YtaoplfpigjkgpaaGreatDoor.Nu

open Go.RowKit

set_option maxHeartbeats 400000 in
theorem check_any (t x : Int) (w : World) : Calls Tryz.prog 69 #[.int .i64 t, .int .i64 x] w fun e w' => e = .returned (.bool (chk t x)) ∧ w' = w := by
  by_cases h1 : t = 1
  · have c : chk t x = (decide (0 ≤ x) && (decide (x < 4294967296) && (x == 2143289344 || decide (x % 2147483648 ≤ 2139095040)))) := by
      rw [chk_float t x h1, Bool.eq_iff_iff]; simp
    have h1' : (t == 1) = true := by simpa using h1
    clear h1
    by_cases hx0 : 0 ≤ x
    · by_cases hx1 : x < 4294967296
      · have a := andNot_i64 x hx0 hx1
        by_cases hx2 : x = 2143289344
        · have c' : chk t x = true := by rw [c]; simp [hx2]
          rw [c']; clear c c'; subst hx2
          go_enter Tryz.func69, Tryz.ntmps69
          go_wp2
          go_ret
          exact ⟨rfl, rfl⟩
        · have c' : chk t x = decide (x % 2147483648 ≤ 2139095040) := by rw [c]; simp [hx0, hx1, hx2]
          rw [c']; clear c c'
          have hx2' : (x == 2143289344) = false := by simpa using hx2
          clear hx2
          go_enter Tryz.func69, Tryz.ntmps69
          go_wp2
          go_ret
          exact ⟨rfl, rfl⟩
      · have c' : chk t x = false := by rw [c]; simp [hx1]
        rw [c']; clear c c'
        go_enter Tryz.func69, Tryz.ntmps69
        go_wp2
        go_ret
        exact ⟨rfl, rfl⟩
    · have c' : chk t x = false := by rw [c]; simp [hx0]
      rw [c']; clear c c'
      go_enter Tryz.func69, Tryz.ntmps69
      go_wp2
      go_ret
      exact ⟨rfl, rfl⟩
  · have h1' : (t == 1) = false := by simpa using h1
    by_cases h6 : t = 6
    · have h6' : (t == 6) = true := by simpa using h6
      have c : chk t x = (x == wrap64 (wrap32 x)) := by rw [chk6]; simp [chk, h6]
      rw [c]; clear c h1 h6
      go_enter Tryz.func69, Tryz.ntmps69
      go_wp2
      go_ret
      exact ⟨rfl, rfl⟩
    · have h6' : (t == 6) = false := by simpa using h6
      by_cases h7 : t = 7
      · have h7' : (t == 7) = true := by simpa using h7
        have c : chk t x = true := by simp [chk, h7]
        rw [c]; clear c h1 h6 h7
        go_enter Tryz.func69, Tryz.ntmps69
        go_wp2
        go_ret
        exact ⟨rfl, rfl⟩
      · have h7' : (t == 7) = false := by simpa using h7
        by_cases h9 : t = 9
        · have h9' : (t == 9) = true := by simpa using h9
          have c : chk t x = (x == 0 || x == 1) := by rw [Bool.eq_iff_iff]; simp [chk, h9]
          by_cases hx0 : x = 0
          · have c' : chk t x = true := by rw [c]; simp [hx0]
            rw [c']; clear c c' h1 h6 h7 h9; subst hx0
            go_enter Tryz.func69, Tryz.ntmps69
            go_wp2
            go_ret
            exact ⟨rfl, rfl⟩
          · have hx0' : (x == 0) = false := by simpa using hx0
            rw [c]; clear c h1 h6 h7 h9 hx0
            go_enter Tryz.func69, Tryz.ntmps69
            go_wp2
            go_ret
            exact ⟨by simp [hx0'], rfl⟩
        · have h9' : (t == 9) = false := by simpa using h9
          have c : chk t x = false := by simp [chk, h1, h6, h7, h9]
          rw [c]; clear c h1 h6 h7 h9
          go_enter Tryz.func69, Tryz.ntmps69
          go_wp2
          go_ret
          exact ⟨rfl, rfl⟩

end Go.Proofs.YtaoplfpigjkgpaaGreatDoor.Nu

namespace Go.Proofs.YtaoplfpigjkgpaaGreatDoor.Nu

open Go.RowKit

theorem ext_from (n : Int) (w : World) : (callFunc 139 #[.int .u32 n]).run Tryz.prog w = .ok (.value (.float .f32 n.toNat)) w := by kernel_rfl
theorem ext_bits (b : Nat) (w : World) : (callFunc 164 #[.float .f32 b]).run Tryz.prog w = .ok (.value (.int .u32 b)) w := by kernel_rfl

attribute [local go_sem] ext_from ext_bits

set_option maxHeartbeats 400000 in
theorem from_any (x : Int) (w : World) : Calls Tryz.prog 102 #[.int .i64 x] w fun e w' => e = .returned (.float .f32 (fb x)) ∧ w' = w := by
  go_enter Tryz.func102, Tryz.ntmps102
  go_wp2
  go_ret
  exact ⟨rfl, rfl⟩

set_option maxHeartbeats 400000 in
theorem to_any (b : Nat) (w : World) (hb : b < 4294967296) : Calls Tryz.prog 136 #[.float .f32 b] w fun e w' => e = .returned (.int .i64 (tob b)) ∧ w' = w := by
  by_cases h : (FloatKind.f32.format.order b b != some .eq) = true
  · have c : tob b = 2143289344 := by unfold tob; rw [if_pos h]
    rw [c]; clear c
    go_enter Tryz.func136, Tryz.ntmps136
    go_wp2
    go_ret
    exact ⟨rfl, rfl⟩
  · have c : tob b = b := by unfold tob; rw [if_neg h]
    have h' : (FloatKind.f32.format.order b b != some .eq) = false := by simpa using h
    rw [c]; clear c h
    go_enter Tryz.func136, Tryz.ntmps136
    go_wp2
    go_ret
    exact ⟨rfl, rfl⟩

end Go.Proofs.YtaoplfpigjkgpaaGreatDoor.Nu

namespace Go.Proofs.YtaoplfpigjkgpaaGreatDoor.Nu

open Go.RowKit

theorem wrapT6 (t n : Int) (h : (t == 6) = true) : wrapT t n = wrap64 (wrap32 n) := by simp at h; simp [wrapT, h]
theorem wrapT7 (t n : Int) (h : (t == 6) = false) : wrapT t n = n := by simp at h; simp [wrapT, h]

end Go.Proofs.YtaoplfpigjkgpaaGreatDoor.Nu

namespace Go.Proofs.YtaoplfpigjkgpaaGreatDoor.Nu

open Go.RowKit

theorem chk9 (x : Int) (h : chk 9 x = true) : x = 0 ∨ x = 1 := by simpa [chk] using h

end Go.Proofs.YtaoplfpigjkgpaaGreatDoor.Nu

namespace Go.Proofs.YtaoplfpigjkgpaaGreatDoor.Nu

open Go.RowKit

end Go.Proofs.YtaoplfpigjkgpaaGreatDoor.Nu

namespace Go.Proofs.YtaoplfpigjkgpaaGreatDoor.Nu

open Go.RowKit

attribute [local go_sem] ext_from ext_bits negF_eq

set_option maxHeartbeats 400000 in
theorem neg_f (b : Nat) (w : World) (hb : b < 4294967296) : Calls Tryz.prog 161 #[.string ⟨#[78, 101, 103]⟩, .float .f32 b] w fun e w' => e = .returned (.tuple #[.int .i64 (tob (negF b)), .int .i64 0]) ∧ w' = w := by
  have hn := negF_lt b hb
  go_enter Tryz.func161, Tryz.ntmps161
  go_wp2_with (first | (go_at_call 136; refine (to_any _ _ hn).mono ?_; rintro e w' ⟨rfl, rfl⟩) | go_in)
  go_ret2
  exact ⟨rfl, rfl⟩

set_option maxHeartbeats 400000 in
theorem absolute_any (b : Nat) (w : World) (hb : b < 4294967296) : Calls Tryz.prog 169 #[.float .f32 b] w fun e w' => e = .returned (.float .f32 (absF b)) ∧ w' = w := by
  have ha := andNot_u32 b hb
  go_enter Tryz.func169, Tryz.ntmps169
  go_wp2
  go_ret
  exact ⟨by simp [absF], rfl⟩

set_option maxHeartbeats 400000 in
theorem abs_f (b : Nat) (w : World) (hb : b < 4294967296) : Calls Tryz.prog 161 #[.string ⟨#[65, 98, 115]⟩, .float .f32 b] w fun e w' => e = .returned (.tuple #[.int .i64 (tob (absF b)), .int .i64 0]) ∧ w' = w := by
  go_enter Tryz.func161, Tryz.ntmps161
  go_wp2_with (first | (go_at_call 136; refine (to_any _ _ (absF_lt _)).mono ?_; rintro e w' ⟨rfl, rfl⟩) | (go_at_call 169; refine (absolute_any _ _ hb).mono ?_; rintro e w' ⟨rfl, rfl⟩) | go_in)
  go_ret2
  exact ⟨rfl, rfl⟩

set_option maxHeartbeats 400000 in
theorem relu_any (b : Nat) (w : World) : Calls Tryz.prog 170 #[.float .f32 b] w fun e w' => e = .returned (.float .f32 (reluF b)) ∧ w' = w := by
  cases h : (FloatKind.f32.format.order b 0 == some .gt) with
  | true =>
    have c : reluF b = b := by unfold reluF; rw [if_pos h]
    rw [c]; clear c
    go_enter Tryz.func170, Tryz.ntmps170
    go_wp2
    go_ret
    exact ⟨rfl, rfl⟩
  | false =>
    cases h' : (FloatKind.f32.format.order b b != some .eq) with
    | true =>
      have c : reluF b = b := by unfold reluF; rw [h, h']; rfl
      rw [c]; clear c
      go_enter Tryz.func170, Tryz.ntmps170
      go_wp2
      go_ret
      exact ⟨rfl, rfl⟩
    | false =>
      have c : reluF b = 0 := by unfold reluF; rw [h, h']; rfl
      rw [c]; clear c
      go_enter Tryz.func170, Tryz.ntmps170
      go_wp2
      go_ret
      exact ⟨rfl, rfl⟩

set_option maxHeartbeats 400000 in
theorem relu_f (b : Nat) (w : World) (hb : b < 4294967296) : Calls Tryz.prog 161 #[.string ⟨#[82, 101, 108, 117]⟩, .float .f32 b] w fun e w' => e = .returned (.tuple #[.int .i64 (tob (reluF b)), .int .i64 0]) ∧ w' = w := by
  go_enter Tryz.func161, Tryz.ntmps161
  go_wp2_with (first | (go_at_call 136; refine (to_any _ _ (reluF_lt _ hb)).mono ?_; rintro e w' ⟨rfl, rfl⟩) | (go_at_call 170; refine (relu_any _ _).mono ?_; rintro e w' ⟨rfl, rfl⟩) | go_in)
  go_ret2
  exact ⟨rfl, rfl⟩

set_option maxHeartbeats 400000 in
theorem not_f (b : Nat) (w : World) : Calls Tryz.prog 161 #[.string ⟨#[78, 111, 116]⟩, .float .f32 b] w fun e w' => e = .returned (.tuple #[.int .i64 0, .int .i64 1]) ∧ w' = w := by
  go_enter Tryz.func161, Tryz.ntmps161
  go_wp2
  go_ret2
  exact ⟨rfl, rfl⟩

set_option maxHeartbeats 400000 in
theorem uint1_f (t x : Int) (w : World) : Calls Tryz.prog 162 #[.string ⟨#[78, 101, 103]⟩, .int .i64 t, .int .i64 x] w fun e w' => e = .returned (.tuple #[.int .i64 (wrapT t (wrap64 (-x))), .int .i64 0]) ∧ w' = w := by
  cases h : (t == 6) with
  | true =>
    rw [wrapT6 t _ h]
    go_enter Tryz.func162, Tryz.ntmps162
    go_wp2
    go_ret2
    exact ⟨rfl, rfl⟩
  | false =>
    rw [wrapT7 t _ h]
    go_enter Tryz.func162, Tryz.ntmps162
    go_wp2
    go_ret2
    exact ⟨rfl, rfl⟩

set_option maxHeartbeats 400000 in
theorem uint2_f (t x : Int) (w : World) : Calls Tryz.prog 162 #[.string ⟨#[65, 98, 115]⟩, .int .i64 t, .int .i64 x] w fun e w' => e = .returned (.tuple #[.int .i64 (absI t x), .int .i64 0]) ∧ w' = w := by
  by_cases hx : x < 0
  · rw [show absI t x = wrapT t (wrap64 (-x)) from if_pos hx]
    cases h : (t == 6) with
    | true =>
      rw [wrapT6 t _ h]
      go_enter Tryz.func162, Tryz.ntmps162
      go_wp2
      go_ret2
      exact ⟨rfl, rfl⟩
    | false =>
      rw [wrapT7 t _ h]
      go_enter Tryz.func162, Tryz.ntmps162
      go_wp2
      go_ret2
      exact ⟨rfl, rfl⟩
  · rw [show absI t x = x from if_neg hx]
    go_enter Tryz.func162, Tryz.ntmps162
    go_wp2
    go_ret2
    exact ⟨rfl, rfl⟩

set_option maxHeartbeats 400000 in
theorem uint3_f (t x : Int) (w : World) : Calls Tryz.prog 162 #[.string ⟨#[78, 111, 116]⟩, .int .i64 t, .int .i64 x] w fun e w' => e = .returned (.tuple #[.int .i64 0, .int .i64 1]) ∧ w' = w := by
  go_enter Tryz.func162, Tryz.ntmps162
  go_wp2
  go_ret2
  exact ⟨rfl, rfl⟩

set_option maxHeartbeats 400000 in
theorem uint4_f (t x : Int) (w : World) : Calls Tryz.prog 162 #[.string ⟨#[82, 101, 108, 117]⟩, .int .i64 t, .int .i64 x] w fun e w' => e = .returned (.tuple #[.int .i64 0, .int .i64 1]) ∧ w' = w := by
  go_enter Tryz.func162, Tryz.ntmps162
  go_wp2
  go_ret2
  exact ⟨rfl, rfl⟩

set_option maxHeartbeats 400000 in
theorem uint5_f (t x : Int) (w : World) : Calls Tryz.prog 162 #[.string ⟨#[83, 113, 114, 116]⟩, .int .i64 t, .int .i64 x] w fun e w' => e = .returned (.tuple #[.int .i64 0, .int .i64 1]) ∧ w' = w := by
  go_enter Tryz.func162, Tryz.ntmps162
  go_wp2
  go_ret2
  exact ⟨rfl, rfl⟩

set_option maxHeartbeats 400000 in
theorem uint6_f (t x : Int) (w : World) : Calls Tryz.prog 162 #[.string ⟨#[70, 108, 111, 111, 114]⟩, .int .i64 t, .int .i64 x] w fun e w' => e = .returned (.tuple #[.int .i64 0, .int .i64 1]) ∧ w' = w := by
  go_enter Tryz.func162, Tryz.ntmps162
  go_wp2
  go_ret2
  exact ⟨rfl, rfl⟩

set_option maxHeartbeats 400000 in
theorem uint7_f (t x : Int) (w : World) : Calls Tryz.prog 162 #[.string ⟨#[69, 120, 112]⟩, .int .i64 t, .int .i64 x] w fun e w' => e = .returned (.tuple #[.int .i64 0, .int .i64 1]) ∧ w' = w := by
  go_enter Tryz.func162, Tryz.ntmps162
  go_wp2
  go_ret2
  exact ⟨rfl, rfl⟩

set_option maxHeartbeats 400000 in
theorem uint8_f (t x : Int) (w : World) : Calls Tryz.prog 162 #[.string ⟨#[83, 105, 103, 109, 111, 105, 100]⟩, .int .i64 t, .int .i64 x] w fun e w' => e = .returned (.tuple #[.int .i64 0, .int .i64 1]) ∧ w' = w := by
  go_enter Tryz.func162, Tryz.ntmps162
  go_wp2
  go_ret2
  exact ⟨rfl, rfl⟩

set_option maxHeartbeats 400000 in
theorem uint9_f (t x : Int) (w : World) : Calls Tryz.prog 162 #[.string ⟨#[84, 97, 110, 104]⟩, .int .i64 t, .int .i64 x] w fun e w' => e = .returned (.tuple #[.int .i64 0, .int .i64 1]) ∧ w' = w := by
  go_enter Tryz.func162, Tryz.ntmps162
  go_wp2
  go_ret2
  exact ⟨rfl, rfl⟩

set_option maxHeartbeats 400000 in
theorem ubool3_f (x : Int) (w : World) (hx : x = 0 ∨ x = 1) : Calls Tryz.prog 163 #[.string ⟨#[78, 111, 116]⟩, .int .i64 x] w fun e w' => e = .returned (.tuple #[.int .i64 (1 - x), .int .i64 0]) ∧ w' = w := by
  rcases hx with rfl | rfl
  all_goals
    go_enter Tryz.func163, Tryz.ntmps163
    go_wp2
    go_ret2
    exact ⟨rfl, rfl⟩

set_option maxHeartbeats 400000 in
theorem ubool1_f (x : Int) (w : World) : Calls Tryz.prog 163 #[.string ⟨#[78, 101, 103]⟩, .int .i64 x] w fun e w' => e = .returned (.tuple #[.int .i64 0, .int .i64 1]) ∧ w' = w := by
  go_enter Tryz.func163, Tryz.ntmps163
  go_wp2
  go_ret2
  exact ⟨rfl, rfl⟩

set_option maxHeartbeats 400000 in
theorem ubool2_f (x : Int) (w : World) : Calls Tryz.prog 163 #[.string ⟨#[65, 98, 115]⟩, .int .i64 x] w fun e w' => e = .returned (.tuple #[.int .i64 0, .int .i64 1]) ∧ w' = w := by
  go_enter Tryz.func163, Tryz.ntmps163
  go_wp2
  go_ret2
  exact ⟨rfl, rfl⟩

set_option maxHeartbeats 400000 in
theorem ubool4_f (x : Int) (w : World) : Calls Tryz.prog 163 #[.string ⟨#[82, 101, 108, 117]⟩, .int .i64 x] w fun e w' => e = .returned (.tuple #[.int .i64 0, .int .i64 1]) ∧ w' = w := by
  go_enter Tryz.func163, Tryz.ntmps163
  go_wp2
  go_ret2
  exact ⟨rfl, rfl⟩

set_option maxHeartbeats 400000 in
theorem ubool5_f (x : Int) (w : World) : Calls Tryz.prog 163 #[.string ⟨#[83, 113, 114, 116]⟩, .int .i64 x] w fun e w' => e = .returned (.tuple #[.int .i64 0, .int .i64 1]) ∧ w' = w := by
  go_enter Tryz.func163, Tryz.ntmps163
  go_wp2
  go_ret2
  exact ⟨rfl, rfl⟩

set_option maxHeartbeats 400000 in
theorem ubool6_f (x : Int) (w : World) : Calls Tryz.prog 163 #[.string ⟨#[70, 108, 111, 111, 114]⟩, .int .i64 x] w fun e w' => e = .returned (.tuple #[.int .i64 0, .int .i64 1]) ∧ w' = w := by
  go_enter Tryz.func163, Tryz.ntmps163
  go_wp2
  go_ret2
  exact ⟨rfl, rfl⟩

set_option maxHeartbeats 400000 in
theorem ubool7_f (x : Int) (w : World) : Calls Tryz.prog 163 #[.string ⟨#[69, 120, 112]⟩, .int .i64 x] w fun e w' => e = .returned (.tuple #[.int .i64 0, .int .i64 1]) ∧ w' = w := by
  go_enter Tryz.func163, Tryz.ntmps163
  go_wp2
  go_ret2
  exact ⟨rfl, rfl⟩

set_option maxHeartbeats 400000 in
theorem ubool8_f (x : Int) (w : World) : Calls Tryz.prog 163 #[.string ⟨#[83, 105, 103, 109, 111, 105, 100]⟩, .int .i64 x] w fun e w' => e = .returned (.tuple #[.int .i64 0, .int .i64 1]) ∧ w' = w := by
  go_enter Tryz.func163, Tryz.ntmps163
  go_wp2
  go_ret2
  exact ⟨rfl, rfl⟩

set_option maxHeartbeats 400000 in
theorem ubool9_f (x : Int) (w : World) : Calls Tryz.prog 163 #[.string ⟨#[84, 97, 110, 104]⟩, .int .i64 x] w fun e w' => e = .returned (.tuple #[.int .i64 0, .int .i64 1]) ∧ w' = w := by
  go_enter Tryz.func163, Tryz.ntmps163
  go_wp2
  go_ret2
  exact ⟨rfl, rfl⟩

theorem un_no (k : Nat) (t x : Int) (h : chk t x = false) : un k t x = (0, 1) := by simp [un, h]
theorem un_0 (t x : Int) (h : chk t x = true) : un 0 t x = (x, 0) := by simp [un, h]
theorem un_1 (k : Nat) (x : Int) (h : chk 1 x = true) (hk : k ≠ 0) : un k 1 x = unFl k (fb x) := by simp [un, h, hk]
theorem un_6 (k : Nat) (x : Int) (h : chk 6 x = true) (hk : k ≠ 0) : un k 6 x = unIn k 6 x := by simp [un, h, hk]
theorem un_7 (k : Nat) (x : Int) (h : chk 7 x = true) (hk : k ≠ 0) : un k 7 x = unIn k 7 x := by simp [un, h, hk]
theorem un_9 (k : Nat) (x : Int) (h : chk 9 x = true) (hk : k ≠ 0) : un k 9 x = unBo k x := by simp [un, h, hk]

set_option maxHeartbeats 400000 in
theorem unary0_no (t x : Int) (w : World) (hx : chk t x = false) : Calls Tryz.prog 135 #[.string ⟨#[73, 100, 101, 110, 116, 105, 116, 121]⟩, .int .i64 t, .int .i64 x] w fun e w' => e = .returned (.tuple #[.int .i64 (un 0 t x).1, .int .i64 (un 0 t x).2]) ∧ w' = w := by
  rw [un_no 0 t x hx]
  go_enter Tryz.func135, Tryz.ntmps135
  go_wp2_with (first | (go_at_call 69; refine (check_any _ _ _).mono ?_; rintro e w' ⟨rfl, rfl⟩))
  go_ret2
  exact ⟨rfl, rfl⟩

set_option maxHeartbeats 400000 in
theorem unary0_yes (t x : Int) (w : World) (hx : chk t x = true) : Calls Tryz.prog 135 #[.string ⟨#[73, 100, 101, 110, 116, 105, 116, 121]⟩, .int .i64 t, .int .i64 x] w fun e w' => e = .returned (.tuple #[.int .i64 (un 0 t x).1, .int .i64 (un 0 t x).2]) ∧ w' = w := by
  rw [un_0 t x hx]
  go_enter Tryz.func135, Tryz.ntmps135
  go_wp2_with (first | (go_at_call 69; refine (check_any _ _ _).mono ?_; rintro e w' ⟨rfl, rfl⟩))
  go_ret2
  exact ⟨rfl, rfl⟩

theorem unary0 (t x : Int) (w : World) : Calls Tryz.prog 135 #[.string ⟨#[73, 100, 101, 110, 116, 105, 116, 121]⟩, .int .i64 t, .int .i64 x] w fun e w' => e = .returned (.tuple #[.int .i64 (un 0 t x).1, .int .i64 (un 0 t x).2]) ∧ w' = w := by
  cases hx : chk t x with
  | false => exact unary0_no t x w hx
  | true => exact unary0_yes t x w hx

set_option maxHeartbeats 400000 in
theorem unary1_1 (x : Int) (w : World) (hx : chk 1 x = true) : Calls Tryz.prog 135 #[.string ⟨#[78, 101, 103]⟩, .int .i64 1, .int .i64 x] w fun e w' => e = .returned (.tuple #[.int .i64 (un 1 1 x).1, .int .i64 (un 1 1 x).2]) ∧ w' = w := by
  rw [un_1 1 x hx (by decide)]
  go_enter Tryz.func135, Tryz.ntmps135
  go_wp2_with (first | (go_at_call 69; refine (check_any _ _ _).mono ?_; rintro e w' ⟨rfl, rfl⟩) | (go_at_call 102; refine (from_any _ _).mono ?_; rintro e w' ⟨rfl, rfl⟩) | (go_at_call 161; refine (neg_f _ _ (fb_lt _)).mono ?_; rintro e w' ⟨rfl, rfl⟩))
  go_ret2
  exact ⟨rfl, rfl⟩

set_option maxHeartbeats 400000 in
theorem unary1_6 (x : Int) (w : World) (hx : chk 6 x = true) : Calls Tryz.prog 135 #[.string ⟨#[78, 101, 103]⟩, .int .i64 6, .int .i64 x] w fun e w' => e = .returned (.tuple #[.int .i64 (un 1 6 x).1, .int .i64 (un 1 6 x).2]) ∧ w' = w := by
  rw [un_6 1 x hx (by decide)]
  go_enter Tryz.func135, Tryz.ntmps135
  go_wp2_with (first | (go_at_call 69; refine (check_any _ _ _).mono ?_; rintro e w' ⟨rfl, rfl⟩) | (go_at_call 162; refine (uint1_f _ _ _).mono ?_; rintro e w' ⟨rfl, rfl⟩))
  go_ret2
  exact ⟨rfl, rfl⟩

set_option maxHeartbeats 400000 in
theorem unary1_7 (x : Int) (w : World) (hx : chk 7 x = true) : Calls Tryz.prog 135 #[.string ⟨#[78, 101, 103]⟩, .int .i64 7, .int .i64 x] w fun e w' => e = .returned (.tuple #[.int .i64 (un 1 7 x).1, .int .i64 (un 1 7 x).2]) ∧ w' = w := by
  rw [un_7 1 x hx (by decide)]
  go_enter Tryz.func135, Tryz.ntmps135
  go_wp2_with (first | (go_at_call 69; refine (check_any _ _ _).mono ?_; rintro e w' ⟨rfl, rfl⟩) | (go_at_call 162; refine (uint1_f _ _ _).mono ?_; rintro e w' ⟨rfl, rfl⟩))
  go_ret2
  exact ⟨rfl, rfl⟩

set_option maxHeartbeats 400000 in
theorem unary1_9 (x : Int) (w : World) (hx : chk 9 x = true) : Calls Tryz.prog 135 #[.string ⟨#[78, 101, 103]⟩, .int .i64 9, .int .i64 x] w fun e w' => e = .returned (.tuple #[.int .i64 (un 1 9 x).1, .int .i64 (un 1 9 x).2]) ∧ w' = w := by
  rw [un_9 1 x hx (by decide)]
  go_enter Tryz.func135, Tryz.ntmps135
  go_wp2_with (first | (go_at_call 69; refine (check_any _ _ _).mono ?_; rintro e w' ⟨rfl, rfl⟩) | (go_at_call 163; refine (ubool1_f _ _).mono ?_; rintro e w' ⟨rfl, rfl⟩))
  go_ret2
  exact ⟨rfl, rfl⟩

set_option maxHeartbeats 400000 in
theorem unary2_1 (x : Int) (w : World) (hx : chk 1 x = true) : Calls Tryz.prog 135 #[.string ⟨#[65, 98, 115]⟩, .int .i64 1, .int .i64 x] w fun e w' => e = .returned (.tuple #[.int .i64 (un 2 1 x).1, .int .i64 (un 2 1 x).2]) ∧ w' = w := by
  rw [un_1 2 x hx (by decide)]
  go_enter Tryz.func135, Tryz.ntmps135
  go_wp2_with (first | (go_at_call 69; refine (check_any _ _ _).mono ?_; rintro e w' ⟨rfl, rfl⟩) | (go_at_call 102; refine (from_any _ _).mono ?_; rintro e w' ⟨rfl, rfl⟩) | (go_at_call 161; refine (abs_f _ _ (fb_lt _)).mono ?_; rintro e w' ⟨rfl, rfl⟩))
  go_ret2
  exact ⟨rfl, rfl⟩

set_option maxHeartbeats 400000 in
theorem unary2_6 (x : Int) (w : World) (hx : chk 6 x = true) : Calls Tryz.prog 135 #[.string ⟨#[65, 98, 115]⟩, .int .i64 6, .int .i64 x] w fun e w' => e = .returned (.tuple #[.int .i64 (un 2 6 x).1, .int .i64 (un 2 6 x).2]) ∧ w' = w := by
  rw [un_6 2 x hx (by decide)]
  go_enter Tryz.func135, Tryz.ntmps135
  go_wp2_with (first | (go_at_call 69; refine (check_any _ _ _).mono ?_; rintro e w' ⟨rfl, rfl⟩) | (go_at_call 162; refine (uint2_f _ _ _).mono ?_; rintro e w' ⟨rfl, rfl⟩))
  go_ret2
  exact ⟨rfl, rfl⟩

set_option maxHeartbeats 400000 in
theorem unary2_7 (x : Int) (w : World) (hx : chk 7 x = true) : Calls Tryz.prog 135 #[.string ⟨#[65, 98, 115]⟩, .int .i64 7, .int .i64 x] w fun e w' => e = .returned (.tuple #[.int .i64 (un 2 7 x).1, .int .i64 (un 2 7 x).2]) ∧ w' = w := by
  rw [un_7 2 x hx (by decide)]
  go_enter Tryz.func135, Tryz.ntmps135
  go_wp2_with (first | (go_at_call 69; refine (check_any _ _ _).mono ?_; rintro e w' ⟨rfl, rfl⟩) | (go_at_call 162; refine (uint2_f _ _ _).mono ?_; rintro e w' ⟨rfl, rfl⟩))
  go_ret2
  exact ⟨rfl, rfl⟩

set_option maxHeartbeats 400000 in
theorem unary2_9 (x : Int) (w : World) (hx : chk 9 x = true) : Calls Tryz.prog 135 #[.string ⟨#[65, 98, 115]⟩, .int .i64 9, .int .i64 x] w fun e w' => e = .returned (.tuple #[.int .i64 (un 2 9 x).1, .int .i64 (un 2 9 x).2]) ∧ w' = w := by
  rw [un_9 2 x hx (by decide)]
  go_enter Tryz.func135, Tryz.ntmps135
  go_wp2_with (first | (go_at_call 69; refine (check_any _ _ _).mono ?_; rintro e w' ⟨rfl, rfl⟩) | (go_at_call 163; refine (ubool2_f _ _).mono ?_; rintro e w' ⟨rfl, rfl⟩))
  go_ret2
  exact ⟨rfl, rfl⟩

set_option maxHeartbeats 400000 in
theorem unary3_1 (x : Int) (w : World) (hx : chk 1 x = true) : Calls Tryz.prog 135 #[.string ⟨#[78, 111, 116]⟩, .int .i64 1, .int .i64 x] w fun e w' => e = .returned (.tuple #[.int .i64 (un 3 1 x).1, .int .i64 (un 3 1 x).2]) ∧ w' = w := by
  rw [un_1 3 x hx (by decide)]
  go_enter Tryz.func135, Tryz.ntmps135
  go_wp2_with (first | (go_at_call 69; refine (check_any _ _ _).mono ?_; rintro e w' ⟨rfl, rfl⟩) | (go_at_call 102; refine (from_any _ _).mono ?_; rintro e w' ⟨rfl, rfl⟩) | (go_at_call 161; refine (not_f _ _).mono ?_; rintro e w' ⟨rfl, rfl⟩))
  go_ret2
  exact ⟨rfl, rfl⟩

set_option maxHeartbeats 400000 in
theorem unary3_6 (x : Int) (w : World) (hx : chk 6 x = true) : Calls Tryz.prog 135 #[.string ⟨#[78, 111, 116]⟩, .int .i64 6, .int .i64 x] w fun e w' => e = .returned (.tuple #[.int .i64 (un 3 6 x).1, .int .i64 (un 3 6 x).2]) ∧ w' = w := by
  rw [un_6 3 x hx (by decide)]
  go_enter Tryz.func135, Tryz.ntmps135
  go_wp2_with (first | (go_at_call 69; refine (check_any _ _ _).mono ?_; rintro e w' ⟨rfl, rfl⟩) | (go_at_call 162; refine (uint3_f _ _ _).mono ?_; rintro e w' ⟨rfl, rfl⟩))
  go_ret2
  exact ⟨rfl, rfl⟩

set_option maxHeartbeats 400000 in
theorem unary3_7 (x : Int) (w : World) (hx : chk 7 x = true) : Calls Tryz.prog 135 #[.string ⟨#[78, 111, 116]⟩, .int .i64 7, .int .i64 x] w fun e w' => e = .returned (.tuple #[.int .i64 (un 3 7 x).1, .int .i64 (un 3 7 x).2]) ∧ w' = w := by
  rw [un_7 3 x hx (by decide)]
  go_enter Tryz.func135, Tryz.ntmps135
  go_wp2_with (first | (go_at_call 69; refine (check_any _ _ _).mono ?_; rintro e w' ⟨rfl, rfl⟩) | (go_at_call 162; refine (uint3_f _ _ _).mono ?_; rintro e w' ⟨rfl, rfl⟩))
  go_ret2
  exact ⟨rfl, rfl⟩

set_option maxHeartbeats 400000 in
theorem unary3_9 (x : Int) (w : World) (hx : chk 9 x = true) : Calls Tryz.prog 135 #[.string ⟨#[78, 111, 116]⟩, .int .i64 9, .int .i64 x] w fun e w' => e = .returned (.tuple #[.int .i64 (un 3 9 x).1, .int .i64 (un 3 9 x).2]) ∧ w' = w := by
  rw [un_9 3 x hx (by decide)]
  go_enter Tryz.func135, Tryz.ntmps135
  go_wp2_with (first | (go_at_call 69; refine (check_any _ _ _).mono ?_; rintro e w' ⟨rfl, rfl⟩) | (go_at_call 163; refine (ubool3_f _ _ (chk9 _ hx)).mono ?_; rintro e w' ⟨rfl, rfl⟩))
  go_ret2
  exact ⟨rfl, rfl⟩

set_option maxHeartbeats 400000 in
theorem unary4_1 (x : Int) (w : World) (hx : chk 1 x = true) : Calls Tryz.prog 135 #[.string ⟨#[82, 101, 108, 117]⟩, .int .i64 1, .int .i64 x] w fun e w' => e = .returned (.tuple #[.int .i64 (un 4 1 x).1, .int .i64 (un 4 1 x).2]) ∧ w' = w := by
  rw [un_1 4 x hx (by decide)]
  go_enter Tryz.func135, Tryz.ntmps135
  go_wp2_with (first | (go_at_call 69; refine (check_any _ _ _).mono ?_; rintro e w' ⟨rfl, rfl⟩) | (go_at_call 102; refine (from_any _ _).mono ?_; rintro e w' ⟨rfl, rfl⟩) | (go_at_call 161; refine (relu_f _ _ (fb_lt _)).mono ?_; rintro e w' ⟨rfl, rfl⟩))
  go_ret2
  exact ⟨rfl, rfl⟩

set_option maxHeartbeats 400000 in
theorem unary4_6 (x : Int) (w : World) (hx : chk 6 x = true) : Calls Tryz.prog 135 #[.string ⟨#[82, 101, 108, 117]⟩, .int .i64 6, .int .i64 x] w fun e w' => e = .returned (.tuple #[.int .i64 (un 4 6 x).1, .int .i64 (un 4 6 x).2]) ∧ w' = w := by
  rw [un_6 4 x hx (by decide)]
  go_enter Tryz.func135, Tryz.ntmps135
  go_wp2_with (first | (go_at_call 69; refine (check_any _ _ _).mono ?_; rintro e w' ⟨rfl, rfl⟩) | (go_at_call 162; refine (uint4_f _ _ _).mono ?_; rintro e w' ⟨rfl, rfl⟩))
  go_ret2
  exact ⟨rfl, rfl⟩

set_option maxHeartbeats 400000 in
theorem unary4_7 (x : Int) (w : World) (hx : chk 7 x = true) : Calls Tryz.prog 135 #[.string ⟨#[82, 101, 108, 117]⟩, .int .i64 7, .int .i64 x] w fun e w' => e = .returned (.tuple #[.int .i64 (un 4 7 x).1, .int .i64 (un 4 7 x).2]) ∧ w' = w := by
  rw [un_7 4 x hx (by decide)]
  go_enter Tryz.func135, Tryz.ntmps135
  go_wp2_with (first | (go_at_call 69; refine (check_any _ _ _).mono ?_; rintro e w' ⟨rfl, rfl⟩) | (go_at_call 162; refine (uint4_f _ _ _).mono ?_; rintro e w' ⟨rfl, rfl⟩))
  go_ret2
  exact ⟨rfl, rfl⟩

set_option maxHeartbeats 400000 in
theorem unary4_9 (x : Int) (w : World) (hx : chk 9 x = true) : Calls Tryz.prog 135 #[.string ⟨#[82, 101, 108, 117]⟩, .int .i64 9, .int .i64 x] w fun e w' => e = .returned (.tuple #[.int .i64 (un 4 9 x).1, .int .i64 (un 4 9 x).2]) ∧ w' = w := by
  rw [un_9 4 x hx (by decide)]
  go_enter Tryz.func135, Tryz.ntmps135
  go_wp2_with (first | (go_at_call 69; refine (check_any _ _ _).mono ?_; rintro e w' ⟨rfl, rfl⟩) | (go_at_call 163; refine (ubool4_f _ _).mono ?_; rintro e w' ⟨rfl, rfl⟩))
  go_ret2
  exact ⟨rfl, rfl⟩

set_option maxHeartbeats 400000 in
theorem unary5_6 (x : Int) (w : World) (hx : chk 6 x = true) : Calls Tryz.prog 135 #[.string ⟨#[83, 113, 114, 116]⟩, .int .i64 6, .int .i64 x] w fun e w' => e = .returned (.tuple #[.int .i64 (un 5 6 x).1, .int .i64 (un 5 6 x).2]) ∧ w' = w := by
  rw [un_6 5 x hx (by decide)]
  go_enter Tryz.func135, Tryz.ntmps135
  go_wp2_with (first | (go_at_call 69; refine (check_any _ _ _).mono ?_; rintro e w' ⟨rfl, rfl⟩) | (go_at_call 162; refine (uint5_f _ _ _).mono ?_; rintro e w' ⟨rfl, rfl⟩))
  go_ret2
  exact ⟨rfl, rfl⟩

set_option maxHeartbeats 400000 in
theorem unary5_7 (x : Int) (w : World) (hx : chk 7 x = true) : Calls Tryz.prog 135 #[.string ⟨#[83, 113, 114, 116]⟩, .int .i64 7, .int .i64 x] w fun e w' => e = .returned (.tuple #[.int .i64 (un 5 7 x).1, .int .i64 (un 5 7 x).2]) ∧ w' = w := by
  rw [un_7 5 x hx (by decide)]
  go_enter Tryz.func135, Tryz.ntmps135
  go_wp2_with (first | (go_at_call 69; refine (check_any _ _ _).mono ?_; rintro e w' ⟨rfl, rfl⟩) | (go_at_call 162; refine (uint5_f _ _ _).mono ?_; rintro e w' ⟨rfl, rfl⟩))
  go_ret2
  exact ⟨rfl, rfl⟩

set_option maxHeartbeats 400000 in
theorem unary5_9 (x : Int) (w : World) (hx : chk 9 x = true) : Calls Tryz.prog 135 #[.string ⟨#[83, 113, 114, 116]⟩, .int .i64 9, .int .i64 x] w fun e w' => e = .returned (.tuple #[.int .i64 (un 5 9 x).1, .int .i64 (un 5 9 x).2]) ∧ w' = w := by
  rw [un_9 5 x hx (by decide)]
  go_enter Tryz.func135, Tryz.ntmps135
  go_wp2_with (first | (go_at_call 69; refine (check_any _ _ _).mono ?_; rintro e w' ⟨rfl, rfl⟩) | (go_at_call 163; refine (ubool5_f _ _).mono ?_; rintro e w' ⟨rfl, rfl⟩))
  go_ret2
  exact ⟨rfl, rfl⟩

set_option maxHeartbeats 400000 in
theorem unary6_6 (x : Int) (w : World) (hx : chk 6 x = true) : Calls Tryz.prog 135 #[.string ⟨#[70, 108, 111, 111, 114]⟩, .int .i64 6, .int .i64 x] w fun e w' => e = .returned (.tuple #[.int .i64 (un 6 6 x).1, .int .i64 (un 6 6 x).2]) ∧ w' = w := by
  rw [un_6 6 x hx (by decide)]
  go_enter Tryz.func135, Tryz.ntmps135
  go_wp2_with (first | (go_at_call 69; refine (check_any _ _ _).mono ?_; rintro e w' ⟨rfl, rfl⟩) | (go_at_call 162; refine (uint6_f _ _ _).mono ?_; rintro e w' ⟨rfl, rfl⟩))
  go_ret2
  exact ⟨rfl, rfl⟩

set_option maxHeartbeats 400000 in
theorem unary6_7 (x : Int) (w : World) (hx : chk 7 x = true) : Calls Tryz.prog 135 #[.string ⟨#[70, 108, 111, 111, 114]⟩, .int .i64 7, .int .i64 x] w fun e w' => e = .returned (.tuple #[.int .i64 (un 6 7 x).1, .int .i64 (un 6 7 x).2]) ∧ w' = w := by
  rw [un_7 6 x hx (by decide)]
  go_enter Tryz.func135, Tryz.ntmps135
  go_wp2_with (first | (go_at_call 69; refine (check_any _ _ _).mono ?_; rintro e w' ⟨rfl, rfl⟩) | (go_at_call 162; refine (uint6_f _ _ _).mono ?_; rintro e w' ⟨rfl, rfl⟩))
  go_ret2
  exact ⟨rfl, rfl⟩

set_option maxHeartbeats 400000 in
theorem unary6_9 (x : Int) (w : World) (hx : chk 9 x = true) : Calls Tryz.prog 135 #[.string ⟨#[70, 108, 111, 111, 114]⟩, .int .i64 9, .int .i64 x] w fun e w' => e = .returned (.tuple #[.int .i64 (un 6 9 x).1, .int .i64 (un 6 9 x).2]) ∧ w' = w := by
  rw [un_9 6 x hx (by decide)]
  go_enter Tryz.func135, Tryz.ntmps135
  go_wp2_with (first | (go_at_call 69; refine (check_any _ _ _).mono ?_; rintro e w' ⟨rfl, rfl⟩) | (go_at_call 163; refine (ubool6_f _ _).mono ?_; rintro e w' ⟨rfl, rfl⟩))
  go_ret2
  exact ⟨rfl, rfl⟩

set_option maxHeartbeats 400000 in
theorem unary7_6 (x : Int) (w : World) (hx : chk 6 x = true) : Calls Tryz.prog 135 #[.string ⟨#[69, 120, 112]⟩, .int .i64 6, .int .i64 x] w fun e w' => e = .returned (.tuple #[.int .i64 (un 7 6 x).1, .int .i64 (un 7 6 x).2]) ∧ w' = w := by
  rw [un_6 7 x hx (by decide)]
  go_enter Tryz.func135, Tryz.ntmps135
  go_wp2_with (first | (go_at_call 69; refine (check_any _ _ _).mono ?_; rintro e w' ⟨rfl, rfl⟩) | (go_at_call 162; refine (uint7_f _ _ _).mono ?_; rintro e w' ⟨rfl, rfl⟩))
  go_ret2
  exact ⟨rfl, rfl⟩

set_option maxHeartbeats 400000 in
theorem unary7_7 (x : Int) (w : World) (hx : chk 7 x = true) : Calls Tryz.prog 135 #[.string ⟨#[69, 120, 112]⟩, .int .i64 7, .int .i64 x] w fun e w' => e = .returned (.tuple #[.int .i64 (un 7 7 x).1, .int .i64 (un 7 7 x).2]) ∧ w' = w := by
  rw [un_7 7 x hx (by decide)]
  go_enter Tryz.func135, Tryz.ntmps135
  go_wp2_with (first | (go_at_call 69; refine (check_any _ _ _).mono ?_; rintro e w' ⟨rfl, rfl⟩) | (go_at_call 162; refine (uint7_f _ _ _).mono ?_; rintro e w' ⟨rfl, rfl⟩))
  go_ret2
  exact ⟨rfl, rfl⟩

set_option maxHeartbeats 400000 in
theorem unary7_9 (x : Int) (w : World) (hx : chk 9 x = true) : Calls Tryz.prog 135 #[.string ⟨#[69, 120, 112]⟩, .int .i64 9, .int .i64 x] w fun e w' => e = .returned (.tuple #[.int .i64 (un 7 9 x).1, .int .i64 (un 7 9 x).2]) ∧ w' = w := by
  rw [un_9 7 x hx (by decide)]
  go_enter Tryz.func135, Tryz.ntmps135
  go_wp2_with (first | (go_at_call 69; refine (check_any _ _ _).mono ?_; rintro e w' ⟨rfl, rfl⟩) | (go_at_call 163; refine (ubool7_f _ _).mono ?_; rintro e w' ⟨rfl, rfl⟩))
  go_ret2
  exact ⟨rfl, rfl⟩

set_option maxHeartbeats 400000 in
theorem unary8_6 (x : Int) (w : World) (hx : chk 6 x = true) : Calls Tryz.prog 135 #[.string ⟨#[83, 105, 103, 109, 111, 105, 100]⟩, .int .i64 6, .int .i64 x] w fun e w' => e = .returned (.tuple #[.int .i64 (un 8 6 x).1, .int .i64 (un 8 6 x).2]) ∧ w' = w := by
  rw [un_6 8 x hx (by decide)]
  go_enter Tryz.func135, Tryz.ntmps135
  go_wp2_with (first | (go_at_call 69; refine (check_any _ _ _).mono ?_; rintro e w' ⟨rfl, rfl⟩) | (go_at_call 162; refine (uint8_f _ _ _).mono ?_; rintro e w' ⟨rfl, rfl⟩))
  go_ret2
  exact ⟨rfl, rfl⟩

set_option maxHeartbeats 400000 in
theorem unary8_7 (x : Int) (w : World) (hx : chk 7 x = true) : Calls Tryz.prog 135 #[.string ⟨#[83, 105, 103, 109, 111, 105, 100]⟩, .int .i64 7, .int .i64 x] w fun e w' => e = .returned (.tuple #[.int .i64 (un 8 7 x).1, .int .i64 (un 8 7 x).2]) ∧ w' = w := by
  rw [un_7 8 x hx (by decide)]
  go_enter Tryz.func135, Tryz.ntmps135
  go_wp2_with (first | (go_at_call 69; refine (check_any _ _ _).mono ?_; rintro e w' ⟨rfl, rfl⟩) | (go_at_call 162; refine (uint8_f _ _ _).mono ?_; rintro e w' ⟨rfl, rfl⟩))
  go_ret2
  exact ⟨rfl, rfl⟩

set_option maxHeartbeats 400000 in
theorem unary8_9 (x : Int) (w : World) (hx : chk 9 x = true) : Calls Tryz.prog 135 #[.string ⟨#[83, 105, 103, 109, 111, 105, 100]⟩, .int .i64 9, .int .i64 x] w fun e w' => e = .returned (.tuple #[.int .i64 (un 8 9 x).1, .int .i64 (un 8 9 x).2]) ∧ w' = w := by
  rw [un_9 8 x hx (by decide)]
  go_enter Tryz.func135, Tryz.ntmps135
  go_wp2_with (first | (go_at_call 69; refine (check_any _ _ _).mono ?_; rintro e w' ⟨rfl, rfl⟩) | (go_at_call 163; refine (ubool8_f _ _).mono ?_; rintro e w' ⟨rfl, rfl⟩))
  go_ret2
  exact ⟨rfl, rfl⟩

set_option maxHeartbeats 400000 in
theorem unary9_6 (x : Int) (w : World) (hx : chk 6 x = true) : Calls Tryz.prog 135 #[.string ⟨#[84, 97, 110, 104]⟩, .int .i64 6, .int .i64 x] w fun e w' => e = .returned (.tuple #[.int .i64 (un 9 6 x).1, .int .i64 (un 9 6 x).2]) ∧ w' = w := by
  rw [un_6 9 x hx (by decide)]
  go_enter Tryz.func135, Tryz.ntmps135
  go_wp2_with (first | (go_at_call 69; refine (check_any _ _ _).mono ?_; rintro e w' ⟨rfl, rfl⟩) | (go_at_call 162; refine (uint9_f _ _ _).mono ?_; rintro e w' ⟨rfl, rfl⟩))
  go_ret2
  exact ⟨rfl, rfl⟩

set_option maxHeartbeats 400000 in
theorem unary9_7 (x : Int) (w : World) (hx : chk 7 x = true) : Calls Tryz.prog 135 #[.string ⟨#[84, 97, 110, 104]⟩, .int .i64 7, .int .i64 x] w fun e w' => e = .returned (.tuple #[.int .i64 (un 9 7 x).1, .int .i64 (un 9 7 x).2]) ∧ w' = w := by
  rw [un_7 9 x hx (by decide)]
  go_enter Tryz.func135, Tryz.ntmps135
  go_wp2_with (first | (go_at_call 69; refine (check_any _ _ _).mono ?_; rintro e w' ⟨rfl, rfl⟩) | (go_at_call 162; refine (uint9_f _ _ _).mono ?_; rintro e w' ⟨rfl, rfl⟩))
  go_ret2
  exact ⟨rfl, rfl⟩

set_option maxHeartbeats 400000 in
theorem unary9_9 (x : Int) (w : World) (hx : chk 9 x = true) : Calls Tryz.prog 135 #[.string ⟨#[84, 97, 110, 104]⟩, .int .i64 9, .int .i64 x] w fun e w' => e = .returned (.tuple #[.int .i64 (un 9 9 x).1, .int .i64 (un 9 9 x).2]) ∧ w' = w := by
  rw [un_9 9 x hx (by decide)]
  go_enter Tryz.func135, Tryz.ntmps135
  go_wp2_with (first | (go_at_call 69; refine (check_any _ _ _).mono ?_; rintro e w' ⟨rfl, rfl⟩) | (go_at_call 163; refine (ubool9_f _ _).mono ?_; rintro e w' ⟨rfl, rfl⟩))
  go_ret2
  exact ⟨rfl, rfl⟩

end Go.Proofs.YtaoplfpigjkgpaaGreatDoor.Nu
