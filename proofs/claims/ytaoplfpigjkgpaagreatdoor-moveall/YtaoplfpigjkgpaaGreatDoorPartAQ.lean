/- Joined texts: NuWalkA, NuWalkB, NuWalkD, NuWalkL, NuWalkF. -/
import Derived.Test.YtaoplfpigjkgpaaGreatDoorRows
import Derived.Test.YtaoplfpigjkgpaaGreatDoorPartAP
namespace Go.Proofs.YtaoplfpigjkgpaaGreatDoor.Nu

open Go.RowKit

set_option maxHeartbeats 400000 in
theorem check_any (t x : Int) (w : World) : Calls Tryz.prog 69 #[.int .i64 t, .int .i64 x] w fun e w' => e = .returned (.bool (chk t x)) ∧ w' = w := by
  by_cases h1 : t = 1
  · have c : chk t x = (decide (0 ≤ x) && (decide (x < 4294967296) && (x == 2143289344 || decide (x % 2147483648 ≤ 2139095040)))) := by
      rw [chk_float t x h1, Bool.eq_iff_iff]; simp
    have h1' : (t == 1) = true := by simpa using h1
    clear h1
    by_cases hx0 : 0 ≤ x
    · by_cases hx1 : x < 4294967296
      · have a := andNot_i64 x hx0 hx1
        by_cases hx2 : x = 2143289344
        · have c' : chk t x = true := by rw [c]; simp [hx2]
          rw [c']; clear c c'; subst hx2
          go_enter Tryz.func69, Tryz.ntmps69
          go_wp2
          go_ret
          exact ⟨rfl, rfl⟩
        · have c' : chk t x = decide (x % 2147483648 ≤ 2139095040) := by rw [c]; simp [hx0, hx1, hx2]
          rw [c']; clear c c'
          have hx2' : (x == 2143289344) = false := by simpa using hx2
          clear hx2
          go_enter Tryz.func69, Tryz.ntmps69
          go_wp2
          go_ret
          exact ⟨rfl, rfl⟩
      · have c' : chk t x = false := by rw [c]; simp [hx1]
        rw [c']; clear c c'
        go_enter Tryz.func69, Tryz.ntmps69
        go_wp2
        go_ret
        exact ⟨rfl, rfl⟩
    · have c' : chk t x = false := by rw [c]; simp [hx0]
      rw [c']; clear c c'
      go_enter Tryz.func69, Tryz.ntmps69
      go_wp2
      go_ret
      exact ⟨rfl, rfl⟩
  · have h1' : (t == 1) = false := by simpa using h1
    by_cases h6 : t = 6
    · have h6' : (t == 6) = true := by simpa using h6
      have c : chk t x = (x == wrap64 (wrap32 x)) := by rw [chk6]; simp [chk, h6]
      rw [c]; clear c h1 h6
      go_enter Tryz.func69, Tryz.ntmps69
      go_wp2
      go_ret
      exact ⟨rfl, rfl⟩
    · have h6' : (t == 6) = false := by simpa using h6
      by_cases h7 : t = 7
      · have h7' : (t == 7) = true := by simpa using h7
        have c : chk t x = true := by simp [chk, h7]
        rw [c]; clear c h1 h6 h7
        go_enter Tryz.func69, Tryz.ntmps69
        go_wp2
        go_ret
        exact ⟨rfl, rfl⟩
      · have h7' : (t == 7) = false := by simpa using h7
        by_cases h9 : t = 9
        · have h9' : (t == 9) = true := by simpa using h9
          have c : chk t x = (x == 0 || x == 1) := by rw [Bool.eq_iff_iff]; simp [chk, h9]
          by_cases hx0 : x = 0
          · have c' : chk t x = true := by rw [c]; simp [hx0]
            rw [c']; clear c c' h1 h6 h7 h9; subst hx0
            go_enter Tryz.func69, Tryz.ntmps69
            go_wp2
            go_ret
            exact ⟨rfl, rfl⟩
          · have hx0' : (x == 0) = false := by simpa using hx0
            rw [c]; clear c h1 h6 h7 h9 hx0
            go_enter Tryz.func69, Tryz.ntmps69
            go_wp2
            go_ret
            exact ⟨by simp [hx0'], rfl⟩
        · have h9' : (t == 9) = false := by simpa using h9
          have c : chk t x = false := by simp [chk, h1, h6, h7, h9]
          rw [c]; clear c h1 h6 h7 h9
          go_enter Tryz.func69, Tryz.ntmps69
          go_wp2
          go_ret
          exact ⟨rfl, rfl⟩

end Go.Proofs.YtaoplfpigjkgpaaGreatDoor.Nu

namespace Go.Proofs.YtaoplfpigjkgpaaGreatDoor.Nu

open Go.RowKit

theorem ext_from (n : Int) (w : World) : (callFunc 139 #[.int .u32 n]).run Tryz.prog w = .ok (.value (.float .f32 n.toNat)) w := by kernel_rfl
theorem ext_bits (b : Nat) (w : World) : (callFunc 164 #[.float .f32 b]).run Tryz.prog w = .ok (.value (.int .u32 b)) w := by kernel_rfl

attribute [local go_sem] ext_from ext_bits

set_option maxHeartbeats 400000 in
theorem from_any (x : Int) (w : World) : Calls Tryz.prog 102 #[.int .i64 x] w fun e w' => e = .returned (.float .f32 (fb x)) ∧ w' = w := by
  go_enter Tryz.func102, Tryz.ntmps102
  go_wp2
  go_ret
  exact ⟨rfl, rfl⟩

set_option maxHeartbeats 400000 in
theorem to_any (b : Nat) (w : World) (hb : b < 4294967296) : Calls Tryz.prog 136 #[.float .f32 b] w fun e w' => e = .returned (.int .i64 (tob b)) ∧ w' = w := by
  by_cases h : (FloatKind.f32.format.order b b != some .eq) = true
  · have c : tob b = 2143289344 := by unfold tob; rw [if_pos h]
    rw [c]; clear c
    go_enter Tryz.func136, Tryz.ntmps136
    go_wp2
    go_ret
    exact ⟨rfl, rfl⟩
  · have c : tob b = b := by unfold tob; rw [if_neg h]
    have h' : (FloatKind.f32.format.order b b != some .eq) = false := by simpa using h
    rw [c]; clear c h
    go_enter Tryz.func136, Tryz.ntmps136
    go_wp2
    go_ret
    exact ⟨rfl, rfl⟩

end Go.Proofs.YtaoplfpigjkgpaaGreatDoor.Nu

namespace Go.Proofs.YtaoplfpigjkgpaaGreatDoor.Nu

open Go.RowKit

theorem wrapT6 (t n : Int) (h : (t == 6) = true) : wrapT t n = wrap64 (wrap32 n) := by simp at h; simp [wrapT, h]
theorem wrapT7 (t n : Int) (h : (t == 6) = false) : wrapT t n = n := by simp at h; simp [wrapT, h]

end Go.Proofs.YtaoplfpigjkgpaaGreatDoor.Nu

namespace Go.Proofs.YtaoplfpigjkgpaaGreatDoor.Nu

open Go.RowKit

theorem chk9 (x : Int) (h : chk 9 x = true) : x = 0 ∨ x = 1 := by simpa [chk] using h

end Go.Proofs.YtaoplfpigjkgpaaGreatDoor.Nu

namespace Go.Proofs.YtaoplfpigjkgpaaGreatDoor.Nu

open Go.RowKit

end Go.Proofs.YtaoplfpigjkgpaaGreatDoor.Nu
