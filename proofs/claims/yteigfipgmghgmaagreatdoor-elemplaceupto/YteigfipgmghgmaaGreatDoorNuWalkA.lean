/- The walks of the small functions of package num: Check, toBits, fromBits, wrap, truth, isType. -/
import Derived.Test.YteigfipgmghgmaaGreatDoorRows
import Derived.Test.YteigfipgmghgmaaGreatDoorNuPlain
namespace Go.Proofs.YteigfipgmghgmaaGreatDoor.Nu
open Go.RowKit

set_option maxHeartbeats 400000 in
theorem check_any (t x : Int) (w : World) : Calls Tryz.prog 45 #[.int .i64 t, .int .i64 x] w fun e w' => e = .returned (.bool (chk t x)) ∧ w' = w := by
  by_cases h1 : t = 1
  · have c : chk t x = (decide (0 ≤ x) && (decide (x < 4294967296) && (x == 2143289344 || decide (x % 2147483648 ≤ 2139095040)))) := by
      rw [chk_float t x h1, Bool.eq_iff_iff]; simp
    have h1' : (t == 1) = true := by simpa using h1
    clear h1
    by_cases hx0 : 0 ≤ x
    · by_cases hx1 : x < 4294967296
      · have a := andNot_i64 x hx0 hx1
        by_cases hx2 : x = 2143289344
        · have c' : chk t x = true := by rw [c]; simp [hx2]
          rw [c']; clear c c'; subst hx2
          go_enter Tryz.func45, Tryz.ntmps45
          go_wp2
          go_ret
          exact ⟨rfl, rfl⟩
        · have c' : chk t x = decide (x % 2147483648 ≤ 2139095040) := by rw [c]; simp [hx0, hx1, hx2]
          rw [c']; clear c c'
          have hx2' : (x == 2143289344) = false := by simpa using hx2
          clear hx2
          go_enter Tryz.func45, Tryz.ntmps45
          go_wp2
          go_ret
          exact ⟨rfl, rfl⟩
      · have c' : chk t x = false := by rw [c]; simp [hx1]
        rw [c']; clear c c'
        go_enter Tryz.func45, Tryz.ntmps45
        go_wp2
        go_ret
        exact ⟨rfl, rfl⟩
    · have c' : chk t x = false := by rw [c]; simp [hx0]
      rw [c']; clear c c'
      go_enter Tryz.func45, Tryz.ntmps45
      go_wp2
      go_ret
      exact ⟨rfl, rfl⟩
  · have h1' : (t == 1) = false := by simpa using h1
    by_cases h6 : t = 6
    · have h6' : (t == 6) = true := by simpa using h6
      have c : chk t x = (x == wrap64 (wrap32 x)) := by rw [chk6]; simp [chk, h6]
      rw [c]; clear c h1 h6
      go_enter Tryz.func45, Tryz.ntmps45
      go_wp2
      go_ret
      exact ⟨rfl, rfl⟩
    · have h6' : (t == 6) = false := by simpa using h6
      by_cases h7 : t = 7
      · have h7' : (t == 7) = true := by simpa using h7
        have c : chk t x = true := by simp [chk, h7]
        rw [c]; clear c h1 h6 h7
        go_enter Tryz.func45, Tryz.ntmps45
        go_wp2
        go_ret
        exact ⟨rfl, rfl⟩
      · have h7' : (t == 7) = false := by simpa using h7
        by_cases h9 : t = 9
        · have h9' : (t == 9) = true := by simpa using h9
          have c : chk t x = (x == 0 || x == 1) := by rw [Bool.eq_iff_iff]; simp [chk, h9]
          by_cases hx0 : x = 0
          · have c' : chk t x = true := by rw [c]; simp [hx0]
            rw [c']; clear c c' h1 h6 h7 h9; subst hx0
            go_enter Tryz.func45, Tryz.ntmps45
            go_wp2
            go_ret
            exact ⟨rfl, rfl⟩
          · have hx0' : (x == 0) = false := by simpa using hx0
            rw [c]; clear c h1 h6 h7 h9 hx0
            go_enter Tryz.func45, Tryz.ntmps45
            go_wp2
            go_ret
            exact ⟨by simp [hx0'], rfl⟩
        · have h9' : (t == 9) = false := by simpa using h9
          have c : chk t x = false := by simp [chk, h1, h6, h7, h9]
          rw [c]; clear c h1 h6 h7 h9
          go_enter Tryz.func45, Tryz.ntmps45
          go_wp2
          go_ret
          exact ⟨rfl, rfl⟩

theorem check_yes (t x : Int) (w : World) (h : chk t x = true) : Calls Tryz.prog 45 #[.int .i64 t, .int .i64 x] w fun e w' => e = .returned (.bool true) ∧ w' = w := by
  have := check_any t x w; rw [h] at this; exact this
theorem check_no (t x : Int) (w : World) (h : chk t x = false) : Calls Tryz.prog 45 #[.int .i64 t, .int .i64 x] w fun e w' => e = .returned (.bool false) ∧ w' = w := by
  have := check_any t x w; rw [h] at this; exact this
end Go.Proofs.YteigfipgmghgmaaGreatDoor.Nu
