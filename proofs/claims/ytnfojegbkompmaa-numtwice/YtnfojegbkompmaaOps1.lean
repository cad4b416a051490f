/- The walk of the statements' list of operators' names 'ops1': which name a number stands for. -/
import Derived.Test.YtnfojegbkompmaaLive
namespace Go.Proofs.Ytnfojegbkompmaa
open Go.RowKit

/-- The place of a number in a list of 10. -/
def idx1 (n : Int) : Int := if n < 0 then (-(n + 1)) % 10 else n % 10

theorem idx1_cases (n : Int) : idx1 n = 0 ∨ idx1 n = 1 ∨ idx1 n = 2 ∨ idx1 n = 3 ∨ idx1 n = 4 ∨ idx1 n = 5 ∨ idx1 n = 6 ∨ idx1 n = 7 ∨ idx1 n = 8 ∨ idx1 n = 9 := by
  unfold idx1; split <;> omega

theorem idx1_pos (n k : Int) (h : idx1 n = k) (h0 : ¬ n < 0) : n % 10 = k := by rw [← h]; unfold idx1; rw [if_neg h0]
theorem idx1_neg (n k : Int) (h : idx1 n = k) (h0 : n < 0) : (n + 1).tmod 10 = -k := by
  rw [← h]; unfold idx1; rw [if_pos h0]
  have e : (n + 1).tmod 10 = -((-(n + 1)).tmod 10) := by rw [Int.neg_tmod]; omega
  rw [e, Int.tmod_eq_emod_of_nonneg (by omega)]

set_option maxHeartbeats 400000 in
theorem ops1_0 (n : Int) (w : World) (hn : -9223372036854775808 ≤ n ∧ n ≤ 9223372036854775807) (h : idx1 n = 0) : Calls Try.prog 10 #[.int .i64 n] w fun e w' => e = .returned (.string ⟨#[73, 100, 101, 110, 116, 105, 116, 121]⟩) ∧ ∃ cs T, w' = w.alloc (.cells cs T) := by
  obtain ⟨ha, hb⟩ := hn
  by_cases h0 : n < 0
  · have hk := idx1_neg n 0 h h0
    clear h
    go_enter Try.func10, Try.ntmps10
    go_wp2
    go_ret
    exact ⟨rfl, _, _, rfl⟩
  · have hk := idx1_pos n 0 h h0
    have h0' : 0 ≤ n := by omega
    clear h h0
    go_enter Try.func10, Try.ntmps10
    go_wp2
    go_ret
    exact ⟨rfl, _, _, rfl⟩

set_option maxHeartbeats 400000 in
theorem ops1_1 (n : Int) (w : World) (hn : -9223372036854775808 ≤ n ∧ n ≤ 9223372036854775807) (h : idx1 n = 1) : Calls Try.prog 10 #[.int .i64 n] w fun e w' => e = .returned (.string ⟨#[78, 101, 103]⟩) ∧ ∃ cs T, w' = w.alloc (.cells cs T) := by
  obtain ⟨ha, hb⟩ := hn
  by_cases h0 : n < 0
  · have hk := idx1_neg n 1 h h0
    clear h
    go_enter Try.func10, Try.ntmps10
    go_wp2
    go_ret
    exact ⟨rfl, _, _, rfl⟩
  · have hk := idx1_pos n 1 h h0
    have h0' : 0 ≤ n := by omega
    clear h h0
    go_enter Try.func10, Try.ntmps10
    go_wp2
    go_ret
    exact ⟨rfl, _, _, rfl⟩

set_option maxHeartbeats 400000 in
theorem ops1_2 (n : Int) (w : World) (hn : -9223372036854775808 ≤ n ∧ n ≤ 9223372036854775807) (h : idx1 n = 2) : Calls Try.prog 10 #[.int .i64 n] w fun e w' => e = .returned (.string ⟨#[65, 98, 115]⟩) ∧ ∃ cs T, w' = w.alloc (.cells cs T) := by
  obtain ⟨ha, hb⟩ := hn
  by_cases h0 : n < 0
  · have hk := idx1_neg n 2 h h0
    clear h
    go_enter Try.func10, Try.ntmps10
    go_wp2
    go_ret
    exact ⟨rfl, _, _, rfl⟩
  · have hk := idx1_pos n 2 h h0
    have h0' : 0 ≤ n := by omega
    clear h h0
    go_enter Try.func10, Try.ntmps10
    go_wp2
    go_ret
    exact ⟨rfl, _, _, rfl⟩

set_option maxHeartbeats 400000 in
theorem ops1_3 (n : Int) (w : World) (hn : -9223372036854775808 ≤ n ∧ n ≤ 9223372036854775807) (h : idx1 n = 3) : Calls Try.prog 10 #[.int .i64 n] w fun e w' => e = .returned (.string ⟨#[78, 111, 116]⟩) ∧ ∃ cs T, w' = w.alloc (.cells cs T) := by
  obtain ⟨ha, hb⟩ := hn
  by_cases h0 : n < 0
  · have hk := idx1_neg n 3 h h0
    clear h
    go_enter Try.func10, Try.ntmps10
    go_wp2
    go_ret
    exact ⟨rfl, _, _, rfl⟩
  · have hk := idx1_pos n 3 h h0
    have h0' : 0 ≤ n := by omega
    clear h h0
    go_enter Try.func10, Try.ntmps10
    go_wp2
    go_ret
    exact ⟨rfl, _, _, rfl⟩

set_option maxHeartbeats 400000 in
theorem ops1_4 (n : Int) (w : World) (hn : -9223372036854775808 ≤ n ∧ n ≤ 9223372036854775807) (h : idx1 n = 4) : Calls Try.prog 10 #[.int .i64 n] w fun e w' => e = .returned (.string ⟨#[82, 101, 108, 117]⟩) ∧ ∃ cs T, w' = w.alloc (.cells cs T) := by
  obtain ⟨ha, hb⟩ := hn
  by_cases h0 : n < 0
  · have hk := idx1_neg n 4 h h0
    clear h
    go_enter Try.func10, Try.ntmps10
    go_wp2
    go_ret
    exact ⟨rfl, _, _, rfl⟩
  · have hk := idx1_pos n 4 h h0
    have h0' : 0 ≤ n := by omega
    clear h h0
    go_enter Try.func10, Try.ntmps10
    go_wp2
    go_ret
    exact ⟨rfl, _, _, rfl⟩

set_option maxHeartbeats 400000 in
theorem ops1_5 (n : Int) (w : World) (hn : -9223372036854775808 ≤ n ∧ n ≤ 9223372036854775807) (h : idx1 n = 5) : Calls Try.prog 10 #[.int .i64 n] w fun e w' => e = .returned (.string ⟨#[83, 113, 114, 116]⟩) ∧ ∃ cs T, w' = w.alloc (.cells cs T) := by
  obtain ⟨ha, hb⟩ := hn
  by_cases h0 : n < 0
  · have hk := idx1_neg n 5 h h0
    clear h
    go_enter Try.func10, Try.ntmps10
    go_wp2
    go_ret
    exact ⟨rfl, _, _, rfl⟩
  · have hk := idx1_pos n 5 h h0
    have h0' : 0 ≤ n := by omega
    clear h h0
    go_enter Try.func10, Try.ntmps10
    go_wp2
    go_ret
    exact ⟨rfl, _, _, rfl⟩

set_option maxHeartbeats 400000 in
theorem ops1_6 (n : Int) (w : World) (hn : -9223372036854775808 ≤ n ∧ n ≤ 9223372036854775807) (h : idx1 n = 6) : Calls Try.prog 10 #[.int .i64 n] w fun e w' => e = .returned (.string ⟨#[70, 108, 111, 111, 114]⟩) ∧ ∃ cs T, w' = w.alloc (.cells cs T) := by
  obtain ⟨ha, hb⟩ := hn
  by_cases h0 : n < 0
  · have hk := idx1_neg n 6 h h0
    clear h
    go_enter Try.func10, Try.ntmps10
    go_wp2
    go_ret
    exact ⟨rfl, _, _, rfl⟩
  · have hk := idx1_pos n 6 h h0
    have h0' : 0 ≤ n := by omega
    clear h h0
    go_enter Try.func10, Try.ntmps10
    go_wp2
    go_ret
    exact ⟨rfl, _, _, rfl⟩

set_option maxHeartbeats 400000 in
theorem ops1_7 (n : Int) (w : World) (hn : -9223372036854775808 ≤ n ∧ n ≤ 9223372036854775807) (h : idx1 n = 7) : Calls Try.prog 10 #[.int .i64 n] w fun e w' => e = .returned (.string ⟨#[69, 120, 112]⟩) ∧ ∃ cs T, w' = w.alloc (.cells cs T) := by
  obtain ⟨ha, hb⟩ := hn
  by_cases h0 : n < 0
  · have hk := idx1_neg n 7 h h0
    clear h
    go_enter Try.func10, Try.ntmps10
    go_wp2
    go_ret
    exact ⟨rfl, _, _, rfl⟩
  · have hk := idx1_pos n 7 h h0
    have h0' : 0 ≤ n := by omega
    clear h h0
    go_enter Try.func10, Try.ntmps10
    go_wp2
    go_ret
    exact ⟨rfl, _, _, rfl⟩

set_option maxHeartbeats 400000 in
theorem ops1_8 (n : Int) (w : World) (hn : -9223372036854775808 ≤ n ∧ n ≤ 9223372036854775807) (h : idx1 n = 8) : Calls Try.prog 10 #[.int .i64 n] w fun e w' => e = .returned (.string ⟨#[83, 105, 103, 109, 111, 105, 100]⟩) ∧ ∃ cs T, w' = w.alloc (.cells cs T) := by
  obtain ⟨ha, hb⟩ := hn
  by_cases h0 : n < 0
  · have hk := idx1_neg n 8 h h0
    clear h
    go_enter Try.func10, Try.ntmps10
    go_wp2
    go_ret
    exact ⟨rfl, _, _, rfl⟩
  · have hk := idx1_pos n 8 h h0
    have h0' : 0 ≤ n := by omega
    clear h h0
    go_enter Try.func10, Try.ntmps10
    go_wp2
    go_ret
    exact ⟨rfl, _, _, rfl⟩

set_option maxHeartbeats 400000 in
theorem ops1_9 (n : Int) (w : World) (hn : -9223372036854775808 ≤ n ∧ n ≤ 9223372036854775807) (h : idx1 n = 9) : Calls Try.prog 10 #[.int .i64 n] w fun e w' => e = .returned (.string ⟨#[84, 97, 110, 104]⟩) ∧ ∃ cs T, w' = w.alloc (.cells cs T) := by
  obtain ⟨ha, hb⟩ := hn
  by_cases h0 : n < 0
  · have hk := idx1_neg n 9 h h0
    clear h
    go_enter Try.func10, Try.ntmps10
    go_wp2
    go_ret
    exact ⟨rfl, _, _, rfl⟩
  · have hk := idx1_pos n 9 h h0
    have h0' : 0 ≤ n := by omega
    clear h h0
    go_enter Try.func10, Try.ntmps10
    go_wp2
    go_ret
    exact ⟨rfl, _, _, rfl⟩

end Go.Proofs.Ytnfojegbkompmaa
