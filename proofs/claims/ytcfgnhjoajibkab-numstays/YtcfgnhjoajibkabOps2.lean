/- The walk of the statements' list of operators' names 'ops2': which name a number stands for. -/
import Derived.Test.YtcfgnhjoajibkabLive
namespace Go.Proofs.Ytcfgnhjoajibkab
open Go.RowKit

/-- The place of a number in a list of 12. -/
def idx2 (n : Int) : Int := if n < 0 then (-(n + 1)) % 12 else n % 12

theorem idx2_cases (n : Int) : idx2 n = 0 ∨ idx2 n = 1 ∨ idx2 n = 2 ∨ idx2 n = 3 ∨ idx2 n = 4 ∨ idx2 n = 5 ∨ idx2 n = 6 ∨ idx2 n = 7 ∨ idx2 n = 8 ∨ idx2 n = 9 ∨ idx2 n = 10 ∨ idx2 n = 11 := by
  unfold idx2; split <;> omega

theorem idx2_pos (n k : Int) (h : idx2 n = k) (h0 : ¬ n < 0) : n % 12 = k := by rw [← h]; unfold idx2; rw [if_neg h0]
theorem idx2_neg (n k : Int) (h : idx2 n = k) (h0 : n < 0) : (n + 1).tmod 12 = -k := by
  rw [← h]; unfold idx2; rw [if_pos h0]
  have e : (n + 1).tmod 12 = -((-(n + 1)).tmod 12) := by rw [Int.neg_tmod]; omega
  rw [e, Int.tmod_eq_emod_of_nonneg (by omega)]

set_option maxHeartbeats 400000 in
theorem ops2_0 (n : Int) (w : World) (hn : -9223372036854775808 ≤ n ∧ n ≤ 9223372036854775807) (h : idx2 n = 0) : Calls Try.prog 19 #[.int .i64 n] w fun e w' => e = .returned (.string ⟨#[65, 100, 100]⟩) ∧ ∃ cs T, w' = w.alloc (.cells cs T) := by
  obtain ⟨ha, hb⟩ := hn
  by_cases h0 : n < 0
  · have hk := idx2_neg n 0 h h0
    clear h
    go_enter Try.func19, Try.ntmps19
    go_wp2
    go_ret
    exact ⟨rfl, _, _, rfl⟩
  · have hk := idx2_pos n 0 h h0
    have h0' : 0 ≤ n := by omega
    clear h h0
    go_enter Try.func19, Try.ntmps19
    go_wp2
    go_ret
    exact ⟨rfl, _, _, rfl⟩

set_option maxHeartbeats 400000 in
theorem ops2_1 (n : Int) (w : World) (hn : -9223372036854775808 ≤ n ∧ n ≤ 9223372036854775807) (h : idx2 n = 1) : Calls Try.prog 19 #[.int .i64 n] w fun e w' => e = .returned (.string ⟨#[83, 117, 98]⟩) ∧ ∃ cs T, w' = w.alloc (.cells cs T) := by
  obtain ⟨ha, hb⟩ := hn
  by_cases h0 : n < 0
  · have hk := idx2_neg n 1 h h0
    clear h
    go_enter Try.func19, Try.ntmps19
    go_wp2
    go_ret
    exact ⟨rfl, _, _, rfl⟩
  · have hk := idx2_pos n 1 h h0
    have h0' : 0 ≤ n := by omega
    clear h h0
    go_enter Try.func19, Try.ntmps19
    go_wp2
    go_ret
    exact ⟨rfl, _, _, rfl⟩

set_option maxHeartbeats 400000 in
theorem ops2_2 (n : Int) (w : World) (hn : -9223372036854775808 ≤ n ∧ n ≤ 9223372036854775807) (h : idx2 n = 2) : Calls Try.prog 19 #[.int .i64 n] w fun e w' => e = .returned (.string ⟨#[77, 117, 108]⟩) ∧ ∃ cs T, w' = w.alloc (.cells cs T) := by
  obtain ⟨ha, hb⟩ := hn
  by_cases h0 : n < 0
  · have hk := idx2_neg n 2 h h0
    clear h
    go_enter Try.func19, Try.ntmps19
    go_wp2
    go_ret
    exact ⟨rfl, _, _, rfl⟩
  · have hk := idx2_pos n 2 h h0
    have h0' : 0 ≤ n := by omega
    clear h h0
    go_enter Try.func19, Try.ntmps19
    go_wp2
    go_ret
    exact ⟨rfl, _, _, rfl⟩

set_option maxHeartbeats 400000 in
theorem ops2_3 (n : Int) (w : World) (hn : -9223372036854775808 ≤ n ∧ n ≤ 9223372036854775807) (h : idx2 n = 3) : Calls Try.prog 19 #[.int .i64 n] w fun e w' => e = .returned (.string ⟨#[68, 105, 118]⟩) ∧ ∃ cs T, w' = w.alloc (.cells cs T) := by
  obtain ⟨ha, hb⟩ := hn
  by_cases h0 : n < 0
  · have hk := idx2_neg n 3 h h0
    clear h
    go_enter Try.func19, Try.ntmps19
    go_wp2
    go_ret
    exact ⟨rfl, _, _, rfl⟩
  · have hk := idx2_pos n 3 h h0
    have h0' : 0 ≤ n := by omega
    clear h h0
    go_enter Try.func19, Try.ntmps19
    go_wp2
    go_ret
    exact ⟨rfl, _, _, rfl⟩

set_option maxHeartbeats 400000 in
theorem ops2_4 (n : Int) (w : World) (hn : -9223372036854775808 ≤ n ∧ n ≤ 9223372036854775807) (h : idx2 n = 4) : Calls Try.prog 19 #[.int .i64 n] w fun e w' => e = .returned (.string ⟨#[77, 97, 120]⟩) ∧ ∃ cs T, w' = w.alloc (.cells cs T) := by
  obtain ⟨ha, hb⟩ := hn
  by_cases h0 : n < 0
  · have hk := idx2_neg n 4 h h0
    clear h
    go_enter Try.func19, Try.ntmps19
    go_wp2
    go_ret
    exact ⟨rfl, _, _, rfl⟩
  · have hk := idx2_pos n 4 h h0
    have h0' : 0 ≤ n := by omega
    clear h h0
    go_enter Try.func19, Try.ntmps19
    go_wp2
    go_ret
    exact ⟨rfl, _, _, rfl⟩

set_option maxHeartbeats 400000 in
theorem ops2_5 (n : Int) (w : World) (hn : -9223372036854775808 ≤ n ∧ n ≤ 9223372036854775807) (h : idx2 n = 5) : Calls Try.prog 19 #[.int .i64 n] w fun e w' => e = .returned (.string ⟨#[77, 105, 110]⟩) ∧ ∃ cs T, w' = w.alloc (.cells cs T) := by
  obtain ⟨ha, hb⟩ := hn
  by_cases h0 : n < 0
  · have hk := idx2_neg n 5 h h0
    clear h
    go_enter Try.func19, Try.ntmps19
    go_wp2
    go_ret
    exact ⟨rfl, _, _, rfl⟩
  · have hk := idx2_pos n 5 h h0
    have h0' : 0 ≤ n := by omega
    clear h h0
    go_enter Try.func19, Try.ntmps19
    go_wp2
    go_ret
    exact ⟨rfl, _, _, rfl⟩

set_option maxHeartbeats 400000 in
theorem ops2_6 (n : Int) (w : World) (hn : -9223372036854775808 ≤ n ∧ n ≤ 9223372036854775807) (h : idx2 n = 6) : Calls Try.prog 19 #[.int .i64 n] w fun e w' => e = .returned (.string ⟨#[65, 110, 100]⟩) ∧ ∃ cs T, w' = w.alloc (.cells cs T) := by
  obtain ⟨ha, hb⟩ := hn
  by_cases h0 : n < 0
  · have hk := idx2_neg n 6 h h0
    clear h
    go_enter Try.func19, Try.ntmps19
    go_wp2
    go_ret
    exact ⟨rfl, _, _, rfl⟩
  · have hk := idx2_pos n 6 h h0
    have h0' : 0 ≤ n := by omega
    clear h h0
    go_enter Try.func19, Try.ntmps19
    go_wp2
    go_ret
    exact ⟨rfl, _, _, rfl⟩

set_option maxHeartbeats 400000 in
theorem ops2_7 (n : Int) (w : World) (hn : -9223372036854775808 ≤ n ∧ n ≤ 9223372036854775807) (h : idx2 n = 7) : Calls Try.prog 19 #[.int .i64 n] w fun e w' => e = .returned (.string ⟨#[79, 114]⟩) ∧ ∃ cs T, w' = w.alloc (.cells cs T) := by
  obtain ⟨ha, hb⟩ := hn
  by_cases h0 : n < 0
  · have hk := idx2_neg n 7 h h0
    clear h
    go_enter Try.func19, Try.ntmps19
    go_wp2
    go_ret
    exact ⟨rfl, _, _, rfl⟩
  · have hk := idx2_pos n 7 h h0
    have h0' : 0 ≤ n := by omega
    clear h h0
    go_enter Try.func19, Try.ntmps19
    go_wp2
    go_ret
    exact ⟨rfl, _, _, rfl⟩

set_option maxHeartbeats 400000 in
theorem ops2_8 (n : Int) (w : World) (hn : -9223372036854775808 ≤ n ∧ n ≤ 9223372036854775807) (h : idx2 n = 8) : Calls Try.prog 19 #[.int .i64 n] w fun e w' => e = .returned (.string ⟨#[88, 111, 114]⟩) ∧ ∃ cs T, w' = w.alloc (.cells cs T) := by
  obtain ⟨ha, hb⟩ := hn
  by_cases h0 : n < 0
  · have hk := idx2_neg n 8 h h0
    clear h
    go_enter Try.func19, Try.ntmps19
    go_wp2
    go_ret
    exact ⟨rfl, _, _, rfl⟩
  · have hk := idx2_pos n 8 h h0
    have h0' : 0 ≤ n := by omega
    clear h h0
    go_enter Try.func19, Try.ntmps19
    go_wp2
    go_ret
    exact ⟨rfl, _, _, rfl⟩

set_option maxHeartbeats 400000 in
theorem ops2_9 (n : Int) (w : World) (hn : -9223372036854775808 ≤ n ∧ n ≤ 9223372036854775807) (h : idx2 n = 9) : Calls Try.prog 19 #[.int .i64 n] w fun e w' => e = .returned (.string ⟨#[69, 113, 117, 97, 108]⟩) ∧ ∃ cs T, w' = w.alloc (.cells cs T) := by
  obtain ⟨ha, hb⟩ := hn
  by_cases h0 : n < 0
  · have hk := idx2_neg n 9 h h0
    clear h
    go_enter Try.func19, Try.ntmps19
    go_wp2
    go_ret
    exact ⟨rfl, _, _, rfl⟩
  · have hk := idx2_pos n 9 h h0
    have h0' : 0 ≤ n := by omega
    clear h h0
    go_enter Try.func19, Try.ntmps19
    go_wp2
    go_ret
    exact ⟨rfl, _, _, rfl⟩

set_option maxHeartbeats 400000 in
theorem ops2_10 (n : Int) (w : World) (hn : -9223372036854775808 ≤ n ∧ n ≤ 9223372036854775807) (h : idx2 n = 10) : Calls Try.prog 19 #[.int .i64 n] w fun e w' => e = .returned (.string ⟨#[76, 101, 115, 115]⟩) ∧ ∃ cs T, w' = w.alloc (.cells cs T) := by
  obtain ⟨ha, hb⟩ := hn
  by_cases h0 : n < 0
  · have hk := idx2_neg n 10 h h0
    clear h
    go_enter Try.func19, Try.ntmps19
    go_wp2
    go_ret
    exact ⟨rfl, _, _, rfl⟩
  · have hk := idx2_pos n 10 h h0
    have h0' : 0 ≤ n := by omega
    clear h h0
    go_enter Try.func19, Try.ntmps19
    go_wp2
    go_ret
    exact ⟨rfl, _, _, rfl⟩

set_option maxHeartbeats 400000 in
theorem ops2_11 (n : Int) (w : World) (hn : -9223372036854775808 ≤ n ∧ n ≤ 9223372036854775807) (h : idx2 n = 11) : Calls Try.prog 19 #[.int .i64 n] w fun e w' => e = .returned (.string ⟨#[71, 114, 101, 97, 116, 101, 114]⟩) ∧ ∃ cs T, w' = w.alloc (.cells cs T) := by
  obtain ⟨ha, hb⟩ := hn
  by_cases h0 : n < 0
  · have hk := idx2_neg n 11 h h0
    clear h
    go_enter Try.func19, Try.ntmps19
    go_wp2
    go_ret
    exact ⟨rfl, _, _, rfl⟩
  · have hk := idx2_pos n 11 h h0
    have h0' : 0 ≤ n := by omega
    clear h h0
    go_enter Try.func19, Try.ntmps19
    go_wp2
    go_ret
    exact ⟨rfl, _, _, rfl⟩

end Go.Proofs.Ytcfgnhjoajibkab
