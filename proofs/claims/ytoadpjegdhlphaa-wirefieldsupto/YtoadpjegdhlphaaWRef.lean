/- The document's numbers and fields, by the walk. -/
import Derived.Test.YtoadpjegdhlphaaWOwn
namespace Go.Proofs.Ytoadpjegdhlphaa
open Go.RowKit

theorem wrap_grp (u c i : Nat) (hi : i ≤ 9) (hu : u < 128 ^ i) (h9 : i = 9 → c ≤ 1) : IntKind.u64.wrap ((u : Int) + IntKind.u64.wrap ((c : Int) % 128 * 2 ^ (7 * i))) = ((u + c % 128 * 128 ^ i : Nat) : Int) := by
  have h2 : u + c % 128 * 128 ^ i < 18446744073709551616 := by
    by_cases h : i ≤ 8
    · have h1 := grp_lt (b := c) h hu
      have h2 := pow_le_9 (i := i + 1) (by omega)
      omega
    · obtain rfl : i = 9 := by omega
      have := h9 rfl
      simp at hu
      omega
  have e : (c : Int) % 128 * 2 ^ (7 * i) = ((c % 128 * 128 ^ i : Nat) : Int) := by rw [← pow_128]; simp
  rw [e, IntKind.wrap_u64, IntKind.wrap_u64, Int.emod_eq_of_lt (b := 18446744073709551616) (a := ((c % 128 * 128 ^ i : Nat) : Int)) (by omega) (by omega), Int.emod_eq_of_lt (by omega) (by omega)]
  omega

theorem wrap_9 (u c : Nat) (hu : u < 128 ^ 9) (hc : c ≤ 1) : IntKind.u64.wrap ((u : Int) + (c : Int) % 128 * 9223372036854775808) = ((u + c * 128 ^ 9 : Nat) : Int) := by
  simp at hu
  rw [IntKind.wrap_u64, Int.emod_eq_of_lt (by omega) (by omega)]
  simp
  omega

theorem last_grp {s : ByteArray} {p u : Nat} (ht : tk s p = tkF s p (10 - 9) 9 u) (hin : p + 9 < s.size) (hu : u < 128 ^ 9) (hc : bt s (p + 9) ≤ 1) :
    ∃ X : Nat, IntKind.u64.wrap ((u : Int) + (bt s (p + 9) : Int) % 128 * 9223372036854775808) = (X : Int) ∧ tk s p = some (X, p + 9 + 1) :=
  ⟨_, wrap_9 u _ hu hc, by rw [ht]; exact tkF_done hin (by omega) (by omega)⟩

set_option maxRecDepth 100000 in
set_option maxHeartbeats 1600000 in
theorem reftake_any (s : ByteArray) (p : Nat) (w : World) (hs : s.size ≤ 140737488355328) (hp : p ≤ s.size) :
    Calls Try.prog 22 #[.string s, .int .i64 p] w fun e w' => e = .returned (.tuple #[.int .u64 (tkU s p), .int .i64 (tkN s p), .bool (tkB s p)]) ∧ w' = w := by
  go_enter Try.func22, Try.ntmps22
  go_wp2
  go_loop [7, 8] (fun u i => ∃ k U : Nat, k ≤ 9 ∧ i = .int .i64 k ∧ u = .int .u64 U ∧ U < 128 ^ k ∧ tk s p = tkF s p (10 - k) k U) (fun _ i => 10 - (intOf i).toNat)
  case atStart => exact ⟨0, 0, by omega, rfl, rfl, by simp, rfl⟩
  case round =>
    obtain ⟨k, U, hk, rfl, rfl, hU, htk⟩ := hrel
    have HT := hide htk
    have HU := hide hU
    clear htk hU
    have hbt := bt_lt s (p + k)
    have e1 : 10 - k = 10 - (k + 1) + 1 := by omega
    have HE := hide e1
    clear e1
    by_cases hin : p + k < s.size
    · have hat := bt_at s (p + k) hin
      by_cases h9 : k = 9
      · subst h9
        by_cases hbig : 1 < bt s (p + 9)
        · go_wp2
          go_ret3
          have hn : tk s p = none := by rw [HT.out]; exact tkF_big hbig
          exact ⟨by simp [tkU, tkN, tkB, hn], rfl⟩
        · obtain ⟨X, hX1, hX2⟩ := last_grp (u := U) HT.out hin HU.out (by omega)
          have HO := hide hX1
          have HX := hide hX2
          clear hX1 hX2 HT HU
          go_wp2
          rw [HO.out]
          go_ret3
          exact ⟨by simp [tkU, tkN, tkB, HX.out], rfl⟩
      · have h9' : ((k : Int) == 9) = false := by rw [beq_eq_false_iff_ne]; omega
        have HO := hide (wrap_grp U (bt s (p + k)) k (by omega) HU.out (fun h => absurd h h9))
        by_cases hsm : bt s (p + k) < 128
        · go_wp2
          rw [HO.out]
          go_ret3
          have hn : tk s p = some (U + bt s (p + k) % 128 * 128 ^ k, p + k + 1) := by rw [HT.out, HE.out, tkF_done hin (by omega) hsm, Nat.mod_eq_of_lt hsm]
          exact ⟨by simp [tkU, tkN, tkB, hn], rfl⟩
        · go_wp2
          rw [HO.out]
          go_round
          case rel => exact ⟨k + 1, _, by omega, by go_num, rfl, grp_lt (by omega) HU.out, by rw [HT.out, HE.out, tkF_next hin (by omega) hsm]⟩
          case measure => simp [intOf]; omega
    · go_wp2
      go_ret3
      have hn : tk s p = none := by rw [HT.out]; exact tkF_end (by omega)
      exact ⟨by simp [tkU, tkN, tkB, hn], rfl⟩

set_option maxRecDepth 100000 in
set_option maxHeartbeats 1600000 in
theorem reflow_any (s : ByteArray) (p n : Nat) (w : World) (hs : s.size ≤ 140737488355328) (hp : p + n ≤ s.size) (hn : n ≤ 8) :
    Calls Try.prog 37 #[.string s, .int .i64 p, .int .i64 n] w fun e w' => e = .returned (.int .u64 (low s p n)) ∧ w' = w := by
  go_enter Try.func37, Try.ntmps37
  go_wp2
  go_loop [7, 8] (fun u i => ∃ k : Nat, k ≤ n ∧ i = .int .i64 ((k : Int) - 1) ∧ u = .int .u64 (low s (p + k) (n - k))) (fun _ i => (intOf i + 1).toNat)
  case atStart => exact ⟨n, Nat.le_refl _, rfl, by simp [low]⟩
  case round =>
    obtain ⟨k, hk, rfl, rfl⟩ := hrel
    by_cases h0 : 0 < k
    · obtain ⟨j, rfl⟩ : ∃ j, k = j + 1 := ⟨k - 1, by omega⟩
      have hl := low_lt s (n - (j + 1)) (p + (j + 1))
      have hpw : 256 ^ (n - (j + 1)) ≤ 72057594037927936 := by
        have : n - (j + 1) ≤ 7 := by omega
        have h8 := Nat.pow_le_pow_right (n := 256) (by omega) this
        simpa using h8
      have hlb : low s (p + (j + 1)) (n - (j + 1)) < 72057594037927936 := by omega
      have hat := bt_at s (p + j) (by omega)
      have hbt := bt_lt s (p + j)
      have HS : Hid (low s (p + j) (n - j) = bt s (p + j) + 256 * low s (p + (j + 1)) (n - (j + 1))) := by
        have e : n - j = n - (j + 1) + 1 := by omega
        rw [e, low]; rfl
      clear hl hpw
      go_wp2
      go_round
      case rel => exact ⟨j, by omega, rfl, by rw [HS.out]; go_num⟩
      case measure => simp [intOf]
    · obtain rfl : k = 0 := by omega
      go_wp2
      go_ret
      exact ⟨rfl, rfl⟩
end Go.Proofs.Ytoadpjegdhlphaa
