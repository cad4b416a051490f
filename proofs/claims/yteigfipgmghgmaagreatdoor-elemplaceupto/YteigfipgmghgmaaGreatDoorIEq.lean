/- Are two lists alike: slices.Equal, by the walk. -/
import Derived.Test.YteigfipgmghgmaaGreatDoorIDim5
namespace Go.Proofs.YteigfipgmghgmaaGreatDoor
open Go.RowKit

theorem list_ne {a b : List Int} {k : Nat} (_hk : k < a.length) (_hl : a.length = b.length) (h : a.getD k 0 ≠ b.getD k 0) : a ≠ b := by
  rintro rfl
  exact h rfl

theorem list_eq {a b : List Int} (hl : a.length = b.length) (h : ∀ t, t < a.length → a.getD t 0 = b.getD t 0) : a = b := by
  refine List.ext_getElem hl fun i h1 h2 => ?_
  have := h i h1
  simpa [List.getD, h1, h2] using this

set_option maxRecDepth 100000 in
set_option maxHeartbeats 1000000 in
theorem equal_any (u v : Sl) (a b : List Int) (w : World) (ha : IsInts w u.v a) (hb : IsInts w v.v b) : Calls Tryz.prog 41 #[.slice u.a u.n u.c, .slice v.a v.n v.c] w fun e w' => e = .returned (.bool (decide (a = b))) ∧ ∃ n, w' = w.drewN n := by
  obtain ⟨ux, uc, eu, c1, c2, c3⟩ := ha.sl
  obtain ⟨ua, un, uu⟩ := u
  simp only [Sl.v, Value.slice.injEq] at eu
  obtain ⟨rfl, rfl, rfl⟩ := eu
  obtain ⟨vx, vc, ev, d1, d2, d3⟩ := hb.sl
  obtain ⟨va, vn, vv⟩ := v
  simp only [Sl.v, Value.slice.injEq] at ev
  obtain ⟨rfl, rfl, rfl⟩ := ev
  simp only
  have HA := hide ha
  have HB := hide hb
  clear ha hb
  by_cases hl : a.length = b.length
  · have b0 : ((a.length : Int) != (b.length : Int)) = false := by simp [hl]
    have HL := hide hl
    clear hl
    go_enter Tryz.func41, Tryz.ntmps41
    go_wp2
    go_loopw [13] (fun i wr => ∃ k n : Nat, k ≤ a.length ∧ i = .int .i64 k ∧ (∀ t, t < k → a.getD t 0 = b.getD t 0) ∧ wr = w.drewN n) (fun i _ => a.length - (intOf i).toNat)
    case atStart => exact ⟨0, 0, Nat.zero_le _, rfl, fun t h => absurd h (by omega), rfl⟩
    case round =>
      obtain ⟨k, n, hk, rfl, hp, rfl⟩ := hrel
      have HP := hide hp
      clear hp
      by_cases hkl : k < a.length
      · have hkb : k < b.length := by have := HL.out; omega
        obtain ⟨ab, ao, rfl, hca⟩ := HA.out.get hkl
        obtain ⟨bb, bo, rfl, hcb⟩ := HB.out.get hkb
        have gq : w.grownBy (w.drewN n) none := ⟨rfl, rfl, rfl, Nat.le_refl _, fun k hk hn => rfl⟩
        have h1 := cell_still (hca k hkl) gq
        have h2 := cell_still (hcb k hkb) gq
        have i1 : (k : Int) < (a.length : Int) := by omega
        have i2 : (k : Int) < (b.length : Int) := by omega
        obtain ⟨p, hp⟩ : ∃ p, p = a.getD k 0 := ⟨_, rfl⟩
        obtain ⟨q, hq⟩ : ∃ q, q = b.getD k 0 := ⟨_, rfl⟩
        rw [← hp] at h1
        rw [← hq] at h2
        have HPP := hide hp
        have HQQ := hide hq
        obtain ⟨wq, hwq⟩ : ∃ wq, wq = w.drewN n := ⟨_, rfl⟩
        rw [← hwq] at h1 h2 ⊢
        have HW := hide hwq
        clear hp hq hca hcb gq hwq
        by_cases hd : p = q
        · have bd : (p != q) = false := by simp [hd]
          have HD := hide hd
          clear hd
          go_wp2_with fail
          go_quiet (fail)
          go_wp2_with fail
          go_roundw
          case rel =>
            refine ⟨k + 1, n + nq, by omega, by go_num, fun t ht => ?_, by rw [HW.out]; simp [World.drewN, Nat.add_assoc]⟩
            rcases lt_succ_cases ht with h | rfl
            · exact HP.out t h
            · rw [← HPP.out, ← HQQ.out]; exact HD.out
          case measure => simp [intOf]; omega
        · have bd : (p != q) = true := by simpa using hd
          have E : Hid (decide (a = b) = false) := by show _ = _; exact decide_eq_false (list_ne hkl HL.out (by rw [← HPP.out, ← HQQ.out]; exact hd))
          clear hd
          go_wp2_with fail
          go_quiet (fail)
          go_wp2
          go_ret
          exact ⟨by rw [E.out]; rfl, n + nq, by rw [HW.out]; simp [World.drewN, Nat.add_assoc]⟩
      · have E : Hid (decide (a = b) = true) := by show _ = _; exact decide_eq_true (list_eq HL.out (fun t ht => HP.out t (by omega)))
        go_wp2
        go_ret
        exact ⟨by rw [E.out]; rfl, n, rfl⟩
  · have b0 : ((a.length : Int) != (b.length : Int)) = true := by simpa using (fun h => hl (by omega) : ¬ (a.length : Int) = b.length)
    have E : Hid (decide (a = b) = false) := by show _ = _; exact decide_eq_false (fun h => hl (by rw [h]))
    clear hl
    go_enter Tryz.func41, Tryz.ntmps41
    go_wp2
    go_ret
    exact ⟨by rw [E.out]; rfl, 0, rfl⟩
end Go.Proofs.YteigfipgmghgmaaGreatDoor
