/- The document's test of an order of dimensions, by the walk. -/
import Derived.Test.YtankpkbneojgdaaVInvP
import Derived.Test.YtankpkbneojgdaaVRSpread
import Derived.Test.YtankpkbneojgdaaVShape
import Derived.Deep.LoopGhost
namespace Go.Proofs.Ytankpkbneojgdaa
open Go.RowKit

theorem perm_all : ∀ (n : Nat) (perm : List Int), perm.length = n → (∀ i : Nat, i < n → (i : Int) ∈ perm) → IsPerm perm n
  | 0, perm, hl, _ => by
    obtain rfl : perm = [] := List.length_eq_zero_iff.1 hl
    exact ⟨rfl, fun p hp => by simp at hp, List.nodup_nil⟩
  | n + 1, perm, hl, h => by
    have hm := h n (by omega)
    have ih := perm_all n (perm.erase n) (by rw [List.length_erase_of_mem hm, hl]; rfl) (fun i hi => (List.mem_erase_of_ne (by omega)).2 (h i (by omega)))
    have hp := List.perm_cons_erase hm
    refine ⟨hl, fun p hpm => ?_, hp.nodup_iff.2 (List.nodup_cons.2 ⟨fun hn => ?_, ih.once⟩)⟩
    · rcases List.mem_cons.1 (hp.mem_iff.1 hpm) with rfl | h2
      · omega
      · have := ih.rng p h2; omega
    · have := ih.rng _ hn; omega

set_option maxRecDepth 100000 in
set_option maxHeartbeats 3200000 in
theorem refperm_any (v : Value) (perm : List Int) (n : Nat) (w : World) (h : IsInts w v perm) (hn : n ≤ 6) :
    Calls Try.prog 19 #[v, .int .i64 n] w (Tells (IsPerm perm n) w) := by
  have HP := hide h
  obtain ⟨pa, pc, rfl, hp1, hp2, hp3, -, -, -⟩ := h
  by_cases hl : perm.length = n
  · have hln : ((perm.length : Int) != (n : Int)) = false := by simp [hl]
    have hl1 : n ≤ perm.length := by omega
    have HLN := hide hl
    clear hl
    go_enter Try.func19, Try.ntmps19
    go_wp2
    go_loopg [5] n (fun f i wr => ∃ k : Nat, f = n - k ∧ k ≤ n ∧ i = .int .i64 k ∧ w.grownBy wr none ∧ ∀ t : Nat, t < k → (t : Int) ∈ perm)
    case atStart => exact ⟨0, rfl, Nat.zero_le _, rfl, grown_refl _, fun t h => absurd h (by omega)⟩
    case round =>
      obtain ⟨k, rfl, hk, rfl, hw, hall⟩ := hrel
      have HA := hide hall
      clear hall
      by_cases hkl : k < n
      · go_wp2
        obtain ⟨wo, rfl⟩ : ∃ wo, wo = wr := ⟨_, rfl⟩
        go_loopg [6, 7] n (fun f b j wx => ∃ (t : Nat) (bb : Bool), f = n - t ∧ t ≤ n ∧ j = .int .i64 t ∧ b = .bool bb ∧ w.grownBy wx none ∧ (bb = true ↔ ∃ s, s < t ∧ perm.getD s 0 = (k : Int)))
        case atStart => exact ⟨0, false, rfl, Nat.zero_le _, rfl, rfl, hw, ⟨fun h => (by cases h), fun ⟨s, h, _⟩ => absurd h (by omega)⟩⟩
        case round =>
          obtain ⟨t, bb, rfl, ht, rfl, rfl, hwx, hbb⟩ := hrel
          have HBB := hide hbb
          clear hbb
          by_cases htl : t < n
          · obtain ⟨b, o, hao, hc⟩ := item_at' (HP.out.more hwx) (show t < perm.length by omega)
            subst hao
            obtain ⟨P, hP⟩ : ∃ P, P = perm.getD t 0 := ⟨_, rfl⟩
            rw [← hP] at hc
            have HPP := hide hP
            clear hP
            cases bb with
            | true =>
              go_wp2
              go_roundg (n - (t + 1))
              case measure => omega
              case rel =>
                obtain ⟨s, h1, h2⟩ := HBB.out.1 (by trivial)
                exact ⟨t + 1, true, rfl, by omega, by go_num, rfl, hwx, ⟨fun _ => ⟨s, by omega, h2⟩, fun _ => rfl⟩⟩
            | false =>
              by_cases hPk : P = (k : Int)
              · have hpk : (P == (k : Int)) = true := by simp [hPk]
                have HPK := hide hPk
                clear hPk
                go_wp2
                go_roundg (n - (t + 1))
                case measure => omega
                case rel => exact ⟨t + 1, true, rfl, by omega, by go_num, rfl, hwx, ⟨fun _ => ⟨t, by omega, HPP.out.symm.trans HPK.out⟩, fun _ => rfl⟩⟩
              · have hpk : (P == (k : Int)) = false := by rw [beq_eq_false_iff_ne]; exact hPk
                have HPK := hide hPk
                clear hPk
                go_wp2
                go_roundg (n - (t + 1))
                case measure => omega
                case rel =>
                  refine ⟨t + 1, false, rfl, by omega, by go_num, rfl, hwx, ⟨fun h => (by cases h), fun ⟨s, h1, h2⟩ => ?_⟩⟩
                  rcases lt_succ_cases h1 with h3 | rfl
                  · exact HBB.out.2 ⟨s, h3, h2⟩
                  · exact absurd (HPP.out.trans h2) HPK.out
          · obtain rfl : t = n := by omega
            cases bb with
            | true =>
              go_wp2
              go_roundg (t - (k + 1))
              case measure => omega
              case rel =>
                refine ⟨k + 1, rfl, by omega, by go_num, hwx, fun s hs => ?_⟩
                rcases lt_succ_cases hs with h3 | rfl
                · exact HA.out s h3
                · obtain ⟨j, h1, h2⟩ := HBB.out.1 (by trivial)
                  rw [← h2, List.getD, List.getElem?_eq_getElem (by omega)]
                  simp
            | false =>
              have HNP : Hid (¬ IsPerm perm t) := fun h => by
                obtain ⟨i, h1, h2⟩ := h.hits k hkl
                have := HBB.out.2 ⟨i, h1, h2⟩
                cases this
              go_wp2
              go_ret
              exact ⟨false, rfl, ⟨fun h => (by cases h), fun h => absurd h HNP.out⟩, hwx⟩
      · obtain rfl : k = n := by omega
        go_wp2
        go_ret
        exact ⟨true, rfl, ⟨fun _ => perm_all k perm HLN.out HA.out, fun _ => rfl⟩, hw⟩
  · have hln : ((perm.length : Int) != (n : Int)) = true := by simp; omega
    have HNP : Hid (¬ IsPerm perm n) := fun h => hl h.len
    clear hl
    go_enter Try.func19, Try.ntmps19
    go_wp2
    go_ret
    exact ⟨false, rfl, ⟨fun h => (by cases h), fun h => absurd h HNP.out⟩, grown_refl _⟩
end Go.Proofs.Ytankpkbneojgdaa
