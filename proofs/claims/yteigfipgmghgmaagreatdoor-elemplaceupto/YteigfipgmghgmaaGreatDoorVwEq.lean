/- slices.Equal of two lists of ints, by the walk. -/
import Derived.Test.YteigfipgmghgmaaGreatDoorSSame
namespace Go.Proofs.YteigfipgmghgmaaGreatDoor.Vw
open Go.RowKit

theorem equal_any (v u : Value) (xs ys : List Int) (w : World) (ha : IsInts w v xs) (hb : IsInts w u ys) :
    Calls Tryz.prog 41 #[v, u] w fun e w' => e = .returned (.bool (decide (xs = ys))) ∧ w.grownBy w' none := by
  have ha0 : Hid (IsInts w v xs) := ha
  have hb0 : Hid (IsInts w u ys) := hb
  obtain ⟨ao, acap, rfl, ha1, ha2, ha3, -, -, -⟩ := ha
  obtain ⟨bo, bcap, rfl, hb1, hb2, hb3, -, -, -⟩ := hb
  by_cases hl : xs.length = ys.length
  · have hl' : ((xs.length : Int) == (ys.length : Int)) = true := by simp [hl]
    have HL : Hid (xs.length = ys.length) := hl
    clear hl
    go_enter Tryz.func41, Tryz.ntmps41
    go_wp2
    go_loopw [13] (fun i wr => w.grownBy wr none ∧ ∃ k : Nat, k ≤ xs.length ∧ i = .int .i64 k ∧ ∀ t, t < k → xs.getD t 0 = ys.getD t 0) (fun i _ => xs.length - (intOf i).toNat)
    case atStart => exact ⟨grown_refl _, 0, Nat.zero_le _, rfl, fun t h => absurd h (by omega)⟩
    case round =>
      obtain ⟨hw, k, hk, rfl, hp⟩ := hrel
      have HP : Hid (∀ t, t < k → xs.getD t 0 = ys.getD t 0) := hp
      clear hp
      by_cases hkl : k < xs.length
      · obtain ⟨_, _, he, -, -, -, -, h5, -⟩ := ha0.out.more hw
        obtain ⟨b, off, ho, hc⟩ := h5 (by omega)
        obtain ⟨_, _, he', -, -, -, -, h5', -⟩ := hb0.out.more hw
        have hbl : k < ys.length := by have := HL.out; omega
        obtain ⟨b', off', ho', hc'⟩ := h5' (by omega)
        simp only [Value.slice.injEq, true_and] at he he'
        obtain ⟨rfl, rfl⟩ := he
        obtain ⟨rfl, rfl⟩ := he'
        subst ho ho'
        obtain ⟨z, hz⟩ : ∃ z, z = xs.getD k 0 := ⟨_, rfl⟩
        obtain ⟨y, hy⟩ : ∃ y, y = ys.getD k 0 := ⟨_, rfl⟩
        have hcell := hc k hkl
        have hcell' := hc' k hbl
        rw [← hz] at hcell
        rw [← hy] at hcell'
        have HZ : Hid (z = xs.getD k 0) := hz
        have HY : Hid (y = ys.getD k 0) := hy
        clear hz hc hy hc'
        by_cases hzy : z = y
        · have hzy' : (z == y) = true := by simp [hzy]
          have HE : Hid (z = y) := hzy
          clear hzy h5 h5'
          go_wp2
          go_region
          all_goals go_wp2
          all_goals
            go_roundw
            case rel =>
              refine ⟨grown_drew hw, k + 1, by omega, by go_num, fun t ht => ?_⟩
              rcases lt_succ_cases ht with h | rfl
              · exact HP.out t h
              · have := HZ.out; have := HY.out; have := HE.out; omega
            case measure => simp [intOf]; omega
        · have hzy' : (z == y) = false := by simp [hzy]
          have HE : Hid (xs ≠ ys) := fun h => hzy (by rw [HZ.out, HY.out, h])
          clear hzy h5 h5'
          go_wp2
          go_region
          all_goals go_wp2
          all_goals go_ret
          all_goals exact ⟨by rw [decide_eq_false HE.out]; rfl, grown_drew hw⟩
      · have HE : Hid (xs = ys) := list_eq_of HL.out (fun t ht => HP.out t (by omega))
        go_wp2
        go_ret
        exact ⟨by rw [decide_eq_true HE.out]; rfl, hw⟩
  · have hl' : ((xs.length : Int) == (ys.length : Int)) = false := by simp; omega
    have HE : Hid (xs ≠ ys) := fun h => hl (by rw [h])
    clear hl
    go_enter Tryz.func41, Tryz.ntmps41
    go_wp2
    go_ret
    exact ⟨by rw [decide_eq_false HE.out]; rfl, grown_refl _⟩
end Go.Proofs.YteigfipgmghgmaaGreatDoor.Vw
