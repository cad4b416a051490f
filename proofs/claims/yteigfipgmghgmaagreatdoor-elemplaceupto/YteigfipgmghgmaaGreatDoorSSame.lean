/- The document's Count and the comparison of two lists, by the walk. -/
import Derived.Test.YteigfipgmghgmaaGreatDoorSCount
namespace Go.Proofs.YteigfipgmghgmaaGreatDoor
open Go.RowKit

theorem refcount_any (v : Value) (zs : List Int) (w : World) (h : IsInts w v zs) :
    Calls Tryz.prog 17 #[v] w fun e w' => e = .returned (.tuple #[.int .i64 (cnt zs), .int .i64 (cntE zs)]) ∧ w = w' := by
  obtain ⟨ao, cap, rfl, h1, h2, h3, h4, h5, h6⟩ := h
  go_enter Tryz.func17, Tryz.ntmps17
  go_wp2
  go_loopw [4] (fun i wr => wr = w ∧ ∃ k : Nat, k ≤ zs.length ∧ i = .int .i64 k ∧ ∀ t, t < k → 1 ≤ zs.getD t 0) (fun i _ => zs.length - (intOf i).toNat)
  case atStart => exact ⟨rfl, 0, Nat.zero_le _, rfl, fun t h => absurd h (by omega)⟩
  case round =>
    obtain ⟨hw, k, hk, rfl, hp⟩ := hrel
    subst hw
    have HP : Hid (∀ t, t < k → 1 ≤ zs.getD t 0) := hp
    clear hp
    by_cases hkl : k < zs.length
    · obtain ⟨b, off, rfl, hc⟩ := h5 (by omega)
      obtain ⟨z, hz⟩ : ∃ z, z = zs.getD k 0 := ⟨_, rfl⟩
      have hcell := hc k hkl
      rw [← hz] at hcell
      have HZ : Hid (z = zs.getD k 0) := hz
      clear hz hc
      by_cases hz1 : z < 1
      · have HE : Hid (cntE zs = 4) := cntE_low (exists_low hkl HZ.out hz1)
        go_wp2
        go_ret2
        exact ⟨ret_err HE.out (by decide), rfl⟩
      · go_wp2
        go_roundw
        case rel =>
          refine ⟨by trivial, k + 1, by omega, by go_num, fun t ht => ?_⟩
          rcases lt_succ_cases ht with h | rfl
          · exact HP.out t h
          · have := HZ.out; omega
        case measure => simp [intOf]; omega
    · have hp : ∀ z ∈ zs, 1 ≤ z := all_of (fun t ht => HP.out t (by omega))
      have hP : Hid (∀ z ∈ zs, 1 ≤ z) := hp
      clear HP hp
      by_cases h7 : 6 < zs.length
      · have HE : Hid (cntE zs = 6) := cntE_many hP.out h7
        go_wp2
        go_ret2
        exact ⟨ret_err HE.out (by decide), rfl⟩
      · go_wp2
        go_loopw [5, 6] (fun n i w' => w' = wr ∧ ∃ k : Nat, k ≤ zs.length ∧ i = .int .i64 k ∧ n = .int .i64 (prod (zs.take k)) ∧ prod (zs.take k) ≤ 65536) (fun _ i _ => zs.length - (intOf i).toNat)
        case atStart => exact ⟨rfl, 0, Nat.zero_le _, rfl, by simp [prod], by simp [prod]⟩
        case round =>
          obtain ⟨hw, j, hj, rfl, hn, hle⟩ := hrel
          subst hw
          have hp1 := prod_pos _ (pos_take hP.out j)
          obtain ⟨p, hpd⟩ : ∃ p, p = prod (zs.take j) := ⟨_, rfl⟩
          rw [← hpd] at hn hle hp1
          subst hn
          have HPD : Hid (p = prod (zs.take j)) := hpd
          clear hpd
          by_cases hjl : j < zs.length
          · obtain ⟨b, off, rfl, hc⟩ := h5 (by omega)
            have hst := prod_take_step zs j hjl
            have hd1 : 1 ≤ zs.getD j 0 := hP.out _ (by rw [List.getD, List.getElem?_eq_getElem (by omega)]; simp)
            have hcell := hc j hjl
            rw [← HPD.out] at hst
            obtain ⟨d, hd⟩ : ∃ d, d = zs.getD j 0 := ⟨_, rfl⟩
            rw [← hd] at hcell hd1 hst
            have HST : Hid (prod (zs.take (j + 1)) = p * d) := hst
            clear hst hd hc
            have hall : Hid (65536 < p * d → cntE zs = 6) := fun ht => cntE_great hP.out (by
                have h2 := prod_take_le hP.out (j + 1)
                rw [HST.out] at h2
                omega)
            have hpd : d ≤ p * d := le_mul_left hp1 (by omega)
            by_cases ht : 65536 < d
            · go_wp2
              go_ret2
              exact ⟨ret_err (hall.out (by omega)) (by decide), rfl⟩
            · have hsm : p * d ≤ 65536 * 65536 := Int.mul_le_mul (by omega) (by omega) (by omega) (by omega)
              by_cases ht2 : 65536 < p * d
              · go_wp2
                go_ret2
                exact ⟨ret_err (hall.out ht2) (by decide), rfl⟩
              · go_wp2
                go_roundw
                case rel => exact ⟨by trivial, j + 1, by omega, by go_num, by rw [HST.out], by rw [HST.out]; omega⟩
                case measure => simp [intOf]; omega
          · have HT : Hid (p = prod zs) := by show p = prod zs; have := HPD.out; rw [List.take_of_length_le (by omega)] at this; exact this
            have HE : Hid (Fine zs) := ⟨hP.out, by omega, by have := HT.out; omega⟩
            have HN : Hid (p = cnt zs) := by show p = cnt zs; rw [HE.out.cnt]; exact HT.out
            go_wp2
            go_ret2
            exact ⟨by rw [HE.out.ok, ← HN.out]; rfl, rfl⟩

theorem list_eq_of {a b : List Int} (hl : a.length = b.length) (h : ∀ t, t < a.length → a.getD t 0 = b.getD t 0) : a = b := by
  apply List.ext_getElem hl
  intro t h1 h2
  have := h t h1
  simpa [List.getD, h1, h2] using this

theorem same_any (v u : Value) (xs ys : List Int) (w : World) (ha : IsInts w v xs) (hb : IsInts w u ys) :
    Calls Tryz.prog 15 #[v, u] w fun e w' => e = .returned (.bool (decide (xs = ys))) ∧ w.grownBy w' none := by
  have ha0 : Hid (IsInts w v xs) := ha
  have hb0 : Hid (IsInts w u ys) := hb
  obtain ⟨ao, acap, rfl, ha1, ha2, ha3, -, -, -⟩ := ha
  obtain ⟨bo, bcap, rfl, hb1, hb2, hb3, -, -, -⟩ := hb
  by_cases hl : xs.length = ys.length
  · have hl' : ((xs.length : Int) == (ys.length : Int)) = true := by simp [hl]
    have HL : Hid (xs.length = ys.length) := hl
    clear hl
    go_enter Tryz.func15, Tryz.ntmps15
    go_wp2
    go_loopw [5] (fun i wr => w.grownBy wr none ∧ ∃ k : Nat, k ≤ xs.length ∧ i = .int .i64 k ∧ ∀ t, t < k → xs.getD t 0 = ys.getD t 0) (fun i _ => xs.length - (intOf i).toNat)
    case atStart => exact ⟨grown_refl _, 0, Nat.zero_le _, rfl, fun t h => absurd h (by omega)⟩
    case round =>
      obtain ⟨hw, k, hk, rfl, hp⟩ := hrel
      have HP : Hid (∀ t, t < k → xs.getD t 0 = ys.getD t 0) := hp
      clear hp
      by_cases hkl : k < xs.length
      · obtain ⟨_, _, he, -, -, -, -, h5, -⟩ := ha0.out.more hw
        obtain ⟨b, off, ho, hc⟩ := h5 (by omega)
        obtain ⟨_, _, he', -, -, -, -, h5', -⟩ := hb0.out.more hw
        have hbl : k < ys.length := by have := HL.out; omega
        obtain ⟨b', off', ho', hc'⟩ := h5' (by omega)
        simp only [Value.slice.injEq, true_and] at he he'
        obtain ⟨rfl, rfl⟩ := he
        obtain ⟨rfl, rfl⟩ := he'
        subst ho ho'
        obtain ⟨z, hz⟩ : ∃ z, z = xs.getD k 0 := ⟨_, rfl⟩
        obtain ⟨y, hy⟩ : ∃ y, y = ys.getD k 0 := ⟨_, rfl⟩
        have hcell := hc k hkl
        have hcell' := hc' k hbl
        rw [← hz] at hcell
        rw [← hy] at hcell'
        have HZ : Hid (z = xs.getD k 0) := hz
        have HY : Hid (y = ys.getD k 0) := hy
        clear hz hc hy hc'
        by_cases hzy : z = y
        · have hzy' : (z == y) = true := by simp [hzy]
          have HE : Hid (z = y) := hzy
          clear hzy h5 h5'
          go_wp2
          go_region
          all_goals go_wp2
          all_goals
            go_roundw
            case rel =>
              refine ⟨grown_drew hw, k + 1, by omega, by go_num, fun t ht => ?_⟩
              rcases lt_succ_cases ht with h | rfl
              · exact HP.out t h
              · have := HZ.out; have := HY.out; have := HE.out; omega
            case measure => simp [intOf]; omega
        · have hzy' : (z == y) = false := by simp [hzy]
          have HE : Hid (xs ≠ ys) := fun h => hzy (by rw [HZ.out, HY.out, h])
          clear hzy h5 h5'
          go_wp2
          go_region
          all_goals go_wp2
          all_goals go_ret
          all_goals exact ⟨by rw [decide_eq_false HE.out]; rfl, grown_drew hw⟩
      · have HE : Hid (xs = ys) := list_eq_of HL.out (fun t ht => HP.out t (by omega))
        go_wp2
        go_ret
        exact ⟨by rw [decide_eq_true HE.out]; rfl, hw⟩
  · have hl' : ((xs.length : Int) == (ys.length : Int)) = false := by simp; omega
    have HE : Hid (xs ≠ ys) := fun h => hl (by rw [h])
    clear hl
    go_enter Tryz.func15, Tryz.ntmps15
    go_wp2
    go_ret
    exact ⟨by rw [decide_eq_false HE.out]; rfl, grown_refl _⟩
end Go.Proofs.YteigfipgmghgmaaGreatDoor
