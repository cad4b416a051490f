/- The document's Offset, and its dimension from the back, by the walk. -/
import Derived.Test.YteigfipgmghgmaaGreatDoorSOff
namespace Go.Proofs.YteigfipgmghgmaaGreatDoor
open Go.RowKit

theorem offs_take_step {zs cs : List Int} (hl : cs.length = zs.length) {k : Nat} (hk : k < zs.length) :
    offs (zs.take (k + 1)) (cs.take (k + 1)) = offs (zs.take k) (cs.take k) * zs.getD k 0 + cs.getD k 0 := by
  rw [take_step zs k hk, take_step cs k (by omega), offs_snoc _ _ _ _ (by simp; omega)]

set_option maxHeartbeats 800000 in
theorem refoffset_any (v u : Value) (zs cs : List Int) (w : World) (h : IsInts w v zs) (hu : IsInts w u cs) :
    Calls Tryz.prog 19 #[v, u] w fun e w' => e = .returned (.tuple #[.int .i64 (offN zs cs), .int .i64 (offE zs cs)]) ∧ w.grownBy w' none := by
  have hcount := hide (refcount_any v zs w h)
  have h0 := hide h
  have hu0 := hide hu
  obtain ⟨ao, cap, rfl, h1, h2, h3, -, -, -⟩ := h
  obtain ⟨bo, bcap, rfl, hb1, hb2, hb3, -, -, -⟩ := hu
  by_cases hE : cntE zs = 0
  · have HF := hide (fine_of hE)
    have HE := hide hE
    rw [hE] at hcount
    clear hE
    by_cases hl : cs.length = zs.length
    · have hl' : ((cs.length : Int) != (zs.length : Int)) = false := by simp [hl]
      have HL := hide hl
      have hl1 : zs.length ≤ cs.length := by omega
      have hl2 : cs.length ≤ zs.length := by omega
      clear hl
      go_enter Tryz.func19, Tryz.ntmps19
      go_wp2_with (go_at_call 17; refine hcount.out.mono ?_; rintro e w1 ⟨rfl, rfl⟩)
      go_loopw [8, 9] (fun m i wr => w.grownBy wr none ∧ ∃ (k : Nat), k ≤ zs.length ∧ i = .int .i64 k ∧ m = .int .i64 (offs (zs.take k) (cs.take k)) ∧ ∀ t, t < k → 0 ≤ cs.getD t 0 ∧ cs.getD t 0 < zs.getD t 0) (fun _ i _ => zs.length - (intOf i).toNat)
      case atStart => exact ⟨grown_refl _, 0, Nat.zero_le _, rfl, by simp [offs], fun t h => absurd h (by omega)⟩
      case round =>
        obtain ⟨hw, k, hk, rfl, hm, hin⟩ := hrel
        have hfew := HF.out.few
        have hlt := offs_lt (inside_take HL.out hk hin)
        have hpl := prod_take_le HF.out.pos k
        have hle := HF.out.le
        have HIN := hide hin
        clear hin
        obtain ⟨n, hn⟩ : ∃ n, n = offs (zs.take k) (cs.take k) := ⟨_, rfl⟩
        rw [← hn] at hm hlt
        subst hm
        have HN := hide hn
        have hn1 : 0 ≤ n := hlt.1
        have hn2 : n < prod (zs.take k) := hlt.2
        clear hn hlt
        by_cases hkl : k < zs.length
        · obtain ⟨b, off, rfl⟩ := addr_of h0.out (by omega)
          obtain ⟨b', off', rfl⟩ := addr_of hu0.out (by omega)
          have hcz := item_at (h0.out.more hw) hkl
          have hcc := item_at (hu0.out.more hw) (k := k) (by omega)
          have hds := offs_take_step HL.out hkl
          have hpt := prod_take_step zs k hkl
          have hpl2 := prod_take_le HF.out.pos (k + 1)
          have hd1 := HF.out.at k hkl
          rw [← HN.out] at hds
          obtain ⟨d, hd⟩ : ∃ d, d = zs.getD k 0 := ⟨_, rfl⟩
          obtain ⟨c, hc⟩ : ∃ c, c = cs.getD k 0 := ⟨_, rfl⟩
          rw [← hd] at hcz hds hpt hd1
          rw [← hc] at hcc hds
          have hnd0 : 0 ≤ n * d := Int.mul_nonneg hn1 (by omega)
          have hnd1 : (n + 1) * d ≤ prod (zs.take k) * d := Int.mul_le_mul_of_nonneg_right (by omega) (by omega)
          rw [Int.add_mul, Int.one_mul] at hnd1
          have hnd2 : n * d + d ≤ 65536 := by omega
          have HD := hide hd
          have HC := hide hc
          have HDS := hide hds
          clear hd hc hds hpt hpl2 hnd1 hpl hn2
          by_cases hc0 : c < 0
          · go_wp2
            go_region
            all_goals go_wp2
            all_goals go_ret2
            all_goals exact ⟨ret_off1 HE.out (not_inside hkl HC.out HD.out (Or.inl hc0)), grown_drew hw⟩
          · have hgd : decide (c < 0) = false := decide_eq_false hc0
            by_cases hc1 : d ≤ c
            · go_wp2
              go_region
              all_goals go_wp2
              all_goals go_ret2
              all_goals exact ⟨ret_off1 HE.out (not_inside hkl HC.out HD.out (Or.inr hc1)), grown_drew hw⟩
            · go_wp2
              go_region
              all_goals go_wp2
              go_region
              all_goals go_wp2
              go_roundw
              case rel =>
                have hnew : ∀ t, t < k + 1 → 0 ≤ cs.getD t 0 ∧ cs.getD t 0 < zs.getD t 0 := by
                  intro t ht
                  rcases lt_succ_cases ht with h | rfl
                  · exact HIN.out t h
                  · rw [← HC.out, ← HD.out]; omega
                exact ⟨grown_drew (grown_drew hw), k + 1, by omega, by go_num, by rw [HDS.out], hnew⟩
              case measure => simp [intOf]; omega
        · have HI : Hid (inside zs cs = true) := inside_of HL.out fun t ht => HIN.out t (by omega)
          have HN' : Hid (n = offs zs cs) := by
            show n = _
            have := HN.out
            rw [List.take_of_length_le (show zs.length ≤ k by omega), List.take_of_length_le (show cs.length ≤ k by omega)] at this
            exact this
          clear hpl hn2
          go_wp2
          go_ret2
          exact ⟨ret_off0 HE.out HI.out HN'.out, hw⟩
    · have hl' : ((cs.length : Int) == (zs.length : Int)) = false := by simp; omega
      have HI : Hid (inside zs cs = false) := by
        show _ = _
        rw [Bool.eq_false_iff]
        exact fun h => hl (inside_length h)
      clear hl
      go_enter Tryz.func19, Tryz.ntmps19
      go_wp2_with (go_at_call 17; refine hcount.out.mono ?_; rintro e w1 ⟨rfl, rfl⟩)
      go_ret2
      exact ⟨ret_off1 HE.out HI.out, grown_refl _⟩
  · have e1 : offE zs cs = cntE zs := by simp [offE, hE]
    rw [show offN zs cs = 0 by simp [offN, e1, hE], e1]
    obtain ⟨E, hEE⟩ : ∃ E, E = cntE zs := ⟨_, rfl⟩
    rw [← hEE] at hcount hE ⊢
    have hE' : (E == 0) = false := by simpa using hE
    clear hEE hE e1
    go_enter Tryz.func19, Tryz.ntmps19
    go_wp2_with (go_at_call 17; refine hcount.out.mono ?_; rintro e w1 ⟨rfl, rfl⟩)
    go_ret2
    exact ⟨rfl, grown_refl _⟩

end Go.Proofs.YteigfipgmghgmaaGreatDoor
