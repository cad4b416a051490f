/- ShapeSteps, by the walk. -/
import Derived.Test.YtfamjlikpoiecabLBackW
namespace Go.Proofs.Ytfamjlikpoiecab
open Go.RowKit

set_option maxHeartbeats 1600000 in
theorem steps_walk (v : Value) (zs : List Int) (n : Int) (hn0 : -9223372036854775808 ≤ n) (hn1 : n ≤ 9223372036854775807) (w : World) (h : IsInts w v zs) :
    Calls Try.prog 4 #[v, .int .i64 n] w fun e w' => e = .returned (.bool true) ∧ Below w.heap.size w w' := by
  have h0 := hide h
  have c1 := hide (coords_any v zs n w h hn0 hn1)
  by_cases hE : crdsE zs n = 0
  · obtain ⟨hFine, hr0, hr1⟩ := crdsE_ok hE
    obtain ⟨e1, e2⟩ := off_crds hE
    have HN : Hid (offs zs (crds zs n) = n) := by
      show _ = _
      rw [offN, if_pos e1] at e2
      exact e2
    rw [hE, show crdsL zs n = crds zs n by simp [crdsL, hE]] at c1
    have HF := hide hFine
    have HS := hide (show strdE zs = strd zs by simp [strdE, hFine.ok])
    have HIN := hide (crds_inside zs n hFine.pos)
    have hfew := hFine.few
    have hl1 : (crds zs n).length ≤ 6 := by rw [crds_length]; exact hfew
    have hl2 : (strd zs).length ≤ 6 := by rw [strd_length]; exact hfew
    have hll : (((strd zs).length : Int) != ((crds zs n).length : Int)) = false := by rw [crds_length, strd_length]; simp
    clear hE hFine e1 e2 hr0 hr1
    go_enter Try.func4, Try.ntmps4
    go_wp2_with fail
    refine c1.out.mono ?_
    rintro e w1 ⟨c, rfl, oc, hg1⟩
    have OC := hide oc.ints
    have c2 := hide (strides_any v zs w1 (h0.out.more hg1))
    rw [HF.out.ok, HS.out] at c2
    clear oc
    go_wp2_with fail
    refine c2.out.mono ?_
    rintro e w2 ⟨s, rfl, os, hg2⟩
    have OS := hide os.ints
    have OC2 := hide (OC.out.more hg2)
    have g02 := grown_trans hg1 hg2
    obtain ⟨c0, ccap, rfl, hc1, hc2, hc3, -, -, -⟩ := OC.out
    obtain ⟨s0, scap, rfl, hs1, hs2, hs3, -, -, -⟩ := OS.out
    clear os OC
    go_wp2
    go_loopw [9, 10] (fun m i wr => w2.grownBy wr none ∧ ∃ (k : Nat) (q : Int), k ≤ (crds zs n).length ∧ i = .int .i64 k ∧ m = .int .i64 q ∧ 0 ≤ q ∧ q ≤ 65536 * k ∧ q + offs (zs.drop k) ((crds zs n).drop k) = offs zs (crds zs n)) (fun _ i _ => (crds zs n).length - (intOf i).toNat)
    case atStart => exact ⟨grown_refl _, 0, 0, Nat.zero_le _, rfl, rfl, by omega, by omega, by simp⟩
    case round =>
      obtain ⟨hw, k, q, hk, rfl, rfl, hq0, hq1, hsum⟩ := hrel
      have HSUM := hide hsum
      clear hsum
      by_cases hkl : k < (crds zs n).length
      · have hkz : k < zs.length := by rw [crds_length] at hkl; exact hkl
        have hks : k < (strd zs).length := by rw [strd_length]; exact hkz
        obtain ⟨bc, oc, hoc⟩ := addr_of OC2.out (by omega)
        obtain ⟨bs, os, hos⟩ := addr_of OS.out (by omega)
        subst hoc hos
        have ic := item_at (OC2.out.more hw) hkl
        have is := item_at (OS.out.more hw) hks
        obtain ⟨hi0, hi1⟩ := inside_at HIN.out k hkz
        obtain ⟨hst1, hst2⟩ := step_le HF.out hkz hi0 hi1
        have hds := offs_drop_step (crds_length zs n) hkz
        obtain ⟨x, hx⟩ : ∃ x, x = (crds zs n).getD k 0 := ⟨_, rfl⟩
        obtain ⟨y, hy⟩ : ∃ y, y = (strd zs).getD k 0 := ⟨_, rfl⟩
        rw [← hx] at ic hst1 hst2 hds
        rw [← hy] at is hst1 hst2 hds
        have HDS := hide hds
        clear hx hy hds hi0 hi1
        go_wp2
        go_region
        all_goals go_wp2
        go_roundw
        case rel =>
          refine ⟨grown_drew hw, k + 1, q + x * y, by omega, by go_num, by first | rfl | go_num, by omega, by omega, ?_⟩
          have h1 := HDS.out; have h2 := HSUM.out; omega
        case measure => simp [intOf]; omega
      · have HQ : Hid ((q == n) = true) := by
          show _ = _
          have h1 := HSUM.out
          have h2 := crds_length zs n
          rw [List.drop_of_length_le (show zs.length ≤ k by omega)] at h1
          simp only [offs] at h1
          have := HN.out
          simp only [beq_iff_eq]
          omega
        have hq := HQ.out
        clear HQ
        go_wp2_with fail
        refine (live_any _).mono ?_
        rintro e w5 ⟨rfl, hg5⟩
        go_wp2
        go_ret
        exact ⟨rfl, grown_below (grown_trans g02 (grown_trans hw hg5))⟩
  · have hE' := beq_zero_false hE
    obtain ⟨E, hEE⟩ : ∃ E, E = crdsE zs n := ⟨_, rfl⟩
    rw [← hEE] at hE' c1
    have hE2 : (E != 0) = true := by simp [bne, hE']
    clear hE hEE
    go_enter Try.func4, Try.ntmps4
    go_wp2_with fail
    refine c1.out.mono ?_
    rintro e w1 ⟨c, rfl, oc, hg1⟩
    have c2 := hide (strides_any v zs w1 (h0.out.more hg1))
    clear oc
    go_wp2_with fail
    refine c2.out.mono ?_
    rintro e w2 ⟨s, rfl, os, hg2⟩
    clear os
    go_wp2_with fail
    refine (live_any _).mono ?_
    rintro e w5 ⟨rfl, hg5⟩
    go_wp2
    go_ret
    exact ⟨rfl, grown_below (grown_trans hg1 (grown_trans hg2 hg5))⟩
end Go.Proofs.Ytfamjlikpoiecab
