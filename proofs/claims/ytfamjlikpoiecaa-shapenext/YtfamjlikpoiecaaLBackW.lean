/- ShapeBack, by the walk. -/
import Derived.Test.YtfamjlikpoiecaaSLive
namespace Go.Proofs.Ytfamjlikpoiecaa
open Go.RowKit

theorem crdsE_ok {zs : List Int} {n : Int} (h : crdsE zs n = 0) : Fine zs ∧ 0 ≤ n ∧ n < prod zs := by
  unfold crdsE at h
  split at h
  · rename_i h1; exact absurd h h1
  · rename_i h1
    split at h
    · simp at h
    · rename_i h2
      refine ⟨fine_of (by simpa using h1), by omega, by omega⟩

theorem off_crds {zs : List Int} {n : Int} (h : crdsE zs n = 0) : offE zs (crds zs n) = 0 ∧ offN zs (crds zs n) = n := by
  obtain ⟨hF, h0, h1⟩ := crdsE_ok h
  have e1 : offE zs (crds zs n) = 0 := by simp [offE, hF.ok, crds_inside zs n hF.pos]
  exact ⟨e1, by rw [offN, if_pos e1, offs_crds zs n hF.pos, Int.emod_eq_of_lt h0 h1]⟩

set_option maxHeartbeats 800000 in
theorem back_walk (v : Value) (zs : List Int) (n : Int) (hn0 : -9223372036854775808 ≤ n) (hn1 : n ≤ 9223372036854775807) (w : World) (h : IsInts w v zs) :
    Calls Try.prog 6 #[v, .int .i64 n] w fun e w' => e = .returned (.bool true) ∧ Below w.heap.size w w' := by
  have h0 := hide h
  have hc := coords_any v zs n w h hn0 hn1
  by_cases hE : crdsE zs n = 0
  · obtain ⟨e1, e2⟩ := off_crds hE
    rw [hE, show crdsL zs n = crds zs n by simp [crdsL, hE]] at hc
    have HC := hide hc
    obtain ⟨ao, cap, rfl, h1, h2, h3, -, -, -⟩ := h
    clear hc hE
    go_enter Try.func6, Try.ntmps6
    go_wp2_with fail
    refine HC.out.mono ?_
    rintro e w1 ⟨u, rfl, ho, hg⟩
    have ho' := ho.ints
    have co := offset_any _ _ _ _ _ (h0.out.more hg) ho'
    rw [e1, e2] at co
    obtain ⟨bo, bcap, rfl, hb1, hb2, hb3, -, -, -⟩ := ho'
    have hl : (((crds zs n).length : Int) == (zs.length : Int)) = true := by rw [crds_length]; simp
    have CO := hide co
    clear co ho e1 e2
    go_wp2_with fail
    refine CO.out.mono ?_
    rintro e w2 ⟨rfl, hg2⟩
    go_wp2_with fail
    refine (live_any _).mono ?_
    rintro e w3 ⟨rfl, hg3⟩
    go_wp2
    go_ret
    exact ⟨rfl, grown_below (grown_trans hg (grown_trans hg2 hg3))⟩
  · rw [show crdsL zs n = [] by simp [crdsL, hE]] at hc
    have hE' : (crdsE zs n == 0) = false := by simpa using hE
    have HC := hide hc
    obtain ⟨E, hEE⟩ : ∃ E, E = crdsE zs n := ⟨_, rfl⟩
    rw [← hEE] at HC hE'
    obtain ⟨ao, cap, rfl, h1, h2, h3, -, -, -⟩ := h
    clear hc hE hEE
    go_enter Try.func6, Try.ntmps6
    go_wp2_with fail
    refine HC.out.mono ?_
    rintro e w1 ⟨u, rfl, ho, hg⟩
    obtain ⟨bo, bcap, rfl, -, -, -, -, -, -⟩ := ho.ints
    simp only [List.length_nil]
    clear ho
    go_wp2_with fail
    refine (live_any _).mono ?_
    rintro e w3 ⟨rfl, hg3⟩
    go_wp2
    go_ret
    exact ⟨rfl, grown_below (grown_trans hg hg3)⟩
end Go.Proofs.Ytfamjlikpoiecaa
