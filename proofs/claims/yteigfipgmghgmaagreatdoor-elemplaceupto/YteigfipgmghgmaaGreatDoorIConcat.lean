/- slices.Grow of nil, and slices.Concat, by the walk. -/
import Derived.Test.YteigfipgmghgmaaGreatDoorIDim5
import Derived.Lib.AppendZerosOnto
import Derived.Lib.SliceRun
import Derived.Lib.Walk
namespace Go.Proofs.YteigfipgmghgmaaGreatDoor
open Go.RowKit

open Go.Lib in
set_option maxRecDepth 100000 in
set_option maxHeartbeats 2000000 in
theorem grownil_any (n : Nat) (w : World) (hn : n ≤ 1000000) : Calls Tryz.prog 151 #[.slice none 0 0, .int .i64 n] w fun e w' => ∃ s : Sl, e = .returned (.slice s.a s.n s.c) ∧ Owns w' w.heap.size s.v [] ∧ w.grownBy w' none := by
  obtain ⟨i0, hi, hz0, hz1, hz2⟩ := info_parts infoInt
  by_cases h0 : n = 0
  · subst h0
    go_enter Tryz.func151, Tryz.ntmps151
    go_wp2
    go_ret
    exact ⟨⟨none, 0, 0⟩, rfl, owns_nil _ _, grown_refl _⟩
  · have hold : (Builtin.firstCells i0.size 0 (.slice none 0 0)).run Tryz.prog w.drew = .ok (#[] : Array Value) w.drew := run_firstCells_none w.drew i0.size 0 0 0
    have hrz : ∀ ty, (Builtin.append_ #[29, 3] ty #[.slice none 0 0, .int .i64 (n : Int)]).run Tryz.prog w = .ok (.slice (some ⟨w.heap.size, 0, none⟩) n (grownCap w n 0 3)) (w.drew.alloc (.cells ((#[] : Array Value) ++ Builtin.zeroCells (Value.int .i64 0).cells n ++ Builtin.zeroCells (Value.int .i64 0).cells (grownCap w n 0 3 - n)) 3)) := fun ty => by
      have h := Lib.run_append_grow_zeros w 29 3 ty 3 i0 (.int .i64 0) .i64 .i64 Tryz.underlying29 Tryz.underlying3 hi hz0 none 0 0 [] hold n (by omega) (by rw [hz1]; decide) (by omega) (by omega) (by rw [hz2]; omega) (by rw [Nat.zero_add]; exact growslice_fits (by omega) (by rw [hz2]; omega))
      simpa using h
    have hGn : n ≤ grownCap w n 0 3 := grownCap_ge w _ _ _
    have hG63 : grownCap w n 0 3 ≤ maxLen := grownCap_le_maxLen w n 0 3 (by unfold maxLen; omega)
    obtain ⟨G, hG⟩ : ∃ G, G = grownCap w n 0 3 := ⟨_, rfl⟩
    rw [← hG] at hrz hGn hG63
    obtain ⟨M, hM⟩ : ∃ M : Array Value, M = (#[] : Array Value) ++ Builtin.zeroCells (Value.int .i64 0).cells n ++ Builtin.zeroCells (Value.int .i64 0).cells (G - n) := ⟨_, rfl⟩
    rw [← hM] at hrz
    have hMs : M.size = G := by rw [hM]; simp [Builtin.zeroCells, Value.cells]; omega
    have HG := hide hG63
    have hg2 : G ≤ 9223372036854775807 := by simpa [maxLen] using hG63
    have HMS := hide hMs
    have h1 : (0 : Int) < (n : Int) := by omega
    clear hG hM hold hMs hG63
    go_enter Tryz.func151, Tryz.ntmps151
    go_wp2_with (at_builtin; refine Lib.wpList_append_run _ rfl _ _ _ _ rfl _ _ rfl rfl _ _ (hrz _) ?_)
    all_goals
      go_ret
      refine ⟨⟨some ⟨w.heap.size, 0, none⟩, 0, G⟩, rfl, ⟨⟨rfl, .inr ⟨w.heap.size, G, M, rfl, Nat.le_refl _, ?_, Nat.zero_le _, HG.out, by rw [HMS.out]; simp, by simp⟩⟩, by simp, fun z hz => by simp at hz⟩, grown_trans (grown_drew (grown_refl _)) (grown_new _ _)⟩
      exact heap_alloc_new w.drew _

/-- The first k lists, one behind the other. -/
def flatK (ps : List (Sl × List Int)) (k : Nat) : List Int := ((ps.take k).map (·.2)).flatten

theorem flatK_step (ps : List (Sl × List Int)) (k : Nat) (hk : k < ps.length) : flatK ps (k + 1) = flatK ps k ++ ps[k].2 := by
  unfold flatK
  rw [List.take_add_one, List.getElem?_eq_getElem hk, List.map_append, List.flatten_append]
  simp only [Option.toList_some, List.map_cons, List.map_nil, List.flatten_cons, List.flatten_nil, List.append_nil]

theorem flatK_len_le (ps : List (Sl × List Int)) (k j : Nat) (h : k ≤ j) : (flatK ps k).length ≤ (flatK ps j).length := by
  induction j with
  | zero => have : k = 0 := by omega
            subst this
            exact Nat.le_refl _
  | succ j ih =>
    by_cases e : k = j + 1
    · subst e; exact Nat.le_refl _
    · have h1 := ih (by omega)
      by_cases hj : j < ps.length
      · rw [flatK_step ps j hj, List.length_append]; omega
      · have e2 : flatK ps (j + 1) = flatK ps j := by unfold flatK; rw [List.take_of_length_le (by omega), List.take_of_length_le (by omega)]
        rw [e2]; exact h1

set_option maxRecDepth 100000 in
set_option maxHeartbeats 4000000 in
theorem concat_any (B m c : Nat) (ps : List (Sl × List Int)) (w : World) (hm : m = ps.length) (hmc : m ≤ c) (hc63 : c ≤ 9223372036854775807) (hc : ∀ k (hk : k < ps.length), w.cell? ⟨B, k, none⟩ = some (.slice ps[k].1.a ps[k].1.n ps[k].1.c)) (hi : ∀ p ∈ ps, IsInts w p.1.v p.2) (hb : (flatK ps ps.length).length ≤ 1000000) :
    Calls Tryz.prog 118 #[.slice (some ⟨B, 0, none⟩) m c] w fun e w' => ∃ s : Sl, e = .returned (.slice s.a s.n s.c) ∧ Owns w' w.heap.size s.v (flatK ps ps.length) ∧ w.grownBy w' none := by
  have HC := hide hc
  have HI := hide hi
  have HM := hide hm
  clear hc hi
  have hm1 : m ≤ 9223372036854775807 := by omega
  clear hm
  go_enter Tryz.func118, Tryz.ntmps118
  go_wp2
  go_loopw [3, 11] (fun sz i wr => w = wr ∧ ∃ k : Nat, k ≤ m ∧ i = .int .i64 k ∧ sz = .int .i64 ((flatK ps k).length : Nat)) (fun _ i _ => m - (intOf i).toNat)
  case atStart => exact ⟨rfl, 0, Nat.zero_le _, rfl, by simp [flatK]⟩
  case round =>
    obtain ⟨hw, k, hk, rfl, rfl⟩ := hrel
    subst hw
    by_cases hkl : k < m
    · have hkp : k < ps.length := by rw [← HM.out]; exact hkl
      have cc := HC.out k hkp
      have st := flatK_step ps k hkp
      have le := flatK_len_le ps (k + 1) ps.length (by omega)
      have hp := (HI.out ps[k] (List.getElem_mem hkp)).sl
      obtain ⟨⟨⟨s1, s2, s3⟩, y⟩, hpk⟩ : ∃ p, p = ps[k] := ⟨_, rfl⟩
      rw [← hpk] at cc st hp
      obtain ⟨a', c', e, -⟩ := hp
      simp only [Sl.v, Value.slice.injEq] at e
      obtain ⟨rfl, rfl, rfl⟩ := e
      simp only at cc st
      have hln : (flatK ps (k + 1)).length = (flatK ps k).length + y.length := by rw [st, List.length_append]
      obtain ⟨A, hA⟩ : ∃ A, A = (flatK ps k).length := ⟨_, rfl⟩
      rw [← hA] at hln ⊢
      have hAy : A + y.length ≤ 1000000 := by omega
      have HLN := hide hln
      have hge : ¬ ((A : Int) + (y.length : Int) < 0) := by omega
      have hdec : decide ((A : Int) + (y.length : Int) < 0) = false := by simpa using hge
      clear hln hA st le hpk
      go_wp2
      go_roundw
      case rel => exact ⟨by trivial, k + 1, by omega, by go_num, by rw [HLN.out]; go_num⟩
      case measure => simp [intOf]; omega
    · have hkm : k = m := by omega
      have hfl : flatK ps k = flatK ps ps.length := by rw [hkm, HM.out]
      rw [hfl]
      have GR := hide (grownil_any (flatK ps ps.length).length w hb)
      obtain ⟨F, hF⟩ : ∃ F, F = flatK ps ps.length := ⟨_, rfl⟩
      rw [← hF] at GR hb ⊢
      have HF := hide hF
      clear hkm hfl hF
      go_wp2_with (first | (go_at_call 151; refine GR.out.mono ?_; rintro e w1 ⟨⟨g1, g2, g3⟩, rfl, ho, hg⟩; simp only) | fail)
      have HO := hide ho
      have HG := hide hg
      clear ho hg GR
      go_loopw [6, 27] (fun s i wr => ∃ (k : Nat) (u : Sl), k ≤ m ∧ i = .int .i64 k ∧ s = .slice u.a u.n u.c ∧ Owns wr w.heap.size u.v (flatK ps k) ∧ w.grownBy wr none) (fun _ i _ => m - (intOf i).toNat)
      case atStart => exact ⟨0, ⟨g1, g2, g3⟩, Nat.zero_le _, rfl, rfl, by simp [flatK]; exact HO.out, HG.out⟩
      case round =>
        obtain ⟨k, ⟨u1, u2, u3⟩, hk, rfl, rfl, ho, hg⟩ := hrel
        simp only
        have HO2 := hide ho
        have HG2 := hide hg
        have hsz := hg.size
        by_cases hkl : k < m
        · have hkp : k < ps.length := by rw [← HM.out]; exact hkl
          have cc := cell_still (HC.out k hkp) hg
          have st := flatK_step ps k hkp
          have le := flatK_len_le ps (k + 1) ps.length (by omega)
          rw [← HF.out] at le
          have hp := HI.out ps[k] (List.getElem_mem hkp)
          obtain ⟨⟨⟨s1, s2, s3⟩, y⟩, hpk⟩ : ∃ p, p = ps[k] := ⟨_, rfl⟩
          rw [← hpk] at cc st hp
          simp only at cc st
          have HY := hide (hp.more hg)
          have hln : (flatK ps (k + 1)).length = (flatK ps k).length + y.length := by rw [st, List.length_append]
          have hbb : ((flatK ps k).length + y.length) * 8 ≤ 140737488351232 := by omega
          have HST := hide st
          clear st le hpk hp ho hg hln
          go_wp2_with (at_builtin; refine wpList_app rfl (.tmp 31) (.tmp 32) rfl w.heap.size (.slice u1 u2 u3) _ rfl HO2.out (.slice s1 s2 s3) y rfl HY.out ?_ ?_ ?_; exact hbb; exact hsz; intro v' w2 hown hgrow)
          obtain ⟨⟨x1, x2, x3⟩, rfl⟩ := hown.sl
          have HO3 := hide hown
          have HG3 := hide (grown_trans_row HG2.out hgrow (fun r e => (HO2.out.lt r e).1))
          clear hown hgrow
          go_roundw
          case rel => exact ⟨k + 1, ⟨x1, x2, x3⟩, by omega, by go_num, rfl, by rw [HST.out]; exact HO3.out, HG3.out⟩
          case measure => simp [intOf]; omega
        · have hfl : flatK ps k = F := by rw [HF.out, ← HM.out, show k = m by omega]
          rw [hfl] at HO2
          clear ho hg hfl
          go_wp2
          go_ret
          exact ⟨⟨u1, u2, u3⟩, rfl, by rw [← HF.out]; exact HO2.out, HG2.out⟩
end Go.Proofs.YteigfipgmghgmaaGreatDoor
