/- The document's Whole, by the walk. -/
import Derived.Test.YtankpkbneojgdaaVRow
import Derived.Test.YtankpkbneojgdaaSCopy
import Derived.Test.YtankpkbneojgdaaSRStr
namespace Go.Proofs.Ytankpkbneojgdaa
open Go.RowKit

set_option maxHeartbeats 800000 in
theorem refwhole_any (v : Value) (ds : List Int) (w : World) (h : IsInts w v ds) :
    Calls Try.prog 10 #[v] w fun e w' => ∃ u, e = .returned (.tuple #[u, .int .i64 (cntE ds)]) ∧ OwnView w' w.heap.size u 0 (rowDs ds) (strdE ds) ∧ w.grownBy w' none := by
  have g0 := grown_new w (.cells #[.int .i64 0, .slice none 0 0, .slice none 0 0] 24)
  have b0 := hide (zeroBox w)
  have c1 := hide (refstrides_any v ds _ (h.more g0))
  have H := hide h
  have hs0 : (w.alloc (.cells #[.int .i64 0, .slice none 0 0, .slice none 0 0] 24)).heap.size = w.heap.size + 1 := by simp
  rw [hs0] at c1
  clear h hs0
  by_cases hE : cntE ds = 0
  · rw [show rowDs ds = ds by simp [rowDs, hE], hE]
    rw [hE] at c1
    clear hE
    go_enter Try.func10, Try.ntmps10
    go_wp2_with fail
    refine c1.out.mono ?_
    rintro e w1 ⟨s, rfl, os, hg1⟩
    have g1 := grown_trans g0 hg1
    have OS := hide os
    have c2 := hide (copy_any v ds w1 (H.out.more g1))
    have hsz := hg1.size
    simp only [World.size_alloc] at hsz
    clear os
    go_wp2_with fail
    refine c2.out.mono ?_
    rintro e w2 ⟨d, rfl, od, hg2⟩
    have g2 := grown_trans g1 hg2
    have hb := box_kept b0.out (grown_trans hg1 hg2)
    obtain ⟨k0, k1, k2, f0, f1, f2⟩ := box_cells hb
    obtain ⟨hX, gX, gB⟩ := store3 (.int .i64 0) d s g2 (Nat.le_refl _) hb
    have OD := hide (od.box gB (by omega))
    have OS2 := hide ((OS.out.new hg2).box gB (by omega))
    have AP := hide (apart_of (v := s) (v' := d) (a := w1.heap.size) (b := w1.heap.size) (fun k hk => (OS.out.lt k hk).2) (fun k hk => (od.lt k hk).1) (Nat.le_refl _))
    have HX := hide hX
    have GX := hide gX
    obtain ⟨da, dc, rfl, -, -, -, -, -, -⟩ := od.ints
    obtain ⟨sa, sc, rfl, -, -, -, -, -, -⟩ := OS.out.ints
    clear od hX gX gB hb
    go_wp2
    refine bodyPost_ret (ret_view rfl _ _ w.heap.size rfl HX.out) rfl ?_
    refine ⟨_, rfl, ⟨_, _, rfl, OD.out.base_le (by omega), OS2.out.base_le (by omega), by omega, by omega, ?_⟩, GX.out⟩
    rcases AP.out with h | h
    · rw [h]
      generalize Value.ownBlock _ = o
      cases o with
      | none => exact Or.inl rfl
      | some k => exact Or.inr (by simp)
    · exact Or.inr (fun e => h e.symm)
  · rw [show rowDs ds = [] by simp [rowDs, hE]]
    rw [show strdE ds = [] by simp [strdE, hE]] at c1 ⊢
    have hE' := beq_zero_false hE
    obtain ⟨E, hEE⟩ : ∃ E, E = cntE ds := ⟨_, rfl⟩
    rw [← hEE] at hE' c1 ⊢
    clear hE hEE
    go_enter Try.func10, Try.ntmps10
    go_wp2_with fail
    refine c1.out.mono ?_
    rintro e w1 ⟨s, rfl, os, hg1⟩
    have g1 := grown_trans g0 hg1
    have hb := box_kept b0.out hg1
    obtain ⟨k0, k1, k2, f0, f1, f2⟩ := box_cells hb
    obtain ⟨hX, gX, gB⟩ := store3 (.int .i64 0) (.slice none 0 0) (.slice none 0 0) g1 (Nat.le_refl _) hb
    have HX := hide hX
    have GX := hide gX
    clear os hX gX gB hb
    go_wp2
    refine bodyPost_ret (ret_view rfl _ _ w.heap.size rfl HX.out) rfl ?_
    exact ⟨_, rfl, OwnView.nil _ _, GX.out⟩

end Go.Proofs.Ytankpkbneojgdaa
