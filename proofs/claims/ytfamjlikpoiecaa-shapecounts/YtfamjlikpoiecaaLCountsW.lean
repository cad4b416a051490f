/- ShapeCounts, by the walk. -/
import Derived.Test.YtfamjlikpoiecaaSLive
import Derived.Test.YtfamjlikpoiecaaSRStr
namespace Go.Proofs.Ytfamjlikpoiecaa
open Go.RowKit

theorem IsInts.far {w a b : World} {v : Value} {zs : List Int} (h : IsInts w v zs) (h1 : w.grownBy a none) {row : Option Nat} (h2 : a.grownBy b row) (hr : ∀ g, row = some g → w.heap.size ≤ g) : IsInts b v zs :=
  h.more (grown_trans_row h1 h2 hr)

set_option maxHeartbeats 800000 in
theorem counts_walk (v : Value) (zs : List Int) (w : World) (h : IsInts w v zs) :
    Calls Try.prog 3 #[v] w fun e w' => e = .returned (.bool true) ∧ Below w.heap.size w w' := by
  have h0 := hide h
  have hc := hide (copy_any v zs w h)
  clear h
  go_enter Try.func3, Try.ntmps3
  go_wp2_with fail
  refine hc.out.mono ?_
  rintro e w1 ⟨u, rfl, ho, hg1⟩
  have c1 := hide (count_any u zs w1 ho.ints)
  have c2 := hide (refcount_any v zs w1 (h0.out.more hg1))
  have c3 := hide (strides_any u zs w1 ho.ints)
  obtain ⟨A, hA⟩ : ∃ A, A = cnt zs := ⟨_, rfl⟩
  obtain ⟨E, hE⟩ : ∃ E, E = cntE zs := ⟨_, rfl⟩
  rw [← hA, ← hE] at c1 c2
  rw [← hE] at c3
  have HO := hide ho
  have HE := hide hE
  clear ho hE hA
  go_wp2_with fail
  refine c1.out.mono ?_
  rintro e w' ⟨rfl, rfl⟩
  go_wp2_with fail
  refine c2.out.mono ?_
  rintro e w' ⟨rfl, rfl⟩
  go_wp2_with fail
  refine c3.out.mono ?_
  rintro e w2 ⟨x, rfl, ox, hg2⟩
  have c4 := hide (refstrides_any v zs w2 (h0.out.more (grown_trans hg1 hg2)))
  rw [← HE.out] at c4
  have OX := hide ox
  clear ox
  go_wp2_with fail
  refine c4.out.mono ?_
  rintro e w3 ⟨y, rfl, oy, hg3⟩
  have c5 := same_any x y _ _ w3 (OX.out.new hg3).ints oy.ints
  rw [show decide (strdE zs = strdE zs) = true by simp] at c5
  have C5 := hide c5
  clear c5 oy
  go_wp2_with fail
  refine C5.out.mono ?_
  rintro e w4 ⟨rfl, hg4⟩
  have c6 := hide (spoil_any x _ _ w4 ((OX.out.new hg3).new hg4))
  go_wp2_with fail
  refine c6.out.mono ?_
  rintro e w5 ⟨rfl, hg5⟩
  have hrow : ∀ g, x.ownBlock = some g → w1.heap.size ≤ g := fun g hg => (OX.out.lt g hg).1
  have g15 := grown_trans_row (grown_trans hg2 (grown_trans hg3 hg4)) hg5 hrow
  have g05 := grown_trans hg1 g15
  have c7 := same_any u v zs zs w5 (HO.out.ints.more g15) (h0.out.more g05)
  rw [show decide (zs = zs) = true by simp] at c7
  have C7 := hide c7
  clear c7 hrow hg5
  go_wp2_with fail
  refine C7.out.mono ?_
  rintro e w6 ⟨rfl, hg6⟩
  go_wp2_with fail
  refine (live_any _).mono ?_
  rintro e w7 ⟨rfl, hg7⟩
  go_wp2
  go_ret
  exact ⟨rfl, grown_below (grown_trans g05 (grown_trans hg6 hg7))⟩
end Go.Proofs.Ytfamjlikpoiecaa
