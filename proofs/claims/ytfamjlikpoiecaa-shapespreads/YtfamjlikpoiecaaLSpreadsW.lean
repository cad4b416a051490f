/- ShapeSpreads, by the walk. -/
import Derived.Test.YtfamjlikpoiecaaSLive
import Derived.Test.YtfamjlikpoiecaaSRBc
namespace Go.Proofs.Ytfamjlikpoiecaa
open Go.RowKit

set_option maxHeartbeats 800000 in
theorem spreads_walk (v : Value) (a : List Int) (u : Value) (b : List Int) (w : World) (h : IsInts w v a) (hu : IsInts w u b) :
    Calls Try.prog 4 #[v, u] w fun e w' => e = .returned (.bool true) ∧ Below w.heap.size w w' := by
  have h0 := hide h
  have hu0 := hide hu
  have hc := hide (copy_any v a w h)
  clear h hu
  go_enter Try.func4, Try.ntmps4
  go_wp2_with fail
  refine hc.out.mono ?_
  rintro e w1 ⟨p, rfl, op, hg1⟩
  have OP := hide op
  have c1 := hide (copy_any u b w1 (hu0.out.more hg1))
  clear op
  go_wp2_with fail
  refine c1.out.mono ?_
  rintro e w2 ⟨q, rfl, oq, hg2⟩
  have OQ := hide oq
  have c2 := hide (bc_any p q a b w2 (OP.out.new hg2).ints oq.ints)
  obtain ⟨E, hE⟩ : ∃ E, E = bcE a b := ⟨_, rfl⟩
  rw [← hE] at c2
  have HE := hide hE
  clear hE oq
  go_wp2_with fail
  refine c2.out.mono ?_
  rintro e w3 ⟨x, rfl, ox, hg3⟩
  have OX := hide ox
  have g03 := grown_trans hg1 (grown_trans hg2 hg3)
  have c3 := hide (refbc_any v u a b w3 (h0.out.more g03) (hu0.out.more g03))
  rw [← HE.out] at c3
  clear ox
  go_wp2_with fail
  refine c3.out.mono ?_
  rintro e w4 ⟨y, rfl, oy, hg4⟩
  have c5 := same_any x y _ _ w4 (OX.out.new hg4).ints oy.ints
  rw [show decide (bcR a b = bcR a b) = true by simp] at c5
  have C5 := hide c5
  clear c5 oy
  go_wp2_with fail
  refine C5.out.mono ?_
  rintro e w5 ⟨rfl, hg5⟩
  have c6 := hide (spoil_any x _ _ w5 ((OX.out.new hg4).new hg5))
  go_wp2_with fail
  refine c6.out.mono ?_
  rintro e w6 ⟨rfl, hg6⟩
  have hrow : ∀ g, x.ownBlock = some g → w2.heap.size ≤ g := fun g hg => (OX.out.lt g hg).1
  have g26 := grown_trans_row (grown_trans hg3 (grown_trans hg4 hg5)) hg6 hrow
  have g16 := grown_trans hg2 g26
  have g06 := grown_trans hg1 g16
  have c7 := same_any p v a a w6 (OP.out.ints.more g16) (h0.out.more g06)
  rw [show decide (a = a) = true by simp] at c7
  have C7 := hide c7
  clear c7 hrow hg6
  go_wp2_with fail
  refine C7.out.mono ?_
  rintro e w7 ⟨rfl, hg7⟩
  have c8 := same_any q u b b w7 (OQ.out.ints.more (grown_trans g26 hg7)) (hu0.out.more (grown_trans g06 hg7))
  rw [show decide (b = b) = true by simp] at c8
  have C8 := hide c8
  clear c8
  go_wp2_with fail
  refine C8.out.mono ?_
  rintro e w8 ⟨rfl, hg8⟩
  go_wp2_with fail
  refine (live_any _).mono ?_
  rintro e w9 ⟨rfl, hg9⟩
  go_wp2
  go_ret
  exact ⟨rfl, grown_below (grown_trans g06 (grown_trans hg7 (grown_trans hg8 hg9)))⟩
end Go.Proofs.Ytfamjlikpoiecaa
