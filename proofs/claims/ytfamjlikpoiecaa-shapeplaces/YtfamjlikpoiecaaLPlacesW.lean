/- ShapePlaces, by the walk. -/
import Derived.Test.YtfamjlikpoiecaaSLive
import Derived.Test.YtfamjlikpoiecaaSROff
namespace Go.Proofs.Ytfamjlikpoiecaa
open Go.RowKit

set_option maxHeartbeats 800000 in
theorem places_walk (v : Value) (zs : List Int) (t : Value) (cs : List Int) (n : Int) (hn0 : -9223372036854775808 ≤ n) (hn1 : n ≤ 9223372036854775807) (w : World) (h : IsInts w v zs) (ht : IsInts w t cs) :
    Calls Try.prog 5 #[v, t, .int .i64 n] w fun e w' => e = .returned (.bool true) ∧ Below w.heap.size w w' := by
  have h0 := hide h
  have ht0 := hide ht
  have hc := hide (copy_any v zs w h)
  clear h ht
  go_enter Try.func5, Try.ntmps5
  go_wp2_with fail
  refine hc.out.mono ?_
  rintro e w1 ⟨u, rfl, ho, hg1⟩
  have c1 := hide (offset_any u t zs cs w1 ho.ints (ht0.out.more hg1))
  obtain ⟨A, hA⟩ : ∃ A, A = offN zs cs := ⟨_, rfl⟩
  obtain ⟨E, hE⟩ : ∃ E, E = offE zs cs := ⟨_, rfl⟩
  obtain ⟨F, hF⟩ : ∃ F, F = crdsE zs n := ⟨_, rfl⟩
  rw [← hA, ← hE] at c1
  have HO := hide ho
  have HA := hide hA
  have HE := hide hE
  have HF := hide hF
  clear ho hE hA hF
  go_wp2_with fail
  refine c1.out.mono ?_
  rintro e w2 ⟨rfl, hg2⟩
  have g02 := grown_trans hg1 hg2
  have c2 := hide (refoffset_any v t zs cs w2 (h0.out.more g02) (ht0.out.more g02))
  rw [← HA.out, ← HE.out] at c2
  go_wp2_with fail
  refine c2.out.mono ?_
  rintro e w3 ⟨rfl, hg3⟩
  have g13 := grown_trans hg2 hg3
  have c3 := hide (coords_any u zs n w3 (HO.out.new g13).ints hn0 hn1)
  rw [← HF.out] at c3
  go_wp2_with fail
  refine c3.out.mono ?_
  rintro e w4 ⟨x, rfl, ox, hg4⟩
  have OX := hide ox
  have c4 := hide (refcoords_any v zs n w4 (h0.out.more (grown_trans hg1 (grown_trans g13 hg4))) hn0 hn1)
  rw [← HF.out] at c4
  clear ox
  go_wp2_with fail
  refine c4.out.mono ?_
  rintro e w5 ⟨y, rfl, oy, hg5⟩
  have c5 := same_any x y _ _ w5 (OX.out.new hg5).ints oy.ints
  rw [show decide (crdsL zs n = crdsL zs n) = true by simp] at c5
  have C5 := hide c5
  clear c5 oy
  go_wp2_with fail
  refine C5.out.mono ?_
  rintro e w6 ⟨rfl, hg6⟩
  have c6 := hide (spoil_any x _ _ w6 ((OX.out.new hg5).new hg6))
  go_wp2_with fail
  refine c6.out.mono ?_
  rintro e w7 ⟨rfl, hg7⟩
  have hrow : ∀ g, x.ownBlock = some g → w3.heap.size ≤ g := fun g hg => (OX.out.lt g hg).1
  have g37 := grown_trans_row (grown_trans hg4 (grown_trans hg5 hg6)) hg7 hrow
  have g17 := grown_trans g13 g37
  have g07 := grown_trans hg1 g17
  have c7 := same_any u v zs zs w7 (HO.out.ints.more g17) (h0.out.more g07)
  rw [show decide (zs = zs) = true by simp] at c7
  have C7 := hide c7
  clear c7 hrow hg7
  go_wp2_with fail
  refine C7.out.mono ?_
  rintro e w8 ⟨rfl, hg8⟩
  go_wp2_with fail
  refine (live_any _).mono ?_
  rintro e w9 ⟨rfl, hg9⟩
  go_wp2
  go_ret
  exact ⟨rfl, grown_below (grown_trans g07 (grown_trans hg8 hg9))⟩
end Go.Proofs.Ytfamjlikpoiecaa
