/- Some answers that the document gives: live of the statements of package shape. -/
import Derived.Test.YtfamjlikpoiecabSOff
import Derived.Test.YtfamjlikpoiecabSBc
namespace Go.Proofs.Ytfamjlikpoiecab
open Go.RowKit

/-- A list that is written out. -/
theorem lit_owns (w : World) (g : Nat) (hg : g = w.heap.size) (cs : Array Value) (zs : List Int) (n : Nat) (hn : zs.length = n) (hc : cs.toList = zs.map (Value.int .i64)) (hwf : ∀ z ∈ zs, 0 ≤ z ∧ z ≤ 1000) (hle : n ≤ 1000) :
    Owns (w.alloc (.cells cs 3)) g (.slice (some ⟨g, 0, none⟩) n n) zs := by
  subst hg hn
  have hs : cs.size = zs.length * 1 := by rw [← Array.length_toList, hc]; simp
  have := World.ownsRow_lit (base := w.heap.size) (e := 3) (size := 1) w cs zs.length (Nat.le_refl _) (by simp only [maxLen]; omega) hs
  rw [hc] at this
  exact ⟨this, by omega, fun z hz => by have := hwf z hz; omega⟩

set_option maxHeartbeats 800000 in
theorem live_any (w : World) : Calls Try.prog 10 #[] w fun e w' => e = .returned (.bool true) ∧ w.grownBy w' none := by
  go_enter Try.func10, Try.ntmps10
  go_wp2_with fail
  have o1 := lit_owns w w.heap.size rfl #[.int .i64 2, .int .i64 3] [2, 3] 2 rfl rfl (by decide) (by decide)
  have c1 := count_any _ _ _ o1.ints
  rw [show cnt [2, 3] = 6 by decide, show cntE [2, 3] = 0 by decide] at c1
  refine c1.mono ?_
  clear c1
  rintro e w1 ⟨rfl, rfl⟩
  have g1 := grown_new w (.cells #[.int .i64 2, .int .i64 3] 3)
  clear o1
  obtain ⟨x1, hx1⟩ : ∃ x1, x1 = w.alloc (.cells #[.int .i64 2, .int .i64 3] 3) := ⟨_, rfl⟩
  have hs1 : x1.heap.size = w.heap.size + 1 := by rw [hx1]; simp
  rw [← hx1] at g1
  go_wp2_with fail
  rw [← hx1]
  have o2 := lit_owns x1 (w.heap.size + 1) hs1.symm #[.int .i64 2, .int .i64 1, .int .i64 3] [2, 1, 3] 3 rfl rfl (by decide) (by decide)
  have o3 := lit_owns (x1.alloc (.cells #[.int .i64 2, .int .i64 1, .int .i64 3] 3)) (w.heap.size + 1 + 1) (by simp [hs1]) #[.int .i64 4, .int .i64 1] [4, 1] 2 rfl rfl (by decide) (by decide)
  have c2 := bc_any _ _ _ _ _ (o2.new (grown_new _ _)).ints o3.ints
  rw [show bcE [2, 1, 3] [4, 1] = 0 by decide, show bcR [2, 1, 3] [4, 1] = [2, 4, 3] by decide] at c2
  refine c2.mono ?_
  have g2 := grown_trans (grown_trans g1 (grown_new x1 (.cells #[.int .i64 2, .int .i64 1, .int .i64 3] 3))) (grown_new (x1.alloc (.cells #[.int .i64 2, .int .i64 1, .int .i64 3] 3)) (.cells #[.int .i64 4, .int .i64 1] 3))
  clear c2 o2 o3 g1 hs1
  rintro e w2 ⟨b, rfl, ob, gb⟩
  have g3 := grown_trans g2 gb
  have ob' := ob.ints
  clear g2 gb ob hx1
  go_wp2_with fail
  have o4 := lit_owns w2 w2.heap.size rfl #[.int .i64 2, .int .i64 3] [2, 3] 2 rfl rfl (by decide) (by decide)
  have o5 := lit_owns (w2.alloc (.cells #[.int .i64 2, .int .i64 3] 3)) (w2.heap.size + 1) (by simp) #[.int .i64 1, .int .i64 2] [1, 2] 2 rfl rfl (by decide) (by decide)
  have c3 := offset_any _ _ _ _ _ (o4.new (grown_new _ _)).ints o5.ints
  rw [show offN [2, 3] [1, 2] = 5 by decide, show offE [2, 3] [1, 2] = 0 by decide] at c3
  refine c3.mono ?_
  have g4 := grown_trans (grown_new w2 (.cells #[.int .i64 2, .int .i64 3] 3)) (grown_new (w2.alloc (.cells #[.int .i64 2, .int .i64 3] 3)) (.cells #[.int .i64 1, .int .i64 2] 3))
  clear c3 o4 o5
  rintro e w3 ⟨rfl, gc⟩
  have g5 := grown_trans g4 gc
  have ob3 := ob'.more g5
  have g6 := grown_trans g3 g5
  clear g3 g4 gc g5 ob'
  go_wp2_with fail
  have o6 := lit_owns w3 w3.heap.size rfl #[.int .i64 2, .int .i64 3] [2, 3] 2 rfl rfl (by decide) (by decide)
  have c4 := coords_any _ _ 5 _ o6.ints (by decide) (by decide)
  rw [show crdsE [2, 3] 5 = 0 by decide, show crdsL [2, 3] 5 = [1, 2] by decide] at c4
  refine c4.mono ?_
  have g7 := grown_new w3 (.cells #[.int .i64 2, .int .i64 3] 3)
  clear c4 o6
  rintro e w4 ⟨cc, rfl, oc, gd⟩
  have g8 := grown_trans g7 gd
  have ob4 := ob3.more g8
  have g9 := grown_trans g6 g8
  have oc4 := oc.ints
  clear g7 gd g8 g6 oc ob3
  go_wp2_with fail
  have o7 := lit_owns w4 w4.heap.size rfl #[.int .i64 2, .int .i64 4, .int .i64 3] [2, 4, 3] 3 rfl rfl (by decide) (by decide)
  have g10 := grown_new w4 (.cells #[.int .i64 2, .int .i64 4, .int .i64 3] 3)
  have c5 := same_any _ _ _ _ _ (ob4.more g10) o7.ints
  rw [show decide (([2, 4, 3] : List Int) = [2, 4, 3]) = true by decide] at c5
  refine c5.mono ?_
  clear c5 o7
  rintro e w5 ⟨rfl, ge⟩
  have g11 := grown_trans g10 ge
  have oc5 := oc4.more g11
  have g12 := grown_trans g9 g11
  clear g10 ge g11 g9 ob4 oc4
  go_wp2_with fail
  have o8 := lit_owns w5 w5.heap.size rfl #[.int .i64 1, .int .i64 2] [1, 2] 2 rfl rfl (by decide) (by decide)
  have g13 := grown_new w5 (.cells #[.int .i64 1, .int .i64 2] 3)
  have c6 := same_any _ _ _ _ _ (oc5.more g13) o8.ints
  rw [show decide (([1, 2] : List Int) = [1, 2]) = true by decide] at c6
  refine c6.mono ?_
  clear c6 o8
  rintro e w6 ⟨rfl, gf⟩
  have g14 := grown_trans g12 (grown_trans g13 gf)
  clear g12 g13 gf oc5
  go_wp2
  go_ret
  exact ⟨rfl, g14⟩
end Go.Proofs.Ytfamjlikpoiecab
