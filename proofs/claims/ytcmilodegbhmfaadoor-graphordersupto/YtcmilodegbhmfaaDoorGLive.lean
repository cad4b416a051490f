/- The statements' own live, by the walk. -/
import Derived.Test.YtcmilodegbhmfaaDoorGTwo
import Derived.Test.YtcmilodegbhmfaaDoorSSame
namespace Go.Proofs.YtcmilodegbhmfaaDoor
open Go.RowKit

theorem two_order (s1 s2 : Sl) : orderR (twoCs s1 s2 120) twoIn twoOut [] = ([1, 0], 0) := by kernel_rfl

theorem two_order' (s1 s2 : Sl) : (orderR (twoCs s1 s2 121) twoIn twoOut []).2 = 4 := by kernel_rfl

theorem two_reads (s1 s2 : Sl) : readsN (twoCs s1 s2 120) ⟨#[120]⟩ (twoCs s1 s2 120).length = [1] := by kernel_rfl

theorem lit_ints (w : World) (zs : List Int) (hl : zs.length ≤ 1024) (hz : ∀ z ∈ zs, -1024 ≤ z ∧ z ≤ 1024) : IsInts (w.alloc (.cells (zs.map (Value.int .i64)).toArray 3)) (.slice (some ⟨w.heap.size, 0, none⟩) zs.length zs.length) zs := by
  refine Owns.ints (base := 0) ⟨⟨by simp, Or.inr ⟨w.heap.size, zs.length, _, rfl, Nat.zero_le _, heap_alloc_new w _, Nat.le_refl _, by simp only [maxLen]; omega, by simp, ?_⟩⟩, by omega, fun z h => by have := hz z h; omega⟩
  rw [List.take_of_length_le (by simp)]

set_option maxRecDepth 100000 in
set_option maxHeartbeats 6400000 in
theorem glive_any (w : World) (hl : Laid w) : Calls Tryd.prog 10 #[] w fun e w' => e = .returned (.bool true) ∧ w.grownBy w' none := by
  have HL := hide hl
  clear hl
  go_enter Tryd.func10, Tryd.ntmps10
  go_wp2_with fail
  refine (two_any false w).mono ?_
  rintro e w1 ⟨g, s1, s2, rfl, hok, hg1⟩
  rw [show (if false = true then (121 : UInt8) else 120) = 120 from rfl] at hok
  have OA := hide (order_any g _ _ _ _ w1 (HL.out.more hg1) hok)
  rw [two_order] at OA
  simp only at OA
  clear hok
  go_wp2_with fail
  refine OA.out.mono ?_
  rintro e w2 ⟨⟨ua, un, uc⟩, rfl, ho, hg2⟩
  have g2 := grown_trans hg1 hg2
  have HI := hide ho.ints
  clear ho
  unfold Sl.v at HI ⊢
  simp only at HI ⊢
  go_wp2_with fail
  refine (two_any false w2).mono ?_
  rintro e w3 ⟨g', s1', s2', rfl, hok, hg3⟩
  rw [show (if false = true then (121 : UInt8) else 120) = 120 from rfl] at hok
  have g3 := grown_trans g2 hg3
  have RA := hide (readers_any g' _ ⟨#[120]⟩ w3 hok.base.nodes hok.base.few.1 (fun c hc => (hok.base.node c hc).ins))
  rw [two_reads] at RA
  clear hok
  go_wp2_with fail
  refine RA.out.mono ?_
  rintro e w4 ⟨⟨va, vn, vc⟩, rfl, ho, hg4⟩
  have g4 := grown_trans g3 hg4
  have HJ := hide ho.ints
  clear ho
  unfold Sl.v at HJ ⊢
  simp only at HJ ⊢
  have L1 := hide (lit_ints w4 [1, 0] (by simp) (by simp))
  have SA := hide (same_any _ _ [1, 0] [1, 0] (w4.alloc (.cells #[.int .i64 1, .int .i64 0] 3)) ((HI.out.more (grown_trans hg3 hg4)).more (grown_new _ _)) L1.out)
  obtain ⟨w5, hw5⟩ : ∃ w5, w5 = w4.alloc (.cells #[.int .i64 1, .int .i64 0] 3) := ⟨_, rfl⟩
  have g5 : w.grownBy w5 none := by rw [hw5]; exact grown_trans g4 (grown_new _ _)
  have g45 : w4.grownBy w5 none := by rw [hw5]; exact grown_new _ _
  rw [← hw5] at SA
  go_wp2_with fail
  rw [← hw5]
  clear hw5
  refine SA.out.mono ?_
  rintro e w6 ⟨rfl, hg6⟩
  have g6 := grown_trans g5 hg6
  rw [show decide True = true from rfl]
  go_wp2_with fail
  refine (two_any true w6).mono ?_
  rintro e w7 ⟨g'', s1'', s2'', rfl, hok, hg7⟩
  rw [show (if true = true then (121 : UInt8) else 120) = 121 from rfl] at hok
  have g7 := grown_trans g6 hg7
  have CA := hide (gcheck_any g'' _ _ _ _ w7 (HL.out.more g7) hok)
  rw [two_order'] at CA
  clear hok
  go_wp2_with fail
  refine CA.out.mono ?_
  rintro e w8 ⟨rfl, hg8⟩
  have g8 := grown_trans g7 hg8
  have L2 := hide (lit_ints w8 [1] (by simp) (by simp))
  have SB := hide (same_any _ _ [1] [1] (w8.alloc (.cells #[.int .i64 1] 3)) ((HJ.out.more (grown_trans (grown_trans (grown_trans g45 hg6) hg7) hg8)).more (grown_new _ _)) L2.out)
  obtain ⟨w9, hw9⟩ : ∃ w9, w9 = w8.alloc (.cells #[.int .i64 1] 3) := ⟨_, rfl⟩
  have g9 : w.grownBy w9 none := by rw [hw9]; exact grown_trans g8 (grown_new _ _)
  rw [← hw9] at SB
  go_wp2_with fail
  rw [← hw9]
  clear hw9
  refine SB.out.mono ?_
  rintro e w10 ⟨rfl, hg10⟩
  rw [show decide True = true from rfl]
  go_wp2
  go_ret
  exact ⟨rfl, grown_trans g9 hg10⟩
end Go.Proofs.YtcmilodegbhmfaaDoor
