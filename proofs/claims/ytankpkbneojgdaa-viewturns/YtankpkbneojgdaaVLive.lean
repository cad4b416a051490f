/- Some answers that the document gives: live of the statements of package view. -/
import Derived.Test.YtankpkbneojgdaaVRead
import Derived.Test.YtankpkbneojgdaaVTrans
import Derived.Test.YtankpkbneojgdaaVShape
import Derived.Test.YtankpkbneojgdaaVSame
namespace Go.Proofs.Ytankpkbneojgdaa
open Go.RowKit

theorem row_ints {w : World} {base : Nat} {e : TypeId} {v : Value} {zs : List Int} (hr : w.ownsRow base e 1 v zs.length (zs.map (Value.int .i64))) (hle : zs.length * 8 ≤ 140737488351232) (hwf : ∀ z ∈ zs, -9223372036854775808 ≤ z ∧ z ≤ 9223372036854775807) : IsInts w v zs := by
  have hr0 := hr
  rcases hr.2 with ⟨rfl, h0⟩ | ⟨g, cap, cur, rfl, _, _, hnc, hcm, _, _⟩
  · obtain rfl : zs = [] := List.length_eq_zero_iff.1 h0
    exact ⟨none, 0, rfl, by simp, by simp, by simp, fun _ => ⟨rfl, rfl⟩, fun h => by simp at h, fun z hz => by simp at hz⟩
  · refine ⟨_, cap, rfl, hnc, by simpa [maxLen] using hcm, hle, (fun h => by cases h), fun _ => ⟨g, 0, rfl, fun t ht => ?_⟩, hwf⟩
    rw [Nat.zero_add, hr0.cellAt t (by omega)]
    simp [List.getD, ht]

theorem Owns64.ints {w : World} {base : Nat} {v : Value} {zs : List Int} (h : Owns64 w base v zs) : IsInts w v zs := row_ints h.1 h.2.1 h.2.2
theorem Owns64.new {w w' : World} {base : Nat} {v : Value} {zs : List Int} (h : Owns64 w base v zs) (hg : w.grownBy w' none) : Owns64 w' base v zs := ⟨h.1.kept hg (by cases v.ownBlock <;> simp), h.2⟩

/-- A list that is written out, of whatever type its numbers are. -/
theorem lit_ints (w : World) (g : Nat) (hg : g = w.heap.size) (e : TypeId) (cs : Array Value) (zs : List Int) (n : Nat) (hn : zs.length = n) (hc : cs.toList = zs.map (Value.int .i64)) (hwf : ∀ z ∈ zs, 0 ≤ z ∧ z ≤ 1000) (hle : n ≤ 1000) :
    IsInts (w.alloc (.cells cs e)) (.slice (some ⟨g, 0, none⟩) n n) zs := by
  subst hg hn
  have hs : cs.size = zs.length * 1 := by rw [← Array.length_toList, hc]; simp
  have := World.ownsRow_lit (base := w.heap.size) (e := e) (size := 1) w cs zs.length (Nat.le_refl _) (by simp only [maxLen]; omega) hs
  rw [hc] at this
  exact row_ints this (by omega) (fun z hz => by have := hwf z hz; omega)

theorem may23 : MayV 0 [2, 3] [3, 1] := mayB_iff.1 (by decide)
theorem may32 : MayV 0 [3, 2] [1, 3] := mayB_iff.1 (by decide)
theorem perm10 : IsPerm [1, 0] 2 := ⟨rfl, by decide, by decide⟩
theorem plain32 : ¬ PlainV [3, 2] [1, 3] := fun h => absurd (h 0 (by decide) (by decide)) (by decide)

theorem turned23 {E off' : Int} {ds' ss' : List Int} (h : Turned 0 [2, 3] [3, 1] [1, 0] E off' ds' ss') : E = 0 ∧ off' = 0 ∧ ds' = [3, 2] ∧ ss' = [1, 3] := by
  rcases h with ⟨h, _⟩ | ⟨_, h, _⟩ | ⟨_, _, h1, h2, h3, h4⟩
  · exact absurd may23 h
  · exact absurd perm10 h
  · exact ⟨h1, h2, h3.trans (by decide), h4.trans (by decide)⟩

theorem shaped32 {E off' : Int} {ds' ss' : List Int} (h : Reshaped 0 [3, 2] [1, 3] [6] E off' ds' ss') : E = 1 := by
  rcases h with ⟨h, _⟩ | ⟨_, h, _⟩ | ⟨_, _, h, _⟩ | ⟨_, _, _, _, h, _⟩ | ⟨_, _, _, h, _⟩
  · exact absurd may32 h
  · exact absurd (by decide) h
  · exact absurd (by decide) h
  · exact h
  · exact absurd h plain32

set_option maxHeartbeats 1600000 in
theorem vlive_any (w : World) : Calls Try.prog 13 #[] w fun e w' => e = .returned (.bool true) ∧ w.grownBy w' none := by
  go_enter Try.func13, Try.ntmps13
  go_wp2_with fail
  have o1 := lit_ints w w.heap.size rfl 3 #[.int .i64 2, .int .i64 3] [2, 3] 2 rfl rfl (by decide) (by decide)
  have c1 := whole_any _ _ _ o1
  rw [show cntE [2, 3] = 0 by decide, show rowDs [2, 3] = [2, 3] by decide, show strdE [2, 3] = [3, 1] by decide] at c1
  refine c1.mono ?_
  have g0 := grown_new w (.cells #[.int .i64 2, .int .i64 3] 3)
  clear c1 o1
  rintro e w1 ⟨v, rfl, ov, hg1⟩
  have g1 := grown_trans g0 hg1
  have OV := hide ov.view
  obtain ⟨d, s, rfl, od, os, -, -, -⟩ := ov
  obtain ⟨da, dc, rfl, -, -, -, -, -, -⟩ := od.ints
  obtain ⟨sa, sc, rfl, -, -, -, -, -, -⟩ := os.ints
  clear od os g0 hg1
  go_wp2_with fail
  refine Calls.mono (transpose_any _ _ 0 [2, 3] [3, 1] [1, 0] _ (OV.out.more ?ga) ?oa) ?_
  case ga => exact grown_trans (grown_new _ _) (grown_new _ _)
  case oa => exact lit_ints _ _ (by simp) _ _ _ _ rfl rfl (by decide) (by decide)
  rintro e w2 ⟨t, E, off', ds', ss', rfl, ht, ot, hg2⟩
  obtain ⟨rfl, rfl, rfl, rfl⟩ := turned23 ht
  have g3 := grown_trans g1 (grown_trans (grown_trans (grown_new _ _) (grown_new _ _)) hg2)
  have OT := hide ot.view
  obtain ⟨d', s', rfl, od, os, -, -, -⟩ := ot
  obtain ⟨da', dc', rfl, -, -, -, -, -, -⟩ := od.ints
  obtain ⟨sa', sc', rfl, -, -, -, -, -, -⟩ := os.ints
  clear od os ht hg2 g1 OV
  go_wp2_with fail
  refine Calls.mono (read_any 0 [3, 2] [1, 3] [0, 1, 2, 3, 4, 5] _ _ _ (OT.out.more ?gb) ?ob) ?_
  case gb => exact grown_trans (grown_new _ _) (grown_new _ _)
  case ob => exact lit_ints _ _ (by simp) _ _ _ _ rfl rfl (by decide) (by decide)
  rw [show rdE 0 [3, 2] [1, 3] [0, 1, 2, 3, 4, 5] = 0 by decide, show rdL 0 [3, 2] [1, 3] [0, 1, 2, 3, 4, 5] = [0, 3, 1, 4, 2, 5] by decide]
  rintro e w3 ⟨l, rfl, ol, hg3⟩
  have g5 := grown_trans (grown_trans (grown_new w2 _) (grown_new _ _)) hg3
  obtain ⟨k0, k1, k2, -, -, -⟩ := box_cells (box_kept (box_kept (heap_alloc_new w2 (.cells #[.int .i64 0, .slice da' 2 dc', .slice sa' 2 sc'] 24)) (grown_new _ _)) hg3)
  have OT3 := hide (OT.out.more g5)
  have OL := hide ol.ints
  have g6 := grown_trans g3 g5
  clear ol hg3 g5 g3 OT
  go_wp2_with fail
  refine Calls.mono (reshape_any _ _ 0 [3, 2] [1, 3] [6] _ (OT3.out.more ?gc) ?oc) ?_
  case gc => exact grown_new _ _
  case oc => exact lit_ints _ _ (by simp) _ _ _ _ rfl rfl (by decide) (by decide)
  rintro e w4 ⟨x, E, off', ds', ss', rfl, hr, ox, hg4⟩
  obtain rfl := shaped32 hr
  have g8 := grown_trans (grown_new w3 _) hg4
  have OL4 := hide (OL.out.more g8)
  have g9 := grown_trans g6 g8
  obtain ⟨d3, s3, rfl, od, os, -, -, -⟩ := ox
  obtain ⟨da3, dc3, rfl, -, -, -, -, -, -⟩ := od.ints
  obtain ⟨sa3, sc3, rfl, -, -, -, -, -, -⟩ := os.ints
  clear od os hr hg4 g8 g6 OL OT3 k0 k1 k2
  go_wp2_with fail
  have c5 := fun wx (hg : w4.grownBy wx none) (u : Value) (hu : IsInts wx u [0, 3, 1, 4, 2, 5]) => samedata_any l u [0, 3, 1, 4, 2, 5] [0, 3, 1, 4, 2, 5] wx (OL4.out.more hg) hu
  simp only [decide_true] at c5
  refine Calls.mono (c5 _ ?gd _ ?od) ?_
  case gd => exact grown_trans (grown_new _ _) (grown_new _ _)
  case od => exact lit_ints _ _ (by simp) _ _ _ _ rfl rfl (by decide) (by decide)
  rintro e w5 ⟨rfl, hg5⟩
  have g11 := grown_trans g9 (grown_trans (grown_trans (grown_new _ _) (grown_new _ _)) hg5)
  clear g9 hg5 OL4 c5
  go_wp2
  go_ret
  exact ⟨rfl, g11⟩
end Go.Proofs.Ytankpkbneojgdaa
