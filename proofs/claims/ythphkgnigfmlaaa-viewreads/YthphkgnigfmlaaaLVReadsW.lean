/- ViewReads, by the walk. -/
import Derived.Test.YthphkgnigfmlaaaVRRead
import Derived.Test.YthphkgnigfmlaaaVApp
import Derived.Deep.LoopGhost
namespace Go.Proofs.Ythphkgnigfmlaaa
open Go.RowKit

set_option maxRecDepth 100000 in
set_option maxHeartbeats 3200000 in
theorem vreads_walk (v : Value) (z : Int × List Int × List Int) (xv : Value) (data : List Int) (w : World) (h : IsView w v z.1 z.2.1 z.2.2) (hx : IsInts w xv data) :
    Calls Try.prog 5 #[v, xv] w fun e w' => e = .returned (.bool true) ∧ Below w.heap.size w w' := by
  obtain ⟨off, ds, ss⟩ := z
  have h : IsView w v off ds ss := h
  have HV := hide h
  have HX := hide hx
  have hxl := hx.le
  obtain ⟨dv, sv, rfl, -, -, ho1, ho2⟩ := h
  obtain ⟨xa, xc, rfl, hx1, hx2, hx3, -, -, -⟩ := hx
  have g1 := grown_new w (.cells #[.int .i64 off, dv, sv] 24)
  have HX1 := hide (HX.out.more g1)
  obtain ⟨w0, hw0⟩ : ∃ w0, w0 = w.alloc (.cells #[.int .i64 off, dv, sv] 24) := ⟨_, rfl⟩
  rw [← hw0] at HX1 g1
  have bX : Hid (∀ wx, w0.grownBy wx none → wx.heap[w.heap.size]? = some (.cells #[.int .i64 off, dv, sv] 24 (0, 0))) := fun wx hx => box_kept (by rw [hw0]; exact heap_alloc_new w _) hx
  have RA := hide (fun wx u (hg : w.grownBy wx none) (hu : IsInts wx u data) => read_any off ds ss data _ u wx (HV.out.more hg) hu)
  have RB := hide (fun wx (hg : w.grownBy wx none) => refread_any off ds ss data _ _ wx (HV.out.more hg) (HX.out.more hg))
  obtain ⟨E, hE⟩ : ∃ E, E = rdE off ds ss data := ⟨_, rfl⟩
  obtain ⟨L, hL⟩ : ∃ L, L = rdL off ds ss data := ⟨_, rfl⟩
  rw [← hE, ← hL] at RA RB
  clear hE hL HV
  have hEE : (E != E) = false := by simp
  go_enter Try.func5, Try.ntmps5
  go_wp2_with (at_builtin; rw [← hw0]; refine wpList_app64 rfl (.tmp 11) (.tmp 12) rfl w0.heap.size _ [] rfl (owns64_nil _ _) _ data rfl HX1.out (by simpa using hxl) (Nat.le_refl _) ?_; intro v' w1 hown hgrow; have g01 : w0.grownBy w1 none := hgrow; have OW : Hid (Owns64 w1 w0.heap.size v' data) := hown; clear hown hgrow; obtain ⟨va, vc, rfl, -, -, -, -, -, -⟩ := OW.out.ints; obtain ⟨q0, q1, q2, -, -, -⟩ := box_cells (bX.out w1 g01))
  clear hw0
  have gw1 := grown_trans g1 g01
  refine (RA.out w1 _ gw1 OW.out.ints).mono ?_
  rintro e w2 ⟨a, rfl, oa, hg2⟩
  clear q0 q1 q2
  have OA := hide oa
  obtain ⟨aa, ac, rfl, ha1, ha2, ha3, -, -, -⟩ := oa.ints
  clear oa
  obtain ⟨q0, q1, q2, -, -, -⟩ := box_cells (bX.out w2 (grown_trans g01 hg2))
  go_wp2_with fail
  refine (RB.out w2 (grown_trans gw1 hg2)).mono ?_
  rintro e w3 ⟨b, rfl, ob, hg3⟩
  clear q0 q1 q2
  have SD := samedata_any _ _ L L w3 (OA.out.ints.more hg3) ob.ints
  rw [decide_eq_true rfl] at SD
  obtain ⟨ba, bc, rfl, -, -, -, -, -, -⟩ := ob.ints
  clear ob
  have HSD := hide SD
  clear SD
  go_wp2_with fail
  refine HSD.out.mono ?_
  rintro e w4 ⟨rfl, hg4⟩
  have OA4 := hide (OA.out.new (grown_trans hg3 hg4))
  have g14 := grown_trans hg2 (grown_trans hg3 hg4)
  go_wp2
  go_loopg [10] L.length (fun f i wr => ∃ (k : Nat) (zs : List Value), f = L.length - k ∧ k ≤ L.length ∧ i = .int .i64 k ∧ wr.ownsRow w1.heap.size 2 1 (.slice aa L.length ac) L.length zs ∧ w1.grownBy wr none)
  case atStart => exact ⟨0, _, rfl, Nat.zero_le _, rfl, OA4.out.1, g14⟩
  case round =>
    obtain ⟨k, zs, rfl, hk, rfl, hown, hw⟩ := hrel
    have HO := hide hown
    by_cases hkl : k < L.length
    · rcases hown.2 with ⟨e, h0⟩ | ⟨g, cap, cur, e, hgb, -, hnc, hcm, -, -⟩
      · omega
      · simp only [Value.slice.injEq, true_and] at e
        obtain ⟨rfl, rfl⟩ := e
        obtain ⟨c, hc⟩ : ∃ c, wr.cell? ⟨g, k, none⟩ = some c := ⟨zs[k]'(by have := hown.1; omega), by rw [hown.cellAt k (by omega), List.getElem?_eq_getElem]⟩
        have hf := hown.frozenAt k
        clear hown
        go_wp2
        go_roundg (L.length - (k + 1))
        case measure => omega
        case rel => exact ⟨k + 1, _, rfl, by omega, by go_num, (HO.out.stored k _).1, grown_trans_row hw (HO.out.stored k _).2 (fun x e => by cases e; exact hgb)⟩
    · clear hown
      have SD := samedata_any _ _ data data wr (OW.out.ints.more hw) (HX.out.more (grown_trans gw1 hw))
      rw [decide_eq_true rfl] at SD
      have HSE := hide SD
      clear SD
      go_wp2_with fail
      refine HSE.out.mono ?_
      rintro e w6 ⟨rfl, hg6⟩
      go_wp2_with fail
      refine (vlive_any _).mono ?_
      rintro e w8 ⟨rfl, hg8⟩
      go_wp2
      go_ret
      exact ⟨rfl, grown_below (grown_trans gw1 (grown_trans hw (grown_trans hg6 hg8)))⟩
end Go.Proofs.Ythphkgnigfmlaaa
