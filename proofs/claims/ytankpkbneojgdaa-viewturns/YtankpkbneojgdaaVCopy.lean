/- A view of its own, and a view that is spoilt, by the walk. -/
import Derived.Test.YtankpkbneojgdaaVRow
import Derived.Test.YtankpkbneojgdaaSCopy
import Derived.Deep.RegionWith
import Derived.Deep.RegionHeld3
import Derived.Deep.LoopGhost
namespace Go.Proofs.Ytankpkbneojgdaa
open Go.RowKit

theorem ret_view1 {fn : Func} {p : Tmp} (h : fn.results = #[.cell p 24]) (tmps : Array Value) (w : World) (B : Nat) (hp : tmps.getD p undef = .pointer (some ⟨B, 0, none⟩)) {a b c : Value}
    (hb : w.heap[B]? = some (.cells #[a, b, c] 24 (0, 0))) : (results fn tmps).run Try.prog w = .ok (.agg #[a, b, c]) w :=
  results_cell_row h tmps w B 24 #[a, b, c] (0, 0) _ hp hb Try.underlying24 rfl (by rw [viewInfo]; rfl)

set_option maxRecDepth 100000 in
set_option maxHeartbeats 1600000 in
theorem vcopy_any (v : Value) (off : Int) (ds ss : List Int) (w : World) (h : IsView w v off ds ss) :
    Calls Try.prog 4 #[v] w fun e w' => ∃ u, e = .returned u ∧ OwnView w' w.heap.size u off ds ss ∧ w.grownBy w' none := by
  obtain ⟨dv, sv, rfl, hd, hs, ho1, ho2⟩ := h
  obtain ⟨w0, hw0⟩ : ∃ w0, w0 = (w.alloc (.cells #[.int .i64 off, dv, sv] 24)).alloc (.cells #[.int .i64 0, .slice none 0 0, .slice none 0 0] 24) := ⟨_, rfl⟩
  have g0 : w.grownBy w0 none := by rw [hw0]; exact grown_trans (grown_new _ _) (grown_new _ _)
  have hs0 : w0.heap.size = w.heap.size + 2 := by rw [hw0]; simp
  have hbx := two_boxes w (.cells #[.int .i64 off, dv, sv] 24) (.cells #[.int .i64 0, .slice none 0 0, .slice none 0 0] 24)
  rw [← hw0] at hbx
  have BX : Hid (∀ wx, w0.grownBy wx none → wx.heap[w.heap.size]? = some (.cells #[.int .i64 off, dv, sv] 24 (0, 0)) ∧ wx.heap[w.heap.size + 1]? = some (.cells #[.int .i64 0, .slice none 0 0, .slice none 0 0] 24 (0, 0)) ∧ w.heap.size + 2 ≤ wx.heap.size) :=
    fun wx hg => ⟨box_kept hbx.1 hg, box_kept hbx.2 hg, by have := hg.size; omega⟩
  have HD := hide hd
  have HS := hide hs
  have CD : Hid (∀ wx, w0.grownBy wx none → Calls Try.prog 14 #[dv] wx fun e w' => ∃ u, e = .returned u ∧ Owns w' wx.heap.size u ds ∧ wx.grownBy w' none) := fun wx hx => copy_any dv ds wx (HD.out.more (grown_trans g0 hx))
  have CS : Hid (∀ wx, w0.grownBy wx none → Calls Try.prog 14 #[sv] wx fun e w' => ∃ u, e = .returned u ∧ Owns w' wx.heap.size u ss ∧ wx.grownBy w' none) := fun wx hx => copy_any sv ss wx (HS.out.more (grown_trans g0 hx))
  have HG0 := hide g0
  clear hbx hd hs g0
  go_enter Try.func4, Try.ntmps4
  go_wp2
  rw [← hw0]
  clear hw0
  obtain ⟨x0, x1, x2, -, -, -⟩ := box_cells (BX.out w0 (grown_refl _)).1
  have gd := grown_drew (grown_refl w0)
  go_region_held3 (fun w' => w'.cell? ⟨w.heap.size, 0, none⟩ = some (.int .i64 off) ∧ w'.cell? ⟨w.heap.size, 1, none⟩ = some dv ∧ w'.cell? ⟨w.heap.size, 2, none⟩ = some sv) (go_keep) (first | (go_at_call 14; refine (CD.out _ (by exact gd)).mono ?_; rintro e w1 ⟨d, rfl, od, hg1⟩; have g01 := grown_trans gd hg1; obtain ⟨da, dc, rfl, -, -, -, -, -, -⟩ := od.ints; obtain ⟨x0, x1, x2, -, -, -⟩ := box_cells (BX.out w1 g01).1) | (go_at_call 14; refine (CS.out _ (by exact g01)).mono ?_; rintro e w2 ⟨s, rfl, os, hg2⟩; have g02 := grown_trans g01 hg2; obtain ⟨sa, sc, rfl, -, -, -, -, -, -⟩ := os.ints; obtain ⟨x0, x1, x2, -, -, -⟩ := box_cells (BX.out w2 g02).1; obtain ⟨k0, k1, k2, f0, f1, f2⟩ := box_cells (BX.out w2 g02).2.1))
  obtain ⟨hX, gX, gB⟩ := store3 (.int .i64 off) (.slice da ds.length dc) (.slice sa ss.length sc) (grown_trans HG0.out g02) (show w.heap.size ≤ w.heap.size + 1 by omega) (BX.out w2 g02).2.1
  have hz0 : w0.drew.heap.size = w0.heap.size := rfl
  have hz1 := g01.size
  have OD := hide ((od.new hg2).box gB (by omega))
  have OS := hide (os.box gB (by omega))
  have AP := hide (apart_of (v := .slice da ds.length dc) (v' := .slice sa ss.length sc) (a := w1.heap.size) (b := w1.heap.size) (fun k hk => (od.lt k hk).2) (fun k hk => (os.lt k hk).1) (Nat.le_refl _))
  have HX := hide hX
  have GX := hide gX
  clear hX gX gB od os
  go_wp2
  refine bodyPost_ret (ret_view1 rfl _ _ (w.heap.size + 1) rfl HX.out) rfl ?_
  exact ⟨_, rfl, ⟨_, _, rfl, OD.out.base_le (by omega), OS.out.base_le (by omega), ho1, ho2, AP.out⟩, GX.out⟩

/-- What lay below base is as it was. -/
def Spoilt (base : Nat) (w w' : World) : Prop := ∀ W0 : World, W0.heap.size ≤ base → W0.grownBy w none → W0.grownBy w' none

theorem Spoilt.row {base g : Nat} {w wr w' : World} (h : Spoilt base w wr) (hg : wr.grownBy w' (some g)) (hb : base ≤ g) : Spoilt base w w' :=
  fun W0 h0 hw => grown_trans_row (h W0 h0 hw) hg (fun x e => by cases e; omega)

set_option maxRecDepth 100000 in
set_option maxHeartbeats 1600000 in
theorem vspoil_any (v : Value) (base : Nat) (off : Int) (ds ss : List Int) (w : World) (h : OwnView w base v off ds ss) :
    Calls Try.prog 12 #[v] w fun e w' => e = .returned (.tuple #[]) ∧ Spoilt base w w' := by
  obtain ⟨dv, sv, rfl, od, os, -, -, hap⟩ := h
  have HAP := hide hap
  have g0 := grown_new w (.cells #[.int .i64 off, dv, sv] 24)
  have b0 := hide (heap_alloc_new w (.cells #[.int .i64 off, dv, sv] 24))
  have OD := hide (od.new g0)
  have OS := hide (os.new g0)
  have LD := hide od.lt
  have LS := hide os.lt
  obtain ⟨da, dc, rfl, hd1, hd2, hd3, -, -, -⟩ := od.ints
  obtain ⟨sa, sc, rfl, hs1, hs2, hs3, -, -, -⟩ := os.ints
  obtain ⟨w0, hw0⟩ : ∃ w0, w0 = w.alloc (.cells #[.int .i64 off, .slice da ds.length dc, .slice sa ss.length sc] 24) := ⟨_, rfl⟩
  rw [← hw0] at OD OS b0 g0
  have hz0 : w0.heap.size = w.heap.size + 1 := by rw [hw0]; simp
  have SP : Hid (Spoilt base w w0) := fun W0 _ h => grown_trans h g0
  clear od os hap g0
  go_enter Try.func12, Try.ntmps12
  go_wp2
  rw [← hw0]
  clear hw0
  go_loopg [2] ds.length (fun f i wr => ∃ (k : Nat) (zs : List Value), f = ds.length - k ∧ k ≤ ds.length ∧ i = .int .i64 k ∧ wr.ownsRow base 3 1 (.slice da ds.length dc) ds.length zs ∧ wr.ownsRow base 3 1 (.slice sa ss.length sc) ss.length (ss.map (Value.int .i64)) ∧ wr.heap[w.heap.size]? = some (.cells #[.int .i64 off, .slice da ds.length dc, .slice sa ss.length sc] 24 (0, 0)) ∧ Spoilt base w wr)
  case atStart => exact ⟨0, _, rfl, Nat.zero_le _, rfl, OD.out.1, OS.out.1, b0.out, SP.out⟩
  case round =>
    obtain ⟨k, zs, rfl, hk, rfl, hown, hows, hbx, hsp⟩ := hrel
    have HO := hide hown
    have HS := hide hows
    have HB := hide hbx
    have HSP := hide hsp
    obtain ⟨x0, x1, x2, -, -, -⟩ := box_cells hbx
    have hlt := (Array.getElem?_eq_some_iff.1 hbx).1
    clear hows hbx hsp
    by_cases hkl : k < ds.length
    · rcases hown.2 with ⟨e, h0⟩ | ⟨g, cap, cur, e, hgb, -, hnc, hcm, -, -⟩
      · omega
      · simp only [Value.slice.injEq, true_and] at e
        obtain ⟨rfl, rfl⟩ := e
        have hgw := (LD.out g rfl).2
        obtain ⟨c, hc⟩ : ∃ c, wr.cell? ⟨g, k, none⟩ = some c := ⟨zs[k]'(by have := hown.1; omega), by rw [hown.cellAt k (by omega), List.getElem?_eq_getElem]⟩
        have hf := hown.frozenAt k
        clear hown
        go_wp2
        go_roundg (ds.length - (k + 1))
        case measure => omega
        case rel =>
          obtain ⟨k1, k2⟩ := HO.out.stored k (.int .i64 (-1))
          exact ⟨k + 1, _, rfl, by omega, by go_num, k1, HS.out.kept k2 (Or.inr (fun e => by rcases HAP.out with h | h; cases h; exact h e.symm)), (k2.block _ hlt (fun e => by cases e; omega)).trans HB.out, HSP.out.row k2 hgb⟩
    · clear hown
      go_wp2
      go_loopg [3] ss.length (fun f i wr => ∃ (k : Nat) (zs : List Value), f = ss.length - k ∧ k ≤ ss.length ∧ i = .int .i64 k ∧ wr.ownsRow base 3 1 (.slice sa ss.length sc) ss.length zs ∧ wr.heap[w.heap.size]? = some (.cells #[.int .i64 off, .slice da ds.length dc, .slice sa ss.length sc] 24 (0, 0)) ∧ Spoilt base w wr)
      case atStart => exact ⟨0, _, rfl, Nat.zero_le _, rfl, HS.out, HB.out, HSP.out⟩
      case round =>
        clear x0 x1 x2 hlt HO HS HB HSP hk hkl
        obtain ⟨k, zs, rfl, hk, rfl, hown, hbx, hsp⟩ := hrel
        have HO := hide hown
        have HB := hide hbx
        have HSP := hide hsp
        obtain ⟨x0, x1, x2, -, -, -⟩ := box_cells hbx
        have hlt := (Array.getElem?_eq_some_iff.1 hbx).1
        clear hbx hsp
        by_cases hkl : k < ss.length
        · rcases hown.2 with ⟨e, h0⟩ | ⟨g, cap, cur, e, hgb, -, hnc, hcm, -, -⟩
          · omega
          · simp only [Value.slice.injEq, true_and] at e
            obtain ⟨rfl, rfl⟩ := e
            have hgw := (LS.out g rfl).2
            obtain ⟨c, hc⟩ : ∃ c, wr.cell? ⟨g, k, none⟩ = some c := ⟨zs[k]'(by have := hown.1; omega), by rw [hown.cellAt k (by omega), List.getElem?_eq_getElem]⟩
            have hf := hown.frozenAt k
            clear hown
            go_wp2
            go_roundg (ss.length - (k + 1))
            case measure => omega
            case rel =>
              obtain ⟨k1, k2⟩ := HO.out.stored k (.int .i64 (-2))
              exact ⟨k + 1, _, rfl, by omega, by go_num, k1, (k2.block _ hlt (fun e => by cases e; omega)).trans HB.out, HSP.out.row k2 hgb⟩
        · clear hown
          go_wp2
          refine bodyPost_end (results_none rfl _ _ _) rfl ?_
          exact ⟨rfl, HSP.out⟩
end Go.Proofs.Ytankpkbneojgdaa
