/- The plain view of some dimensions, by the walk: rowByRow and Whole. -/
import Derived.Test.YteigfipgmghgmaaGreatDoorVwMake
namespace Go.Proofs.YteigfipgmghgmaaGreatDoor.Vw
open Go.RowKit

def rowOff (off : Int) (ds : List Int) : Int := if cntE ds = 0 then off else 0
def rowDs (ds : List Int) : List Int := if cntE ds = 0 then ds else []

theorem zeroBox (w : World) : (w.alloc (.cells #[.int .i64 0, .slice none 0 0, .slice none 0 0] 76)).heap[w.heap.size]? = some (.cells #[.int .i64 0, .slice none 0 0, .slice none 0 0] 76 (0, 0)) := heap_alloc_new w _

theorem box_kept {w w' : World} {B : Nat} {o : Obj} (hb : w.heap[B]? = some o) (hg : w.grownBy w' none) : w'.heap[B]? = some o := (hg.block B (Array.getElem?_eq_some_iff.1 hb).1 (by simp)).trans hb

/-- Lists of the call's own that were made since a box was, and are left alone by what is written into it. -/
theorem _root_.Go.Proofs.YteigfipgmghgmaaGreatDoor.Owns.box {w w' : World} {base B : Nat} {v : Value} {zs : List Int} (h : Owns w base v zs) (hg : w.grownBy w' (some B)) (hB : B < base) : Owns w' base v zs :=
  h.more hg (Or.inr (fun e => by have := (h.lt B e).1; omega))

set_option maxHeartbeats 800000 in
theorem row_any (off : Int) (v : Value) (ds : List Int) (w : World) (h : IsInts w v ds) (ho1 : -9223372036854775808 ≤ off) (ho2 : off ≤ 9223372036854775807) :
    Calls Tryz.prog 64 #[.int .i64 off, v] w fun e w' => ∃ u, e = .returned (.tuple #[u, .int .i64 (cntE ds)]) ∧ OwnView w' w.heap.size u (rowOff off ds) (rowDs ds) (strdE ds) ∧ w.grownBy w' none := by
  have g0 := grown_new w (.cells #[.int .i64 0, .slice none 0 0, .slice none 0 0] 76)
  have b0 := hide (zeroBox w)
  have c1 := hide (strides_any v ds _ (h.more g0))
  have H := hide h
  have hs0 : (w.alloc (.cells #[.int .i64 0, .slice none 0 0, .slice none 0 0] 76)).heap.size = w.heap.size + 1 := by simp
  rw [hs0] at c1
  clear h hs0
  by_cases hE : cntE ds = 0
  · rw [show rowOff off ds = off by simp [rowOff, hE], show rowDs ds = ds by simp [rowDs, hE], hE]
    rw [hE] at c1
    clear hE
    go_enter Tryz.func64, Tryz.ntmps64
    go_wp2_with fail
    refine c1.out.mono ?_
    rintro e w1 ⟨s, rfl, os, hg1⟩
    have g1 := grown_trans g0 hg1
    have OS := hide os
    have c2 := hide (clone_any v ds w1 (H.out.more g1))
    have hsz := hg1.size
    simp only [World.size_alloc] at hsz
    clear os
    go_wp2_with fail
    refine c2.out.mono ?_
    rintro e w2 ⟨d, rfl, od, hg2⟩
    have g2 := grown_trans g1 hg2
    have hb := box_kept b0.out (grown_trans hg1 hg2)
    obtain ⟨k0, k1, k2, f0, f1, f2⟩ := box_cells hb
    obtain ⟨hX, gX, gB⟩ := store3 (.int .i64 off) d s g2 (Nat.le_refl _) hb
    have OD := hide (od.box gB (by omega))
    have OS2 := hide ((OS.out.new hg2).box gB (by omega))
    have AP := hide (apart_of (v := s) (v' := d) (a := w1.heap.size) (b := w1.heap.size) (fun k hk => (OS.out.lt k hk).2) (fun k hk => (od.lt k hk).1) (Nat.le_refl _))
    have HX := hide hX
    have GX := hide gX
    obtain ⟨da, dc, rfl, -, -, -, -, -, -⟩ := od.ints
    obtain ⟨sa, sc, rfl, -, -, -, -, -, -⟩ := OS.out.ints
    clear od hX gX gB hb
    go_wp2
    refine bodyPost_ret (ret_view rfl _ _ w.heap.size rfl HX.out) rfl ?_
    refine ⟨_, rfl, ⟨_, _, rfl, OD.out.base_le (by omega), OS2.out.base_le (by omega), ho1, ho2, ?_⟩, GX.out⟩
    rcases AP.out with h | h
    · rw [h]
      generalize Value.ownBlock _ = o
      cases o with
      | none => exact Or.inl rfl
      | some k => exact Or.inr (by simp)
    · exact Or.inr (fun e => h e.symm)
  · rw [show rowOff off ds = 0 by simp [rowOff, hE], show rowDs ds = [] by simp [rowDs, hE]]
    rw [show strdE ds = [] by simp [strdE, hE]] at c1 ⊢
    have hE' := beq_zero_false hE
    obtain ⟨E, hEE⟩ : ∃ E, E = cntE ds := ⟨_, rfl⟩
    rw [← hEE] at hE' c1 ⊢
    clear hE hEE
    go_enter Tryz.func64, Tryz.ntmps64
    go_wp2_with fail
    refine c1.out.mono ?_
    rintro e w1 ⟨s, rfl, os, hg1⟩
    have g1 := grown_trans g0 hg1
    have hb := box_kept b0.out hg1
    obtain ⟨k0, k1, k2, f0, f1, f2⟩ := box_cells hb
    obtain ⟨hX, gX, gB⟩ := store3 (.int .i64 0) (.slice none 0 0) (.slice none 0 0) g1 (Nat.le_refl _) hb
    have HX := hide hX
    have GX := hide gX
    clear os hX gX gB hb
    go_wp2
    refine bodyPost_ret (ret_view rfl _ _ w.heap.size rfl HX.out) rfl ?_
    exact ⟨_, rfl, OwnView.nil _ _, GX.out⟩

set_option maxHeartbeats 800000 in
theorem whole_any (v : Value) (ds : List Int) (w : World) (h : IsInts w v ds) :
    Calls Tryz.prog 37 #[v] w fun e w' => ∃ u, e = .returned (.tuple #[u, .int .i64 (cntE ds)]) ∧ OwnView w' w.heap.size u 0 (rowDs ds) (strdE ds) ∧ w.grownBy w' none := by
  have g0 := grown_new w (.cells #[.int .i64 0, .slice none 0 0, .slice none 0 0] 76)
  have b0 := hide (zeroBox w)
  have c1 := row_any 0 v ds _ (h.more g0) (by omega) (by omega)
  have hs0 : (w.alloc (.cells #[.int .i64 0, .slice none 0 0, .slice none 0 0] 76)).heap.size = w.heap.size + 1 := by simp
  rw [hs0, show rowOff 0 ds = 0 by simp [rowOff]] at c1
  have C1 := hide c1
  clear h hs0 c1
  go_enter Tryz.func37, Tryz.ntmps37
  go_wp2_with fail
  refine C1.out.mono ?_
  rintro e w1 ⟨u, rfl, ⟨d, s, rfl, od, os, _, _, ap⟩, hg1⟩
  have g1 := grown_trans g0 hg1
  have hb := box_kept b0.out hg1
  obtain ⟨k0, k1, k2, f0, f1, f2⟩ := box_cells hb
  obtain ⟨hX, gX, gB⟩ := store3 (.int .i64 0) d s g1 (Nat.le_refl _) hb
  have OD := hide (od.box gB (by omega))
  have OS := hide (os.box gB (by omega))
  have AP := hide ap
  have HX := hide hX
  have GX := hide gX
  obtain ⟨da, dc, rfl, -, -, -, -, -, -⟩ := od.ints
  obtain ⟨sa, sc, rfl, -, -, -, -, -, -⟩ := os.ints
  clear od os ap hX gX gB hb
  go_wp2
  refine bodyPost_ret (ret_view rfl _ _ w.heap.size rfl HX.out) rfl ?_
  exact ⟨_, rfl, ⟨_, _, rfl, OD.out.base_le (by omega), OS.out.base_le (by omega), by omega, by omega, AP.out⟩, GX.out⟩

theorem two_boxes (w : World) (o o' : Obj) : ((w.alloc o).alloc o').heap[w.heap.size]? = some o ∧ ((w.alloc o).alloc o').heap[w.heap.size + 1]? = some o' := by
  constructor
  · rw [Below.heap_alloc _ _ _ (by simp)]
    exact heap_alloc_new w o
  · have := heap_alloc_new (w.alloc o) o'
    simpa using this

/-- A view is put into its box: what is left. -/
theorem put_view {w wl : World} {B base : Nat} {z0 z1 z2 d s : Value} {off : Int} {ds ss : List Int} (hg : w.grownBy wl none) (hB : w.heap.size ≤ B) (hb : wl.heap[B]? = some (.cells #[z0, z1, z2] 76 (0, 0)))
    (hd : Owns wl base d ds) (hs : Owns wl base s ss) (hbB : B < base) (ho1 : -9223372036854775808 ≤ off) (ho2 : off ≤ 9223372036854775807) (hap : d.ownBlock = none ∨ d.ownBlock ≠ s.ownBlock) :
    (((wl.setCell ⟨B, 0, none⟩ (.int .i64 off)).setCell ⟨B, 1, none⟩ d).setCell ⟨B, 2, none⟩ s).heap[B]? = some (.cells #[.int .i64 off, d, s] 76 (0, 0)) ∧
    OwnView (((wl.setCell ⟨B, 0, none⟩ (.int .i64 off)).setCell ⟨B, 1, none⟩ d).setCell ⟨B, 2, none⟩ s) w.heap.size (.agg #[.int .i64 off, d, s]) off ds ss ∧
    w.grownBy (((wl.setCell ⟨B, 0, none⟩ (.int .i64 off)).setCell ⟨B, 1, none⟩ d).setCell ⟨B, 2, none⟩ s) none := by
  obtain ⟨hX, gX, gB⟩ := store3 (.int .i64 off) d s hg hB hb
  exact ⟨hX, ⟨d, s, rfl, (hd.box gB hbB).base_le (by omega), (hs.box gB hbB).base_le (by omega), ho1, ho2, hap⟩, gX⟩

theorem apart_symm {d s : Value} (h : s.ownBlock = none ∨ s.ownBlock ≠ d.ownBlock) : d.ownBlock = none ∨ d.ownBlock ≠ s.ownBlock := by
  rcases h with h | h
  · rw [h]
    cases d.ownBlock with
    | none => exact Or.inl rfl
    | some k => exact Or.inr (by simp)
  · exact Or.inr (fun e => h e.symm)
end Go.Proofs.YteigfipgmghgmaaGreatDoor.Vw
