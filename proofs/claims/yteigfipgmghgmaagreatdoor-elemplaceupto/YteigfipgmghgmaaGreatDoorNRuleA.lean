/- What an operator takes, operator by operator (mkRule.py). -/
import Derived.Test.YteigfipgmghgmaaGreatDoorNRule
namespace Go.Proofs.YteigfipgmghgmaaGreatDoor
open Go.RowKit

/-- What ruleOf answers. -/
def Ruled (r : Option (Int × Int × List Ra)) (w' : World) (e : Ending) : Prop := match r with
  | none => e = .returned (.tuple #[.agg #[.int .i64 0, .int .i64 0, .slice none 0 0], .bool false])
  | some (lo, hi, rs) => ∃ a n c, e = .returned (.tuple #[.agg #[.int .i64 lo, .int .i64 hi, .slice a n c], .bool true]) ∧ OwnsR w' 0 (.slice a n c) rs

theorem ret_rule2 {fn : Func} {p u : Tmp} (h : fn.results = #[.cell p 134, .tmp u]) (tmps : Array Value) (w : World) (B : Nat) (hp : tmps.getD p undef = .pointer (some ⟨B, 0, none⟩)) {a b c : Value}
    (hb : w.heap[B]? = some (.cells #[a, b, c] 134 (0, 0))) : (results fn tmps).run Tryz.prog w = .ok (.tuple #[.agg #[a, b, c], tmps.getD u undef]) w := by
  have hl := run_loadVar_row (P := Tryz.prog) w B _ 134 #[a, b, c] (0, 0) _ hb Tryz.underlying134 rfl (by rw [ruleInfo]; rfl)
  rw [results_cell_tmp h, hp]
  simp [asAddr, hl, Result.andThen]

/-- What is left of a rule that is put into its box. -/
theorem rule_put {w w0 w1 wx w6 : World} {row : Option Nat} {lo hi : Int} {a : Option Addr} {n c : Nat} {rs : List Ra} (hg0 : w.grownBy w0 none) (hb : w0.heap[w.heap.size]? = some (.cells #[.int .i64 0, .int .i64 0, .slice none 0 0] 134 (0, 0)))
    (hg1 : w0.grownBy w1 none) (hgx : w1.grownBy wx none) (hg6 : wx.grownBy w6 row) (hrow : ∀ g, row = some g → w1.heap.size ≤ g) (ho : OwnsR w6 0 (.slice a n c) rs) (hne : (Value.slice a n c).ownBlock ≠ some w.heap.size) :
    w6.heap[w.heap.size]? = some (.cells #[.int .i64 0, .int .i64 0, .slice none 0 0] 134 (0, 0)) ∧
    (((w6.setCell ⟨w.heap.size, 0, none⟩ (.int .i64 lo)).setCell ⟨w.heap.size, 1, none⟩ (.int .i64 hi)).setCell ⟨w.heap.size, 2, none⟩ (.slice a n c)).heap[w.heap.size]? = some (.cells #[.int .i64 lo, .int .i64 hi, .slice a n c] 134 (0, 0)) ∧
    OwnsR (((w6.setCell ⟨w.heap.size, 0, none⟩ (.int .i64 lo)).setCell ⟨w.heap.size, 1, none⟩ (.int .i64 hi)).setCell ⟨w.heap.size, 2, none⟩ (.slice a n c)) 0 (.slice a n c) rs ∧
    w.grownBy (((w6.setCell ⟨w.heap.size, 0, none⟩ (.int .i64 lo)).setCell ⟨w.heap.size, 1, none⟩ (.int .i64 hi)).setCell ⟨w.heap.size, 2, none⟩ (.slice a n c)) none := by
  have hlt := (Array.getElem?_eq_some_iff.1 hb).1
  have b1 := box_kept (box_kept hb hg1) hgx
  have s1 := hg1.size
  have b6 : w6.heap[w.heap.size]? = some (.cells #[.int .i64 0, .int .i64 0, .slice none 0 0] 134 (0, 0)) := (hg6.block _ (Array.getElem?_eq_some_iff.1 b1).1 (fun e => by have := hrow _ e.symm; omega)).trans b1
  obtain ⟨hX, gX⟩ := store3r (.int .i64 lo) (.int .i64 hi) (.slice a n c) b6
  refine ⟨b6, hX, World.ownsRow.kept ho gX (Or.inr hne), ?_⟩
  have g6 : w.grownBy w6 none := grown_trans_row (grown_trans (grown_trans hg0 hg1) hgx) hg6 (fun g e => by have := hrow g e; have := (grown_trans hg0 hg1).size; omega)
  exact grown_row_box g6 gX (Nat.le_refl _)

set_option maxRecDepth 100000 in
set_option maxHeartbeats 1600000 in
theorem rule_Relu (w : World) (hl : Laid w) :
    Calls Tryz.prog 98 #[.string ⟨#[82, 101, 108, 117]⟩] w fun e w' => Ruled (some (1, 1, [thenRa])) w' e ∧ w.grownBy w' none := by
  have e1 : isOne ⟨#[82, 101, 108, 117]⟩ = true := by simp only [isOne, bytes_toList]; rfl
  obtain ⟨w0, hw0⟩ : ∃ w0, w0 = w.alloc (.cells #[.int .i64 0, .int .i64 0, .slice none 0 0] 134) := ⟨_, rfl⟩
  have g0 : w.grownBy w0 none := by rw [hw0]; exact grown_new _ _
  have b0 := heap_alloc_new w (.cells #[.int .i64 0, .int .i64 0, .slice none 0 0] 134)
  rw [← hw0] at b0
  have B0 := hide b0
  have OO := hide (ofone_any ⟨#[82, 101, 108, 117]⟩ w0 (hl.more g0))
  rw [e1] at OO
  clear hl b0 e1
  go_enter Tryz.func98, Tryz.ntmps98
  go_wp2_with fail
  rw [← hw0]
  clear hw0
  refine OO.out.mono ?_
  rintro e v0 ⟨rfl, h0⟩
  go_wp2_with fail
  refine (takes_any _ _ _ [] _ (Or.inl ⟨rfl, rfl⟩) (by decide)).mono ?_
  rintro e w6 ⟨⟨a, n, c, rfl, ho, hat⟩, hg6⟩
  have hlt := (Array.getElem?_eq_some_iff.1 B0.out).1
  have hsk := h0.size
  have hne : (Value.slice a n c).ownBlock ≠ some w.heap.size := fun hh => by
    rcases hat _ hh with h | h
    · cases h
    · omega
  obtain ⟨b6, hX, hO, gX⟩ := rule_put (lo := 1) (hi := 1) g0 B0.out h0 (grown_refl _) hg6 (fun g e => by cases e) ho hne
  obtain ⟨r0, r1, r2, f0, f1, f2⟩ := rule_cells b6
  have HX := hide hX
  have HO := hide hO
  have GX := hide gX
  clear hX hO gX b6 ho hg6 hne hat hlt hsk
  go_wp2
  refine bodyPost_ret (ret_rule2 rfl _ _ w.heap.size rfl HX.out) rfl ?_
  exact ⟨⟨_, _, _, rfl, HO.out⟩, GX.out⟩

set_option maxRecDepth 100000 in
set_option maxHeartbeats 1600000 in
theorem rule_Add (w : World) (hl : Laid w) :
    Calls Tryz.prog 98 #[.string ⟨#[65, 100, 100]⟩] w fun e w' => Ruled (some (2, 2, [thenRa])) w' e ∧ w.grownBy w' none := by
  have e1 : isOne ⟨#[65, 100, 100]⟩ = false := by simp only [isOne, bytes_toList]; rfl
  obtain ⟨w0, hw0⟩ : ∃ w0, w0 = w.alloc (.cells #[.int .i64 0, .int .i64 0, .slice none 0 0] 134) := ⟨_, rfl⟩
  have g0 : w.grownBy w0 none := by rw [hw0]; exact grown_new _ _
  have b0 := heap_alloc_new w (.cells #[.int .i64 0, .int .i64 0, .slice none 0 0] 134)
  rw [← hw0] at b0
  have B0 := hide b0
  have OO := hide (ofone_any ⟨#[65, 100, 100]⟩ w0 (hl.more g0))
  rw [e1] at OO
  clear hl b0 e1
  go_enter Tryz.func98, Tryz.ntmps98
  go_wp2_with fail
  rw [← hw0]
  clear hw0
  refine OO.out.mono ?_
  rintro e v0 ⟨rfl, h0⟩
  go_wp2_with fail
  refine (takes_any _ _ _ [] _ (Or.inl ⟨rfl, rfl⟩) (by decide)).mono ?_
  rintro e w6 ⟨⟨a, n, c, rfl, ho, hat⟩, hg6⟩
  have hlt := (Array.getElem?_eq_some_iff.1 B0.out).1
  have hsk := h0.size
  have hne : (Value.slice a n c).ownBlock ≠ some w.heap.size := fun hh => by
    rcases hat _ hh with h | h
    · cases h
    · omega
  obtain ⟨b6, hX, hO, gX⟩ := rule_put (lo := 2) (hi := 2) g0 B0.out h0 (grown_refl _) hg6 (fun g e => by cases e) ho hne
  obtain ⟨r0, r1, r2, f0, f1, f2⟩ := rule_cells b6
  have HX := hide hX
  have HO := hide hO
  have GX := hide gX
  clear hX hO gX b6 ho hg6 hne hat hlt hsk
  go_wp2
  refine bodyPost_ret (ret_rule2 rfl _ _ w.heap.size rfl HX.out) rfl ?_
  exact ⟨⟨_, _, _, rfl, HO.out⟩, GX.out⟩

set_option maxRecDepth 100000 in
set_option maxHeartbeats 1600000 in
theorem rule_Cast (w : World) (hl : Laid w) :
    Calls Tryz.prog 98 #[.string ⟨#[67, 97, 115, 116]⟩] w fun e w' => Ruled (some (1, 1, [⟨⟨#[116, 111]⟩, 2, true⟩, thenRa])) w' e ∧ w.grownBy w' none := by
  have e1 : isOne ⟨#[67, 97, 115, 116]⟩ = false := by simp only [isOne, bytes_toList]; rfl
  obtain ⟨w0, hw0⟩ : ∃ w0, w0 = w.alloc (.cells #[.int .i64 0, .int .i64 0, .slice none 0 0] 134) := ⟨_, rfl⟩
  have g0 : w.grownBy w0 none := by rw [hw0]; exact grown_new _ _
  have b0 := heap_alloc_new w (.cells #[.int .i64 0, .int .i64 0, .slice none 0 0] 134)
  rw [← hw0] at b0
  have B0 := hide b0
  have OO := hide (ofone_any ⟨#[67, 97, 115, 116]⟩ w0 (hl.more g0))
  rw [e1] at OO
  clear hl b0 e1
  go_enter Tryz.func98, Tryz.ntmps98
  go_wp2_with fail
  rw [← hw0]
  clear hw0
  refine OO.out.mono ?_
  rintro e v0 ⟨rfl, h0⟩
  go_wp2_with fail
  refine (must_any _ _ _).mono ?_
  rintro e v1 ⟨rfl, h1'⟩
  have h1 := grown_trans h0 h1'
  go_wp2_with fail
  refine (takes_any _ _ _ [⟨⟨#[116, 111]⟩, 2, true⟩] _ (Or.inr ⟨_, _, rfl, heap_alloc_new _ _, rfl, rfl⟩) (by decide)).mono ?_
  rintro e w6 ⟨⟨a, n, c, rfl, ho, hat⟩, hg6⟩
  have hlt := (Array.getElem?_eq_some_iff.1 B0.out).1
  have hsk := h1.size
  have hne : (Value.slice a n c).ownBlock ≠ some w.heap.size := fun hh => by
    rcases hat _ hh with h | h
    · have : v1.heap.size = w.heap.size := by simpa [Value.ownBlock] using h
      omega
    · have : v1.heap.size + 1 ≤ w.heap.size := by simpa using h
      omega
  obtain ⟨b6, hX, hO, gX⟩ := rule_put (lo := 1) (hi := 1) g0 B0.out h1 (grown_new v1 (.cells #[.string ⟨#[116, 111]⟩, .int .i64 2, .bool true] 161)) hg6 (fun g e => by cases e; exact Nat.le_refl _) ho hne
  obtain ⟨r0, r1, r2, f0, f1, f2⟩ := rule_cells b6
  have HX := hide hX
  have HO := hide hO
  have GX := hide gX
  clear hX hO gX b6 ho hg6 hne hat hlt hsk
  go_wp2
  refine bodyPost_ret (ret_rule2 rfl _ _ w.heap.size rfl HX.out) rfl ?_
  exact ⟨⟨_, _, _, rfl, HO.out⟩, GX.out⟩

set_option maxRecDepth 100000 in
set_option maxHeartbeats 1600000 in
theorem rule_What (w : World) (hl : Laid w) :
    Calls Tryz.prog 98 #[.string ⟨#[87, 104, 97, 116]⟩] w fun e w' => Ruled (none) w' e ∧ w.grownBy w' none := by
  have e1 : isOne ⟨#[87, 104, 97, 116]⟩ = false := by simp only [isOne, bytes_toList]; rfl
  obtain ⟨w0, hw0⟩ : ∃ w0, w0 = w.alloc (.cells #[.int .i64 0, .int .i64 0, .slice none 0 0] 134) := ⟨_, rfl⟩
  have g0 : w.grownBy w0 none := by rw [hw0]; exact grown_new _ _
  have b0 := heap_alloc_new w (.cells #[.int .i64 0, .int .i64 0, .slice none 0 0] 134)
  rw [← hw0] at b0
  have B0 := hide b0
  have OO := hide (ofone_any ⟨#[87, 104, 97, 116]⟩ w0 (hl.more g0))
  rw [e1] at OO
  clear hl b0 e1
  go_enter Tryz.func98, Tryz.ntmps98
  go_wp2_with fail
  rw [← hw0]
  clear hw0
  refine OO.out.mono ?_
  rintro e v0 ⟨rfl, h0⟩
  have b1 := box_kept B0.out h0
  obtain ⟨r0, r1, r2, f0, f1, f2⟩ := rule_cells b1
  obtain ⟨hX, gX⟩ := store3r (.int .i64 0) (.int .i64 0) (.slice none 0 0) b1
  have HX := hide hX
  have GX := hide (grown_row_box (grown_trans g0 h0) gX (Nat.le_refl _))
  clear hX gX b1
  go_wp2
  refine bodyPost_ret (ret_rule2 rfl _ _ w.heap.size rfl HX.out) rfl ?_
  exact ⟨rfl, GX.out⟩

end Go.Proofs.YteigfipgmghgmaaGreatDoor
