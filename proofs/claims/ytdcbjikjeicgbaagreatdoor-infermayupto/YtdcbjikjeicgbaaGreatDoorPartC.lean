/- Joined texts: NRuleB, NRuleC, NRuleD, NRuleAll, NCheckC, NSame, NLive, NNode. -/
import Derived.Test.YtdcbjikjeicgbaaGreatDoorPartB
/- What an operator takes, operator by operator (mkRule.py). -/
namespace Go.Proofs.YtdcbjikjeicgbaaGreatDoor
open Go.RowKit

set_option maxRecDepth 100000 in
set_option maxHeartbeats 1600000 in
theorem rule_Identity (w : World) (hl : Laid w) :
    Calls Tryz.prog 83 #[.string ⟨#[73, 100, 101, 110, 116, 105, 116, 121]⟩] w fun e w' => Ruled (some (1, 1, [thenRa])) w' e ∧ w.grownBy w' none := by
  have e1 : isOne ⟨#[73, 100, 101, 110, 116, 105, 116, 121]⟩ = true := by simp only [isOne, bytes_toList]; rfl
  obtain ⟨w0, hw0⟩ : ∃ w0, w0 = w.alloc (.cells #[.int .i64 0, .int .i64 0, .slice none 0 0] 125) := ⟨_, rfl⟩
  have g0 : w.grownBy w0 none := by rw [hw0]; exact grown_new _ _
  have b0 := heap_alloc_new w (.cells #[.int .i64 0, .int .i64 0, .slice none 0 0] 125)
  rw [← hw0] at b0
  have B0 := hide b0
  have OO := hide (ofone_any ⟨#[73, 100, 101, 110, 116, 105, 116, 121]⟩ w0 (hl.more g0))
  rw [e1] at OO
  clear hl b0 e1
  go_enter Tryz.func83, Tryz.ntmps83
  go_wp2_with fail
  rw [← hw0]
  clear hw0
  refine OO.out.mono ?_
  rintro e v0 ⟨rfl, h0⟩
  go_wp2_with fail
  refine (takes_any _ _ _ [] _ (Or.inl ⟨rfl, rfl⟩) (by decide)).mono ?_
  rintro e w6 ⟨⟨a, n, c, rfl, ho, hat⟩, hg6⟩
  have hlt := (Array.getElem?_eq_some_iff.1 B0.out).1
  have hsk := h0.size
  have hne : (Value.slice a n c).ownBlock ≠ some w.heap.size := fun hh => by
    rcases hat _ hh with h | h
    · cases h
    · omega
  obtain ⟨b6, hX, hO, gX⟩ := rule_put (lo := 1) (hi := 1) g0 B0.out h0 (grown_refl _) hg6 (fun g e => by cases e) ho hne
  obtain ⟨r0, r1, r2, f0, f1, f2⟩ := rule_cells b6
  have HX := hide hX
  have HO := hide hO
  have GX := hide gX
  clear hX hO gX b6 ho hg6 hne hat hlt hsk
  go_wp2
  refine bodyPost_ret (ret_rule2 rfl _ _ w.heap.size rfl HX.out) rfl ?_
  exact ⟨⟨_, _, _, rfl, HO.out⟩, GX.out⟩

set_option maxRecDepth 100000 in
set_option maxHeartbeats 1600000 in
theorem rule_Neg (w : World) (hl : Laid w) :
    Calls Tryz.prog 83 #[.string ⟨#[78, 101, 103]⟩] w fun e w' => Ruled (some (1, 1, [thenRa])) w' e ∧ w.grownBy w' none := by
  have e1 : isOne ⟨#[78, 101, 103]⟩ = true := by simp only [isOne, bytes_toList]; rfl
  obtain ⟨w0, hw0⟩ : ∃ w0, w0 = w.alloc (.cells #[.int .i64 0, .int .i64 0, .slice none 0 0] 125) := ⟨_, rfl⟩
  have g0 : w.grownBy w0 none := by rw [hw0]; exact grown_new _ _
  have b0 := heap_alloc_new w (.cells #[.int .i64 0, .int .i64 0, .slice none 0 0] 125)
  rw [← hw0] at b0
  have B0 := hide b0
  have OO := hide (ofone_any ⟨#[78, 101, 103]⟩ w0 (hl.more g0))
  rw [e1] at OO
  clear hl b0 e1
  go_enter Tryz.func83, Tryz.ntmps83
  go_wp2_with fail
  rw [← hw0]
  clear hw0
  refine OO.out.mono ?_
  rintro e v0 ⟨rfl, h0⟩
  go_wp2_with fail
  refine (takes_any _ _ _ [] _ (Or.inl ⟨rfl, rfl⟩) (by decide)).mono ?_
  rintro e w6 ⟨⟨a, n, c, rfl, ho, hat⟩, hg6⟩
  have hlt := (Array.getElem?_eq_some_iff.1 B0.out).1
  have hsk := h0.size
  have hne : (Value.slice a n c).ownBlock ≠ some w.heap.size := fun hh => by
    rcases hat _ hh with h | h
    · cases h
    · omega
  obtain ⟨b6, hX, hO, gX⟩ := rule_put (lo := 1) (hi := 1) g0 B0.out h0 (grown_refl _) hg6 (fun g e => by cases e) ho hne
  obtain ⟨r0, r1, r2, f0, f1, f2⟩ := rule_cells b6
  have HX := hide hX
  have HO := hide hO
  have GX := hide gX
  clear hX hO gX b6 ho hg6 hne hat hlt hsk
  go_wp2
  refine bodyPost_ret (ret_rule2 rfl _ _ w.heap.size rfl HX.out) rfl ?_
  exact ⟨⟨_, _, _, rfl, HO.out⟩, GX.out⟩

set_option maxRecDepth 100000 in
set_option maxHeartbeats 1600000 in
theorem rule_Abs (w : World) (hl : Laid w) :
    Calls Tryz.prog 83 #[.string ⟨#[65, 98, 115]⟩] w fun e w' => Ruled (some (1, 1, [thenRa])) w' e ∧ w.grownBy w' none := by
  have e1 : isOne ⟨#[65, 98, 115]⟩ = true := by simp only [isOne, bytes_toList]; rfl
  obtain ⟨w0, hw0⟩ : ∃ w0, w0 = w.alloc (.cells #[.int .i64 0, .int .i64 0, .slice none 0 0] 125) := ⟨_, rfl⟩
  have g0 : w.grownBy w0 none := by rw [hw0]; exact grown_new _ _
  have b0 := heap_alloc_new w (.cells #[.int .i64 0, .int .i64 0, .slice none 0 0] 125)
  rw [← hw0] at b0
  have B0 := hide b0
  have OO := hide (ofone_any ⟨#[65, 98, 115]⟩ w0 (hl.more g0))
  rw [e1] at OO
  clear hl b0 e1
  go_enter Tryz.func83, Tryz.ntmps83
  go_wp2_with fail
  rw [← hw0]
  clear hw0
  refine OO.out.mono ?_
  rintro e v0 ⟨rfl, h0⟩
  go_wp2_with fail
  refine (takes_any _ _ _ [] _ (Or.inl ⟨rfl, rfl⟩) (by decide)).mono ?_
  rintro e w6 ⟨⟨a, n, c, rfl, ho, hat⟩, hg6⟩
  have hlt := (Array.getElem?_eq_some_iff.1 B0.out).1
  have hsk := h0.size
  have hne : (Value.slice a n c).ownBlock ≠ some w.heap.size := fun hh => by
    rcases hat _ hh with h | h
    · cases h
    · omega
  obtain ⟨b6, hX, hO, gX⟩ := rule_put (lo := 1) (hi := 1) g0 B0.out h0 (grown_refl _) hg6 (fun g e => by cases e) ho hne
  obtain ⟨r0, r1, r2, f0, f1, f2⟩ := rule_cells b6
  have HX := hide hX
  have HO := hide hO
  have GX := hide gX
  clear hX hO gX b6 ho hg6 hne hat hlt hsk
  go_wp2
  refine bodyPost_ret (ret_rule2 rfl _ _ w.heap.size rfl HX.out) rfl ?_
  exact ⟨⟨_, _, _, rfl, HO.out⟩, GX.out⟩

set_option maxRecDepth 100000 in
set_option maxHeartbeats 1600000 in
theorem rule_Not (w : World) (hl : Laid w) :
    Calls Tryz.prog 83 #[.string ⟨#[78, 111, 116]⟩] w fun e w' => Ruled (some (1, 1, [thenRa])) w' e ∧ w.grownBy w' none := by
  have e1 : isOne ⟨#[78, 111, 116]⟩ = true := by simp only [isOne, bytes_toList]; rfl
  obtain ⟨w0, hw0⟩ : ∃ w0, w0 = w.alloc (.cells #[.int .i64 0, .int .i64 0, .slice none 0 0] 125) := ⟨_, rfl⟩
  have g0 : w.grownBy w0 none := by rw [hw0]; exact grown_new _ _
  have b0 := heap_alloc_new w (.cells #[.int .i64 0, .int .i64 0, .slice none 0 0] 125)
  rw [← hw0] at b0
  have B0 := hide b0
  have OO := hide (ofone_any ⟨#[78, 111, 116]⟩ w0 (hl.more g0))
  rw [e1] at OO
  clear hl b0 e1
  go_enter Tryz.func83, Tryz.ntmps83
  go_wp2_with fail
  rw [← hw0]
  clear hw0
  refine OO.out.mono ?_
  rintro e v0 ⟨rfl, h0⟩
  go_wp2_with fail
  refine (takes_any _ _ _ [] _ (Or.inl ⟨rfl, rfl⟩) (by decide)).mono ?_
  rintro e w6 ⟨⟨a, n, c, rfl, ho, hat⟩, hg6⟩
  have hlt := (Array.getElem?_eq_some_iff.1 B0.out).1
  have hsk := h0.size
  have hne : (Value.slice a n c).ownBlock ≠ some w.heap.size := fun hh => by
    rcases hat _ hh with h | h
    · cases h
    · omega
  obtain ⟨b6, hX, hO, gX⟩ := rule_put (lo := 1) (hi := 1) g0 B0.out h0 (grown_refl _) hg6 (fun g e => by cases e) ho hne
  obtain ⟨r0, r1, r2, f0, f1, f2⟩ := rule_cells b6
  have HX := hide hX
  have HO := hide hO
  have GX := hide gX
  clear hX hO gX b6 ho hg6 hne hat hlt hsk
  go_wp2
  refine bodyPost_ret (ret_rule2 rfl _ _ w.heap.size rfl HX.out) rfl ?_
  exact ⟨⟨_, _, _, rfl, HO.out⟩, GX.out⟩

set_option maxRecDepth 100000 in
set_option maxHeartbeats 1600000 in
theorem rule_Sqrt (w : World) (hl : Laid w) :
    Calls Tryz.prog 83 #[.string ⟨#[83, 113, 114, 116]⟩] w fun e w' => Ruled (some (1, 1, [thenRa])) w' e ∧ w.grownBy w' none := by
  have e1 : isOne ⟨#[83, 113, 114, 116]⟩ = true := by simp only [isOne, bytes_toList]; rfl
  obtain ⟨w0, hw0⟩ : ∃ w0, w0 = w.alloc (.cells #[.int .i64 0, .int .i64 0, .slice none 0 0] 125) := ⟨_, rfl⟩
  have g0 : w.grownBy w0 none := by rw [hw0]; exact grown_new _ _
  have b0 := heap_alloc_new w (.cells #[.int .i64 0, .int .i64 0, .slice none 0 0] 125)
  rw [← hw0] at b0
  have B0 := hide b0
  have OO := hide (ofone_any ⟨#[83, 113, 114, 116]⟩ w0 (hl.more g0))
  rw [e1] at OO
  clear hl b0 e1
  go_enter Tryz.func83, Tryz.ntmps83
  go_wp2_with fail
  rw [← hw0]
  clear hw0
  refine OO.out.mono ?_
  rintro e v0 ⟨rfl, h0⟩
  go_wp2_with fail
  refine (takes_any _ _ _ [] _ (Or.inl ⟨rfl, rfl⟩) (by decide)).mono ?_
  rintro e w6 ⟨⟨a, n, c, rfl, ho, hat⟩, hg6⟩
  have hlt := (Array.getElem?_eq_some_iff.1 B0.out).1
  have hsk := h0.size
  have hne : (Value.slice a n c).ownBlock ≠ some w.heap.size := fun hh => by
    rcases hat _ hh with h | h
    · cases h
    · omega
  obtain ⟨b6, hX, hO, gX⟩ := rule_put (lo := 1) (hi := 1) g0 B0.out h0 (grown_refl _) hg6 (fun g e => by cases e) ho hne
  obtain ⟨r0, r1, r2, f0, f1, f2⟩ := rule_cells b6
  have HX := hide hX
  have HO := hide hO
  have GX := hide gX
  clear hX hO gX b6 ho hg6 hne hat hlt hsk
  go_wp2
  refine bodyPost_ret (ret_rule2 rfl _ _ w.heap.size rfl HX.out) rfl ?_
  exact ⟨⟨_, _, _, rfl, HO.out⟩, GX.out⟩

set_option maxRecDepth 100000 in
set_option maxHeartbeats 1600000 in
theorem rule_Floor (w : World) (hl : Laid w) :
    Calls Tryz.prog 83 #[.string ⟨#[70, 108, 111, 111, 114]⟩] w fun e w' => Ruled (some (1, 1, [thenRa])) w' e ∧ w.grownBy w' none := by
  have e1 : isOne ⟨#[70, 108, 111, 111, 114]⟩ = true := by simp only [isOne, bytes_toList]; rfl
  obtain ⟨w0, hw0⟩ : ∃ w0, w0 = w.alloc (.cells #[.int .i64 0, .int .i64 0, .slice none 0 0] 125) := ⟨_, rfl⟩
  have g0 : w.grownBy w0 none := by rw [hw0]; exact grown_new _ _
  have b0 := heap_alloc_new w (.cells #[.int .i64 0, .int .i64 0, .slice none 0 0] 125)
  rw [← hw0] at b0
  have B0 := hide b0
  have OO := hide (ofone_any ⟨#[70, 108, 111, 111, 114]⟩ w0 (hl.more g0))
  rw [e1] at OO
  clear hl b0 e1
  go_enter Tryz.func83, Tryz.ntmps83
  go_wp2_with fail
  rw [← hw0]
  clear hw0
  refine OO.out.mono ?_
  rintro e v0 ⟨rfl, h0⟩
  go_wp2_with fail
  refine (takes_any _ _ _ [] _ (Or.inl ⟨rfl, rfl⟩) (by decide)).mono ?_
  rintro e w6 ⟨⟨a, n, c, rfl, ho, hat⟩, hg6⟩
  have hlt := (Array.getElem?_eq_some_iff.1 B0.out).1
  have hsk := h0.size
  have hne : (Value.slice a n c).ownBlock ≠ some w.heap.size := fun hh => by
    rcases hat _ hh with h | h
    · cases h
    · omega
  obtain ⟨b6, hX, hO, gX⟩ := rule_put (lo := 1) (hi := 1) g0 B0.out h0 (grown_refl _) hg6 (fun g e => by cases e) ho hne
  obtain ⟨r0, r1, r2, f0, f1, f2⟩ := rule_cells b6
  have HX := hide hX
  have HO := hide hO
  have GX := hide gX
  clear hX hO gX b6 ho hg6 hne hat hlt hsk
  go_wp2
  refine bodyPost_ret (ret_rule2 rfl _ _ w.heap.size rfl HX.out) rfl ?_
  exact ⟨⟨_, _, _, rfl, HO.out⟩, GX.out⟩

set_option maxRecDepth 100000 in
set_option maxHeartbeats 1600000 in
theorem rule_Exp (w : World) (hl : Laid w) :
    Calls Tryz.prog 83 #[.string ⟨#[69, 120, 112]⟩] w fun e w' => Ruled (some (1, 1, [thenRa])) w' e ∧ w.grownBy w' none := by
  have e1 : isOne ⟨#[69, 120, 112]⟩ = true := by simp only [isOne, bytes_toList]; rfl
  obtain ⟨w0, hw0⟩ : ∃ w0, w0 = w.alloc (.cells #[.int .i64 0, .int .i64 0, .slice none 0 0] 125) := ⟨_, rfl⟩
  have g0 : w.grownBy w0 none := by rw [hw0]; exact grown_new _ _
  have b0 := heap_alloc_new w (.cells #[.int .i64 0, .int .i64 0, .slice none 0 0] 125)
  rw [← hw0] at b0
  have B0 := hide b0
  have OO := hide (ofone_any ⟨#[69, 120, 112]⟩ w0 (hl.more g0))
  rw [e1] at OO
  clear hl b0 e1
  go_enter Tryz.func83, Tryz.ntmps83
  go_wp2_with fail
  rw [← hw0]
  clear hw0
  refine OO.out.mono ?_
  rintro e v0 ⟨rfl, h0⟩
  go_wp2_with fail
  refine (takes_any _ _ _ [] _ (Or.inl ⟨rfl, rfl⟩) (by decide)).mono ?_
  rintro e w6 ⟨⟨a, n, c, rfl, ho, hat⟩, hg6⟩
  have hlt := (Array.getElem?_eq_some_iff.1 B0.out).1
  have hsk := h0.size
  have hne : (Value.slice a n c).ownBlock ≠ some w.heap.size := fun hh => by
    rcases hat _ hh with h | h
    · cases h
    · omega
  obtain ⟨b6, hX, hO, gX⟩ := rule_put (lo := 1) (hi := 1) g0 B0.out h0 (grown_refl _) hg6 (fun g e => by cases e) ho hne
  obtain ⟨r0, r1, r2, f0, f1, f2⟩ := rule_cells b6
  have HX := hide hX
  have HO := hide hO
  have GX := hide gX
  clear hX hO gX b6 ho hg6 hne hat hlt hsk
  go_wp2
  refine bodyPost_ret (ret_rule2 rfl _ _ w.heap.size rfl HX.out) rfl ?_
  exact ⟨⟨_, _, _, rfl, HO.out⟩, GX.out⟩

set_option maxRecDepth 100000 in
set_option maxHeartbeats 1600000 in
theorem rule_Sigmoid (w : World) (hl : Laid w) :
    Calls Tryz.prog 83 #[.string ⟨#[83, 105, 103, 109, 111, 105, 100]⟩] w fun e w' => Ruled (some (1, 1, [thenRa])) w' e ∧ w.grownBy w' none := by
  have e1 : isOne ⟨#[83, 105, 103, 109, 111, 105, 100]⟩ = true := by simp only [isOne, bytes_toList]; rfl
  obtain ⟨w0, hw0⟩ : ∃ w0, w0 = w.alloc (.cells #[.int .i64 0, .int .i64 0, .slice none 0 0] 125) := ⟨_, rfl⟩
  have g0 : w.grownBy w0 none := by rw [hw0]; exact grown_new _ _
  have b0 := heap_alloc_new w (.cells #[.int .i64 0, .int .i64 0, .slice none 0 0] 125)
  rw [← hw0] at b0
  have B0 := hide b0
  have OO := hide (ofone_any ⟨#[83, 105, 103, 109, 111, 105, 100]⟩ w0 (hl.more g0))
  rw [e1] at OO
  clear hl b0 e1
  go_enter Tryz.func83, Tryz.ntmps83
  go_wp2_with fail
  rw [← hw0]
  clear hw0
  refine OO.out.mono ?_
  rintro e v0 ⟨rfl, h0⟩
  go_wp2_with fail
  refine (takes_any _ _ _ [] _ (Or.inl ⟨rfl, rfl⟩) (by decide)).mono ?_
  rintro e w6 ⟨⟨a, n, c, rfl, ho, hat⟩, hg6⟩
  have hlt := (Array.getElem?_eq_some_iff.1 B0.out).1
  have hsk := h0.size
  have hne : (Value.slice a n c).ownBlock ≠ some w.heap.size := fun hh => by
    rcases hat _ hh with h | h
    · cases h
    · omega
  obtain ⟨b6, hX, hO, gX⟩ := rule_put (lo := 1) (hi := 1) g0 B0.out h0 (grown_refl _) hg6 (fun g e => by cases e) ho hne
  obtain ⟨r0, r1, r2, f0, f1, f2⟩ := rule_cells b6
  have HX := hide hX
  have HO := hide hO
  have GX := hide gX
  clear hX hO gX b6 ho hg6 hne hat hlt hsk
  go_wp2
  refine bodyPost_ret (ret_rule2 rfl _ _ w.heap.size rfl HX.out) rfl ?_
  exact ⟨⟨_, _, _, rfl, HO.out⟩, GX.out⟩

set_option maxRecDepth 100000 in
set_option maxHeartbeats 1600000 in
theorem rule_Tanh (w : World) (hl : Laid w) :
    Calls Tryz.prog 83 #[.string ⟨#[84, 97, 110, 104]⟩] w fun e w' => Ruled (some (1, 1, [thenRa])) w' e ∧ w.grownBy w' none := by
  have e1 : isOne ⟨#[84, 97, 110, 104]⟩ = true := by simp only [isOne, bytes_toList]; rfl
  obtain ⟨w0, hw0⟩ : ∃ w0, w0 = w.alloc (.cells #[.int .i64 0, .int .i64 0, .slice none 0 0] 125) := ⟨_, rfl⟩
  have g0 : w.grownBy w0 none := by rw [hw0]; exact grown_new _ _
  have b0 := heap_alloc_new w (.cells #[.int .i64 0, .int .i64 0, .slice none 0 0] 125)
  rw [← hw0] at b0
  have B0 := hide b0
  have OO := hide (ofone_any ⟨#[84, 97, 110, 104]⟩ w0 (hl.more g0))
  rw [e1] at OO
  clear hl b0 e1
  go_enter Tryz.func83, Tryz.ntmps83
  go_wp2_with fail
  rw [← hw0]
  clear hw0
  refine OO.out.mono ?_
  rintro e v0 ⟨rfl, h0⟩
  go_wp2_with fail
  refine (takes_any _ _ _ [] _ (Or.inl ⟨rfl, rfl⟩) (by decide)).mono ?_
  rintro e w6 ⟨⟨a, n, c, rfl, ho, hat⟩, hg6⟩
  have hlt := (Array.getElem?_eq_some_iff.1 B0.out).1
  have hsk := h0.size
  have hne : (Value.slice a n c).ownBlock ≠ some w.heap.size := fun hh => by
    rcases hat _ hh with h | h
    · cases h
    · omega
  obtain ⟨b6, hX, hO, gX⟩ := rule_put (lo := 1) (hi := 1) g0 B0.out h0 (grown_refl _) hg6 (fun g e => by cases e) ho hne
  obtain ⟨r0, r1, r2, f0, f1, f2⟩ := rule_cells b6
  have HX := hide hX
  have HO := hide hO
  have GX := hide gX
  clear hX hO gX b6 ho hg6 hne hat hlt hsk
  go_wp2
  refine bodyPost_ret (ret_rule2 rfl _ _ w.heap.size rfl HX.out) rfl ?_
  exact ⟨⟨_, _, _, rfl, HO.out⟩, GX.out⟩

set_option maxRecDepth 100000 in
set_option maxHeartbeats 1600000 in
theorem rule_Sub (w : World) (hl : Laid w) :
    Calls Tryz.prog 83 #[.string ⟨#[83, 117, 98]⟩] w fun e w' => Ruled (some (2, 2, [thenRa])) w' e ∧ w.grownBy w' none := by
  have e1 : isOne ⟨#[83, 117, 98]⟩ = false := by simp only [isOne, bytes_toList]; rfl
  obtain ⟨w0, hw0⟩ : ∃ w0, w0 = w.alloc (.cells #[.int .i64 0, .int .i64 0, .slice none 0 0] 125) := ⟨_, rfl⟩
  have g0 : w.grownBy w0 none := by rw [hw0]; exact grown_new _ _
  have b0 := heap_alloc_new w (.cells #[.int .i64 0, .int .i64 0, .slice none 0 0] 125)
  rw [← hw0] at b0
  have B0 := hide b0
  have OO := hide (ofone_any ⟨#[83, 117, 98]⟩ w0 (hl.more g0))
  rw [e1] at OO
  clear hl b0 e1
  go_enter Tryz.func83, Tryz.ntmps83
  go_wp2_with fail
  rw [← hw0]
  clear hw0
  refine OO.out.mono ?_
  rintro e v0 ⟨rfl, h0⟩
  go_wp2_with fail
  refine (takes_any _ _ _ [] _ (Or.inl ⟨rfl, rfl⟩) (by decide)).mono ?_
  rintro e w6 ⟨⟨a, n, c, rfl, ho, hat⟩, hg6⟩
  have hlt := (Array.getElem?_eq_some_iff.1 B0.out).1
  have hsk := h0.size
  have hne : (Value.slice a n c).ownBlock ≠ some w.heap.size := fun hh => by
    rcases hat _ hh with h | h
    · cases h
    · omega
  obtain ⟨b6, hX, hO, gX⟩ := rule_put (lo := 2) (hi := 2) g0 B0.out h0 (grown_refl _) hg6 (fun g e => by cases e) ho hne
  obtain ⟨r0, r1, r2, f0, f1, f2⟩ := rule_cells b6
  have HX := hide hX
  have HO := hide hO
  have GX := hide gX
  clear hX hO gX b6 ho hg6 hne hat hlt hsk
  go_wp2
  refine bodyPost_ret (ret_rule2 rfl _ _ w.heap.size rfl HX.out) rfl ?_
  exact ⟨⟨_, _, _, rfl, HO.out⟩, GX.out⟩

set_option maxRecDepth 100000 in
set_option maxHeartbeats 1600000 in
theorem rule_Mul (w : World) (hl : Laid w) :
    Calls Tryz.prog 83 #[.string ⟨#[77, 117, 108]⟩] w fun e w' => Ruled (some (2, 2, [thenRa])) w' e ∧ w.grownBy w' none := by
  have e1 : isOne ⟨#[77, 117, 108]⟩ = false := by simp only [isOne, bytes_toList]; rfl
  obtain ⟨w0, hw0⟩ : ∃ w0, w0 = w.alloc (.cells #[.int .i64 0, .int .i64 0, .slice none 0 0] 125) := ⟨_, rfl⟩
  have g0 : w.grownBy w0 none := by rw [hw0]; exact grown_new _ _
  have b0 := heap_alloc_new w (.cells #[.int .i64 0, .int .i64 0, .slice none 0 0] 125)
  rw [← hw0] at b0
  have B0 := hide b0
  have OO := hide (ofone_any ⟨#[77, 117, 108]⟩ w0 (hl.more g0))
  rw [e1] at OO
  clear hl b0 e1
  go_enter Tryz.func83, Tryz.ntmps83
  go_wp2_with fail
  rw [← hw0]
  clear hw0
  refine OO.out.mono ?_
  rintro e v0 ⟨rfl, h0⟩
  go_wp2_with fail
  refine (takes_any _ _ _ [] _ (Or.inl ⟨rfl, rfl⟩) (by decide)).mono ?_
  rintro e w6 ⟨⟨a, n, c, rfl, ho, hat⟩, hg6⟩
  have hlt := (Array.getElem?_eq_some_iff.1 B0.out).1
  have hsk := h0.size
  have hne : (Value.slice a n c).ownBlock ≠ some w.heap.size := fun hh => by
    rcases hat _ hh with h | h
    · cases h
    · omega
  obtain ⟨b6, hX, hO, gX⟩ := rule_put (lo := 2) (hi := 2) g0 B0.out h0 (grown_refl _) hg6 (fun g e => by cases e) ho hne
  obtain ⟨r0, r1, r2, f0, f1, f2⟩ := rule_cells b6
  have HX := hide hX
  have HO := hide hO
  have GX := hide gX
  clear hX hO gX b6 ho hg6 hne hat hlt hsk
  go_wp2
  refine bodyPost_ret (ret_rule2 rfl _ _ w.heap.size rfl HX.out) rfl ?_
  exact ⟨⟨_, _, _, rfl, HO.out⟩, GX.out⟩

set_option maxRecDepth 100000 in
set_option maxHeartbeats 1600000 in
theorem rule_Div (w : World) (hl : Laid w) :
    Calls Tryz.prog 83 #[.string ⟨#[68, 105, 118]⟩] w fun e w' => Ruled (some (2, 2, [thenRa])) w' e ∧ w.grownBy w' none := by
  have e1 : isOne ⟨#[68, 105, 118]⟩ = false := by simp only [isOne, bytes_toList]; rfl
  obtain ⟨w0, hw0⟩ : ∃ w0, w0 = w.alloc (.cells #[.int .i64 0, .int .i64 0, .slice none 0 0] 125) := ⟨_, rfl⟩
  have g0 : w.grownBy w0 none := by rw [hw0]; exact grown_new _ _
  have b0 := heap_alloc_new w (.cells #[.int .i64 0, .int .i64 0, .slice none 0 0] 125)
  rw [← hw0] at b0
  have B0 := hide b0
  have OO := hide (ofone_any ⟨#[68, 105, 118]⟩ w0 (hl.more g0))
  rw [e1] at OO
  clear hl b0 e1
  go_enter Tryz.func83, Tryz.ntmps83
  go_wp2_with fail
  rw [← hw0]
  clear hw0
  refine OO.out.mono ?_
  rintro e v0 ⟨rfl, h0⟩
  go_wp2_with fail
  refine (takes_any _ _ _ [] _ (Or.inl ⟨rfl, rfl⟩) (by decide)).mono ?_
  rintro e w6 ⟨⟨a, n, c, rfl, ho, hat⟩, hg6⟩
  have hlt := (Array.getElem?_eq_some_iff.1 B0.out).1
  have hsk := h0.size
  have hne : (Value.slice a n c).ownBlock ≠ some w.heap.size := fun hh => by
    rcases hat _ hh with h | h
    · cases h
    · omega
  obtain ⟨b6, hX, hO, gX⟩ := rule_put (lo := 2) (hi := 2) g0 B0.out h0 (grown_refl _) hg6 (fun g e => by cases e) ho hne
  obtain ⟨r0, r1, r2, f0, f1, f2⟩ := rule_cells b6
  have HX := hide hX
  have HO := hide hO
  have GX := hide gX
  clear hX hO gX b6 ho hg6 hne hat hlt hsk
  go_wp2
  refine bodyPost_ret (ret_rule2 rfl _ _ w.heap.size rfl HX.out) rfl ?_
  exact ⟨⟨_, _, _, rfl, HO.out⟩, GX.out⟩

set_option maxRecDepth 100000 in
set_option maxHeartbeats 1600000 in
theorem rule_Max (w : World) (hl : Laid w) :
    Calls Tryz.prog 83 #[.string ⟨#[77, 97, 120]⟩] w fun e w' => Ruled (some (2, 2, [thenRa])) w' e ∧ w.grownBy w' none := by
  have e1 : isOne ⟨#[77, 97, 120]⟩ = false := by simp only [isOne, bytes_toList]; rfl
  obtain ⟨w0, hw0⟩ : ∃ w0, w0 = w.alloc (.cells #[.int .i64 0, .int .i64 0, .slice none 0 0] 125) := ⟨_, rfl⟩
  have g0 : w.grownBy w0 none := by rw [hw0]; exact grown_new _ _
  have b0 := heap_alloc_new w (.cells #[.int .i64 0, .int .i64 0, .slice none 0 0] 125)
  rw [← hw0] at b0
  have B0 := hide b0
  have OO := hide (ofone_any ⟨#[77, 97, 120]⟩ w0 (hl.more g0))
  rw [e1] at OO
  clear hl b0 e1
  go_enter Tryz.func83, Tryz.ntmps83
  go_wp2_with fail
  rw [← hw0]
  clear hw0
  refine OO.out.mono ?_
  rintro e v0 ⟨rfl, h0⟩
  go_wp2_with fail
  refine (takes_any _ _ _ [] _ (Or.inl ⟨rfl, rfl⟩) (by decide)).mono ?_
  rintro e w6 ⟨⟨a, n, c, rfl, ho, hat⟩, hg6⟩
  have hlt := (Array.getElem?_eq_some_iff.1 B0.out).1
  have hsk := h0.size
  have hne : (Value.slice a n c).ownBlock ≠ some w.heap.size := fun hh => by
    rcases hat _ hh with h | h
    · cases h
    · omega
  obtain ⟨b6, hX, hO, gX⟩ := rule_put (lo := 2) (hi := 2) g0 B0.out h0 (grown_refl _) hg6 (fun g e => by cases e) ho hne
  obtain ⟨r0, r1, r2, f0, f1, f2⟩ := rule_cells b6
  have HX := hide hX
  have HO := hide hO
  have GX := hide gX
  clear hX hO gX b6 ho hg6 hne hat hlt hsk
  go_wp2
  refine bodyPost_ret (ret_rule2 rfl _ _ w.heap.size rfl HX.out) rfl ?_
  exact ⟨⟨_, _, _, rfl, HO.out⟩, GX.out⟩

set_option maxRecDepth 100000 in
set_option maxHeartbeats 1600000 in
theorem rule_Min (w : World) (hl : Laid w) :
    Calls Tryz.prog 83 #[.string ⟨#[77, 105, 110]⟩] w fun e w' => Ruled (some (2, 2, [thenRa])) w' e ∧ w.grownBy w' none := by
  have e1 : isOne ⟨#[77, 105, 110]⟩ = false := by simp only [isOne, bytes_toList]; rfl
  obtain ⟨w0, hw0⟩ : ∃ w0, w0 = w.alloc (.cells #[.int .i64 0, .int .i64 0, .slice none 0 0] 125) := ⟨_, rfl⟩
  have g0 : w.grownBy w0 none := by rw [hw0]; exact grown_new _ _
  have b0 := heap_alloc_new w (.cells #[.int .i64 0, .int .i64 0, .slice none 0 0] 125)
  rw [← hw0] at b0
  have B0 := hide b0
  have OO := hide (ofone_any ⟨#[77, 105, 110]⟩ w0 (hl.more g0))
  rw [e1] at OO
  clear hl b0 e1
  go_enter Tryz.func83, Tryz.ntmps83
  go_wp2_with fail
  rw [← hw0]
  clear hw0
  refine OO.out.mono ?_
  rintro e v0 ⟨rfl, h0⟩
  go_wp2_with fail
  refine (takes_any _ _ _ [] _ (Or.inl ⟨rfl, rfl⟩) (by decide)).mono ?_
  rintro e w6 ⟨⟨a, n, c, rfl, ho, hat⟩, hg6⟩
  have hlt := (Array.getElem?_eq_some_iff.1 B0.out).1
  have hsk := h0.size
  have hne : (Value.slice a n c).ownBlock ≠ some w.heap.size := fun hh => by
    rcases hat _ hh with h | h
    · cases h
    · omega
  obtain ⟨b6, hX, hO, gX⟩ := rule_put (lo := 2) (hi := 2) g0 B0.out h0 (grown_refl _) hg6 (fun g e => by cases e) ho hne
  obtain ⟨r0, r1, r2, f0, f1, f2⟩ := rule_cells b6
  have HX := hide hX
  have HO := hide hO
  have GX := hide gX
  clear hX hO gX b6 ho hg6 hne hat hlt hsk
  go_wp2
  refine bodyPost_ret (ret_rule2 rfl _ _ w.heap.size rfl HX.out) rfl ?_
  exact ⟨⟨_, _, _, rfl, HO.out⟩, GX.out⟩

set_option maxRecDepth 100000 in
set_option maxHeartbeats 1600000 in
theorem rule_And (w : World) (hl : Laid w) :
    Calls Tryz.prog 83 #[.string ⟨#[65, 110, 100]⟩] w fun e w' => Ruled (some (2, 2, [thenRa])) w' e ∧ w.grownBy w' none := by
  have e1 : isOne ⟨#[65, 110, 100]⟩ = false := by simp only [isOne, bytes_toList]; rfl
  obtain ⟨w0, hw0⟩ : ∃ w0, w0 = w.alloc (.cells #[.int .i64 0, .int .i64 0, .slice none 0 0] 125) := ⟨_, rfl⟩
  have g0 : w.grownBy w0 none := by rw [hw0]; exact grown_new _ _
  have b0 := heap_alloc_new w (.cells #[.int .i64 0, .int .i64 0, .slice none 0 0] 125)
  rw [← hw0] at b0
  have B0 := hide b0
  have OO := hide (ofone_any ⟨#[65, 110, 100]⟩ w0 (hl.more g0))
  rw [e1] at OO
  clear hl b0 e1
  go_enter Tryz.func83, Tryz.ntmps83
  go_wp2_with fail
  rw [← hw0]
  clear hw0
  refine OO.out.mono ?_
  rintro e v0 ⟨rfl, h0⟩
  go_wp2_with fail
  refine (takes_any _ _ _ [] _ (Or.inl ⟨rfl, rfl⟩) (by decide)).mono ?_
  rintro e w6 ⟨⟨a, n, c, rfl, ho, hat⟩, hg6⟩
  have hlt := (Array.getElem?_eq_some_iff.1 B0.out).1
  have hsk := h0.size
  have hne : (Value.slice a n c).ownBlock ≠ some w.heap.size := fun hh => by
    rcases hat _ hh with h | h
    · cases h
    · omega
  obtain ⟨b6, hX, hO, gX⟩ := rule_put (lo := 2) (hi := 2) g0 B0.out h0 (grown_refl _) hg6 (fun g e => by cases e) ho hne
  obtain ⟨r0, r1, r2, f0, f1, f2⟩ := rule_cells b6
  have HX := hide hX
  have HO := hide hO
  have GX := hide gX
  clear hX hO gX b6 ho hg6 hne hat hlt hsk
  go_wp2
  refine bodyPost_ret (ret_rule2 rfl _ _ w.heap.size rfl HX.out) rfl ?_
  exact ⟨⟨_, _, _, rfl, HO.out⟩, GX.out⟩

set_option maxRecDepth 100000 in
set_option maxHeartbeats 1600000 in
theorem rule_Or (w : World) (hl : Laid w) :
    Calls Tryz.prog 83 #[.string ⟨#[79, 114]⟩] w fun e w' => Ruled (some (2, 2, [thenRa])) w' e ∧ w.grownBy w' none := by
  have e1 : isOne ⟨#[79, 114]⟩ = false := by simp only [isOne, bytes_toList]; rfl
  obtain ⟨w0, hw0⟩ : ∃ w0, w0 = w.alloc (.cells #[.int .i64 0, .int .i64 0, .slice none 0 0] 125) := ⟨_, rfl⟩
  have g0 : w.grownBy w0 none := by rw [hw0]; exact grown_new _ _
  have b0 := heap_alloc_new w (.cells #[.int .i64 0, .int .i64 0, .slice none 0 0] 125)
  rw [← hw0] at b0
  have B0 := hide b0
  have OO := hide (ofone_any ⟨#[79, 114]⟩ w0 (hl.more g0))
  rw [e1] at OO
  clear hl b0 e1
  go_enter Tryz.func83, Tryz.ntmps83
  go_wp2_with fail
  rw [← hw0]
  clear hw0
  refine OO.out.mono ?_
  rintro e v0 ⟨rfl, h0⟩
  go_wp2_with fail
  refine (takes_any _ _ _ [] _ (Or.inl ⟨rfl, rfl⟩) (by decide)).mono ?_
  rintro e w6 ⟨⟨a, n, c, rfl, ho, hat⟩, hg6⟩
  have hlt := (Array.getElem?_eq_some_iff.1 B0.out).1
  have hsk := h0.size
  have hne : (Value.slice a n c).ownBlock ≠ some w.heap.size := fun hh => by
    rcases hat _ hh with h | h
    · cases h
    · omega
  obtain ⟨b6, hX, hO, gX⟩ := rule_put (lo := 2) (hi := 2) g0 B0.out h0 (grown_refl _) hg6 (fun g e => by cases e) ho hne
  obtain ⟨r0, r1, r2, f0, f1, f2⟩ := rule_cells b6
  have HX := hide hX
  have HO := hide hO
  have GX := hide gX
  clear hX hO gX b6 ho hg6 hne hat hlt hsk
  go_wp2
  refine bodyPost_ret (ret_rule2 rfl _ _ w.heap.size rfl HX.out) rfl ?_
  exact ⟨⟨_, _, _, rfl, HO.out⟩, GX.out⟩

set_option maxRecDepth 100000 in
set_option maxHeartbeats 1600000 in
theorem rule_Xor (w : World) (hl : Laid w) :
    Calls Tryz.prog 83 #[.string ⟨#[88, 111, 114]⟩] w fun e w' => Ruled (some (2, 2, [thenRa])) w' e ∧ w.grownBy w' none := by
  have e1 : isOne ⟨#[88, 111, 114]⟩ = false := by simp only [isOne, bytes_toList]; rfl
  obtain ⟨w0, hw0⟩ : ∃ w0, w0 = w.alloc (.cells #[.int .i64 0, .int .i64 0, .slice none 0 0] 125) := ⟨_, rfl⟩
  have g0 : w.grownBy w0 none := by rw [hw0]; exact grown_new _ _
  have b0 := heap_alloc_new w (.cells #[.int .i64 0, .int .i64 0, .slice none 0 0] 125)
  rw [← hw0] at b0
  have B0 := hide b0
  have OO := hide (ofone_any ⟨#[88, 111, 114]⟩ w0 (hl.more g0))
  rw [e1] at OO
  clear hl b0 e1
  go_enter Tryz.func83, Tryz.ntmps83
  go_wp2_with fail
  rw [← hw0]
  clear hw0
  refine OO.out.mono ?_
  rintro e v0 ⟨rfl, h0⟩
  go_wp2_with fail
  refine (takes_any _ _ _ [] _ (Or.inl ⟨rfl, rfl⟩) (by decide)).mono ?_
  rintro e w6 ⟨⟨a, n, c, rfl, ho, hat⟩, hg6⟩
  have hlt := (Array.getElem?_eq_some_iff.1 B0.out).1
  have hsk := h0.size
  have hne : (Value.slice a n c).ownBlock ≠ some w.heap.size := fun hh => by
    rcases hat _ hh with h | h
    · cases h
    · omega
  obtain ⟨b6, hX, hO, gX⟩ := rule_put (lo := 2) (hi := 2) g0 B0.out h0 (grown_refl _) hg6 (fun g e => by cases e) ho hne
  obtain ⟨r0, r1, r2, f0, f1, f2⟩ := rule_cells b6
  have HX := hide hX
  have HO := hide hO
  have GX := hide gX
  clear hX hO gX b6 ho hg6 hne hat hlt hsk
  go_wp2
  refine bodyPost_ret (ret_rule2 rfl _ _ w.heap.size rfl HX.out) rfl ?_
  exact ⟨⟨_, _, _, rfl, HO.out⟩, GX.out⟩

set_option maxRecDepth 100000 in
set_option maxHeartbeats 1600000 in
theorem rule_Equal (w : World) (hl : Laid w) :
    Calls Tryz.prog 83 #[.string ⟨#[69, 113, 117, 97, 108]⟩] w fun e w' => Ruled (some (2, 2, [thenRa])) w' e ∧ w.grownBy w' none := by
  have e1 : isOne ⟨#[69, 113, 117, 97, 108]⟩ = false := by simp only [isOne, bytes_toList]; rfl
  obtain ⟨w0, hw0⟩ : ∃ w0, w0 = w.alloc (.cells #[.int .i64 0, .int .i64 0, .slice none 0 0] 125) := ⟨_, rfl⟩
  have g0 : w.grownBy w0 none := by rw [hw0]; exact grown_new _ _
  have b0 := heap_alloc_new w (.cells #[.int .i64 0, .int .i64 0, .slice none 0 0] 125)
  rw [← hw0] at b0
  have B0 := hide b0
  have OO := hide (ofone_any ⟨#[69, 113, 117, 97, 108]⟩ w0 (hl.more g0))
  rw [e1] at OO
  clear hl b0 e1
  go_enter Tryz.func83, Tryz.ntmps83
  go_wp2_with fail
  rw [← hw0]
  clear hw0
  refine OO.out.mono ?_
  rintro e v0 ⟨rfl, h0⟩
  go_wp2_with fail
  refine (takes_any _ _ _ [] _ (Or.inl ⟨rfl, rfl⟩) (by decide)).mono ?_
  rintro e w6 ⟨⟨a, n, c, rfl, ho, hat⟩, hg6⟩
  have hlt := (Array.getElem?_eq_some_iff.1 B0.out).1
  have hsk := h0.size
  have hne : (Value.slice a n c).ownBlock ≠ some w.heap.size := fun hh => by
    rcases hat _ hh with h | h
    · cases h
    · omega
  obtain ⟨b6, hX, hO, gX⟩ := rule_put (lo := 2) (hi := 2) g0 B0.out h0 (grown_refl _) hg6 (fun g e => by cases e) ho hne
  obtain ⟨r0, r1, r2, f0, f1, f2⟩ := rule_cells b6
  have HX := hide hX
  have HO := hide hO
  have GX := hide gX
  clear hX hO gX b6 ho hg6 hne hat hlt hsk
  go_wp2
  refine bodyPost_ret (ret_rule2 rfl _ _ w.heap.size rfl HX.out) rfl ?_
  exact ⟨⟨_, _, _, rfl, HO.out⟩, GX.out⟩

set_option maxRecDepth 100000 in
set_option maxHeartbeats 1600000 in
theorem rule_Less (w : World) (hl : Laid w) :
    Calls Tryz.prog 83 #[.string ⟨#[76, 101, 115, 115]⟩] w fun e w' => Ruled (some (2, 2, [thenRa])) w' e ∧ w.grownBy w' none := by
  have e1 : isOne ⟨#[76, 101, 115, 115]⟩ = false := by simp only [isOne, bytes_toList]; rfl
  obtain ⟨w0, hw0⟩ : ∃ w0, w0 = w.alloc (.cells #[.int .i64 0, .int .i64 0, .slice none 0 0] 125) := ⟨_, rfl⟩
  have g0 : w.grownBy w0 none := by rw [hw0]; exact grown_new _ _
  have b0 := heap_alloc_new w (.cells #[.int .i64 0, .int .i64 0, .slice none 0 0] 125)
  rw [← hw0] at b0
  have B0 := hide b0
  have OO := hide (ofone_any ⟨#[76, 101, 115, 115]⟩ w0 (hl.more g0))
  rw [e1] at OO
  clear hl b0 e1
  go_enter Tryz.func83, Tryz.ntmps83
  go_wp2_with fail
  rw [← hw0]
  clear hw0
  refine OO.out.mono ?_
  rintro e v0 ⟨rfl, h0⟩
  go_wp2_with fail
  refine (takes_any _ _ _ [] _ (Or.inl ⟨rfl, rfl⟩) (by decide)).mono ?_
  rintro e w6 ⟨⟨a, n, c, rfl, ho, hat⟩, hg6⟩
  have hlt := (Array.getElem?_eq_some_iff.1 B0.out).1
  have hsk := h0.size
  have hne : (Value.slice a n c).ownBlock ≠ some w.heap.size := fun hh => by
    rcases hat _ hh with h | h
    · cases h
    · omega
  obtain ⟨b6, hX, hO, gX⟩ := rule_put (lo := 2) (hi := 2) g0 B0.out h0 (grown_refl _) hg6 (fun g e => by cases e) ho hne
  obtain ⟨r0, r1, r2, f0, f1, f2⟩ := rule_cells b6
  have HX := hide hX
  have HO := hide hO
  have GX := hide gX
  clear hX hO gX b6 ho hg6 hne hat hlt hsk
  go_wp2
  refine bodyPost_ret (ret_rule2 rfl _ _ w.heap.size rfl HX.out) rfl ?_
  exact ⟨⟨_, _, _, rfl, HO.out⟩, GX.out⟩

set_option maxRecDepth 100000 in
set_option maxHeartbeats 1600000 in
theorem rule_Greater (w : World) (hl : Laid w) :
    Calls Tryz.prog 83 #[.string ⟨#[71, 114, 101, 97, 116, 101, 114]⟩] w fun e w' => Ruled (some (2, 2, [thenRa])) w' e ∧ w.grownBy w' none := by
  have e1 : isOne ⟨#[71, 114, 101, 97, 116, 101, 114]⟩ = false := by simp only [isOne, bytes_toList]; rfl
  obtain ⟨w0, hw0⟩ : ∃ w0, w0 = w.alloc (.cells #[.int .i64 0, .int .i64 0, .slice none 0 0] 125) := ⟨_, rfl⟩
  have g0 : w.grownBy w0 none := by rw [hw0]; exact grown_new _ _
  have b0 := heap_alloc_new w (.cells #[.int .i64 0, .int .i64 0, .slice none 0 0] 125)
  rw [← hw0] at b0
  have B0 := hide b0
  have OO := hide (ofone_any ⟨#[71, 114, 101, 97, 116, 101, 114]⟩ w0 (hl.more g0))
  rw [e1] at OO
  clear hl b0 e1
  go_enter Tryz.func83, Tryz.ntmps83
  go_wp2_with fail
  rw [← hw0]
  clear hw0
  refine OO.out.mono ?_
  rintro e v0 ⟨rfl, h0⟩
  go_wp2_with fail
  refine (takes_any _ _ _ [] _ (Or.inl ⟨rfl, rfl⟩) (by decide)).mono ?_
  rintro e w6 ⟨⟨a, n, c, rfl, ho, hat⟩, hg6⟩
  have hlt := (Array.getElem?_eq_some_iff.1 B0.out).1
  have hsk := h0.size
  have hne : (Value.slice a n c).ownBlock ≠ some w.heap.size := fun hh => by
    rcases hat _ hh with h | h
    · cases h
    · omega
  obtain ⟨b6, hX, hO, gX⟩ := rule_put (lo := 2) (hi := 2) g0 B0.out h0 (grown_refl _) hg6 (fun g e => by cases e) ho hne
  obtain ⟨r0, r1, r2, f0, f1, f2⟩ := rule_cells b6
  have HX := hide hX
  have HO := hide hO
  have GX := hide gX
  clear hX hO gX b6 ho hg6 hne hat hlt hsk
  go_wp2
  refine bodyPost_ret (ret_rule2 rfl _ _ w.heap.size rfl HX.out) rfl ?_
  exact ⟨⟨_, _, _, rfl, HO.out⟩, GX.out⟩

set_option maxRecDepth 100000 in
set_option maxHeartbeats 1600000 in
theorem rule_MatMul (w : World) (hl : Laid w) :
    Calls Tryz.prog 83 #[.string ⟨#[77, 97, 116, 77, 117, 108]⟩] w fun e w' => Ruled (some (2, 2, [thenRa])) w' e ∧ w.grownBy w' none := by
  have e1 : isOne ⟨#[77, 97, 116, 77, 117, 108]⟩ = false := by simp only [isOne, bytes_toList]; rfl
  obtain ⟨w0, hw0⟩ : ∃ w0, w0 = w.alloc (.cells #[.int .i64 0, .int .i64 0, .slice none 0 0] 125) := ⟨_, rfl⟩
  have g0 : w.grownBy w0 none := by rw [hw0]; exact grown_new _ _
  have b0 := heap_alloc_new w (.cells #[.int .i64 0, .int .i64 0, .slice none 0 0] 125)
  rw [← hw0] at b0
  have B0 := hide b0
  have OO := hide (ofone_any ⟨#[77, 97, 116, 77, 117, 108]⟩ w0 (hl.more g0))
  rw [e1] at OO
  clear hl b0 e1
  go_enter Tryz.func83, Tryz.ntmps83
  go_wp2_with fail
  rw [← hw0]
  clear hw0
  refine OO.out.mono ?_
  rintro e v0 ⟨rfl, h0⟩
  go_wp2_with fail
  refine (takes_any _ _ _ [] _ (Or.inl ⟨rfl, rfl⟩) (by decide)).mono ?_
  rintro e w6 ⟨⟨a, n, c, rfl, ho, hat⟩, hg6⟩
  have hlt := (Array.getElem?_eq_some_iff.1 B0.out).1
  have hsk := h0.size
  have hne : (Value.slice a n c).ownBlock ≠ some w.heap.size := fun hh => by
    rcases hat _ hh with h | h
    · cases h
    · omega
  obtain ⟨b6, hX, hO, gX⟩ := rule_put (lo := 2) (hi := 2) g0 B0.out h0 (grown_refl _) hg6 (fun g e => by cases e) ho hne
  obtain ⟨r0, r1, r2, f0, f1, f2⟩ := rule_cells b6
  have HX := hide hX
  have HO := hide hO
  have GX := hide gX
  clear hX hO gX b6 ho hg6 hne hat hlt hsk
  go_wp2
  refine bodyPost_ret (ret_rule2 rfl _ _ w.heap.size rfl HX.out) rfl ?_
  exact ⟨⟨_, _, _, rfl, HO.out⟩, GX.out⟩

end Go.Proofs.YtdcbjikjeicgbaaGreatDoor

/- What an operator takes, operator by operator (mkRule.py). -/
namespace Go.Proofs.YtdcbjikjeicgbaaGreatDoor
open Go.RowKit

set_option maxRecDepth 100000 in
set_option maxHeartbeats 1600000 in
theorem rule_Where (w : World) (hl : Laid w) :
    Calls Tryz.prog 83 #[.string ⟨#[87, 104, 101, 114, 101]⟩] w fun e w' => Ruled (some (3, 3, [thenRa])) w' e ∧ w.grownBy w' none := by
  have e1 : isOne ⟨#[87, 104, 101, 114, 101]⟩ = false := by simp only [isOne, bytes_toList]; rfl
  obtain ⟨w0, hw0⟩ : ∃ w0, w0 = w.alloc (.cells #[.int .i64 0, .int .i64 0, .slice none 0 0] 125) := ⟨_, rfl⟩
  have g0 : w.grownBy w0 none := by rw [hw0]; exact grown_new _ _
  have b0 := heap_alloc_new w (.cells #[.int .i64 0, .int .i64 0, .slice none 0 0] 125)
  rw [← hw0] at b0
  have B0 := hide b0
  have OO := hide (ofone_any ⟨#[87, 104, 101, 114, 101]⟩ w0 (hl.more g0))
  rw [e1] at OO
  clear hl b0 e1
  go_enter Tryz.func83, Tryz.ntmps83
  go_wp2_with fail
  rw [← hw0]
  clear hw0
  refine OO.out.mono ?_
  rintro e v0 ⟨rfl, h0⟩
  go_wp2_with fail
  refine (takes_any _ _ _ [] _ (Or.inl ⟨rfl, rfl⟩) (by decide)).mono ?_
  rintro e w6 ⟨⟨a, n, c, rfl, ho, hat⟩, hg6⟩
  have hlt := (Array.getElem?_eq_some_iff.1 B0.out).1
  have hsk := h0.size
  have hne : (Value.slice a n c).ownBlock ≠ some w.heap.size := fun hh => by
    rcases hat _ hh with h | h
    · cases h
    · omega
  obtain ⟨b6, hX, hO, gX⟩ := rule_put (lo := 3) (hi := 3) g0 B0.out h0 (grown_refl _) hg6 (fun g e => by cases e) ho hne
  obtain ⟨r0, r1, r2, f0, f1, f2⟩ := rule_cells b6
  have HX := hide hX
  have HO := hide hO
  have GX := hide gX
  clear hX hO gX b6 ho hg6 hne hat hlt hsk
  go_wp2
  refine bodyPost_ret (ret_rule2 rfl _ _ w.heap.size rfl HX.out) rfl ?_
  exact ⟨⟨_, _, _, rfl, HO.out⟩, GX.out⟩

set_option maxRecDepth 100000 in
set_option maxHeartbeats 1600000 in
theorem rule_Clip (w : World) (hl : Laid w) :
    Calls Tryz.prog 83 #[.string ⟨#[67, 108, 105, 112]⟩] w fun e w' => Ruled (some (1, 1, [⟨⟨#[109, 105, 110]⟩, 1, false⟩, ⟨⟨#[109, 97, 120]⟩, 1, false⟩, thenRa])) w' e ∧ w.grownBy w' none := by
  have e1 : isOne ⟨#[67, 108, 105, 112]⟩ = false := by simp only [isOne, bytes_toList]; rfl
  obtain ⟨w0, hw0⟩ : ∃ w0, w0 = w.alloc (.cells #[.int .i64 0, .int .i64 0, .slice none 0 0] 125) := ⟨_, rfl⟩
  have g0 : w.grownBy w0 none := by rw [hw0]; exact grown_new _ _
  have b0 := heap_alloc_new w (.cells #[.int .i64 0, .int .i64 0, .slice none 0 0] 125)
  rw [← hw0] at b0
  have B0 := hide b0
  have OO := hide (ofone_any ⟨#[67, 108, 105, 112]⟩ w0 (hl.more g0))
  rw [e1] at OO
  clear hl b0 e1
  go_enter Tryz.func83, Tryz.ntmps83
  go_wp2_with fail
  rw [← hw0]
  clear hw0
  refine OO.out.mono ?_
  rintro e v0 ⟨rfl, h0⟩
  go_wp2_with fail
  refine (may_any _ _ _).mono ?_
  rintro e v1 ⟨rfl, h1'⟩
  have h1 := grown_trans h0 h1'
  go_wp2_with fail
  refine (may_any _ _ _).mono ?_
  rintro e v2 ⟨rfl, h2'⟩
  have h2 := grown_trans h1 h2'
  go_wp2_with fail
  refine (takes_any _ _ _ [⟨⟨#[109, 105, 110]⟩, 1, false⟩, ⟨⟨#[109, 97, 120]⟩, 1, false⟩] _ (Or.inr ⟨_, _, rfl, heap_alloc_new _ _, rfl, rfl⟩) (by decide)).mono ?_
  rintro e w6 ⟨⟨a, n, c, rfl, ho, hat⟩, hg6⟩
  have hlt := (Array.getElem?_eq_some_iff.1 B0.out).1
  have hsk := h2.size
  have hne : (Value.slice a n c).ownBlock ≠ some w.heap.size := fun hh => by
    rcases hat _ hh with h | h
    · have : v2.heap.size = w.heap.size := by simpa [Value.ownBlock] using h
      omega
    · have : v2.heap.size + 1 ≤ w.heap.size := by simpa using h
      omega
  obtain ⟨b6, hX, hO, gX⟩ := rule_put (lo := 1) (hi := 1) g0 B0.out h2 (grown_new v2 (.cells #[.string ⟨#[109, 105, 110]⟩, .int .i64 1, .bool false, .string ⟨#[109, 97, 120]⟩, .int .i64 1, .bool false] 189)) hg6 (fun g e => by cases e; exact Nat.le_refl _) ho hne
  obtain ⟨r0, r1, r2, f0, f1, f2⟩ := rule_cells b6
  have HX := hide hX
  have HO := hide hO
  have GX := hide gX
  clear hX hO gX b6 ho hg6 hne hat hlt hsk
  go_wp2
  refine bodyPost_ret (ret_rule2 rfl _ _ w.heap.size rfl HX.out) rfl ?_
  exact ⟨⟨_, _, _, rfl, HO.out⟩, GX.out⟩

set_option maxRecDepth 100000 in
set_option maxHeartbeats 1600000 in
theorem rule_ReduceSum (w : World) (hl : Laid w) :
    Calls Tryz.prog 83 #[.string ⟨#[82, 101, 100, 117, 99, 101, 83, 117, 109]⟩] w fun e w' => Ruled (some (1, 1, [⟨⟨#[97, 120, 101, 115]⟩, 7, false⟩, ⟨⟨#[107, 101, 101, 112, 100, 105, 109, 115]⟩, 2, false⟩, thenRa])) w' e ∧ w.grownBy w' none := by
  have e1 : isOne ⟨#[82, 101, 100, 117, 99, 101, 83, 117, 109]⟩ = false := by simp only [isOne, bytes_toList]; rfl
  obtain ⟨w0, hw0⟩ : ∃ w0, w0 = w.alloc (.cells #[.int .i64 0, .int .i64 0, .slice none 0 0] 125) := ⟨_, rfl⟩
  have g0 : w.grownBy w0 none := by rw [hw0]; exact grown_new _ _
  have b0 := heap_alloc_new w (.cells #[.int .i64 0, .int .i64 0, .slice none 0 0] 125)
  rw [← hw0] at b0
  have B0 := hide b0
  have OO := hide (ofone_any ⟨#[82, 101, 100, 117, 99, 101, 83, 117, 109]⟩ w0 (hl.more g0))
  rw [e1] at OO
  clear hl b0 e1
  go_enter Tryz.func83, Tryz.ntmps83
  go_wp2_with fail
  rw [← hw0]
  clear hw0
  refine OO.out.mono ?_
  rintro e v0 ⟨rfl, h0⟩
  go_wp2_with fail
  refine (may_any _ _ _).mono ?_
  rintro e v1 ⟨rfl, h1'⟩
  have h1 := grown_trans h0 h1'
  go_wp2_with fail
  refine (may_any _ _ _).mono ?_
  rintro e v2 ⟨rfl, h2'⟩
  have h2 := grown_trans h1 h2'
  go_wp2_with fail
  refine (takes_any _ _ _ [⟨⟨#[97, 120, 101, 115]⟩, 7, false⟩, ⟨⟨#[107, 101, 101, 112, 100, 105, 109, 115]⟩, 2, false⟩] _ (Or.inr ⟨_, _, rfl, heap_alloc_new _ _, rfl, rfl⟩) (by decide)).mono ?_
  rintro e w6 ⟨⟨a, n, c, rfl, ho, hat⟩, hg6⟩
  have hlt := (Array.getElem?_eq_some_iff.1 B0.out).1
  have hsk := h2.size
  have hne : (Value.slice a n c).ownBlock ≠ some w.heap.size := fun hh => by
    rcases hat _ hh with h | h
    · have : v2.heap.size = w.heap.size := by simpa [Value.ownBlock] using h
      omega
    · have : v2.heap.size + 1 ≤ w.heap.size := by simpa using h
      omega
  obtain ⟨b6, hX, hO, gX⟩ := rule_put (lo := 1) (hi := 1) g0 B0.out h2 (grown_new v2 (.cells #[.string ⟨#[97, 120, 101, 115]⟩, .int .i64 7, .bool false, .string ⟨#[107, 101, 101, 112, 100, 105, 109, 115]⟩, .int .i64 2, .bool false] 189)) hg6 (fun g e => by cases e; exact Nat.le_refl _) ho hne
  obtain ⟨r0, r1, r2, f0, f1, f2⟩ := rule_cells b6
  have HX := hide hX
  have HO := hide hO
  have GX := hide gX
  clear hX hO gX b6 ho hg6 hne hat hlt hsk
  go_wp2
  refine bodyPost_ret (ret_rule2 rfl _ _ w.heap.size rfl HX.out) rfl ?_
  exact ⟨⟨_, _, _, rfl, HO.out⟩, GX.out⟩

set_option maxRecDepth 100000 in
set_option maxHeartbeats 1600000 in
theorem rule_ReduceMax (w : World) (hl : Laid w) :
    Calls Tryz.prog 83 #[.string ⟨#[82, 101, 100, 117, 99, 101, 77, 97, 120]⟩] w fun e w' => Ruled (some (1, 1, [⟨⟨#[97, 120, 101, 115]⟩, 7, false⟩, ⟨⟨#[107, 101, 101, 112, 100, 105, 109, 115]⟩, 2, false⟩, thenRa])) w' e ∧ w.grownBy w' none := by
  have e1 : isOne ⟨#[82, 101, 100, 117, 99, 101, 77, 97, 120]⟩ = false := by simp only [isOne, bytes_toList]; rfl
  obtain ⟨w0, hw0⟩ : ∃ w0, w0 = w.alloc (.cells #[.int .i64 0, .int .i64 0, .slice none 0 0] 125) := ⟨_, rfl⟩
  have g0 : w.grownBy w0 none := by rw [hw0]; exact grown_new _ _
  have b0 := heap_alloc_new w (.cells #[.int .i64 0, .int .i64 0, .slice none 0 0] 125)
  rw [← hw0] at b0
  have B0 := hide b0
  have OO := hide (ofone_any ⟨#[82, 101, 100, 117, 99, 101, 77, 97, 120]⟩ w0 (hl.more g0))
  rw [e1] at OO
  clear hl b0 e1
  go_enter Tryz.func83, Tryz.ntmps83
  go_wp2_with fail
  rw [← hw0]
  clear hw0
  refine OO.out.mono ?_
  rintro e v0 ⟨rfl, h0⟩
  go_wp2_with fail
  refine (may_any _ _ _).mono ?_
  rintro e v1 ⟨rfl, h1'⟩
  have h1 := grown_trans h0 h1'
  go_wp2_with fail
  refine (may_any _ _ _).mono ?_
  rintro e v2 ⟨rfl, h2'⟩
  have h2 := grown_trans h1 h2'
  go_wp2_with fail
  refine (takes_any _ _ _ [⟨⟨#[97, 120, 101, 115]⟩, 7, false⟩, ⟨⟨#[107, 101, 101, 112, 100, 105, 109, 115]⟩, 2, false⟩] _ (Or.inr ⟨_, _, rfl, heap_alloc_new _ _, rfl, rfl⟩) (by decide)).mono ?_
  rintro e w6 ⟨⟨a, n, c, rfl, ho, hat⟩, hg6⟩
  have hlt := (Array.getElem?_eq_some_iff.1 B0.out).1
  have hsk := h2.size
  have hne : (Value.slice a n c).ownBlock ≠ some w.heap.size := fun hh => by
    rcases hat _ hh with h | h
    · have : v2.heap.size = w.heap.size := by simpa [Value.ownBlock] using h
      omega
    · have : v2.heap.size + 1 ≤ w.heap.size := by simpa using h
      omega
  obtain ⟨b6, hX, hO, gX⟩ := rule_put (lo := 1) (hi := 1) g0 B0.out h2 (grown_new v2 (.cells #[.string ⟨#[97, 120, 101, 115]⟩, .int .i64 7, .bool false, .string ⟨#[107, 101, 101, 112, 100, 105, 109, 115]⟩, .int .i64 2, .bool false] 189)) hg6 (fun g e => by cases e; exact Nat.le_refl _) ho hne
  obtain ⟨r0, r1, r2, f0, f1, f2⟩ := rule_cells b6
  have HX := hide hX
  have HO := hide hO
  have GX := hide gX
  clear hX hO gX b6 ho hg6 hne hat hlt hsk
  go_wp2
  refine bodyPost_ret (ret_rule2 rfl _ _ w.heap.size rfl HX.out) rfl ?_
  exact ⟨⟨_, _, _, rfl, HO.out⟩, GX.out⟩

set_option maxRecDepth 100000 in
set_option maxHeartbeats 1600000 in
theorem rule_ReduceMean (w : World) (hl : Laid w) :
    Calls Tryz.prog 83 #[.string ⟨#[82, 101, 100, 117, 99, 101, 77, 101, 97, 110]⟩] w fun e w' => Ruled (some (1, 1, [⟨⟨#[97, 120, 101, 115]⟩, 7, false⟩, ⟨⟨#[107, 101, 101, 112, 100, 105, 109, 115]⟩, 2, false⟩, thenRa])) w' e ∧ w.grownBy w' none := by
  have e1 : isOne ⟨#[82, 101, 100, 117, 99, 101, 77, 101, 97, 110]⟩ = false := by simp only [isOne, bytes_toList]; rfl
  obtain ⟨w0, hw0⟩ : ∃ w0, w0 = w.alloc (.cells #[.int .i64 0, .int .i64 0, .slice none 0 0] 125) := ⟨_, rfl⟩
  have g0 : w.grownBy w0 none := by rw [hw0]; exact grown_new _ _
  have b0 := heap_alloc_new w (.cells #[.int .i64 0, .int .i64 0, .slice none 0 0] 125)
  rw [← hw0] at b0
  have B0 := hide b0
  have OO := hide (ofone_any ⟨#[82, 101, 100, 117, 99, 101, 77, 101, 97, 110]⟩ w0 (hl.more g0))
  rw [e1] at OO
  clear hl b0 e1
  go_enter Tryz.func83, Tryz.ntmps83
  go_wp2_with fail
  rw [← hw0]
  clear hw0
  refine OO.out.mono ?_
  rintro e v0 ⟨rfl, h0⟩
  go_wp2_with fail
  refine (may_any _ _ _).mono ?_
  rintro e v1 ⟨rfl, h1'⟩
  have h1 := grown_trans h0 h1'
  go_wp2_with fail
  refine (may_any _ _ _).mono ?_
  rintro e v2 ⟨rfl, h2'⟩
  have h2 := grown_trans h1 h2'
  go_wp2_with fail
  refine (takes_any _ _ _ [⟨⟨#[97, 120, 101, 115]⟩, 7, false⟩, ⟨⟨#[107, 101, 101, 112, 100, 105, 109, 115]⟩, 2, false⟩] _ (Or.inr ⟨_, _, rfl, heap_alloc_new _ _, rfl, rfl⟩) (by decide)).mono ?_
  rintro e w6 ⟨⟨a, n, c, rfl, ho, hat⟩, hg6⟩
  have hlt := (Array.getElem?_eq_some_iff.1 B0.out).1
  have hsk := h2.size
  have hne : (Value.slice a n c).ownBlock ≠ some w.heap.size := fun hh => by
    rcases hat _ hh with h | h
    · have : v2.heap.size = w.heap.size := by simpa [Value.ownBlock] using h
      omega
    · have : v2.heap.size + 1 ≤ w.heap.size := by simpa using h
      omega
  obtain ⟨b6, hX, hO, gX⟩ := rule_put (lo := 1) (hi := 1) g0 B0.out h2 (grown_new v2 (.cells #[.string ⟨#[97, 120, 101, 115]⟩, .int .i64 7, .bool false, .string ⟨#[107, 101, 101, 112, 100, 105, 109, 115]⟩, .int .i64 2, .bool false] 189)) hg6 (fun g e => by cases e; exact Nat.le_refl _) ho hne
  obtain ⟨r0, r1, r2, f0, f1, f2⟩ := rule_cells b6
  have HX := hide hX
  have HO := hide hO
  have GX := hide gX
  clear hX hO gX b6 ho hg6 hne hat hlt hsk
  go_wp2
  refine bodyPost_ret (ret_rule2 rfl _ _ w.heap.size rfl HX.out) rfl ?_
  exact ⟨⟨_, _, _, rfl, HO.out⟩, GX.out⟩

set_option maxRecDepth 100000 in
set_option maxHeartbeats 1600000 in
theorem rule_ArgMax (w : World) (hl : Laid w) :
    Calls Tryz.prog 83 #[.string ⟨#[65, 114, 103, 77, 97, 120]⟩] w fun e w' => Ruled (some (1, 1, [⟨⟨#[97, 120, 105, 115]⟩, 2, false⟩, ⟨⟨#[107, 101, 101, 112, 100, 105, 109, 115]⟩, 2, false⟩, thenRa])) w' e ∧ w.grownBy w' none := by
  have e1 : isOne ⟨#[65, 114, 103, 77, 97, 120]⟩ = false := by simp only [isOne, bytes_toList]; rfl
  obtain ⟨w0, hw0⟩ : ∃ w0, w0 = w.alloc (.cells #[.int .i64 0, .int .i64 0, .slice none 0 0] 125) := ⟨_, rfl⟩
  have g0 : w.grownBy w0 none := by rw [hw0]; exact grown_new _ _
  have b0 := heap_alloc_new w (.cells #[.int .i64 0, .int .i64 0, .slice none 0 0] 125)
  rw [← hw0] at b0
  have B0 := hide b0
  have OO := hide (ofone_any ⟨#[65, 114, 103, 77, 97, 120]⟩ w0 (hl.more g0))
  rw [e1] at OO
  clear hl b0 e1
  go_enter Tryz.func83, Tryz.ntmps83
  go_wp2_with fail
  rw [← hw0]
  clear hw0
  refine OO.out.mono ?_
  rintro e v0 ⟨rfl, h0⟩
  go_wp2_with fail
  refine (may_any _ _ _).mono ?_
  rintro e v1 ⟨rfl, h1'⟩
  have h1 := grown_trans h0 h1'
  go_wp2_with fail
  refine (may_any _ _ _).mono ?_
  rintro e v2 ⟨rfl, h2'⟩
  have h2 := grown_trans h1 h2'
  go_wp2_with fail
  refine (takes_any _ _ _ [⟨⟨#[97, 120, 105, 115]⟩, 2, false⟩, ⟨⟨#[107, 101, 101, 112, 100, 105, 109, 115]⟩, 2, false⟩] _ (Or.inr ⟨_, _, rfl, heap_alloc_new _ _, rfl, rfl⟩) (by decide)).mono ?_
  rintro e w6 ⟨⟨a, n, c, rfl, ho, hat⟩, hg6⟩
  have hlt := (Array.getElem?_eq_some_iff.1 B0.out).1
  have hsk := h2.size
  have hne : (Value.slice a n c).ownBlock ≠ some w.heap.size := fun hh => by
    rcases hat _ hh with h | h
    · have : v2.heap.size = w.heap.size := by simpa [Value.ownBlock] using h
      omega
    · have : v2.heap.size + 1 ≤ w.heap.size := by simpa using h
      omega
  obtain ⟨b6, hX, hO, gX⟩ := rule_put (lo := 1) (hi := 1) g0 B0.out h2 (grown_new v2 (.cells #[.string ⟨#[97, 120, 105, 115]⟩, .int .i64 2, .bool false, .string ⟨#[107, 101, 101, 112, 100, 105, 109, 115]⟩, .int .i64 2, .bool false] 189)) hg6 (fun g e => by cases e; exact Nat.le_refl _) ho hne
  obtain ⟨r0, r1, r2, f0, f1, f2⟩ := rule_cells b6
  have HX := hide hX
  have HO := hide hO
  have GX := hide gX
  clear hX hO gX b6 ho hg6 hne hat hlt hsk
  go_wp2
  refine bodyPost_ret (ret_rule2 rfl _ _ w.heap.size rfl HX.out) rfl ?_
  exact ⟨⟨_, _, _, rfl, HO.out⟩, GX.out⟩

set_option maxRecDepth 100000 in
set_option maxHeartbeats 1600000 in
theorem rule_Reshape (w : World) (hl : Laid w) :
    Calls Tryz.prog 83 #[.string ⟨#[82, 101, 115, 104, 97, 112, 101]⟩] w fun e w' => Ruled (some (1, 1, [⟨⟨#[115, 104, 97, 112, 101]⟩, 7, true⟩, thenRa])) w' e ∧ w.grownBy w' none := by
  have e1 : isOne ⟨#[82, 101, 115, 104, 97, 112, 101]⟩ = false := by simp only [isOne, bytes_toList]; rfl
  obtain ⟨w0, hw0⟩ : ∃ w0, w0 = w.alloc (.cells #[.int .i64 0, .int .i64 0, .slice none 0 0] 125) := ⟨_, rfl⟩
  have g0 : w.grownBy w0 none := by rw [hw0]; exact grown_new _ _
  have b0 := heap_alloc_new w (.cells #[.int .i64 0, .int .i64 0, .slice none 0 0] 125)
  rw [← hw0] at b0
  have B0 := hide b0
  have OO := hide (ofone_any ⟨#[82, 101, 115, 104, 97, 112, 101]⟩ w0 (hl.more g0))
  rw [e1] at OO
  clear hl b0 e1
  go_enter Tryz.func83, Tryz.ntmps83
  go_wp2_with fail
  rw [← hw0]
  clear hw0
  refine OO.out.mono ?_
  rintro e v0 ⟨rfl, h0⟩
  go_wp2_with fail
  refine (must_any _ _ _).mono ?_
  rintro e v1 ⟨rfl, h1'⟩
  have h1 := grown_trans h0 h1'
  go_wp2_with fail
  refine (takes_any _ _ _ [⟨⟨#[115, 104, 97, 112, 101]⟩, 7, true⟩] _ (Or.inr ⟨_, _, rfl, heap_alloc_new _ _, rfl, rfl⟩) (by decide)).mono ?_
  rintro e w6 ⟨⟨a, n, c, rfl, ho, hat⟩, hg6⟩
  have hlt := (Array.getElem?_eq_some_iff.1 B0.out).1
  have hsk := h1.size
  have hne : (Value.slice a n c).ownBlock ≠ some w.heap.size := fun hh => by
    rcases hat _ hh with h | h
    · have : v1.heap.size = w.heap.size := by simpa [Value.ownBlock] using h
      omega
    · have : v1.heap.size + 1 ≤ w.heap.size := by simpa using h
      omega
  obtain ⟨b6, hX, hO, gX⟩ := rule_put (lo := 1) (hi := 1) g0 B0.out h1 (grown_new v1 (.cells #[.string ⟨#[115, 104, 97, 112, 101]⟩, .int .i64 7, .bool true] 189)) hg6 (fun g e => by cases e; exact Nat.le_refl _) ho hne
  obtain ⟨r0, r1, r2, f0, f1, f2⟩ := rule_cells b6
  have HX := hide hX
  have HO := hide hO
  have GX := hide gX
  clear hX hO gX b6 ho hg6 hne hat hlt hsk
  go_wp2
  refine bodyPost_ret (ret_rule2 rfl _ _ w.heap.size rfl HX.out) rfl ?_
  exact ⟨⟨_, _, _, rfl, HO.out⟩, GX.out⟩

set_option maxRecDepth 100000 in
set_option maxHeartbeats 1600000 in
theorem rule_Expand (w : World) (hl : Laid w) :
    Calls Tryz.prog 83 #[.string ⟨#[69, 120, 112, 97, 110, 100]⟩] w fun e w' => Ruled (some (1, 1, [⟨⟨#[115, 104, 97, 112, 101]⟩, 7, true⟩, thenRa])) w' e ∧ w.grownBy w' none := by
  have e1 : isOne ⟨#[69, 120, 112, 97, 110, 100]⟩ = false := by simp only [isOne, bytes_toList]; rfl
  obtain ⟨w0, hw0⟩ : ∃ w0, w0 = w.alloc (.cells #[.int .i64 0, .int .i64 0, .slice none 0 0] 125) := ⟨_, rfl⟩
  have g0 : w.grownBy w0 none := by rw [hw0]; exact grown_new _ _
  have b0 := heap_alloc_new w (.cells #[.int .i64 0, .int .i64 0, .slice none 0 0] 125)
  rw [← hw0] at b0
  have B0 := hide b0
  have OO := hide (ofone_any ⟨#[69, 120, 112, 97, 110, 100]⟩ w0 (hl.more g0))
  rw [e1] at OO
  clear hl b0 e1
  go_enter Tryz.func83, Tryz.ntmps83
  go_wp2_with fail
  rw [← hw0]
  clear hw0
  refine OO.out.mono ?_
  rintro e v0 ⟨rfl, h0⟩
  go_wp2_with fail
  refine (must_any _ _ _).mono ?_
  rintro e v1 ⟨rfl, h1'⟩
  have h1 := grown_trans h0 h1'
  go_wp2_with fail
  refine (takes_any _ _ _ [⟨⟨#[115, 104, 97, 112, 101]⟩, 7, true⟩] _ (Or.inr ⟨_, _, rfl, heap_alloc_new _ _, rfl, rfl⟩) (by decide)).mono ?_
  rintro e w6 ⟨⟨a, n, c, rfl, ho, hat⟩, hg6⟩
  have hlt := (Array.getElem?_eq_some_iff.1 B0.out).1
  have hsk := h1.size
  have hne : (Value.slice a n c).ownBlock ≠ some w.heap.size := fun hh => by
    rcases hat _ hh with h | h
    · have : v1.heap.size = w.heap.size := by simpa [Value.ownBlock] using h
      omega
    · have : v1.heap.size + 1 ≤ w.heap.size := by simpa using h
      omega
  obtain ⟨b6, hX, hO, gX⟩ := rule_put (lo := 1) (hi := 1) g0 B0.out h1 (grown_new v1 (.cells #[.string ⟨#[115, 104, 97, 112, 101]⟩, .int .i64 7, .bool true] 189)) hg6 (fun g e => by cases e; exact Nat.le_refl _) ho hne
  obtain ⟨r0, r1, r2, f0, f1, f2⟩ := rule_cells b6
  have HX := hide hX
  have HO := hide hO
  have GX := hide gX
  clear hX hO gX b6 ho hg6 hne hat hlt hsk
  go_wp2
  refine bodyPost_ret (ret_rule2 rfl _ _ w.heap.size rfl HX.out) rfl ?_
  exact ⟨⟨_, _, _, rfl, HO.out⟩, GX.out⟩

set_option maxRecDepth 100000 in
set_option maxHeartbeats 1600000 in
theorem rule_Transpose (w : World) (hl : Laid w) :
    Calls Tryz.prog 83 #[.string ⟨#[84, 114, 97, 110, 115, 112, 111, 115, 101]⟩] w fun e w' => Ruled (some (1, 1, [⟨⟨#[112, 101, 114, 109]⟩, 7, false⟩, thenRa])) w' e ∧ w.grownBy w' none := by
  have e1 : isOne ⟨#[84, 114, 97, 110, 115, 112, 111, 115, 101]⟩ = false := by simp only [isOne, bytes_toList]; rfl
  obtain ⟨w0, hw0⟩ : ∃ w0, w0 = w.alloc (.cells #[.int .i64 0, .int .i64 0, .slice none 0 0] 125) := ⟨_, rfl⟩
  have g0 : w.grownBy w0 none := by rw [hw0]; exact grown_new _ _
  have b0 := heap_alloc_new w (.cells #[.int .i64 0, .int .i64 0, .slice none 0 0] 125)
  rw [← hw0] at b0
  have B0 := hide b0
  have OO := hide (ofone_any ⟨#[84, 114, 97, 110, 115, 112, 111, 115, 101]⟩ w0 (hl.more g0))
  rw [e1] at OO
  clear hl b0 e1
  go_enter Tryz.func83, Tryz.ntmps83
  go_wp2_with fail
  rw [← hw0]
  clear hw0
  refine OO.out.mono ?_
  rintro e v0 ⟨rfl, h0⟩
  go_wp2_with fail
  refine (may_any _ _ _).mono ?_
  rintro e v1 ⟨rfl, h1'⟩
  have h1 := grown_trans h0 h1'
  go_wp2_with fail
  refine (takes_any _ _ _ [⟨⟨#[112, 101, 114, 109]⟩, 7, false⟩] _ (Or.inr ⟨_, _, rfl, heap_alloc_new _ _, rfl, rfl⟩) (by decide)).mono ?_
  rintro e w6 ⟨⟨a, n, c, rfl, ho, hat⟩, hg6⟩
  have hlt := (Array.getElem?_eq_some_iff.1 B0.out).1
  have hsk := h1.size
  have hne : (Value.slice a n c).ownBlock ≠ some w.heap.size := fun hh => by
    rcases hat _ hh with h | h
    · have : v1.heap.size = w.heap.size := by simpa [Value.ownBlock] using h
      omega
    · have : v1.heap.size + 1 ≤ w.heap.size := by simpa using h
      omega
  obtain ⟨b6, hX, hO, gX⟩ := rule_put (lo := 1) (hi := 1) g0 B0.out h1 (grown_new v1 (.cells #[.string ⟨#[112, 101, 114, 109]⟩, .int .i64 7, .bool false] 189)) hg6 (fun g e => by cases e; exact Nat.le_refl _) ho hne
  obtain ⟨r0, r1, r2, f0, f1, f2⟩ := rule_cells b6
  have HX := hide hX
  have HO := hide hO
  have GX := hide gX
  clear hX hO gX b6 ho hg6 hne hat hlt hsk
  go_wp2
  refine bodyPost_ret (ret_rule2 rfl _ _ w.heap.size rfl HX.out) rfl ?_
  exact ⟨⟨_, _, _, rfl, HO.out⟩, GX.out⟩

set_option maxRecDepth 100000 in
set_option maxHeartbeats 1600000 in
theorem rule_Concat (w : World) (hl : Laid w) :
    Calls Tryz.prog 83 #[.string ⟨#[67, 111, 110, 99, 97, 116]⟩] w fun e w' => Ruled (some (1, 20, [⟨⟨#[97, 120, 105, 115]⟩, 2, true⟩, thenRa])) w' e ∧ w.grownBy w' none := by
  have e1 : isOne ⟨#[67, 111, 110, 99, 97, 116]⟩ = false := by simp only [isOne, bytes_toList]; rfl
  obtain ⟨w0, hw0⟩ : ∃ w0, w0 = w.alloc (.cells #[.int .i64 0, .int .i64 0, .slice none 0 0] 125) := ⟨_, rfl⟩
  have g0 : w.grownBy w0 none := by rw [hw0]; exact grown_new _ _
  have b0 := heap_alloc_new w (.cells #[.int .i64 0, .int .i64 0, .slice none 0 0] 125)
  rw [← hw0] at b0
  have B0 := hide b0
  have OO := hide (ofone_any ⟨#[67, 111, 110, 99, 97, 116]⟩ w0 (hl.more g0))
  rw [e1] at OO
  clear hl b0 e1
  go_enter Tryz.func83, Tryz.ntmps83
  go_wp2_with fail
  rw [← hw0]
  clear hw0
  refine OO.out.mono ?_
  rintro e v0 ⟨rfl, h0⟩
  go_wp2_with fail
  refine (must_any _ _ _).mono ?_
  rintro e v1 ⟨rfl, h1'⟩
  have h1 := grown_trans h0 h1'
  go_wp2_with fail
  refine (takes_any _ _ _ [⟨⟨#[97, 120, 105, 115]⟩, 2, true⟩] _ (Or.inr ⟨_, _, rfl, heap_alloc_new _ _, rfl, rfl⟩) (by decide)).mono ?_
  rintro e w6 ⟨⟨a, n, c, rfl, ho, hat⟩, hg6⟩
  have hlt := (Array.getElem?_eq_some_iff.1 B0.out).1
  have hsk := h1.size
  have hne : (Value.slice a n c).ownBlock ≠ some w.heap.size := fun hh => by
    rcases hat _ hh with h | h
    · have : v1.heap.size = w.heap.size := by simpa [Value.ownBlock] using h
      omega
    · have : v1.heap.size + 1 ≤ w.heap.size := by simpa using h
      omega
  obtain ⟨b6, hX, hO, gX⟩ := rule_put (lo := 1) (hi := 20) g0 B0.out h1 (grown_new v1 (.cells #[.string ⟨#[97, 120, 105, 115]⟩, .int .i64 2, .bool true] 189)) hg6 (fun g e => by cases e; exact Nat.le_refl _) ho hne
  obtain ⟨r0, r1, r2, f0, f1, f2⟩ := rule_cells b6
  have HX := hide hX
  have HO := hide hO
  have GX := hide gX
  clear hX hO gX b6 ho hg6 hne hat hlt hsk
  go_wp2
  refine bodyPost_ret (ret_rule2 rfl _ _ w.heap.size rfl HX.out) rfl ?_
  exact ⟨⟨_, _, _, rfl, HO.out⟩, GX.out⟩

set_option maxRecDepth 100000 in
set_option maxHeartbeats 1600000 in
theorem rule_Slice (w : World) (hl : Laid w) :
    Calls Tryz.prog 83 #[.string ⟨#[83, 108, 105, 99, 101]⟩] w fun e w' => Ruled (some (1, 1, [⟨⟨#[115, 116, 97, 114, 116, 115]⟩, 7, true⟩, ⟨⟨#[101, 110, 100, 115]⟩, 7, true⟩, ⟨⟨#[97, 120, 101, 115]⟩, 7, false⟩, thenRa])) w' e ∧ w.grownBy w' none := by
  have e1 : isOne ⟨#[83, 108, 105, 99, 101]⟩ = false := by simp only [isOne, bytes_toList]; rfl
  obtain ⟨w0, hw0⟩ : ∃ w0, w0 = w.alloc (.cells #[.int .i64 0, .int .i64 0, .slice none 0 0] 125) := ⟨_, rfl⟩
  have g0 : w.grownBy w0 none := by rw [hw0]; exact grown_new _ _
  have b0 := heap_alloc_new w (.cells #[.int .i64 0, .int .i64 0, .slice none 0 0] 125)
  rw [← hw0] at b0
  have B0 := hide b0
  have OO := hide (ofone_any ⟨#[83, 108, 105, 99, 101]⟩ w0 (hl.more g0))
  rw [e1] at OO
  clear hl b0 e1
  go_enter Tryz.func83, Tryz.ntmps83
  go_wp2_with fail
  rw [← hw0]
  clear hw0
  refine OO.out.mono ?_
  rintro e v0 ⟨rfl, h0⟩
  go_wp2_with fail
  refine (must_any _ _ _).mono ?_
  rintro e v1 ⟨rfl, h1'⟩
  have h1 := grown_trans h0 h1'
  go_wp2_with fail
  refine (must_any _ _ _).mono ?_
  rintro e v2 ⟨rfl, h2'⟩
  have h2 := grown_trans h1 h2'
  go_wp2_with fail
  refine (may_any _ _ _).mono ?_
  rintro e v3 ⟨rfl, h3'⟩
  have h3 := grown_trans h2 h3'
  go_wp2_with fail
  refine (takes_any _ _ _ [⟨⟨#[115, 116, 97, 114, 116, 115]⟩, 7, true⟩, ⟨⟨#[101, 110, 100, 115]⟩, 7, true⟩, ⟨⟨#[97, 120, 101, 115]⟩, 7, false⟩] _ (Or.inr ⟨_, _, rfl, heap_alloc_new _ _, rfl, rfl⟩) (by decide)).mono ?_
  rintro e w6 ⟨⟨a, n, c, rfl, ho, hat⟩, hg6⟩
  have hlt := (Array.getElem?_eq_some_iff.1 B0.out).1
  have hsk := h3.size
  have hne : (Value.slice a n c).ownBlock ≠ some w.heap.size := fun hh => by
    rcases hat _ hh with h | h
    · have : v3.heap.size = w.heap.size := by simpa [Value.ownBlock] using h
      omega
    · have : v3.heap.size + 1 ≤ w.heap.size := by simpa using h
      omega
  obtain ⟨b6, hX, hO, gX⟩ := rule_put (lo := 1) (hi := 1) g0 B0.out h3 (grown_new v3 (.cells #[.string ⟨#[115, 116, 97, 114, 116, 115]⟩, .int .i64 7, .bool true, .string ⟨#[101, 110, 100, 115]⟩, .int .i64 7, .bool true, .string ⟨#[97, 120, 101, 115]⟩, .int .i64 7, .bool false] 189)) hg6 (fun g e => by cases e; exact Nat.le_refl _) ho hne
  obtain ⟨r0, r1, r2, f0, f1, f2⟩ := rule_cells b6
  have HX := hide hX
  have HO := hide hO
  have GX := hide gX
  clear hX hO gX b6 ho hg6 hne hat hlt hsk
  go_wp2
  refine bodyPost_ret (ret_rule2 rfl _ _ w.heap.size rfl HX.out) rfl ?_
  exact ⟨⟨_, _, _, rfl, HO.out⟩, GX.out⟩

set_option maxRecDepth 100000 in
set_option maxHeartbeats 1600000 in
theorem rule_Gather (w : World) (hl : Laid w) :
    Calls Tryz.prog 83 #[.string ⟨#[71, 97, 116, 104, 101, 114]⟩] w fun e w' => Ruled (some (2, 2, [⟨⟨#[97, 120, 105, 115]⟩, 2, false⟩, thenRa])) w' e ∧ w.grownBy w' none := by
  have e1 : isOne ⟨#[71, 97, 116, 104, 101, 114]⟩ = false := by simp only [isOne, bytes_toList]; rfl
  obtain ⟨w0, hw0⟩ : ∃ w0, w0 = w.alloc (.cells #[.int .i64 0, .int .i64 0, .slice none 0 0] 125) := ⟨_, rfl⟩
  have g0 : w.grownBy w0 none := by rw [hw0]; exact grown_new _ _
  have b0 := heap_alloc_new w (.cells #[.int .i64 0, .int .i64 0, .slice none 0 0] 125)
  rw [← hw0] at b0
  have B0 := hide b0
  have OO := hide (ofone_any ⟨#[71, 97, 116, 104, 101, 114]⟩ w0 (hl.more g0))
  rw [e1] at OO
  clear hl b0 e1
  go_enter Tryz.func83, Tryz.ntmps83
  go_wp2_with fail
  rw [← hw0]
  clear hw0
  refine OO.out.mono ?_
  rintro e v0 ⟨rfl, h0⟩
  go_wp2_with fail
  refine (may_any _ _ _).mono ?_
  rintro e v1 ⟨rfl, h1'⟩
  have h1 := grown_trans h0 h1'
  go_wp2_with fail
  refine (takes_any _ _ _ [⟨⟨#[97, 120, 105, 115]⟩, 2, false⟩] _ (Or.inr ⟨_, _, rfl, heap_alloc_new _ _, rfl, rfl⟩) (by decide)).mono ?_
  rintro e w6 ⟨⟨a, n, c, rfl, ho, hat⟩, hg6⟩
  have hlt := (Array.getElem?_eq_some_iff.1 B0.out).1
  have hsk := h1.size
  have hne : (Value.slice a n c).ownBlock ≠ some w.heap.size := fun hh => by
    rcases hat _ hh with h | h
    · have : v1.heap.size = w.heap.size := by simpa [Value.ownBlock] using h
      omega
    · have : v1.heap.size + 1 ≤ w.heap.size := by simpa using h
      omega
  obtain ⟨b6, hX, hO, gX⟩ := rule_put (lo := 2) (hi := 2) g0 B0.out h1 (grown_new v1 (.cells #[.string ⟨#[97, 120, 105, 115]⟩, .int .i64 2, .bool false] 189)) hg6 (fun g e => by cases e; exact Nat.le_refl _) ho hne
  obtain ⟨r0, r1, r2, f0, f1, f2⟩ := rule_cells b6
  have HX := hide hX
  have HO := hide hO
  have GX := hide gX
  clear hX hO gX b6 ho hg6 hne hat hlt hsk
  go_wp2
  refine bodyPost_ret (ret_rule2 rfl _ _ w.heap.size rfl HX.out) rfl ?_
  exact ⟨⟨_, _, _, rfl, HO.out⟩, GX.out⟩

end Go.Proofs.YtdcbjikjeicgbaaGreatDoor

/- What an operator takes, operator by operator (mkRule.py). -/
namespace Go.Proofs.YtdcbjikjeicgbaaGreatDoor
open Go.RowKit

set_option maxRecDepth 100000 in
set_option maxHeartbeats 1600000 in
theorem rule_Pad (w : World) (hl : Laid w) :
    Calls Tryz.prog 83 #[.string ⟨#[80, 97, 100]⟩] w fun e w' => Ruled (some (1, 1, [⟨⟨#[112, 97, 100, 115]⟩, 7, true⟩, ⟨⟨#[118, 97, 108, 117, 101]⟩, 1, false⟩, thenRa])) w' e ∧ w.grownBy w' none := by
  have e1 : isOne ⟨#[80, 97, 100]⟩ = false := by simp only [isOne, bytes_toList]; rfl
  obtain ⟨w0, hw0⟩ : ∃ w0, w0 = w.alloc (.cells #[.int .i64 0, .int .i64 0, .slice none 0 0] 125) := ⟨_, rfl⟩
  have g0 : w.grownBy w0 none := by rw [hw0]; exact grown_new _ _
  have b0 := heap_alloc_new w (.cells #[.int .i64 0, .int .i64 0, .slice none 0 0] 125)
  rw [← hw0] at b0
  have B0 := hide b0
  have OO := hide (ofone_any ⟨#[80, 97, 100]⟩ w0 (hl.more g0))
  rw [e1] at OO
  clear hl b0 e1
  go_enter Tryz.func83, Tryz.ntmps83
  go_wp2_with fail
  rw [← hw0]
  clear hw0
  refine OO.out.mono ?_
  rintro e v0 ⟨rfl, h0⟩
  go_wp2_with fail
  refine (must_any _ _ _).mono ?_
  rintro e v1 ⟨rfl, h1'⟩
  have h1 := grown_trans h0 h1'
  go_wp2_with fail
  refine (may_any _ _ _).mono ?_
  rintro e v2 ⟨rfl, h2'⟩
  have h2 := grown_trans h1 h2'
  go_wp2_with fail
  refine (takes_any _ _ _ [⟨⟨#[112, 97, 100, 115]⟩, 7, true⟩, ⟨⟨#[118, 97, 108, 117, 101]⟩, 1, false⟩] _ (Or.inr ⟨_, _, rfl, heap_alloc_new _ _, rfl, rfl⟩) (by decide)).mono ?_
  rintro e w6 ⟨⟨a, n, c, rfl, ho, hat⟩, hg6⟩
  have hlt := (Array.getElem?_eq_some_iff.1 B0.out).1
  have hsk := h2.size
  have hne : (Value.slice a n c).ownBlock ≠ some w.heap.size := fun hh => by
    rcases hat _ hh with h | h
    · have : v2.heap.size = w.heap.size := by simpa [Value.ownBlock] using h
      omega
    · have : v2.heap.size + 1 ≤ w.heap.size := by simpa using h
      omega
  obtain ⟨b6, hX, hO, gX⟩ := rule_put (lo := 1) (hi := 1) g0 B0.out h2 (grown_new v2 (.cells #[.string ⟨#[112, 97, 100, 115]⟩, .int .i64 7, .bool true, .string ⟨#[118, 97, 108, 117, 101]⟩, .int .i64 1, .bool false] 189)) hg6 (fun g e => by cases e; exact Nat.le_refl _) ho hne
  obtain ⟨r0, r1, r2, f0, f1, f2⟩ := rule_cells b6
  have HX := hide hX
  have HO := hide hO
  have GX := hide gX
  clear hX hO gX b6 ho hg6 hne hat hlt hsk
  go_wp2
  refine bodyPost_ret (ret_rule2 rfl _ _ w.heap.size rfl HX.out) rfl ?_
  exact ⟨⟨_, _, _, rfl, HO.out⟩, GX.out⟩

set_option maxRecDepth 100000 in
set_option maxHeartbeats 1600000 in
theorem rule_Squeeze (w : World) (hl : Laid w) :
    Calls Tryz.prog 83 #[.string ⟨#[83, 113, 117, 101, 101, 122, 101]⟩] w fun e w' => Ruled (some (1, 1, [⟨⟨#[97, 120, 101, 115]⟩, 7, true⟩, thenRa])) w' e ∧ w.grownBy w' none := by
  have e1 : isOne ⟨#[83, 113, 117, 101, 101, 122, 101]⟩ = false := by simp only [isOne, bytes_toList]; rfl
  obtain ⟨w0, hw0⟩ : ∃ w0, w0 = w.alloc (.cells #[.int .i64 0, .int .i64 0, .slice none 0 0] 125) := ⟨_, rfl⟩
  have g0 : w.grownBy w0 none := by rw [hw0]; exact grown_new _ _
  have b0 := heap_alloc_new w (.cells #[.int .i64 0, .int .i64 0, .slice none 0 0] 125)
  rw [← hw0] at b0
  have B0 := hide b0
  have OO := hide (ofone_any ⟨#[83, 113, 117, 101, 101, 122, 101]⟩ w0 (hl.more g0))
  rw [e1] at OO
  clear hl b0 e1
  go_enter Tryz.func83, Tryz.ntmps83
  go_wp2_with fail
  rw [← hw0]
  clear hw0
  refine OO.out.mono ?_
  rintro e v0 ⟨rfl, h0⟩
  go_wp2_with fail
  refine (must_any _ _ _).mono ?_
  rintro e v1 ⟨rfl, h1'⟩
  have h1 := grown_trans h0 h1'
  go_wp2_with fail
  refine (takes_any _ _ _ [⟨⟨#[97, 120, 101, 115]⟩, 7, true⟩] _ (Or.inr ⟨_, _, rfl, heap_alloc_new _ _, rfl, rfl⟩) (by decide)).mono ?_
  rintro e w6 ⟨⟨a, n, c, rfl, ho, hat⟩, hg6⟩
  have hlt := (Array.getElem?_eq_some_iff.1 B0.out).1
  have hsk := h1.size
  have hne : (Value.slice a n c).ownBlock ≠ some w.heap.size := fun hh => by
    rcases hat _ hh with h | h
    · have : v1.heap.size = w.heap.size := by simpa [Value.ownBlock] using h
      omega
    · have : v1.heap.size + 1 ≤ w.heap.size := by simpa using h
      omega
  obtain ⟨b6, hX, hO, gX⟩ := rule_put (lo := 1) (hi := 1) g0 B0.out h1 (grown_new v1 (.cells #[.string ⟨#[97, 120, 101, 115]⟩, .int .i64 7, .bool true] 189)) hg6 (fun g e => by cases e; exact Nat.le_refl _) ho hne
  obtain ⟨r0, r1, r2, f0, f1, f2⟩ := rule_cells b6
  have HX := hide hX
  have HO := hide hO
  have GX := hide gX
  clear hX hO gX b6 ho hg6 hne hat hlt hsk
  go_wp2
  refine bodyPost_ret (ret_rule2 rfl _ _ w.heap.size rfl HX.out) rfl ?_
  exact ⟨⟨_, _, _, rfl, HO.out⟩, GX.out⟩

set_option maxRecDepth 100000 in
set_option maxHeartbeats 1600000 in
theorem rule_Unsqueeze (w : World) (hl : Laid w) :
    Calls Tryz.prog 83 #[.string ⟨#[85, 110, 115, 113, 117, 101, 101, 122, 101]⟩] w fun e w' => Ruled (some (1, 1, [⟨⟨#[97, 120, 101, 115]⟩, 7, true⟩, thenRa])) w' e ∧ w.grownBy w' none := by
  have e1 : isOne ⟨#[85, 110, 115, 113, 117, 101, 101, 122, 101]⟩ = false := by simp only [isOne, bytes_toList]; rfl
  obtain ⟨w0, hw0⟩ : ∃ w0, w0 = w.alloc (.cells #[.int .i64 0, .int .i64 0, .slice none 0 0] 125) := ⟨_, rfl⟩
  have g0 : w.grownBy w0 none := by rw [hw0]; exact grown_new _ _
  have b0 := heap_alloc_new w (.cells #[.int .i64 0, .int .i64 0, .slice none 0 0] 125)
  rw [← hw0] at b0
  have B0 := hide b0
  have OO := hide (ofone_any ⟨#[85, 110, 115, 113, 117, 101, 101, 122, 101]⟩ w0 (hl.more g0))
  rw [e1] at OO
  clear hl b0 e1
  go_enter Tryz.func83, Tryz.ntmps83
  go_wp2_with fail
  rw [← hw0]
  clear hw0
  refine OO.out.mono ?_
  rintro e v0 ⟨rfl, h0⟩
  go_wp2_with fail
  refine (must_any _ _ _).mono ?_
  rintro e v1 ⟨rfl, h1'⟩
  have h1 := grown_trans h0 h1'
  go_wp2_with fail
  refine (takes_any _ _ _ [⟨⟨#[97, 120, 101, 115]⟩, 7, true⟩] _ (Or.inr ⟨_, _, rfl, heap_alloc_new _ _, rfl, rfl⟩) (by decide)).mono ?_
  rintro e w6 ⟨⟨a, n, c, rfl, ho, hat⟩, hg6⟩
  have hlt := (Array.getElem?_eq_some_iff.1 B0.out).1
  have hsk := h1.size
  have hne : (Value.slice a n c).ownBlock ≠ some w.heap.size := fun hh => by
    rcases hat _ hh with h | h
    · have : v1.heap.size = w.heap.size := by simpa [Value.ownBlock] using h
      omega
    · have : v1.heap.size + 1 ≤ w.heap.size := by simpa using h
      omega
  obtain ⟨b6, hX, hO, gX⟩ := rule_put (lo := 1) (hi := 1) g0 B0.out h1 (grown_new v1 (.cells #[.string ⟨#[97, 120, 101, 115]⟩, .int .i64 7, .bool true] 189)) hg6 (fun g e => by cases e; exact Nat.le_refl _) ho hne
  obtain ⟨r0, r1, r2, f0, f1, f2⟩ := rule_cells b6
  have HX := hide hX
  have HO := hide hO
  have GX := hide gX
  clear hX hO gX b6 ho hg6 hne hat hlt hsk
  go_wp2
  refine bodyPost_ret (ret_rule2 rfl _ _ w.heap.size rfl HX.out) rfl ?_
  exact ⟨⟨_, _, _, rfl, HO.out⟩, GX.out⟩

set_option maxRecDepth 100000 in
set_option maxHeartbeats 1600000 in
theorem rule_Flatten (w : World) (hl : Laid w) :
    Calls Tryz.prog 83 #[.string ⟨#[70, 108, 97, 116, 116, 101, 110]⟩] w fun e w' => Ruled (some (1, 1, [⟨⟨#[97, 120, 105, 115]⟩, 2, false⟩, thenRa])) w' e ∧ w.grownBy w' none := by
  have e1 : isOne ⟨#[70, 108, 97, 116, 116, 101, 110]⟩ = false := by simp only [isOne, bytes_toList]; rfl
  obtain ⟨w0, hw0⟩ : ∃ w0, w0 = w.alloc (.cells #[.int .i64 0, .int .i64 0, .slice none 0 0] 125) := ⟨_, rfl⟩
  have g0 : w.grownBy w0 none := by rw [hw0]; exact grown_new _ _
  have b0 := heap_alloc_new w (.cells #[.int .i64 0, .int .i64 0, .slice none 0 0] 125)
  rw [← hw0] at b0
  have B0 := hide b0
  have OO := hide (ofone_any ⟨#[70, 108, 97, 116, 116, 101, 110]⟩ w0 (hl.more g0))
  rw [e1] at OO
  clear hl b0 e1
  go_enter Tryz.func83, Tryz.ntmps83
  go_wp2_with fail
  rw [← hw0]
  clear hw0
  refine OO.out.mono ?_
  rintro e v0 ⟨rfl, h0⟩
  go_wp2_with fail
  refine (may_any _ _ _).mono ?_
  rintro e v1 ⟨rfl, h1'⟩
  have h1 := grown_trans h0 h1'
  go_wp2_with fail
  refine (takes_any _ _ _ [⟨⟨#[97, 120, 105, 115]⟩, 2, false⟩] _ (Or.inr ⟨_, _, rfl, heap_alloc_new _ _, rfl, rfl⟩) (by decide)).mono ?_
  rintro e w6 ⟨⟨a, n, c, rfl, ho, hat⟩, hg6⟩
  have hlt := (Array.getElem?_eq_some_iff.1 B0.out).1
  have hsk := h1.size
  have hne : (Value.slice a n c).ownBlock ≠ some w.heap.size := fun hh => by
    rcases hat _ hh with h | h
    · have : v1.heap.size = w.heap.size := by simpa [Value.ownBlock] using h
      omega
    · have : v1.heap.size + 1 ≤ w.heap.size := by simpa using h
      omega
  obtain ⟨b6, hX, hO, gX⟩ := rule_put (lo := 1) (hi := 1) g0 B0.out h1 (grown_new v1 (.cells #[.string ⟨#[97, 120, 105, 115]⟩, .int .i64 2, .bool false] 189)) hg6 (fun g e => by cases e; exact Nat.le_refl _) ho hne
  obtain ⟨r0, r1, r2, f0, f1, f2⟩ := rule_cells b6
  have HX := hide hX
  have HO := hide hO
  have GX := hide gX
  clear hX hO gX b6 ho hg6 hne hat hlt hsk
  go_wp2
  refine bodyPost_ret (ret_rule2 rfl _ _ w.heap.size rfl HX.out) rfl ?_
  exact ⟨⟨_, _, _, rfl, HO.out⟩, GX.out⟩

set_option maxRecDepth 100000 in
set_option maxHeartbeats 1600000 in
theorem rule_Softmax (w : World) (hl : Laid w) :
    Calls Tryz.prog 83 #[.string ⟨#[83, 111, 102, 116, 109, 97, 120]⟩] w fun e w' => Ruled (some (1, 1, [⟨⟨#[97, 120, 105, 115]⟩, 2, false⟩, thenRa])) w' e ∧ w.grownBy w' none := by
  have e1 : isOne ⟨#[83, 111, 102, 116, 109, 97, 120]⟩ = false := by simp only [isOne, bytes_toList]; rfl
  obtain ⟨w0, hw0⟩ : ∃ w0, w0 = w.alloc (.cells #[.int .i64 0, .int .i64 0, .slice none 0 0] 125) := ⟨_, rfl⟩
  have g0 : w.grownBy w0 none := by rw [hw0]; exact grown_new _ _
  have b0 := heap_alloc_new w (.cells #[.int .i64 0, .int .i64 0, .slice none 0 0] 125)
  rw [← hw0] at b0
  have B0 := hide b0
  have OO := hide (ofone_any ⟨#[83, 111, 102, 116, 109, 97, 120]⟩ w0 (hl.more g0))
  rw [e1] at OO
  clear hl b0 e1
  go_enter Tryz.func83, Tryz.ntmps83
  go_wp2_with fail
  rw [← hw0]
  clear hw0
  refine OO.out.mono ?_
  rintro e v0 ⟨rfl, h0⟩
  go_wp2_with fail
  refine (may_any _ _ _).mono ?_
  rintro e v1 ⟨rfl, h1'⟩
  have h1 := grown_trans h0 h1'
  go_wp2_with fail
  refine (takes_any _ _ _ [⟨⟨#[97, 120, 105, 115]⟩, 2, false⟩] _ (Or.inr ⟨_, _, rfl, heap_alloc_new _ _, rfl, rfl⟩) (by decide)).mono ?_
  rintro e w6 ⟨⟨a, n, c, rfl, ho, hat⟩, hg6⟩
  have hlt := (Array.getElem?_eq_some_iff.1 B0.out).1
  have hsk := h1.size
  have hne : (Value.slice a n c).ownBlock ≠ some w.heap.size := fun hh => by
    rcases hat _ hh with h | h
    · have : v1.heap.size = w.heap.size := by simpa [Value.ownBlock] using h
      omega
    · have : v1.heap.size + 1 ≤ w.heap.size := by simpa using h
      omega
  obtain ⟨b6, hX, hO, gX⟩ := rule_put (lo := 1) (hi := 1) g0 B0.out h1 (grown_new v1 (.cells #[.string ⟨#[97, 120, 105, 115]⟩, .int .i64 2, .bool false] 189)) hg6 (fun g e => by cases e; exact Nat.le_refl _) ho hne
  obtain ⟨r0, r1, r2, f0, f1, f2⟩ := rule_cells b6
  have HX := hide hX
  have HO := hide hO
  have GX := hide gX
  clear hX hO gX b6 ho hg6 hne hat hlt hsk
  go_wp2
  refine bodyPost_ret (ret_rule2 rfl _ _ w.heap.size rfl HX.out) rfl ?_
  exact ⟨⟨_, _, _, rfl, HO.out⟩, GX.out⟩

set_option maxRecDepth 100000 in
set_option maxHeartbeats 1600000 in
theorem rule_Gemm (w : World) (hl : Laid w) :
    Calls Tryz.prog 83 #[.string ⟨#[71, 101, 109, 109]⟩] w fun e w' => Ruled (some (2, 3, [⟨⟨#[116, 114, 97, 110, 115, 65]⟩, 2, false⟩, ⟨⟨#[116, 114, 97, 110, 115, 66]⟩, 2, false⟩, ⟨⟨#[97, 108, 112, 104, 97]⟩, 1, false⟩, ⟨⟨#[98, 101, 116, 97]⟩, 1, false⟩, thenRa])) w' e ∧ w.grownBy w' none := by
  have e1 : isOne ⟨#[71, 101, 109, 109]⟩ = false := by simp only [isOne, bytes_toList]; rfl
  obtain ⟨w0, hw0⟩ : ∃ w0, w0 = w.alloc (.cells #[.int .i64 0, .int .i64 0, .slice none 0 0] 125) := ⟨_, rfl⟩
  have g0 : w.grownBy w0 none := by rw [hw0]; exact grown_new _ _
  have b0 := heap_alloc_new w (.cells #[.int .i64 0, .int .i64 0, .slice none 0 0] 125)
  rw [← hw0] at b0
  have B0 := hide b0
  have OO := hide (ofone_any ⟨#[71, 101, 109, 109]⟩ w0 (hl.more g0))
  rw [e1] at OO
  clear hl b0 e1
  go_enter Tryz.func83, Tryz.ntmps83
  go_wp2_with fail
  rw [← hw0]
  clear hw0
  refine OO.out.mono ?_
  rintro e v0 ⟨rfl, h0⟩
  go_wp2_with fail
  refine (may_any _ _ _).mono ?_
  rintro e v1 ⟨rfl, h1'⟩
  have h1 := grown_trans h0 h1'
  go_wp2_with fail
  refine (may_any _ _ _).mono ?_
  rintro e v2 ⟨rfl, h2'⟩
  have h2 := grown_trans h1 h2'
  go_wp2_with fail
  refine (may_any _ _ _).mono ?_
  rintro e v3 ⟨rfl, h3'⟩
  have h3 := grown_trans h2 h3'
  go_wp2_with fail
  refine (may_any _ _ _).mono ?_
  rintro e v4 ⟨rfl, h4'⟩
  have h4 := grown_trans h3 h4'
  go_wp2_with fail
  refine (takes_any _ _ _ [⟨⟨#[116, 114, 97, 110, 115, 65]⟩, 2, false⟩, ⟨⟨#[116, 114, 97, 110, 115, 66]⟩, 2, false⟩, ⟨⟨#[97, 108, 112, 104, 97]⟩, 1, false⟩, ⟨⟨#[98, 101, 116, 97]⟩, 1, false⟩] _ (Or.inr ⟨_, _, rfl, heap_alloc_new _ _, rfl, rfl⟩) (by decide)).mono ?_
  rintro e w6 ⟨⟨a, n, c, rfl, ho, hat⟩, hg6⟩
  have hlt := (Array.getElem?_eq_some_iff.1 B0.out).1
  have hsk := h4.size
  have hne : (Value.slice a n c).ownBlock ≠ some w.heap.size := fun hh => by
    rcases hat _ hh with h | h
    · have : v4.heap.size = w.heap.size := by simpa [Value.ownBlock] using h
      omega
    · have : v4.heap.size + 1 ≤ w.heap.size := by simpa using h
      omega
  obtain ⟨b6, hX, hO, gX⟩ := rule_put (lo := 2) (hi := 3) g0 B0.out h4 (grown_new v4 (.cells #[.string ⟨#[116, 114, 97, 110, 115, 65]⟩, .int .i64 2, .bool false, .string ⟨#[116, 114, 97, 110, 115, 66]⟩, .int .i64 2, .bool false, .string ⟨#[97, 108, 112, 104, 97]⟩, .int .i64 1, .bool false, .string ⟨#[98, 101, 116, 97]⟩, .int .i64 1, .bool false] 189)) hg6 (fun g e => by cases e; exact Nat.le_refl _) ho hne
  obtain ⟨r0, r1, r2, f0, f1, f2⟩ := rule_cells b6
  have HX := hide hX
  have HO := hide hO
  have GX := hide gX
  clear hX hO gX b6 ho hg6 hne hat hlt hsk
  go_wp2
  refine bodyPost_ret (ret_rule2 rfl _ _ w.heap.size rfl HX.out) rfl ?_
  exact ⟨⟨_, _, _, rfl, HO.out⟩, GX.out⟩

set_option maxRecDepth 100000 in
set_option maxHeartbeats 1600000 in
theorem rule_Conv (w : World) (hl : Laid w) :
    Calls Tryz.prog 83 #[.string ⟨#[67, 111, 110, 118]⟩] w fun e w' => Ruled (some (2, 3, [⟨⟨#[115, 116, 114, 105, 100, 101, 115]⟩, 7, false⟩, ⟨⟨#[112, 97, 100, 115]⟩, 7, false⟩, ⟨⟨#[100, 105, 108, 97, 116, 105, 111, 110, 115]⟩, 7, false⟩, ⟨⟨#[103, 114, 111, 117, 112]⟩, 2, false⟩, thenRa])) w' e ∧ w.grownBy w' none := by
  have e1 : isOne ⟨#[67, 111, 110, 118]⟩ = false := by simp only [isOne, bytes_toList]; rfl
  obtain ⟨w0, hw0⟩ : ∃ w0, w0 = w.alloc (.cells #[.int .i64 0, .int .i64 0, .slice none 0 0] 125) := ⟨_, rfl⟩
  have g0 : w.grownBy w0 none := by rw [hw0]; exact grown_new _ _
  have b0 := heap_alloc_new w (.cells #[.int .i64 0, .int .i64 0, .slice none 0 0] 125)
  rw [← hw0] at b0
  have B0 := hide b0
  have OO := hide (ofone_any ⟨#[67, 111, 110, 118]⟩ w0 (hl.more g0))
  rw [e1] at OO
  clear hl b0 e1
  go_enter Tryz.func83, Tryz.ntmps83
  go_wp2_with fail
  rw [← hw0]
  clear hw0
  refine OO.out.mono ?_
  rintro e v0 ⟨rfl, h0⟩
  go_wp2_with fail
  refine (may_any _ _ _).mono ?_
  rintro e v1 ⟨rfl, h1'⟩
  have h1 := grown_trans h0 h1'
  go_wp2_with fail
  refine (may_any _ _ _).mono ?_
  rintro e v2 ⟨rfl, h2'⟩
  have h2 := grown_trans h1 h2'
  go_wp2_with fail
  refine (may_any _ _ _).mono ?_
  rintro e v3 ⟨rfl, h3'⟩
  have h3 := grown_trans h2 h3'
  go_wp2_with fail
  refine (may_any _ _ _).mono ?_
  rintro e v4 ⟨rfl, h4'⟩
  have h4 := grown_trans h3 h4'
  go_wp2_with fail
  refine (takes_any _ _ _ [⟨⟨#[115, 116, 114, 105, 100, 101, 115]⟩, 7, false⟩, ⟨⟨#[112, 97, 100, 115]⟩, 7, false⟩, ⟨⟨#[100, 105, 108, 97, 116, 105, 111, 110, 115]⟩, 7, false⟩, ⟨⟨#[103, 114, 111, 117, 112]⟩, 2, false⟩] _ (Or.inr ⟨_, _, rfl, heap_alloc_new _ _, rfl, rfl⟩) (by decide)).mono ?_
  rintro e w6 ⟨⟨a, n, c, rfl, ho, hat⟩, hg6⟩
  have hlt := (Array.getElem?_eq_some_iff.1 B0.out).1
  have hsk := h4.size
  have hne : (Value.slice a n c).ownBlock ≠ some w.heap.size := fun hh => by
    rcases hat _ hh with h | h
    · have : v4.heap.size = w.heap.size := by simpa [Value.ownBlock] using h
      omega
    · have : v4.heap.size + 1 ≤ w.heap.size := by simpa using h
      omega
  obtain ⟨b6, hX, hO, gX⟩ := rule_put (lo := 2) (hi := 3) g0 B0.out h4 (grown_new v4 (.cells #[.string ⟨#[115, 116, 114, 105, 100, 101, 115]⟩, .int .i64 7, .bool false, .string ⟨#[112, 97, 100, 115]⟩, .int .i64 7, .bool false, .string ⟨#[100, 105, 108, 97, 116, 105, 111, 110, 115]⟩, .int .i64 7, .bool false, .string ⟨#[103, 114, 111, 117, 112]⟩, .int .i64 2, .bool false] 189)) hg6 (fun g e => by cases e; exact Nat.le_refl _) ho hne
  obtain ⟨r0, r1, r2, f0, f1, f2⟩ := rule_cells b6
  have HX := hide hX
  have HO := hide hO
  have GX := hide gX
  clear hX hO gX b6 ho hg6 hne hat hlt hsk
  go_wp2
  refine bodyPost_ret (ret_rule2 rfl _ _ w.heap.size rfl HX.out) rfl ?_
  exact ⟨⟨_, _, _, rfl, HO.out⟩, GX.out⟩

set_option maxRecDepth 100000 in
set_option maxHeartbeats 1600000 in
theorem rule_MaxPool (w : World) (hl : Laid w) :
    Calls Tryz.prog 83 #[.string ⟨#[77, 97, 120, 80, 111, 111, 108]⟩] w fun e w' => Ruled (some (1, 1, [⟨⟨#[107, 101, 114, 110, 101, 108, 95, 115, 104, 97, 112, 101]⟩, 7, true⟩, ⟨⟨#[115, 116, 114, 105, 100, 101, 115]⟩, 7, false⟩, ⟨⟨#[112, 97, 100, 115]⟩, 7, false⟩, thenRa])) w' e ∧ w.grownBy w' none := by
  have e1 : isOne ⟨#[77, 97, 120, 80, 111, 111, 108]⟩ = false := by simp only [isOne, bytes_toList]; rfl
  obtain ⟨w0, hw0⟩ : ∃ w0, w0 = w.alloc (.cells #[.int .i64 0, .int .i64 0, .slice none 0 0] 125) := ⟨_, rfl⟩
  have g0 : w.grownBy w0 none := by rw [hw0]; exact grown_new _ _
  have b0 := heap_alloc_new w (.cells #[.int .i64 0, .int .i64 0, .slice none 0 0] 125)
  rw [← hw0] at b0
  have B0 := hide b0
  have OO := hide (ofone_any ⟨#[77, 97, 120, 80, 111, 111, 108]⟩ w0 (hl.more g0))
  rw [e1] at OO
  clear hl b0 e1
  go_enter Tryz.func83, Tryz.ntmps83
  go_wp2_with fail
  rw [← hw0]
  clear hw0
  refine OO.out.mono ?_
  rintro e v0 ⟨rfl, h0⟩
  go_wp2_with fail
  refine (must_any _ _ _).mono ?_
  rintro e v1 ⟨rfl, h1'⟩
  have h1 := grown_trans h0 h1'
  go_wp2_with fail
  refine (may_any _ _ _).mono ?_
  rintro e v2 ⟨rfl, h2'⟩
  have h2 := grown_trans h1 h2'
  go_wp2_with fail
  refine (may_any _ _ _).mono ?_
  rintro e v3 ⟨rfl, h3'⟩
  have h3 := grown_trans h2 h3'
  go_wp2_with fail
  refine (takes_any _ _ _ [⟨⟨#[107, 101, 114, 110, 101, 108, 95, 115, 104, 97, 112, 101]⟩, 7, true⟩, ⟨⟨#[115, 116, 114, 105, 100, 101, 115]⟩, 7, false⟩, ⟨⟨#[112, 97, 100, 115]⟩, 7, false⟩] _ (Or.inr ⟨_, _, rfl, heap_alloc_new _ _, rfl, rfl⟩) (by decide)).mono ?_
  rintro e w6 ⟨⟨a, n, c, rfl, ho, hat⟩, hg6⟩
  have hlt := (Array.getElem?_eq_some_iff.1 B0.out).1
  have hsk := h3.size
  have hne : (Value.slice a n c).ownBlock ≠ some w.heap.size := fun hh => by
    rcases hat _ hh with h | h
    · have : v3.heap.size = w.heap.size := by simpa [Value.ownBlock] using h
      omega
    · have : v3.heap.size + 1 ≤ w.heap.size := by simpa using h
      omega
  obtain ⟨b6, hX, hO, gX⟩ := rule_put (lo := 1) (hi := 1) g0 B0.out h3 (grown_new v3 (.cells #[.string ⟨#[107, 101, 114, 110, 101, 108, 95, 115, 104, 97, 112, 101]⟩, .int .i64 7, .bool true, .string ⟨#[115, 116, 114, 105, 100, 101, 115]⟩, .int .i64 7, .bool false, .string ⟨#[112, 97, 100, 115]⟩, .int .i64 7, .bool false] 189)) hg6 (fun g e => by cases e; exact Nat.le_refl _) ho hne
  obtain ⟨r0, r1, r2, f0, f1, f2⟩ := rule_cells b6
  have HX := hide hX
  have HO := hide hO
  have GX := hide gX
  clear hX hO gX b6 ho hg6 hne hat hlt hsk
  go_wp2
  refine bodyPost_ret (ret_rule2 rfl _ _ w.heap.size rfl HX.out) rfl ?_
  exact ⟨⟨_, _, _, rfl, HO.out⟩, GX.out⟩

set_option maxRecDepth 100000 in
set_option maxHeartbeats 1600000 in
theorem rule_AveragePool (w : World) (hl : Laid w) :
    Calls Tryz.prog 83 #[.string ⟨#[65, 118, 101, 114, 97, 103, 101, 80, 111, 111, 108]⟩] w fun e w' => Ruled (some (1, 1, [⟨⟨#[107, 101, 114, 110, 101, 108, 95, 115, 104, 97, 112, 101]⟩, 7, true⟩, ⟨⟨#[115, 116, 114, 105, 100, 101, 115]⟩, 7, false⟩, ⟨⟨#[112, 97, 100, 115]⟩, 7, false⟩, thenRa])) w' e ∧ w.grownBy w' none := by
  have e1 : isOne ⟨#[65, 118, 101, 114, 97, 103, 101, 80, 111, 111, 108]⟩ = false := by simp only [isOne, bytes_toList]; rfl
  obtain ⟨w0, hw0⟩ : ∃ w0, w0 = w.alloc (.cells #[.int .i64 0, .int .i64 0, .slice none 0 0] 125) := ⟨_, rfl⟩
  have g0 : w.grownBy w0 none := by rw [hw0]; exact grown_new _ _
  have b0 := heap_alloc_new w (.cells #[.int .i64 0, .int .i64 0, .slice none 0 0] 125)
  rw [← hw0] at b0
  have B0 := hide b0
  have OO := hide (ofone_any ⟨#[65, 118, 101, 114, 97, 103, 101, 80, 111, 111, 108]⟩ w0 (hl.more g0))
  rw [e1] at OO
  clear hl b0 e1
  go_enter Tryz.func83, Tryz.ntmps83
  go_wp2_with fail
  rw [← hw0]
  clear hw0
  refine OO.out.mono ?_
  rintro e v0 ⟨rfl, h0⟩
  go_wp2_with fail
  refine (must_any _ _ _).mono ?_
  rintro e v1 ⟨rfl, h1'⟩
  have h1 := grown_trans h0 h1'
  go_wp2_with fail
  refine (may_any _ _ _).mono ?_
  rintro e v2 ⟨rfl, h2'⟩
  have h2 := grown_trans h1 h2'
  go_wp2_with fail
  refine (may_any _ _ _).mono ?_
  rintro e v3 ⟨rfl, h3'⟩
  have h3 := grown_trans h2 h3'
  go_wp2_with fail
  refine (takes_any _ _ _ [⟨⟨#[107, 101, 114, 110, 101, 108, 95, 115, 104, 97, 112, 101]⟩, 7, true⟩, ⟨⟨#[115, 116, 114, 105, 100, 101, 115]⟩, 7, false⟩, ⟨⟨#[112, 97, 100, 115]⟩, 7, false⟩] _ (Or.inr ⟨_, _, rfl, heap_alloc_new _ _, rfl, rfl⟩) (by decide)).mono ?_
  rintro e w6 ⟨⟨a, n, c, rfl, ho, hat⟩, hg6⟩
  have hlt := (Array.getElem?_eq_some_iff.1 B0.out).1
  have hsk := h3.size
  have hne : (Value.slice a n c).ownBlock ≠ some w.heap.size := fun hh => by
    rcases hat _ hh with h | h
    · have : v3.heap.size = w.heap.size := by simpa [Value.ownBlock] using h
      omega
    · have : v3.heap.size + 1 ≤ w.heap.size := by simpa using h
      omega
  obtain ⟨b6, hX, hO, gX⟩ := rule_put (lo := 1) (hi := 1) g0 B0.out h3 (grown_new v3 (.cells #[.string ⟨#[107, 101, 114, 110, 101, 108, 95, 115, 104, 97, 112, 101]⟩, .int .i64 7, .bool true, .string ⟨#[115, 116, 114, 105, 100, 101, 115]⟩, .int .i64 7, .bool false, .string ⟨#[112, 97, 100, 115]⟩, .int .i64 7, .bool false] 189)) hg6 (fun g e => by cases e; exact Nat.le_refl _) ho hne
  obtain ⟨r0, r1, r2, f0, f1, f2⟩ := rule_cells b6
  have HX := hide hX
  have HO := hide hO
  have GX := hide gX
  clear hX hO gX b6 ho hg6 hne hat hlt hsk
  go_wp2
  refine bodyPost_ret (ret_rule2 rfl _ _ w.heap.size rfl HX.out) rfl ?_
  exact ⟨⟨_, _, _, rfl, HO.out⟩, GX.out⟩

set_option maxRecDepth 100000 in
set_option maxHeartbeats 1600000 in
theorem rule_GlobalAveragePool (w : World) (hl : Laid w) :
    Calls Tryz.prog 83 #[.string ⟨#[71, 108, 111, 98, 97, 108, 65, 118, 101, 114, 97, 103, 101, 80, 111, 111, 108]⟩] w fun e w' => Ruled (some (1, 1, [thenRa])) w' e ∧ w.grownBy w' none := by
  have e1 : isOne ⟨#[71, 108, 111, 98, 97, 108, 65, 118, 101, 114, 97, 103, 101, 80, 111, 111, 108]⟩ = false := by simp only [isOne, bytes_toList]; rfl
  obtain ⟨w0, hw0⟩ : ∃ w0, w0 = w.alloc (.cells #[.int .i64 0, .int .i64 0, .slice none 0 0] 125) := ⟨_, rfl⟩
  have g0 : w.grownBy w0 none := by rw [hw0]; exact grown_new _ _
  have b0 := heap_alloc_new w (.cells #[.int .i64 0, .int .i64 0, .slice none 0 0] 125)
  rw [← hw0] at b0
  have B0 := hide b0
  have OO := hide (ofone_any ⟨#[71, 108, 111, 98, 97, 108, 65, 118, 101, 114, 97, 103, 101, 80, 111, 111, 108]⟩ w0 (hl.more g0))
  rw [e1] at OO
  clear hl b0 e1
  go_enter Tryz.func83, Tryz.ntmps83
  go_wp2_with fail
  rw [← hw0]
  clear hw0
  refine OO.out.mono ?_
  rintro e v0 ⟨rfl, h0⟩
  go_wp2_with fail
  refine (takes_any _ _ _ [] _ (Or.inl ⟨rfl, rfl⟩) (by decide)).mono ?_
  rintro e w6 ⟨⟨a, n, c, rfl, ho, hat⟩, hg6⟩
  have hlt := (Array.getElem?_eq_some_iff.1 B0.out).1
  have hsk := h0.size
  have hne : (Value.slice a n c).ownBlock ≠ some w.heap.size := fun hh => by
    rcases hat _ hh with h | h
    · cases h
    · omega
  obtain ⟨b6, hX, hO, gX⟩ := rule_put (lo := 1) (hi := 1) g0 B0.out h0 (grown_refl _) hg6 (fun g e => by cases e) ho hne
  obtain ⟨r0, r1, r2, f0, f1, f2⟩ := rule_cells b6
  have HX := hide hX
  have HO := hide hO
  have GX := hide gX
  clear hX hO gX b6 ho hg6 hne hat hlt hsk
  go_wp2
  refine bodyPost_ret (ret_rule2 rfl _ _ w.heap.size rfl HX.out) rfl ?_
  exact ⟨⟨_, _, _, rfl, HO.out⟩, GX.out⟩

set_option maxRecDepth 100000 in
set_option maxHeartbeats 1600000 in
theorem rule_BatchNormalization (w : World) (hl : Laid w) :
    Calls Tryz.prog 83 #[.string ⟨#[66, 97, 116, 99, 104, 78, 111, 114, 109, 97, 108, 105, 122, 97, 116, 105, 111, 110]⟩] w fun e w' => Ruled (some (5, 5, [⟨⟨#[101, 112, 115, 105, 108, 111, 110]⟩, 1, false⟩, thenRa])) w' e ∧ w.grownBy w' none := by
  have e1 : isOne ⟨#[66, 97, 116, 99, 104, 78, 111, 114, 109, 97, 108, 105, 122, 97, 116, 105, 111, 110]⟩ = false := by simp only [isOne, bytes_toList]; rfl
  obtain ⟨w0, hw0⟩ : ∃ w0, w0 = w.alloc (.cells #[.int .i64 0, .int .i64 0, .slice none 0 0] 125) := ⟨_, rfl⟩
  have g0 : w.grownBy w0 none := by rw [hw0]; exact grown_new _ _
  have b0 := heap_alloc_new w (.cells #[.int .i64 0, .int .i64 0, .slice none 0 0] 125)
  rw [← hw0] at b0
  have B0 := hide b0
  have OO := hide (ofone_any ⟨#[66, 97, 116, 99, 104, 78, 111, 114, 109, 97, 108, 105, 122, 97, 116, 105, 111, 110]⟩ w0 (hl.more g0))
  rw [e1] at OO
  clear hl b0 e1
  go_enter Tryz.func83, Tryz.ntmps83
  go_wp2_with fail
  rw [← hw0]
  clear hw0
  refine OO.out.mono ?_
  rintro e v0 ⟨rfl, h0⟩
  go_wp2_with fail
  refine (may_any _ _ _).mono ?_
  rintro e v1 ⟨rfl, h1'⟩
  have h1 := grown_trans h0 h1'
  go_wp2_with fail
  refine (takes_any _ _ _ [⟨⟨#[101, 112, 115, 105, 108, 111, 110]⟩, 1, false⟩] _ (Or.inr ⟨_, _, rfl, heap_alloc_new _ _, rfl, rfl⟩) (by decide)).mono ?_
  rintro e w6 ⟨⟨a, n, c, rfl, ho, hat⟩, hg6⟩
  have hlt := (Array.getElem?_eq_some_iff.1 B0.out).1
  have hsk := h1.size
  have hne : (Value.slice a n c).ownBlock ≠ some w.heap.size := fun hh => by
    rcases hat _ hh with h | h
    · have : v1.heap.size = w.heap.size := by simpa [Value.ownBlock] using h
      omega
    · have : v1.heap.size + 1 ≤ w.heap.size := by simpa using h
      omega
  obtain ⟨b6, hX, hO, gX⟩ := rule_put (lo := 5) (hi := 5) g0 B0.out h1 (grown_new v1 (.cells #[.string ⟨#[101, 112, 115, 105, 108, 111, 110]⟩, .int .i64 1, .bool false] 189)) hg6 (fun g e => by cases e; exact Nat.le_refl _) ho hne
  obtain ⟨r0, r1, r2, f0, f1, f2⟩ := rule_cells b6
  have HX := hide hX
  have HO := hide hO
  have GX := hide gX
  clear hX hO gX b6 ho hg6 hne hat hlt hsk
  go_wp2
  refine bodyPost_ret (ret_rule2 rfl _ _ w.heap.size rfl HX.out) rfl ?_
  exact ⟨⟨_, _, _, rfl, HO.out⟩, GX.out⟩

set_option maxRecDepth 100000 in
set_option maxHeartbeats 1600000 in
theorem rule_Constant (w : World) (hl : Laid w) :
    Calls Tryz.prog 83 #[.string ⟨#[67, 111, 110, 115, 116, 97, 110, 116]⟩] w fun e w' => Ruled (some (0, 0, [⟨⟨#[118, 97, 108, 117, 101]⟩, 4, true⟩, thenRa])) w' e ∧ w.grownBy w' none := by
  have e1 : isOne ⟨#[67, 111, 110, 115, 116, 97, 110, 116]⟩ = false := by simp only [isOne, bytes_toList]; rfl
  obtain ⟨w0, hw0⟩ : ∃ w0, w0 = w.alloc (.cells #[.int .i64 0, .int .i64 0, .slice none 0 0] 125) := ⟨_, rfl⟩
  have g0 : w.grownBy w0 none := by rw [hw0]; exact grown_new _ _
  have b0 := heap_alloc_new w (.cells #[.int .i64 0, .int .i64 0, .slice none 0 0] 125)
  rw [← hw0] at b0
  have B0 := hide b0
  have OO := hide (ofone_any ⟨#[67, 111, 110, 115, 116, 97, 110, 116]⟩ w0 (hl.more g0))
  rw [e1] at OO
  clear hl b0 e1
  go_enter Tryz.func83, Tryz.ntmps83
  go_wp2_with fail
  rw [← hw0]
  clear hw0
  refine OO.out.mono ?_
  rintro e v0 ⟨rfl, h0⟩
  go_wp2_with fail
  refine (must_any _ _ _).mono ?_
  rintro e v1 ⟨rfl, h1'⟩
  have h1 := grown_trans h0 h1'
  go_wp2_with fail
  refine (takes_any _ _ _ [⟨⟨#[118, 97, 108, 117, 101]⟩, 4, true⟩] _ (Or.inr ⟨_, _, rfl, heap_alloc_new _ _, rfl, rfl⟩) (by decide)).mono ?_
  rintro e w6 ⟨⟨a, n, c, rfl, ho, hat⟩, hg6⟩
  have hlt := (Array.getElem?_eq_some_iff.1 B0.out).1
  have hsk := h1.size
  have hne : (Value.slice a n c).ownBlock ≠ some w.heap.size := fun hh => by
    rcases hat _ hh with h | h
    · have : v1.heap.size = w.heap.size := by simpa [Value.ownBlock] using h
      omega
    · have : v1.heap.size + 1 ≤ w.heap.size := by simpa using h
      omega
  obtain ⟨b6, hX, hO, gX⟩ := rule_put (lo := 0) (hi := 0) g0 B0.out h1 (grown_new v1 (.cells #[.string ⟨#[118, 97, 108, 117, 101]⟩, .int .i64 4, .bool true] 189)) hg6 (fun g e => by cases e; exact Nat.le_refl _) ho hne
  obtain ⟨r0, r1, r2, f0, f1, f2⟩ := rule_cells b6
  have HX := hide hX
  have HO := hide hO
  have GX := hide gX
  clear hX hO gX b6 ho hg6 hne hat hlt hsk
  go_wp2
  refine bodyPost_ret (ret_rule2 rfl _ _ w.heap.size rfl HX.out) rfl ?_
  exact ⟨⟨_, _, _, rfl, HO.out⟩, GX.out⟩

end Go.Proofs.YtdcbjikjeicgbaaGreatDoor

/- What any operator takes, by the walk (mkRuleAll.py). -/
namespace Go.Proofs.YtdcbjikjeicgbaaGreatDoor
open Go.RowKit

/-- All operators: how many inputs at least and at most, and the attributes. -/
def rules : List (List UInt8 × Int × Int × List Ra) := [
  ([73, 100, 101, 110, 116, 105, 116, 121], 1, 1, [thenRa]),
  ([78, 101, 103], 1, 1, [thenRa]),
  ([65, 98, 115], 1, 1, [thenRa]),
  ([78, 111, 116], 1, 1, [thenRa]),
  ([82, 101, 108, 117], 1, 1, [thenRa]),
  ([83, 113, 114, 116], 1, 1, [thenRa]),
  ([70, 108, 111, 111, 114], 1, 1, [thenRa]),
  ([69, 120, 112], 1, 1, [thenRa]),
  ([83, 105, 103, 109, 111, 105, 100], 1, 1, [thenRa]),
  ([84, 97, 110, 104], 1, 1, [thenRa]),
  ([65, 100, 100], 2, 2, [thenRa]),
  ([83, 117, 98], 2, 2, [thenRa]),
  ([77, 117, 108], 2, 2, [thenRa]),
  ([68, 105, 118], 2, 2, [thenRa]),
  ([77, 97, 120], 2, 2, [thenRa]),
  ([77, 105, 110], 2, 2, [thenRa]),
  ([65, 110, 100], 2, 2, [thenRa]),
  ([79, 114], 2, 2, [thenRa]),
  ([88, 111, 114], 2, 2, [thenRa]),
  ([69, 113, 117, 97, 108], 2, 2, [thenRa]),
  ([76, 101, 115, 115], 2, 2, [thenRa]),
  ([71, 114, 101, 97, 116, 101, 114], 2, 2, [thenRa]),
  ([77, 97, 116, 77, 117, 108], 2, 2, [thenRa]),
  ([87, 104, 101, 114, 101], 3, 3, [thenRa]),
  ([67, 108, 105, 112], 1, 1, [⟨⟨#[109, 105, 110]⟩, 1, false⟩, ⟨⟨#[109, 97, 120]⟩, 1, false⟩, thenRa]),
  ([67, 97, 115, 116], 1, 1, [⟨⟨#[116, 111]⟩, 2, true⟩, thenRa]),
  ([82, 101, 100, 117, 99, 101, 83, 117, 109], 1, 1, [⟨⟨#[97, 120, 101, 115]⟩, 7, false⟩, ⟨⟨#[107, 101, 101, 112, 100, 105, 109, 115]⟩, 2, false⟩, thenRa]),
  ([82, 101, 100, 117, 99, 101, 77, 97, 120], 1, 1, [⟨⟨#[97, 120, 101, 115]⟩, 7, false⟩, ⟨⟨#[107, 101, 101, 112, 100, 105, 109, 115]⟩, 2, false⟩, thenRa]),
  ([82, 101, 100, 117, 99, 101, 77, 101, 97, 110], 1, 1, [⟨⟨#[97, 120, 101, 115]⟩, 7, false⟩, ⟨⟨#[107, 101, 101, 112, 100, 105, 109, 115]⟩, 2, false⟩, thenRa]),
  ([65, 114, 103, 77, 97, 120], 1, 1, [⟨⟨#[97, 120, 105, 115]⟩, 2, false⟩, ⟨⟨#[107, 101, 101, 112, 100, 105, 109, 115]⟩, 2, false⟩, thenRa]),
  ([82, 101, 115, 104, 97, 112, 101], 1, 1, [⟨⟨#[115, 104, 97, 112, 101]⟩, 7, true⟩, thenRa]),
  ([69, 120, 112, 97, 110, 100], 1, 1, [⟨⟨#[115, 104, 97, 112, 101]⟩, 7, true⟩, thenRa]),
  ([84, 114, 97, 110, 115, 112, 111, 115, 101], 1, 1, [⟨⟨#[112, 101, 114, 109]⟩, 7, false⟩, thenRa]),
  ([67, 111, 110, 99, 97, 116], 1, 20, [⟨⟨#[97, 120, 105, 115]⟩, 2, true⟩, thenRa]),
  ([83, 108, 105, 99, 101], 1, 1, [⟨⟨#[115, 116, 97, 114, 116, 115]⟩, 7, true⟩, ⟨⟨#[101, 110, 100, 115]⟩, 7, true⟩, ⟨⟨#[97, 120, 101, 115]⟩, 7, false⟩, thenRa]),
  ([71, 97, 116, 104, 101, 114], 2, 2, [⟨⟨#[97, 120, 105, 115]⟩, 2, false⟩, thenRa]),
  ([80, 97, 100], 1, 1, [⟨⟨#[112, 97, 100, 115]⟩, 7, true⟩, ⟨⟨#[118, 97, 108, 117, 101]⟩, 1, false⟩, thenRa]),
  ([83, 113, 117, 101, 101, 122, 101], 1, 1, [⟨⟨#[97, 120, 101, 115]⟩, 7, true⟩, thenRa]),
  ([85, 110, 115, 113, 117, 101, 101, 122, 101], 1, 1, [⟨⟨#[97, 120, 101, 115]⟩, 7, true⟩, thenRa]),
  ([70, 108, 97, 116, 116, 101, 110], 1, 1, [⟨⟨#[97, 120, 105, 115]⟩, 2, false⟩, thenRa]),
  ([83, 111, 102, 116, 109, 97, 120], 1, 1, [⟨⟨#[97, 120, 105, 115]⟩, 2, false⟩, thenRa]),
  ([71, 101, 109, 109], 2, 3, [⟨⟨#[116, 114, 97, 110, 115, 65]⟩, 2, false⟩, ⟨⟨#[116, 114, 97, 110, 115, 66]⟩, 2, false⟩, ⟨⟨#[97, 108, 112, 104, 97]⟩, 1, false⟩, ⟨⟨#[98, 101, 116, 97]⟩, 1, false⟩, thenRa]),
  ([67, 111, 110, 118], 2, 3, [⟨⟨#[115, 116, 114, 105, 100, 101, 115]⟩, 7, false⟩, ⟨⟨#[112, 97, 100, 115]⟩, 7, false⟩, ⟨⟨#[100, 105, 108, 97, 116, 105, 111, 110, 115]⟩, 7, false⟩, ⟨⟨#[103, 114, 111, 117, 112]⟩, 2, false⟩, thenRa]),
  ([77, 97, 120, 80, 111, 111, 108], 1, 1, [⟨⟨#[107, 101, 114, 110, 101, 108, 95, 115, 104, 97, 112, 101]⟩, 7, true⟩, ⟨⟨#[115, 116, 114, 105, 100, 101, 115]⟩, 7, false⟩, ⟨⟨#[112, 97, 100, 115]⟩, 7, false⟩, thenRa]),
  ([65, 118, 101, 114, 97, 103, 101, 80, 111, 111, 108], 1, 1, [⟨⟨#[107, 101, 114, 110, 101, 108, 95, 115, 104, 97, 112, 101]⟩, 7, true⟩, ⟨⟨#[115, 116, 114, 105, 100, 101, 115]⟩, 7, false⟩, ⟨⟨#[112, 97, 100, 115]⟩, 7, false⟩, thenRa]),
  ([71, 108, 111, 98, 97, 108, 65, 118, 101, 114, 97, 103, 101, 80, 111, 111, 108], 1, 1, [thenRa]),
  ([66, 97, 116, 99, 104, 78, 111, 114, 109, 97, 108, 105, 122, 97, 116, 105, 111, 110], 5, 5, [⟨⟨#[101, 112, 115, 105, 108, 111, 110]⟩, 1, false⟩, thenRa]),
  ([67, 111, 110, 115, 116, 97, 110, 116], 0, 0, [⟨⟨#[118, 97, 108, 117, 101]⟩, 4, true⟩, thenRa])]

def ruleF (op : ByteArray) : Option (Int × Int × List Ra) := (rules.find? (fun r => r.1 == op.toList)).map (·.2)

set_option maxRecDepth 100000 in
theorem rule_each (w : World) (hl : Laid w) : ∀ r ∈ rules, Calls Tryz.prog 83 #[.string (B r.1)] w fun e w' => Ruled (some r.2) w' e ∧ w.grownBy w' none := by
  unfold rules
  simp only [List.forall_mem_cons]
  exact ⟨rule_Identity w hl, rule_Neg w hl, rule_Abs w hl, rule_Not w hl, rule_Relu w hl, rule_Sqrt w hl, rule_Floor w hl, rule_Exp w hl, rule_Sigmoid w hl, rule_Tanh w hl, rule_Add w hl, rule_Sub w hl, rule_Mul w hl, rule_Div w hl, rule_Max w hl, rule_Min w hl, rule_And w hl, rule_Or w hl, rule_Xor w hl, rule_Equal w hl, rule_Less w hl, rule_Greater w hl, rule_MatMul w hl, rule_Where w hl, rule_Clip w hl, rule_Cast w hl, rule_ReduceSum w hl, rule_ReduceMax w hl, rule_ReduceMean w hl, rule_ArgMax w hl, rule_Reshape w hl, rule_Expand w hl, rule_Transpose w hl, rule_Concat w hl, rule_Slice w hl, rule_Gather w hl, rule_Pad w hl, rule_Squeeze w hl, rule_Unsqueeze w hl, rule_Flatten w hl, rule_Softmax w hl, rule_Gemm w hl, rule_Conv w hl, rule_MaxPool w hl, rule_AveragePool w hl, rule_GlobalAveragePool w hl, rule_BatchNormalization w hl, rule_Constant w hl, fun r hr => absurd hr (List.not_mem_nil)⟩

theorem rules_no {s : ByteArray} (h : rules.find? (fun r => r.1 == s.toList) = none) (n : List UInt8) (hn : n ∈ rules.map (·.1)) : (s.toList == n) = false := by
  obtain ⟨r, hr, rfl⟩ := List.mem_map.1 hn
  have := List.find?_eq_none.1 h r hr
  rw [beq_eq_false_iff_ne]
  intro e
  exact this (by simp [e])

set_option maxRecDepth 100000 in
set_option maxHeartbeats 6400000 in
theorem rule_none (s : ByteArray) (h : rules.find? (fun r => r.1 == s.toList) = none) (w : World) (hl : Laid w) :
    Calls Tryz.prog 83 #[.string s] w fun e w' => Ruled none w' e ∧ w.grownBy w' none := by
  have e1 : isOne s = false := by
    unfold isOne
    rw [List.any_eq_false]
    intro n hn
    have h2 := rules_no h n (by revert n; decide)
    rw [beq_eq_false_iff_ne] at h2
    simpa using fun e => h2 e.symm
  obtain ⟨w0, hw0⟩ : ∃ w0, w0 = w.alloc (.cells #[.int .i64 0, .int .i64 0, .slice none 0 0] 125) := ⟨_, rfl⟩
  have g0 : w.grownBy w0 none := by rw [hw0]; exact grown_new _ _
  have b0 := heap_alloc_new w (.cells #[.int .i64 0, .int .i64 0, .slice none 0 0] 125)
  rw [← hw0] at b0
  have B0 := hide b0
  have OO := hide (ofone_any s w0 (hl.more g0))
  rw [e1] at OO
  have q0 : (s.toList == [65, 100, 100]) = false := rules_no h _ (by decide)
  have q1 : (s.toList == [83, 117, 98]) = false := rules_no h _ (by decide)
  have q2 : (s.toList == [77, 117, 108]) = false := rules_no h _ (by decide)
  have q3 : (s.toList == [68, 105, 118]) = false := rules_no h _ (by decide)
  have q4 : (s.toList == [77, 97, 120]) = false := rules_no h _ (by decide)
  have q5 : (s.toList == [77, 105, 110]) = false := rules_no h _ (by decide)
  have q6 : (s.toList == [65, 110, 100]) = false := rules_no h _ (by decide)
  have q7 : (s.toList == [79, 114]) = false := rules_no h _ (by decide)
  have q8 : (s.toList == [88, 111, 114]) = false := rules_no h _ (by decide)
  have q9 : (s.toList == [69, 113, 117, 97, 108]) = false := rules_no h _ (by decide)
  have q10 : (s.toList == [76, 101, 115, 115]) = false := rules_no h _ (by decide)
  have q11 : (s.toList == [71, 114, 101, 97, 116, 101, 114]) = false := rules_no h _ (by decide)
  have q12 : (s.toList == [77, 97, 116, 77, 117, 108]) = false := rules_no h _ (by decide)
  have q13 : (s.toList == [87, 104, 101, 114, 101]) = false := rules_no h _ (by decide)
  have q14 : (s.toList == [67, 108, 105, 112]) = false := rules_no h _ (by decide)
  have q15 : (s.toList == [67, 97, 115, 116]) = false := rules_no h _ (by decide)
  have q16 : (s.toList == [82, 101, 100, 117, 99, 101, 83, 117, 109]) = false := rules_no h _ (by decide)
  have q17 : (s.toList == [82, 101, 100, 117, 99, 101, 77, 97, 120]) = false := rules_no h _ (by decide)
  have q18 : (s.toList == [82, 101, 100, 117, 99, 101, 77, 101, 97, 110]) = false := rules_no h _ (by decide)
  have q19 : (s.toList == [65, 114, 103, 77, 97, 120]) = false := rules_no h _ (by decide)
  have q20 : (s.toList == [82, 101, 115, 104, 97, 112, 101]) = false := rules_no h _ (by decide)
  have q21 : (s.toList == [69, 120, 112, 97, 110, 100]) = false := rules_no h _ (by decide)
  have q22 : (s.toList == [84, 114, 97, 110, 115, 112, 111, 115, 101]) = false := rules_no h _ (by decide)
  have q23 : (s.toList == [67, 111, 110, 99, 97, 116]) = false := rules_no h _ (by decide)
  have q24 : (s.toList == [83, 108, 105, 99, 101]) = false := rules_no h _ (by decide)
  have q25 : (s.toList == [71, 97, 116, 104, 101, 114]) = false := rules_no h _ (by decide)
  have q26 : (s.toList == [80, 97, 100]) = false := rules_no h _ (by decide)
  have q27 : (s.toList == [83, 113, 117, 101, 101, 122, 101]) = false := rules_no h _ (by decide)
  have q28 : (s.toList == [85, 110, 115, 113, 117, 101, 101, 122, 101]) = false := rules_no h _ (by decide)
  have q29 : (s.toList == [70, 108, 97, 116, 116, 101, 110]) = false := rules_no h _ (by decide)
  have q30 : (s.toList == [83, 111, 102, 116, 109, 97, 120]) = false := rules_no h _ (by decide)
  have q31 : (s.toList == [71, 101, 109, 109]) = false := rules_no h _ (by decide)
  have q32 : (s.toList == [67, 111, 110, 118]) = false := rules_no h _ (by decide)
  have q33 : (s.toList == [77, 97, 120, 80, 111, 111, 108]) = false := rules_no h _ (by decide)
  have q34 : (s.toList == [65, 118, 101, 114, 97, 103, 101, 80, 111, 111, 108]) = false := rules_no h _ (by decide)
  have q35 : (s.toList == [71, 108, 111, 98, 97, 108, 65, 118, 101, 114, 97, 103, 101, 80, 111, 111, 108]) = false := rules_no h _ (by decide)
  have q36 : (s.toList == [66, 97, 116, 99, 104, 78, 111, 114, 109, 97, 108, 105, 122, 97, 116, 105, 111, 110]) = false := rules_no h _ (by decide)
  have q37 : (s.toList == [67, 111, 110, 115, 116, 97, 110, 116]) = false := rules_no h _ (by decide)
  clear hl b0 e1 h
  go_enter Tryz.func83, Tryz.ntmps83
  go_wp2_with fail
  rw [← hw0]
  clear hw0
  refine OO.out.mono ?_
  rintro e v0 ⟨rfl, h0⟩
  have b1 := box_kept B0.out h0
  obtain ⟨r0, r1, r2, f0, f1, f2⟩ := rule_cells b1
  obtain ⟨hX, gX⟩ := store3r (.int .i64 0) (.int .i64 0) (.slice none 0 0) b1
  have HX := hide hX
  have GX := hide (grown_row_box (grown_trans g0 h0) gX (Nat.le_refl _))
  clear hX gX b1
  go_wp2
  refine bodyPost_ret (ret_rule2 rfl _ _ w.heap.size rfl HX.out) rfl ?_
  exact ⟨rfl, GX.out⟩

theorem ruleof_any (s : ByteArray) (w : World) (hl : Laid w) :
    Calls Tryz.prog 83 #[.string s] w fun e w' => Ruled (ruleF s) w' e ∧ w.grownBy w' none := by
  unfold ruleF
  cases h : rules.find? (fun r => r.1 == s.toList) with
  | none => exact rule_none s h w hl
  | some r =>
    have h1 := List.find?_some h
    have h2 : r.1 = s.data.toList := by rw [← bytes_toList]; simpa using h1
    have h3 := rule_each w hl r (List.mem_of_find?_eq_some h)
    rw [h2, B_self] at h3
    exact h3
end Go.Proofs.YtdcbjikjeicgbaaGreatDoor

/- Whether a node may be, of any operator, by the walk (mkCheckC.py). -/
namespace Go.Proofs.YtdcbjikjeicgbaaGreatDoor
open Go.RowKit

/-- What Check answers of a Constant's value. -/
def constE (xs : List Atr) (cs : List Cont) : Int := match (xs.zip cs).find? (fun p => isA ⟨#[118, 97, 108, 117, 101]⟩ 4 p.1) with
  | some p => pbE p.1.ty p.2.d p.2.t
  | none => pbE 0 [] []

def checkF (r : Option (Int × Int × List Ra)) (op : ByteArray) (ins : List ByteArray) (out : ByteArray) (xs : List Atr) (cs : List Cont) : Int :=
  if checkE r ins out xs ≠ 0 then checkE r ins out xs else if (op.toList == [67, 111, 110, 115, 116, 97, 110, 116]) = true then constE xs cs else 0

theorem checkF_no {r : Option (Int × Int × List Ra)} {op : ByteArray} {ins : List ByteArray} {out : ByteArray} {xs : List Atr} {cs : List Cont} {e : Int} (h : checkE r ins out xs = e) (he : e ≠ 0) : checkF r op ins out xs cs = e := by
  unfold checkF
  rw [h, if_pos he]

theorem find_zip {R : Atr → Cont → Prop} {P : Atr → Bool} : ∀ {xs : List Atr} {cs : List Cont}, (∀ (j : Nat) (a : Atr), xs[j]? = some a → ∃ c, cs[j]? = some c ∧ R a c) →
    (xs.find? P = none ∧ (xs.zip cs).find? (fun p => P p.1) = none) ∨ ∃ a c, xs.find? P = some a ∧ (xs.zip cs).find? (fun p => P p.1) = some (a, c) ∧ R a c
  | [], _, _ => Or.inl ⟨rfl, by simp⟩
  | x :: l, [], h => by
    obtain ⟨c, hc, -⟩ := h 0 x rfl
    simp at hc
  | x :: l, c :: cs, h => by
    cases hx : P x with
    | true =>
      obtain ⟨c', hc, hr⟩ := h 0 x rfl
      obtain rfl : c = c' := by simpa using hc
      exact Or.inr ⟨x, c, by simp [hx], by simp [hx], hr⟩
    | false =>
      rcases find_zip (P := P) (xs := l) (cs := cs) (fun j a hj => h (j + 1) a hj) with ⟨e1, e2⟩ | ⟨a, c', e1, e2, e3⟩
      · exact Or.inl ⟨by simp [hx, e1], by rw [List.zip_cons_cons, List.find?_cons]; simp [hx, e2]⟩
      · exact Or.inr ⟨a, c', by simp [hx, e1], by rw [List.zip_cons_cons, List.find?_cons]; simp [hx, e2], e3⟩

theorem value_of {w : World} {xs : List Atr} {cs : List Cont} (hc : ∀ (j : Nat) (a : Atr), xs[j]? = some a → ∃ c, cs[j]? = some c ∧ Has w a c) :
    ∃ (A : Atr) (b : Bool) (d t : List Int), (xs.find? (isA ⟨#[118, 97, 108, 117, 101]⟩ 4)).getD noAtr = A ∧ (xs.find? (isA ⟨#[118, 97, 108, 117, 101]⟩ 4)).isSome = b ∧ IsInts w A.dv.v d ∧ IsInts w A.tv.v t ∧ constE xs cs = pbE A.ty d t := by
  have nil : IsInts w (.slice none 0 0) [] := ⟨none, 0, rfl, by simp, by simp, by simp, fun _ => ⟨rfl, rfl⟩, fun h => by simp at h, fun z hz => by simp at hz⟩
  rcases find_zip (P := isA ⟨#[118, 97, 108, 117, 101]⟩ 4) hc with ⟨e1, e2⟩ | ⟨a, c, e1, e2, e3⟩
  · exact ⟨noAtr, false, [], [], by rw [e1]; rfl, by rw [e1]; rfl, nil, nil, by unfold constE; rw [e2]; rfl⟩
  · exact ⟨a, true, c.d, c.t, by rw [e1]; rfl, by rw [e1]; rfl, e3.d, e3.t, by unfold constE; rw [e2]⟩

set_option maxRecDepth 100000 in
set_option maxHeartbeats 6400000 in
theorem checkc_any (n : Nod) (xs : List Atr) (cs : List Cont) (ins : List ByteArray) (r : Option (Int × Int × List Ra)) (w : World) (hl : Laid w) (hin : IsStrs w n.iv.v ins) (hv : IsAttrs w n.av.v xs) (hc : ∀ (j : Nat) (a : Atr), xs[j]? = some a → ∃ c, cs[j]? = some c ∧ Has w a c) (hsz : ∀ a ∈ xs, a.s.size ≤ 4294967296)
    (hrule : ∀ wx, Laid wx → Calls Tryz.prog 83 #[.string n.op] wx fun e w' => Ruled r w' e ∧ wx.grownBy w' none) (hrs : ∀ lo hi rs, r = some (lo, hi, rs) → rs.length ≤ 20) :
    Calls Tryz.prog 44 #[nval n] w fun e w' => e = .returned (.int .i64 (checkF r n.op ins n.out xs cs)) ∧ w.grownBy w' none := by
  have TH := hide (fun (wx : World) (hx : w.grownBy wx none) => then_any n xs wx (hl.more hx) (hv.more hx) hsz)
  have CA := hide (fun (rv : Value) (rs : List Ra) (wx : World) (hx : w.grownBy wx none) (hr : IsRas wx rv rs) => checkattrs_any n xs rv rs wx (hv.more hx) hr)
  have CS := hide (fun (wx : World) (hx : w.grownBy wx none) => contains_str n.iv.v ins ⟨#[]⟩ wx (hin.more hx))
  have FN := hide (fun (p q : Nat) (wx : World) (hg : w.grownBy wx none) (hp : wx.heap[p]? = some (.cells #[.string ⟨#[118, 97, 108, 117, 101]⟩] 9 (0, 0))) (hq : wx.heap[q]? = some (.cells #[.int .i64 4] 3 (0, 0))) => first_named n xs p q ⟨#[118, 97, 108, 117, 101]⟩ 4 wx (hv.more hg) hp hq)
  obtain ⟨A, bA, dA, tA, hA1, hA2, hA3, hA4, hA5⟩ := value_of hc
  rw [hA1, hA2] at FN
  have HA3 := hide hA3
  have HA4 := hide hA4
  have HA5 := hide hA5
  clear hA1 hA2 hA3 hA4 hA5 hc
  have RU := hide (fun (wx : World) (hx : w.grownBy wx none) => hrule wx (hl.more hx))
  obtain ⟨op, nam, ⟨ia, il, ic⟩, out, ⟨ao, al, cap⟩⟩ := n
  obtain ⟨ia', ic', hiv, i1, i2, i3⟩ := hin.form
  obtain ⟨rfl, rfl, rfl⟩ : ia = ia' ∧ il = ins.length ∧ ic = ic' := by simpa [Sl.v] using hiv
  unfold nval at TH CA FN ⊢
  unfold aval at FN
  simp only [Sl.v] at TH CA CS RU FN ⊢
  clear hl hin hv hsz hrule hiv
  obtain ⟨w0, hw0⟩ : ∃ w0, w0 = w.alloc (.cells #[.string op, .string nam, .slice ia ins.length ic, .string out, .slice ao al cap] 25) := ⟨_, rfl⟩
  have g0 : w.grownBy w0 none := by rw [hw0]; exact grown_new _ _
  have hb0 := heap_alloc_new w (.cells #[.string op, .string nam, .slice ia ins.length ic, .string out, .slice ao al cap] 25)
  obtain ⟨n0, -⟩ := nod_cells (n := ⟨op, nam, ⟨ia, ins.length, ic⟩, out, ⟨ao, al, cap⟩⟩) hb0
  rw [← hw0] at hb0
  have HZ0 : Hid (w0.heap.size = w.heap.size + 1) := by show _ = _; rw [hw0]; simp
  have BX : Hid (∀ wx, w0.grownBy wx none → wx.heap[w.heap.size]? = some (.cells #[.string op, .string nam, .slice ia ins.length ic, .string out, .slice ao al cap] 25 (0, 0))) := fun wx hg => box_kept hb0 hg
  clear hb0
  go_enter Tryz.func44, Tryz.ntmps44
  go_wp2_with fail
  rw [← hw0]
  clear hw0 n0
  refine (RU.out w0 g0).mono ?_
  rintro e w1 ⟨hru, hg1⟩
  have g1 := grown_trans g0 hg1
  rcases hr : r with _ | ⟨lo, hi, rs⟩
  · rw [hr] at hru
    have hru : e = .returned (.tuple #[.agg #[.int .i64 0, .int .i64 0, .slice none 0 0], .bool false]) := hru
    subst hru
    have E : Hid (checkE r ins out xs = 5) := by show _ = _; rw [hr]; rfl
    clear hr hrs
    go_wp2
    go_ret
    exact ⟨by rw [checkF_no E.out (by decide)]; rfl, grown_trans g1 (grown_new _ _)⟩
  · rw [hr] at hru
    obtain ⟨a, nn, c, rfl, ho⟩ := hru
    have hrl : rs.length ≤ 20 := hrs lo hi rs hr
    have HC0 : Hid (checkE r ins out xs = if (ins.length : Int) < lo then 4 else if hi < (ins.length : Int) then 4 else if (out.toList == []) || ins.any (isS ⟨#[]⟩) then 5 else if attrsE rs xs = 0 then thenE (xs.find? (isA ⟨#[116, 104, 101, 110]⟩ 3)) else attrsE rs xs) := by show _ = _; rw [hr]; rfl
    clear hr
    obtain ⟨W1, hW1⟩ : ∃ W1, W1 = w1.alloc (.cells #[.int .i64 lo, .int .i64 hi, .slice a nn c] 125) := ⟨_, rfl⟩
    have G1 : w1.grownBy W1 none := by rw [hW1]; exact grown_new _ _
    have B1 := heap_alloc_new w1 (.cells #[.int .i64 lo, .int .i64 hi, .slice a nn c] 125)
    obtain ⟨z0, z1, z2, -⟩ := rule_cells B1
    have IR := hide (ho.isL (bytes := 32) rcells_len (by omega))
    have g2 := grown_trans g1 G1
    have g02 := grown_trans hg1 G1
    obtain ⟨n0, n1, n2, n3, n4⟩ := nod_cells (n := ⟨op, nam, ⟨ia, ins.length, ic⟩, out, ⟨ao, al, cap⟩⟩) (BX.out W1 g02)
    have RB : Hid (∀ wx, W1.grownBy wx none → wx.heap[w1.heap.size]? = some (.cells #[.int .i64 lo, .int .i64 hi, .slice a nn c] 125 (0, 0))) := fun wx hg => box_kept (by rw [hW1]; exact B1) hg
    rw [hW1] at n0 n1 n2 n3 n4
    clear B1 hrs ho
    by_cases h4 : (ins.length : Int) < lo
    · have E : Hid (checkE r ins out xs = 4) := by show _ = _; rw [HC0.out, if_pos h4]
      go_wp2
      rw [← hW1]
      go_ret
      exact ⟨by rw [checkF_no E.out (by decide)]; rfl, g2⟩
    · by_cases h5 : hi < (ins.length : Int)
      · have E : Hid (checkE r ins out xs = 4) := by show _ = _; rw [HC0.out, if_neg h4, if_pos h5]
        go_wp2
        rw [← hW1]
        go_ret
        exact ⟨by rw [checkF_no E.out (by decide)]; rfl, g2⟩
      · have HC1 : Hid (checkE r ins out xs = if (out.toList == []) || ins.any (isS ⟨#[]⟩) then 5 else if attrsE rs xs = 0 then thenE (xs.find? (isA ⟨#[116, 104, 101, 110]⟩ 3)) else attrsE rs xs) := by show _ = _; rw [HC0.out, if_neg h4, if_neg h5]
        by_cases ho6 : (out.toList == []) = true
        · have E : Hid (checkE r ins out xs = 5) := by show _ = _; rw [HC1.out, ho6]; rfl
          go_wp2
          rw [← hW1]
          go_ret
          exact ⟨by rw [checkF_no E.out (by decide)]; rfl, g2⟩
        · have ho7 : (out.toList == []) = false := by simpa using ho6
          have HO7 := hide ho7
          clear ho6
          go_wp2_with fail
          rw [← hW1]
          clear hW1 z0 z1 z2 n0 n1 n2 n3 n4
          refine (CS.out W1 g2).mono ?_
          rintro e w3 ⟨rfl, hg3⟩
          have g3 := grown_trans g2 hg3
          obtain ⟨z0, z1, z2, -⟩ := rule_cells (RB.out w3 hg3)
          obtain ⟨n0, n1, n2, n3, n4⟩ := nod_cells (n := ⟨op, nam, ⟨ia, ins.length, ic⟩, out, ⟨ao, al, cap⟩⟩) (BX.out w3 (grown_trans g02 hg3))
          cases hany : ins.any (isS ⟨#[]⟩) with
          | true =>
            have E : Hid (checkE r ins out xs = 5) := by show _ = _; rw [HC1.out, hany, Bool.or_true]; rfl
            clear hany
            go_wp2
            go_ret
            exact ⟨by rw [checkF_no E.out (by decide)]; rfl, g3⟩
          | false =>
            have HC2 : Hid (checkE r ins out xs = if attrsE rs xs = 0 then thenE (xs.find? (isA ⟨#[116, 104, 101, 110]⟩ 3)) else attrsE rs xs) := by show _ = _; rw [HC1.out, hany, HO7.out]; rfl
            clear hany
            go_wp2_with fail
            refine (CA.out _ rs w3 g3 (IR.out.more (grown_trans G1 hg3))).mono ?_
            rintro e w4 ⟨rfl, hg4⟩
            have g4 := grown_trans g3 hg4
            clear z0 z1 z2 n0 n1 n2 n3 n4
            obtain ⟨n0, n1, n2, n3, n4⟩ := nod_cells (n := ⟨op, nam, ⟨ia, ins.length, ic⟩, out, ⟨ao, al, cap⟩⟩) (BX.out w4 (grown_trans (grown_trans g02 hg3) hg4))
            obtain ⟨X, hX⟩ : ∃ X, X = attrsE rs xs := ⟨_, rfl⟩
            rw [← hX] at HC2
            rw [← hX]
            clear hX
            by_cases h0 : X = 0
            · subst h0
              have HC3 : Hid (checkE r ins out xs = thenE (xs.find? (isA ⟨#[116, 104, 101, 110]⟩ 3))) := by show _ = _; rw [HC2.out]; rfl
              go_wp2_with fail
              refine (TH.out w4 g4).mono ?_
              rintro e w5 ⟨v, rfl, ho5, hg5⟩
              have g5 := grown_trans g4 hg5
              obtain ⟨va, vc, rfl⟩ := OwnsL.form ho5
              clear n0 n1 n2 n3 n4 ho5
              obtain ⟨n0, n1, n2, n3, n4⟩ := nod_cells (n := ⟨op, nam, ⟨ia, ins.length, ic⟩, out, ⟨ao, al, cap⟩⟩) (BX.out w5 (grown_trans (grown_trans (grown_trans g02 hg3) hg4) hg5))
              obtain ⟨Y, hY⟩ : ∃ Y, Y = thenE (xs.find? (isA ⟨#[116, 104, 101, 110]⟩ 3)) := ⟨_, rfl⟩
              rw [← hY] at HC3
              rw [← hY]
              clear hY
              by_cases h1 : Y = 0
              · subst h1
                by_cases hop : (op.toList == [67, 111, 110, 115, 116, 97, 110, 116]) = true
                · have EF : Hid (checkF r op ins out xs cs = pbE A.ty dA tA) := by
                    show _ = _
                    unfold checkF
                    rw [if_neg (by rw [HC3.out]; simp), if_pos hop, HA5.out]
                  have g05 := grown_trans (grown_trans (grown_trans g02 hg3) hg4) hg5
                  have HZ5 : Hid (w.heap.size < w5.heap.size) := by have := g05.size; have := HZ0.out; show _ < _; omega
                  go_wp2_with fail
                  go_cut [8, 9] from 58 to 66 (fun p b wx => ∃ N : Nat, p = .pointer (some ⟨N, 0, none⟩) ∧ wx.heap[N]? = some (.cells #[.string A.name, .int .i64 A.kind, .int .i64 A.f, .int .i64 A.i, .string A.s, .int .i64 A.ty, .slice A.dv.a A.dv.n A.dv.c, .slice A.tv.a A.tv.n A.tv.c, .slice A.iv.a A.iv.n A.iv.c] 57 (0, 0)) ∧ w.grownBy wx none)
                  case first =>
                    have gd := grown_drew (grown_refl w5)
                    go_region_held3 (fun w' => w'.cell? ⟨w.heap.size, 0, none⟩ = some (.string op) ∧ w'.cell? ⟨w.heap.size, 1, none⟩ = some (.string nam) ∧ w'.cell? ⟨w.heap.size, 2, none⟩ = some (.slice ia ins.length ic) ∧ w'.cell? ⟨w.heap.size, 3, none⟩ = some (.string out) ∧ w'.cell? ⟨w.heap.size, 4, none⟩ = some (.slice ao al cap)) (go_keep) (first | (go_at_call 87; refine (named_any _ _ _).mono ?_; rintro e w1 ⟨rfl, hp1, hq1, hg1⟩; have g51 : w5.grownBy w1 none := (by first | exact grown_trans gd hg1 | exact grown_trans (grown_trans gd (grown_new _ _)) hg1); obtain ⟨n0, n1, n2, n3, n4⟩ := nod_cells (n := ⟨op, nam, ⟨ia, ins.length, ic⟩, out, ⟨ao, al, cap⟩⟩) (BX.out w1 (grown_trans g05 g51)); have hz1 : w.heap.size ≠ w1.heap.size := (by have := g51.size; have := HZ5.out; omega); have hzz : w.heap.size ≠ w5.heap.size := (by have := HZ5.out; omega); have hz1' := hz1.symm; have hzz' := hzz.symm; try (have hp2 : w1.heap[w5.heap.size + 1]? = some (.cells #[.string ⟨#[118, 97, 108, 117, 101]⟩] 9 (0, 0)) := (by have h := hp1; rw [show ((w5.alloc (.cells #[.string ⟨#[]⟩, .int .i64 0, .int .i64 0, .int .i64 0, .string ⟨#[]⟩, .int .i64 0, .slice none 0 0, .slice none 0 0, .slice none 0 0] 57)).drew).heap.size = w5.heap.size + 1 by simp] at h; exact h)); try (have hq2 : w1.heap[w5.heap.size + 1 + 1]? = some (.cells #[.int .i64 4] 3 (0, 0)) := (by have h := hq1; rw [show ((w5.alloc (.cells #[.string ⟨#[]⟩, .int .i64 0, .int .i64 0, .int .i64 0, .string ⟨#[]⟩, .int .i64 0, .slice none 0 0, .slice none 0 0, .slice none 0 0] 57)).drew).heap.size = w5.heap.size + 1 by simp] at h; exact h)); try (have kz : w1.heap[w5.heap.size]? = some (.cells #[.string ⟨#[]⟩, .int .i64 0, .int .i64 0, .int .i64 0, .string ⟨#[]⟩, .int .i64 0, .slice none 0 0, .slice none 0 0, .slice none 0 0] 57 (0, 0)) := box_kept (show ((w5.alloc (.cells #[.string ⟨#[]⟩, .int .i64 0, .int .i64 0, .int .i64 0, .string ⟨#[]⟩, .int .i64 0, .slice none 0 0, .slice none 0 0, .slice none 0 0] 57)).drew).heap[w5.heap.size]? = _ from heap_alloc_new w5 _) hg1)) | (go_at_call 86; refine (FN.out _ _ _ (by first | exact grown_trans g5 g51 | exact grown_trans (grown_trans g5 g51) (grown_new _ _)) (by first | exact hp1 | exact hp2 | exact box_kept hp1 (grown_new _ _)) (by first | exact hq1 | exact hq2 | exact box_kept hq1 (grown_new _ _))).mono ?_; rintro e w2 ⟨rfl, hg2⟩; have g52 : w5.grownBy w2 none := (by first | exact grown_trans g51 hg2 | exact grown_trans (grown_trans g51 (grown_new _ _)) hg2); obtain ⟨n0, n1, n2, n3, n4⟩ := nod_cells (n := ⟨op, nam, ⟨ia, ins.length, ic⟩, out, ⟨ao, al, cap⟩⟩) (BX.out w2 (grown_trans g05 g52)); try (first | have kz2 := box_kept kz hg2 | have kz2 : w2.heap[w1.heap.size]? = some (.cells #[.string ⟨#[]⟩, .int .i64 0, .int .i64 0, .int .i64 0, .string ⟨#[]⟩, .int .i64 0, .slice none 0 0, .slice none 0 0, .slice none 0 0] 57 (0, 0)) := box_kept (heap_alloc_new w1 _) hg2); try (obtain ⟨f0, f1, f2, f3, f4, f5, f6, f7, f8⟩ := atr_frozen kz2); try (obtain ⟨k0, k1, k2, k3, k4, k5, k6, k7, k8⟩ := atr_cells (a := noAtr) kz2)))
                    · have GG := hide (grown_trans g5 g52)
                      go_wp2_with fail
                      go_meet
                      exact ⟨_, rfl, heap_alloc_new w2 _, grown_trans GG.out (grown_new w2 _)⟩
                    · obtain ⟨hX, gX⟩ := store9 (.string A.name) (.int .i64 A.kind) (.int .i64 A.f) (.int .i64 A.i) (.string A.s) (.int .i64 A.ty) (.slice A.dv.a A.dv.n A.dv.c) (.slice A.tv.a A.tv.n A.tv.c) (.slice A.iv.a A.iv.n A.iv.c) (grown_trans g5 g52) (show w.heap.size ≤ w1.heap.size by have := g51.size; have := HZ5.out; omega) kz2
                      have HX := hide hX
                      have GX := hide gX
                      clear hX gX
                      go_wp2_with fail
                      go_meet
                      exact ⟨_, rfl, HX.out, GX.out⟩
                    · obtain ⟨hX, gX⟩ := store9 (.string A.name) (.int .i64 A.kind) (.int .i64 A.f) (.int .i64 A.i) (.string A.s) (.int .i64 A.ty) (.slice A.dv.a A.dv.n A.dv.c) (.slice A.tv.a A.tv.n A.tv.c) (.slice A.iv.a A.iv.n A.iv.c) (grown_trans g5 g52) (show w.heap.size ≤ w5.heap.size by have := HZ5.out; omega) kz2
                      have HX := hide hX
                      have GX := hide gX
                      clear hX gX
                      go_wp2_with fail
                      go_meet
                      exact ⟨_, rfl, HX.out, GX.out⟩
                  case rest =>
                    obtain ⟨N, rfl, hN, hg⟩ := hcut
                    obtain ⟨-, -, -, -, -, c5, c6, c7, -⟩ := atr_cells hN
                    have HG := hide hg
                    have PB := hide (pbcheck_any A.ty A.dv.v A.tv.v dA tA wc (HA3.out.more hg) (HA4.out.more hg))
                    clear hN hg n0 n1 n2 n3 n4
                    go_wp2_with fail
                    refine PB.out.mono ?_
                    rintro e w6 ⟨rfl, hg6⟩
                    go_wp2
                    go_ret
                    exact ⟨by rw [EF.out]; rfl, grown_trans HG.out hg6⟩
                · have hop' : (op.toList == [67, 111, 110, 115, 116, 97, 110, 116]) = false := by simpa using hop
                  have EF : Hid (checkF r op ins out xs cs = 0) := by
                    show _ = _
                    unfold checkF
                    rw [if_neg (by rw [HC3.out]; simp), if_neg hop]
                  clear hop
                  go_wp2
                  go_ret
                  exact ⟨by rw [EF.out]; rfl, g5⟩
              · have h2 : (Y == 0) = false := by simpa using h1
                have h3' : (Y != 0) = true := by simp [bne, h2]
                have HY0 := hide h1
                clear h1
                go_wp2
                go_ret
                exact ⟨by rw [checkF_no HC3.out HY0.out]; rfl, g5⟩
            · have E : Hid (checkE r ins out xs = X) := by show _ = _; rw [HC2.out, if_neg h0]
              have h2 : (X == 0) = false := by simpa using h0
              have h3' : (X != 0) = true := by simp [bne, h2]
              have HX0 := hide h0
              clear h0
              go_wp2
              go_ret
              exact ⟨by rw [checkF_no E.out HX0.out]; rfl, g4⟩

theorem rules_few : ∀ r ∈ rules, r.2.2.2.length ≤ 20 := by decide

/-- schema.Check of any node. -/
theorem check_all (n : Nod) (xs : List Atr) (cs : List Cont) (ins : List ByteArray) (w : World) (hl : Laid w) (hin : IsStrs w n.iv.v ins) (hv : IsAttrs w n.av.v xs) (hc : ∀ (j : Nat) (a : Atr), xs[j]? = some a → ∃ c, cs[j]? = some c ∧ Has w a c) (hsz : ∀ a ∈ xs, a.s.size ≤ 4294967296) :
    Calls Tryz.prog 44 #[nval n] w fun e w' => e = .returned (.int .i64 (checkF (ruleF n.op) n.op ins n.out xs cs)) ∧ w.grownBy w' none := by
  refine checkc_any n xs cs ins (ruleF n.op) w hl hin hv hc hsz (fun wx h => ruleof_any n.op wx h) ?_
  intro lo hi rs h
  unfold ruleF at h
  cases hf : rules.find? (fun r => r.1 == n.op.toList) with
  | none => rw [hf] at h; cases h
  | some r =>
    rw [hf] at h
    have := rules_few r (List.mem_of_find?_eq_some hf)
    simp only [Option.map_some, Option.some.injEq] at h
    rw [h] at this
    exact this
end Go.Proofs.YtdcbjikjeicgbaaGreatDoor

/- What Check answers hangs on no place where lists lie. -/
namespace Go.Proofs.YtdcbjikjeicgbaaGreatDoor
open Go.RowKit

theorem isA_strip (nm : ByteArray) (kd : Int) (a : Atr) : isA nm kd (strip a) = isA nm kd a := rfl

theorem find_strip (nm : ByteArray) (kd : Int) (xs : List Atr) : (xs.map strip).find? (isA nm kd) = (xs.find? (isA nm kd)).map strip := by
  rw [List.find?_map]
  rfl

theorem thenE_strip (o : Option Atr) : thenE (o.map strip) = thenE o := by cases o <;> rfl

theorem any_strip (nm : ByteArray) (l : List Atr) : (l.map strip).any (aheadA nm) = l.any (aheadA nm) := by
  rw [List.any_map]
  rfl

theorem chk1_strip (rs : List Ra) (xs : List Atr) : ∀ (l : List Atr) (i : Nat), chk1 rs (xs.map strip) (l.map strip) i = chk1 rs xs l i
  | [], _ => rfl
  | a :: l, i => by
    rw [List.map_cons, chk1, chk1, chk1_strip rs xs l (i + 1), ← List.map_take, any_strip]
    rfl

theorem lacks_strip (rs : List Ra) (xs : List Atr) : lacks rs (xs.map strip) = lacks rs xs := by
  unfold lacks
  congr 1
  funext r
  rw [find_strip]
  cases xs.find? (isA r.name r.kind) <;> rfl

theorem attrsE_strip (rs : List Ra) (xs : List Atr) : attrsE rs (xs.map strip) = attrsE rs xs := by
  unfold attrsE
  rw [chk1_strip, lacks_strip]

theorem checkE_strip (r : Option (Int × Int × List Ra)) (ins : List ByteArray) (out : ByteArray) (xs : List Atr) : checkE r ins out (xs.map strip) = checkE r ins out xs := by
  unfold checkE
  cases r with
  | none => rfl
  | some t =>
    obtain ⟨lo, hi, rs⟩ := t
    simp only
    rw [attrsE_strip, find_strip, thenE_strip]

theorem zip_strip : ∀ (xs : List Atr) (cs : List Cont) (P : Atr → Bool), (∀ a, P (strip a) = P a) → ((xs.map strip).zip cs).find? (fun p => P p.1) = ((xs.zip cs).find? (fun p => P p.1)).map (fun p => (strip p.1, p.2))
  | [], _, _, _ => by simp
  | x :: l, [], _, _ => by simp
  | x :: l, c :: cs, P, h => by
    rw [List.map_cons, List.zip_cons_cons, List.zip_cons_cons, List.find?_cons, List.find?_cons]
    simp only [h]
    cases P x
    · simpa using zip_strip l cs P h
    · rfl

theorem constE_strip (xs : List Atr) (cs : List Cont) : constE (xs.map strip) cs = constE xs cs := by
  unfold constE
  rw [zip_strip xs cs (isA ⟨#[118, 97, 108, 117, 101]⟩ 4) (fun _ => rfl)]
  cases (xs.zip cs).find? (fun p => isA ⟨#[118, 97, 108, 117, 101]⟩ 4 p.1) <;> rfl

theorem checkF_strip {r : Option (Int × Int × List Ra)} {op : ByteArray} {ins : List ByteArray} {out : ByteArray} {xs ys : List Atr} {cs : List Cont} (h : ys.map strip = xs.map strip) : checkF r op ins out ys cs = checkF r op ins out xs cs := by
  unfold checkF
  rw [← checkE_strip r ins out ys, ← constE_strip ys, h, checkE_strip, constE_strip]

/-- What a node that may be has. -/
theorem checkE_ok {r : Option (Int × Int × List Ra)} {ins : List ByteArray} {out : ByteArray} {xs : List Atr} (h : checkE r ins out xs = 0) :
    ∃ lo hi rs, r = some (lo, hi, rs) ∧ ¬ (ins.length : Int) < lo ∧ ¬ hi < (ins.length : Int) ∧ ((out.toList == []) || ins.any (isS ⟨#[]⟩)) = false ∧ attrsE rs xs = 0 ∧ thenE (xs.find? (isA ⟨#[116, 104, 101, 110]⟩ 3)) = 0 := by
  unfold checkE at h
  cases r with
  | none => simp at h
  | some t =>
    obtain ⟨lo, hi, rs⟩ := t
    simp only at h
    by_cases h1 : (ins.length : Int) < lo
    · rw [if_pos h1] at h; simp at h
    · rw [if_neg h1] at h
      by_cases h2 : hi < (ins.length : Int)
      · rw [if_pos h2] at h; simp at h
      · rw [if_neg h2] at h
        by_cases h3 : ((out.toList == []) || ins.any (isS ⟨#[]⟩)) = true
        · rw [if_pos h3] at h; simp at h
        · rw [if_neg h3] at h
          by_cases h4 : attrsE rs xs = 0
          · rw [if_pos h4] at h
            exact ⟨lo, hi, rs, rfl, h1, h2, by simpa using h3, h4, h⟩
          · rw [if_neg h4] at h
            exact absurd h h4

theorem attrsE_ok {rs : List Ra} {xs : List Atr} (h : attrsE rs xs = 0) : chk1 rs xs xs 0 = none ∧ lacks rs xs = false := by
  unfold attrsE at h
  cases hc : chk1 rs xs xs 0 with
  | some e =>
    rw [hc] at h
    have : ∀ (l : List Atr) (i : Nat) (e : Int), chk1 rs xs l i = some e → e ≠ 0 := by
      intro l
      induction l with
      | nil => intro i e h; cases h
      | cons a l ih =>
        intro i e h
        rw [chk1] at h
        cases hf : rs.find? (sameR a.name) with
        | none => rw [hf] at h; cases h; decide
        | some r =>
          rw [hf] at h
          simp only at h
          split at h
          · cases h; decide
          · split at h
            · cases h; decide
            · exact ih _ _ h
    exact absurd h (this _ _ _ hc)
  | none =>
    rw [hc] at h
    refine ⟨rfl, ?_⟩
    cases hl : lacks rs xs with
    | false => rfl
    | true => rw [hl] at h; simp at h

theorem chk1_append (rs : List Ra) (zs : List Atr) : ∀ (l m : List Atr) (i : Nat), chk1 rs zs l i = none → chk1 rs zs (l ++ m) i = chk1 rs zs m (i + l.length)
  | [], m, i, _ => rfl
  | a :: l, m, i, h => by
    rw [chk1] at h
    rw [List.cons_append, chk1]
    cases hf : rs.find? (sameR a.name) with
    | none => rw [hf] at h; cases h
    | some r =>
      rw [hf] at h
      simp only at h ⊢
      split at h
      · cases h
      · split at h
        · cases h
        · rename_i h1 h2
          rw [if_neg h1, if_neg h2, chk1_append rs zs l m (i + 1) h, List.length_cons]
          congr 1
          omega

/-- What stands behind makes no difference to what stands ahead. -/
theorem chk1_front (rs : List Ra) (xs zs : List Atr) : ∀ (l : List Atr) (i : Nat), i + l.length ≤ xs.length → chk1 rs (xs ++ zs) l i = chk1 rs xs l i
  | [], _, _ => rfl
  | a :: l, i, h => by
    rw [List.length_cons] at h
    rw [chk1, chk1, List.take_append_of_le_length (by omega), chk1_front rs xs zs l (i + 1) (by omega)]

/-- Each attribute that may be is one that the operator has. -/
theorem chk1_each (rs : List Ra) (xs : List Atr) : ∀ (l : List Atr) (i : Nat), chk1 rs xs l i = none → ∀ a ∈ l, rs.find? (sameR a.name) ≠ none
  | [], _, _, a, h => by cases h
  | x :: l, i, h, a, ha => by
    rw [chk1] at h
    cases hf : rs.find? (sameR x.name) with
    | none => rw [hf] at h; cases h
    | some r =>
      rw [hf] at h
      simp only at h
      split at h
      · cases h
      · split at h
        · cases h
        · rcases List.mem_cons.1 ha with rfl | ha
          · rw [hf]; simp
          · exact chk1_each rs xs l (i + 1) h a ha

theorem attrsE_twice {rs : List Ra} {xs : List Atr} {a : Atr} (h : attrsE rs xs = 0) (ha : a ∈ xs) : attrsE rs (xs ++ [a]) = 4 := by
  obtain ⟨h1, -⟩ := attrsE_ok h
  have h2 : chk1 rs (xs ++ [a]) xs 0 = none := by rw [chk1_front rs xs [a] xs 0 (by omega)]; exact h1
  refine attrsE_some ?_
  rw [chk1_append rs _ xs [a] 0 h2, chk1, Nat.zero_add, List.take_left]
  cases hf : rs.find? (sameR a.name) with
  | none => exact absurd hf (chk1_each rs xs xs 0 h1 a ha)
  | some r =>
    have : xs.any (aheadA a.name) = true := List.any_eq_true.2 ⟨a, ha, by simp [aheadA]⟩
    simp only [this, Bool.or_true, if_true]

theorem checkE_twice {r : Option (Int × Int × List Ra)} {op : ByteArray} {ins : List ByteArray} {out : ByteArray} {xs : List Atr} {cs ds : List Cont} {a : Atr} (h : checkF r op ins out xs cs = 0) (ha : a ∈ xs) : checkF r op ins out (xs ++ [a]) ds = 4 := by
  have h0 : checkE r ins out xs = 0 := by
    unfold checkF at h
    by_cases h1 : checkE r ins out xs = 0
    · exact h1
    · rw [if_pos h1] at h; exact h
  obtain ⟨lo, hi, rs, rfl, h1, h2, h3, h4, -⟩ := checkE_ok h0
  refine checkF_no ?_ (by decide)
  unfold checkE
  simp only
  rw [if_neg h1, if_neg h2, if_neg (by rw [h3]; decide), attrsE_twice h4 ha, if_neg (by decide)]
end Go.Proofs.YtdcbjikjeicgbaaGreatDoor

/- Two lists of texts that are the same; what must be there, by the walk. -/
namespace Go.Proofs.YtdcbjikjeicgbaaGreatDoor
open Go.RowKit

theorem lit_isL {α : Type} {te : TypeId} {bytes size : Nat} {f : α → List Value} (hf : ∀ a, (f a).length = size) {w : World} {g : Nat} {cs : Array Value} {xs : List α} (hb : w.heap[g]? = some (.cells cs te (0, 0))) (hc : cs.toList = xs.flatMap f) (hl : xs.length * bytes ≤ 140737488351232) (hm : xs.length ≤ 1000) :
    IsL bytes size f w (.slice (some ⟨g, 0, none⟩) xs.length xs.length) xs := by
  have hcs : cs.size = xs.length * size := by rw [← Array.length_toList, hc, flat_len hf]
  have ho : OwnsL te size f w 0 (.slice (some ⟨g, 0, none⟩) xs.length xs.length) xs := by
    refine ⟨flat_len hf xs, Or.inr ⟨g, xs.length, cs, rfl, Nat.zero_le _, hb, Nat.le_refl _, by simp only [maxLen]; omega, hcs, ?_⟩⟩
    rw [hc]
    exact List.take_of_length_le (by rw [flat_len hf]; exact Nat.le_refl _)
  exact ho.isL hf hl

theorem scell_len (s : ByteArray) : (scell s).length = 1 := rfl

def thenA (s : ByteArray) : Atr := ⟨⟨#[116, 104, 101, 110]⟩, 3, 0, 0, s, 0, ⟨none, 0, 0⟩, ⟨none, 0, 0⟩, ⟨none, 0, 0⟩⟩

theorem find_then (s : ByteArray) : [thenA s].find? (isA ⟨#[116, 104, 101, 110]⟩ 3) = some (thenA s) := by
  simp [thenA, isA, bytes_toList]

theorem attrs_then (s : ByteArray) : attrsE [thenRa] [thenA s] = 0 := by
  simp [attrsE, chk1, lacks, thenRa, thenA, sameR, bytes_toList]

theorem e_relu : checkE (some (1, 1, [thenRa])) [⟨#[120]⟩] ⟨#[121]⟩ [] = 0 := by
  simp [checkE, isS, bytes_toList, attrsE, chk1, lacks, thenRa, thenE]

theorem e_cast : checkE (some (1, 1, [⟨⟨#[116, 111]⟩, 2, true⟩, thenRa])) [⟨#[120]⟩] ⟨#[121]⟩ [] = 4 := by
  simp [checkE, isS, bytes_toList, attrsE, chk1, lacks, thenRa]

theorem e_add (s : ByteArray) : checkE (some (2, 2, [thenRa])) [⟨#[120]⟩, ⟨#[121]⟩] ⟨#[122]⟩ [thenA s] = thenE (some (thenA s)) := by
  simp only [checkE, attrs_then, find_then]
  simp [isS, bytes_toList]

theorem e_one (s : ByteArray) : checkE (some (1, 1, [thenRa])) [⟨#[120]⟩] ⟨#[121]⟩ [thenA s] = thenE (some (thenA s)) := by
  simp only [checkE, attrs_then, find_then]
  simp [isS, bytes_toList]

def reluNeg : ByteArray := ⟨#[82, 101, 108, 117, 44, 78, 101, 103]⟩

theorem then_live : thenE (some (thenA reluNeg)) = 0 ∧ thenL (some (thenA reluNeg)) = [⟨#[82, 101, 108, 117]⟩, ⟨#[78, 101, 103]⟩] := by
  have hp : pcs (thenA reluNeg).s.data.toList = [[82, 101, 108, 117], [78, 101, 103]] := by rfl
  have h := then_all hp (by simp [isOne, ones, bytes_toList, B])
  exact h

theorem lit_one (w : World) (x : ByteArray) : IsStrs (w.alloc (.cells #[.string x] 9)) (.slice (some ⟨w.heap.size, 0, none⟩) 1 1) [x] :=
  lit_isL (xs := [x]) scell_len (heap_alloc_new w _) rfl (by simp) (by simp)

theorem lit_two (w : World) (x y : ByteArray) : IsStrs (w.alloc (.cells #[.string x, .string y] 9)) (.slice (some ⟨w.heap.size, 0, none⟩) 2 2) [x, y] :=
  lit_isL (xs := [x, y]) scell_len (heap_alloc_new w _) rfl (by simp) (by simp)

theorem lit_then (w : World) (s : ByteArray) : IsAttrs (w.alloc (.cells #[.string ⟨#[116, 104, 101, 110]⟩, .int .i64 3, .int .i64 0, .int .i64 0, .string s, .int .i64 0, .slice none 0 0, .slice none 0 0, .slice none 0 0] 57)) (.slice (some ⟨w.heap.size, 0, none⟩) 1 1) [thenA s] :=
  lit_isL (xs := [thenA s]) acells_len (heap_alloc_new w _) rfl (by simp) (by simp)

end Go.Proofs.YtdcbjikjeicgbaaGreatDoor

/- Nodes that come in, and their copies. -/
namespace Go.Proofs.YtdcbjikjeicgbaaGreatDoor
open Go.RowKit

/-- A node that comes in: its lists, and what its attributes' lists hold. -/
structure NodeIn (w : World) (n : Nod) (ins : List ByteArray) (xs : List Atr) (cs : List Cont) : Prop where
  ins : IsStrs w n.iv.v ins
  av : IsAttrs w n.av.v xs
  has : ∀ (j : Nat) (a : Atr), xs[j]? = some a → ∃ c, cs[j]? = some c ∧ Has w a c
  few : xs.length ≤ 2097152
  short : ∀ a ∈ xs, a.s.size ≤ 1048576

theorem NodeIn.more {w w' : World} {n : Nod} {ins : List ByteArray} {xs : List Atr} {cs : List Cont} (h : NodeIn w n ins xs cs) (hg : w.grownBy w' none) : NodeIn w' n ins xs cs :=
  ⟨h.ins.more hg, h.av.more hg, fun j a e => by obtain ⟨c, e1, e2⟩ := h.has j a e; exact ⟨c, e1, e2.more hg⟩, h.few, h.short⟩

theorem check_in (n : Nod) (ins : List ByteArray) (xs : List Atr) (cs : List Cont) (w : World) (hl : Laid w) (h : NodeIn w n ins xs cs) :
    Calls Tryz.prog 44 #[nval n] w fun e w' => e = .returned (.int .i64 (checkF (ruleF n.op) n.op ins n.out xs cs)) ∧ w.grownBy w' none :=
  check_all n xs cs ins w hl h.ins h.av h.has (fun a ha => by have := h.short a ha; omega)

theorem Copied.len {w w' : World} {n : Nod} {ins : List ByteArray} {xs : List Atr} {cs : List Cont} {iv av : Sl} {ys : List Atr} (h : Copied w w' n ins xs cs iv av ys) : ys.length = xs.length := by
  have := congrArg List.length h.eq
  simpa using this

theorem strip_s {xs ys : List Atr} (h : ys.map strip = xs.map strip) {m : Nat} (hs : ∀ a ∈ xs, a.s.size ≤ m) : ∀ a ∈ ys, a.s.size ≤ m := by
  intro a ha
  have h1 : strip a ∈ xs.map strip := by rw [← h]; exact List.mem_map_of_mem ha
  obtain ⟨b, hb, e⟩ := List.mem_map.1 h1
  have := hs b hb
  have e2 : (strip b).s = (strip a).s := by rw [e]
  have e3 : b.s = a.s := e2
  rw [← e3]
  exact this

/-- The node's copy, with attributes appended to its list. -/
theorem Copied.pushed {w w' W : World} {n : Nod} {ins : List ByteArray} {xs : List Atr} {cs : List Cont} {iv av v' : Sl} {ys es : List Atr} {ds : List Cont} {op nam out : ByteArray} (h : Copied w w' n ins xs cs iv av ys) (hn : NodeIn w n ins xs cs) (kp : ∀ b, b < w'.heap.size → av.v.ownBlock ≠ some b → W.heap[b]? = w'.heap[b]?)
    (hav : IsAttrs W v'.v (ys ++ es)) (hes : ∀ e ∈ es, e ∈ ys) (hds : ∀ (j : Nat) (a : Atr), es[j]? = some a → ∃ (i : Nat) (c : Cont), ds[j]? = some c ∧ ys[i]? = some a ∧ cs[i]? = some c) (hl : (ys ++ es).length ≤ 2097152) : NodeIn W ⟨op, nam, iv, out, v'⟩ ins (ys ++ es) (cs.take ys.length ++ ds) := by
  have hi := hn.ins.form
  obtain ⟨-, -, -, -, -, hi3⟩ := hi
  have hasW : ∀ (j : Nat) (a : Atr) (c : Cont), ys[j]? = some a → cs[j]? = some c → Has W a c := by
    intro j a c ha hc
    have hm := h.new a (List.mem_of_getElem? ha)
    exact (h.has j a c ha hc).kept fun b hb e => kp b hb (hm.2.1.any e)
  have hcs : ∀ (j : Nat), j < ys.length → ∃ c, cs[j]? = some c := by
    intro j hj
    rw [h.len] at hj
    obtain ⟨c, hc, -⟩ := hn.has j xs[j] (List.getElem?_eq_getElem hj)
    exact ⟨c, hc⟩
  have hcl : ys.length ≤ cs.length := by
    rcases Nat.lt_or_ge cs.length ys.length with hlt | hge
    · obtain ⟨c, hc⟩ := hcs cs.length hlt
      rw [List.getElem?_eq_none (Nat.le_refl _)] at hc
      cases hc
    · exact hge
  have htl : (cs.take ys.length).length = ys.length := by rw [List.length_take]; omega
  refine ⟨(h.ins.isL (bytes := 16) scell_len hi3).kept fun b hb e => kp b hb (h.apt b e), hav, ?_, hl, ?_⟩
  · intro j a ha
    by_cases hj : j < ys.length
    · rw [List.getElem?_append_left hj] at ha
      obtain ⟨c, hc⟩ := hcs j hj
      exact ⟨c, by rw [List.getElem?_append_left (by omega), List.getElem?_take_of_lt hj, hc], hasW j a c ha hc⟩
    · rw [List.getElem?_append_right (by omega)] at ha
      obtain ⟨i, c, h1, h2, h3⟩ := hds _ a ha
      exact ⟨c, by rw [List.getElem?_append_right (by omega), htl]; exact h1, hasW i a c h2 h3⟩
  · intro a ha
    have hys := strip_s h.eq hn.short
    rcases List.mem_append.1 ha with ha | ha
    · exact hys a ha
    · exact hys a (hes a ha)

end Go.Proofs.YtdcbjikjeicgbaaGreatDoor
