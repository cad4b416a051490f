/- What an operator takes, operator by operator (mkRule.py). -/
import Derived.Test.YteigfipgmghgmaaGreatDoorNRuleA
namespace Go.Proofs.YteigfipgmghgmaaGreatDoor
open Go.RowKit

set_option maxRecDepth 100000 in
set_option maxHeartbeats 1600000 in
theorem rule_Identity (w : World) (hl : Laid w) :
    Calls Tryz.prog 98 #[.string ⟨#[73, 100, 101, 110, 116, 105, 116, 121]⟩] w fun e w' => Ruled (some (1, 1, [thenRa])) w' e ∧ w.grownBy w' none := by
  have e1 : isOne ⟨#[73, 100, 101, 110, 116, 105, 116, 121]⟩ = true := by simp only [isOne, bytes_toList]; rfl
  obtain ⟨w0, hw0⟩ : ∃ w0, w0 = w.alloc (.cells #[.int .i64 0, .int .i64 0, .slice none 0 0] 134) := ⟨_, rfl⟩
  have g0 : w.grownBy w0 none := by rw [hw0]; exact grown_new _ _
  have b0 := heap_alloc_new w (.cells #[.int .i64 0, .int .i64 0, .slice none 0 0] 134)
  rw [← hw0] at b0
  have B0 := hide b0
  have OO := hide (ofone_any ⟨#[73, 100, 101, 110, 116, 105, 116, 121]⟩ w0 (hl.more g0))
  rw [e1] at OO
  clear hl b0 e1
  go_enter Tryz.func98, Tryz.ntmps98
  go_wp2_with fail
  rw [← hw0]
  clear hw0
  refine OO.out.mono ?_
  rintro e v0 ⟨rfl, h0⟩
  go_wp2_with fail
  refine (takes_any _ _ _ [] _ (Or.inl ⟨rfl, rfl⟩) (by decide)).mono ?_
  rintro e w6 ⟨⟨a, n, c, rfl, ho, hat⟩, hg6⟩
  have hlt := (Array.getElem?_eq_some_iff.1 B0.out).1
  have hsk := h0.size
  have hne : (Value.slice a n c).ownBlock ≠ some w.heap.size := fun hh => by
    rcases hat _ hh with h | h
    · cases h
    · omega
  obtain ⟨b6, hX, hO, gX⟩ := rule_put (lo := 1) (hi := 1) g0 B0.out h0 (grown_refl _) hg6 (fun g e => by cases e) ho hne
  obtain ⟨r0, r1, r2, f0, f1, f2⟩ := rule_cells b6
  have HX := hide hX
  have HO := hide hO
  have GX := hide gX
  clear hX hO gX b6 ho hg6 hne hat hlt hsk
  go_wp2
  refine bodyPost_ret (ret_rule2 rfl _ _ w.heap.size rfl HX.out) rfl ?_
  exact ⟨⟨_, _, _, rfl, HO.out⟩, GX.out⟩

set_option maxRecDepth 100000 in
set_option maxHeartbeats 1600000 in
theorem rule_Neg (w : World) (hl : Laid w) :
    Calls Tryz.prog 98 #[.string ⟨#[78, 101, 103]⟩] w fun e w' => Ruled (some (1, 1, [thenRa])) w' e ∧ w.grownBy w' none := by
  have e1 : isOne ⟨#[78, 101, 103]⟩ = true := by simp only [isOne, bytes_toList]; rfl
  obtain ⟨w0, hw0⟩ : ∃ w0, w0 = w.alloc (.cells #[.int .i64 0, .int .i64 0, .slice none 0 0] 134) := ⟨_, rfl⟩
  have g0 : w.grownBy w0 none := by rw [hw0]; exact grown_new _ _
  have b0 := heap_alloc_new w (.cells #[.int .i64 0, .int .i64 0, .slice none 0 0] 134)
  rw [← hw0] at b0
  have B0 := hide b0
  have OO := hide (ofone_any ⟨#[78, 101, 103]⟩ w0 (hl.more g0))
  rw [e1] at OO
  clear hl b0 e1
  go_enter Tryz.func98, Tryz.ntmps98
  go_wp2_with fail
  rw [← hw0]
  clear hw0
  refine OO.out.mono ?_
  rintro e v0 ⟨rfl, h0⟩
  go_wp2_with fail
  refine (takes_any _ _ _ [] _ (Or.inl ⟨rfl, rfl⟩) (by decide)).mono ?_
  rintro e w6 ⟨⟨a, n, c, rfl, ho, hat⟩, hg6⟩
  have hlt := (Array.getElem?_eq_some_iff.1 B0.out).1
  have hsk := h0.size
  have hne : (Value.slice a n c).ownBlock ≠ some w.heap.size := fun hh => by
    rcases hat _ hh with h | h
    · cases h
    · omega
  obtain ⟨b6, hX, hO, gX⟩ := rule_put (lo := 1) (hi := 1) g0 B0.out h0 (grown_refl _) hg6 (fun g e => by cases e) ho hne
  obtain ⟨r0, r1, r2, f0, f1, f2⟩ := rule_cells b6
  have HX := hide hX
  have HO := hide hO
  have GX := hide gX
  clear hX hO gX b6 ho hg6 hne hat hlt hsk
  go_wp2
  refine bodyPost_ret (ret_rule2 rfl _ _ w.heap.size rfl HX.out) rfl ?_
  exact ⟨⟨_, _, _, rfl, HO.out⟩, GX.out⟩

set_option maxRecDepth 100000 in
set_option maxHeartbeats 1600000 in
theorem rule_Abs (w : World) (hl : Laid w) :
    Calls Tryz.prog 98 #[.string ⟨#[65, 98, 115]⟩] w fun e w' => Ruled (some (1, 1, [thenRa])) w' e ∧ w.grownBy w' none := by
  have e1 : isOne ⟨#[65, 98, 115]⟩ = true := by simp only [isOne, bytes_toList]; rfl
  obtain ⟨w0, hw0⟩ : ∃ w0, w0 = w.alloc (.cells #[.int .i64 0, .int .i64 0, .slice none 0 0] 134) := ⟨_, rfl⟩
  have g0 : w.grownBy w0 none := by rw [hw0]; exact grown_new _ _
  have b0 := heap_alloc_new w (.cells #[.int .i64 0, .int .i64 0, .slice none 0 0] 134)
  rw [← hw0] at b0
  have B0 := hide b0
  have OO := hide (ofone_any ⟨#[65, 98, 115]⟩ w0 (hl.more g0))
  rw [e1] at OO
  clear hl b0 e1
  go_enter Tryz.func98, Tryz.ntmps98
  go_wp2_with fail
  rw [← hw0]
  clear hw0
  refine OO.out.mono ?_
  rintro e v0 ⟨rfl, h0⟩
  go_wp2_with fail
  refine (takes_any _ _ _ [] _ (Or.inl ⟨rfl, rfl⟩) (by decide)).mono ?_
  rintro e w6 ⟨⟨a, n, c, rfl, ho, hat⟩, hg6⟩
  have hlt := (Array.getElem?_eq_some_iff.1 B0.out).1
  have hsk := h0.size
  have hne : (Value.slice a n c).ownBlock ≠ some w.heap.size := fun hh => by
    rcases hat _ hh with h | h
    · cases h
    · omega
  obtain ⟨b6, hX, hO, gX⟩ := rule_put (lo := 1) (hi := 1) g0 B0.out h0 (grown_refl _) hg6 (fun g e => by cases e) ho hne
  obtain ⟨r0, r1, r2, f0, f1, f2⟩ := rule_cells b6
  have HX := hide hX
  have HO := hide hO
  have GX := hide gX
  clear hX hO gX b6 ho hg6 hne hat hlt hsk
  go_wp2
  refine bodyPost_ret (ret_rule2 rfl _ _ w.heap.size rfl HX.out) rfl ?_
  exact ⟨⟨_, _, _, rfl, HO.out⟩, GX.out⟩

set_option maxRecDepth 100000 in
set_option maxHeartbeats 1600000 in
theorem rule_Not (w : World) (hl : Laid w) :
    Calls Tryz.prog 98 #[.string ⟨#[78, 111, 116]⟩] w fun e w' => Ruled (some (1, 1, [thenRa])) w' e ∧ w.grownBy w' none := by
  have e1 : isOne ⟨#[78, 111, 116]⟩ = true := by simp only [isOne, bytes_toList]; rfl
  obtain ⟨w0, hw0⟩ : ∃ w0, w0 = w.alloc (.cells #[.int .i64 0, .int .i64 0, .slice none 0 0] 134) := ⟨_, rfl⟩
  have g0 : w.grownBy w0 none := by rw [hw0]; exact grown_new _ _
  have b0 := heap_alloc_new w (.cells #[.int .i64 0, .int .i64 0, .slice none 0 0] 134)
  rw [← hw0] at b0
  have B0 := hide b0
  have OO := hide (ofone_any ⟨#[78, 111, 116]⟩ w0 (hl.more g0))
  rw [e1] at OO
  clear hl b0 e1
  go_enter Tryz.func98, Tryz.ntmps98
  go_wp2_with fail
  rw [← hw0]
  clear hw0
  refine OO.out.mono ?_
  rintro e v0 ⟨rfl, h0⟩
  go_wp2_with fail
  refine (takes_any _ _ _ [] _ (Or.inl ⟨rfl, rfl⟩) (by decide)).mono ?_
  rintro e w6 ⟨⟨a, n, c, rfl, ho, hat⟩, hg6⟩
  have hlt := (Array.getElem?_eq_some_iff.1 B0.out).1
  have hsk := h0.size
  have hne : (Value.slice a n c).ownBlock ≠ some w.heap.size := fun hh => by
    rcases hat _ hh with h | h
    · cases h
    · omega
  obtain ⟨b6, hX, hO, gX⟩ := rule_put (lo := 1) (hi := 1) g0 B0.out h0 (grown_refl _) hg6 (fun g e => by cases e) ho hne
  obtain ⟨r0, r1, r2, f0, f1, f2⟩ := rule_cells b6
  have HX := hide hX
  have HO := hide hO
  have GX := hide gX
  clear hX hO gX b6 ho hg6 hne hat hlt hsk
  go_wp2
  refine bodyPost_ret (ret_rule2 rfl _ _ w.heap.size rfl HX.out) rfl ?_
  exact ⟨⟨_, _, _, rfl, HO.out⟩, GX.out⟩

set_option maxRecDepth 100000 in
set_option maxHeartbeats 1600000 in
theorem rule_Sqrt (w : World) (hl : Laid w) :
    Calls Tryz.prog 98 #[.string ⟨#[83, 113, 114, 116]⟩] w fun e w' => Ruled (some (1, 1, [thenRa])) w' e ∧ w.grownBy w' none := by
  have e1 : isOne ⟨#[83, 113, 114, 116]⟩ = true := by simp only [isOne, bytes_toList]; rfl
  obtain ⟨w0, hw0⟩ : ∃ w0, w0 = w.alloc (.cells #[.int .i64 0, .int .i64 0, .slice none 0 0] 134) := ⟨_, rfl⟩
  have g0 : w.grownBy w0 none := by rw [hw0]; exact grown_new _ _
  have b0 := heap_alloc_new w (.cells #[.int .i64 0, .int .i64 0, .slice none 0 0] 134)
  rw [← hw0] at b0
  have B0 := hide b0
  have OO := hide (ofone_any ⟨#[83, 113, 114, 116]⟩ w0 (hl.more g0))
  rw [e1] at OO
  clear hl b0 e1
  go_enter Tryz.func98, Tryz.ntmps98
  go_wp2_with fail
  rw [← hw0]
  clear hw0
  refine OO.out.mono ?_
  rintro e v0 ⟨rfl, h0⟩
  go_wp2_with fail
  refine (takes_any _ _ _ [] _ (Or.inl ⟨rfl, rfl⟩) (by decide)).mono ?_
  rintro e w6 ⟨⟨a, n, c, rfl, ho, hat⟩, hg6⟩
  have hlt := (Array.getElem?_eq_some_iff.1 B0.out).1
  have hsk := h0.size
  have hne : (Value.slice a n c).ownBlock ≠ some w.heap.size := fun hh => by
    rcases hat _ hh with h | h
    · cases h
    · omega
  obtain ⟨b6, hX, hO, gX⟩ := rule_put (lo := 1) (hi := 1) g0 B0.out h0 (grown_refl _) hg6 (fun g e => by cases e) ho hne
  obtain ⟨r0, r1, r2, f0, f1, f2⟩ := rule_cells b6
  have HX := hide hX
  have HO := hide hO
  have GX := hide gX
  clear hX hO gX b6 ho hg6 hne hat hlt hsk
  go_wp2
  refine bodyPost_ret (ret_rule2 rfl _ _ w.heap.size rfl HX.out) rfl ?_
  exact ⟨⟨_, _, _, rfl, HO.out⟩, GX.out⟩

set_option maxRecDepth 100000 in
set_option maxHeartbeats 1600000 in
theorem rule_Floor (w : World) (hl : Laid w) :
    Calls Tryz.prog 98 #[.string ⟨#[70, 108, 111, 111, 114]⟩] w fun e w' => Ruled (some (1, 1, [thenRa])) w' e ∧ w.grownBy w' none := by
  have e1 : isOne ⟨#[70, 108, 111, 111, 114]⟩ = true := by simp only [isOne, bytes_toList]; rfl
  obtain ⟨w0, hw0⟩ : ∃ w0, w0 = w.alloc (.cells #[.int .i64 0, .int .i64 0, .slice none 0 0] 134) := ⟨_, rfl⟩
  have g0 : w.grownBy w0 none := by rw [hw0]; exact grown_new _ _
  have b0 := heap_alloc_new w (.cells #[.int .i64 0, .int .i64 0, .slice none 0 0] 134)
  rw [← hw0] at b0
  have B0 := hide b0
  have OO := hide (ofone_any ⟨#[70, 108, 111, 111, 114]⟩ w0 (hl.more g0))
  rw [e1] at OO
  clear hl b0 e1
  go_enter Tryz.func98, Tryz.ntmps98
  go_wp2_with fail
  rw [← hw0]
  clear hw0
  refine OO.out.mono ?_
  rintro e v0 ⟨rfl, h0⟩
  go_wp2_with fail
  refine (takes_any _ _ _ [] _ (Or.inl ⟨rfl, rfl⟩) (by decide)).mono ?_
  rintro e w6 ⟨⟨a, n, c, rfl, ho, hat⟩, hg6⟩
  have hlt := (Array.getElem?_eq_some_iff.1 B0.out).1
  have hsk := h0.size
  have hne : (Value.slice a n c).ownBlock ≠ some w.heap.size := fun hh => by
    rcases hat _ hh with h | h
    · cases h
    · omega
  obtain ⟨b6, hX, hO, gX⟩ := rule_put (lo := 1) (hi := 1) g0 B0.out h0 (grown_refl _) hg6 (fun g e => by cases e) ho hne
  obtain ⟨r0, r1, r2, f0, f1, f2⟩ := rule_cells b6
  have HX := hide hX
  have HO := hide hO
  have GX := hide gX
  clear hX hO gX b6 ho hg6 hne hat hlt hsk
  go_wp2
  refine bodyPost_ret (ret_rule2 rfl _ _ w.heap.size rfl HX.out) rfl ?_
  exact ⟨⟨_, _, _, rfl, HO.out⟩, GX.out⟩

set_option maxRecDepth 100000 in
set_option maxHeartbeats 1600000 in
theorem rule_Exp (w : World) (hl : Laid w) :
    Calls Tryz.prog 98 #[.string ⟨#[69, 120, 112]⟩] w fun e w' => Ruled (some (1, 1, [thenRa])) w' e ∧ w.grownBy w' none := by
  have e1 : isOne ⟨#[69, 120, 112]⟩ = true := by simp only [isOne, bytes_toList]; rfl
  obtain ⟨w0, hw0⟩ : ∃ w0, w0 = w.alloc (.cells #[.int .i64 0, .int .i64 0, .slice none 0 0] 134) := ⟨_, rfl⟩
  have g0 : w.grownBy w0 none := by rw [hw0]; exact grown_new _ _
  have b0 := heap_alloc_new w (.cells #[.int .i64 0, .int .i64 0, .slice none 0 0] 134)
  rw [← hw0] at b0
  have B0 := hide b0
  have OO := hide (ofone_any ⟨#[69, 120, 112]⟩ w0 (hl.more g0))
  rw [e1] at OO
  clear hl b0 e1
  go_enter Tryz.func98, Tryz.ntmps98
  go_wp2_with fail
  rw [← hw0]
  clear hw0
  refine OO.out.mono ?_
  rintro e v0 ⟨rfl, h0⟩
  go_wp2_with fail
  refine (takes_any _ _ _ [] _ (Or.inl ⟨rfl, rfl⟩) (by decide)).mono ?_
  rintro e w6 ⟨⟨a, n, c, rfl, ho, hat⟩, hg6⟩
  have hlt := (Array.getElem?_eq_some_iff.1 B0.out).1
  have hsk := h0.size
  have hne : (Value.slice a n c).ownBlock ≠ some w.heap.size := fun hh => by
    rcases hat _ hh with h | h
    · cases h
    · omega
  obtain ⟨b6, hX, hO, gX⟩ := rule_put (lo := 1) (hi := 1) g0 B0.out h0 (grown_refl _) hg6 (fun g e => by cases e) ho hne
  obtain ⟨r0, r1, r2, f0, f1, f2⟩ := rule_cells b6
  have HX := hide hX
  have HO := hide hO
  have GX := hide gX
  clear hX hO gX b6 ho hg6 hne hat hlt hsk
  go_wp2
  refine bodyPost_ret (ret_rule2 rfl _ _ w.heap.size rfl HX.out) rfl ?_
  exact ⟨⟨_, _, _, rfl, HO.out⟩, GX.out⟩

set_option maxRecDepth 100000 in
set_option maxHeartbeats 1600000 in
theorem rule_Sigmoid (w : World) (hl : Laid w) :
    Calls Tryz.prog 98 #[.string ⟨#[83, 105, 103, 109, 111, 105, 100]⟩] w fun e w' => Ruled (some (1, 1, [thenRa])) w' e ∧ w.grownBy w' none := by
  have e1 : isOne ⟨#[83, 105, 103, 109, 111, 105, 100]⟩ = true := by simp only [isOne, bytes_toList]; rfl
  obtain ⟨w0, hw0⟩ : ∃ w0, w0 = w.alloc (.cells #[.int .i64 0, .int .i64 0, .slice none 0 0] 134) := ⟨_, rfl⟩
  have g0 : w.grownBy w0 none := by rw [hw0]; exact grown_new _ _
  have b0 := heap_alloc_new w (.cells #[.int .i64 0, .int .i64 0, .slice none 0 0] 134)
  rw [← hw0] at b0
  have B0 := hide b0
  have OO := hide (ofone_any ⟨#[83, 105, 103, 109, 111, 105, 100]⟩ w0 (hl.more g0))
  rw [e1] at OO
  clear hl b0 e1
  go_enter Tryz.func98, Tryz.ntmps98
  go_wp2_with fail
  rw [← hw0]
  clear hw0
  refine OO.out.mono ?_
  rintro e v0 ⟨rfl, h0⟩
  go_wp2_with fail
  refine (takes_any _ _ _ [] _ (Or.inl ⟨rfl, rfl⟩) (by decide)).mono ?_
  rintro e w6 ⟨⟨a, n, c, rfl, ho, hat⟩, hg6⟩
  have hlt := (Array.getElem?_eq_some_iff.1 B0.out).1
  have hsk := h0.size
  have hne : (Value.slice a n c).ownBlock ≠ some w.heap.size := fun hh => by
    rcases hat _ hh with h | h
    · cases h
    · omega
  obtain ⟨b6, hX, hO, gX⟩ := rule_put (lo := 1) (hi := 1) g0 B0.out h0 (grown_refl _) hg6 (fun g e => by cases e) ho hne
  obtain ⟨r0, r1, r2, f0, f1, f2⟩ := rule_cells b6
  have HX := hide hX
  have HO := hide hO
  have GX := hide gX
  clear hX hO gX b6 ho hg6 hne hat hlt hsk
  go_wp2
  refine bodyPost_ret (ret_rule2 rfl _ _ w.heap.size rfl HX.out) rfl ?_
  exact ⟨⟨_, _, _, rfl, HO.out⟩, GX.out⟩

set_option maxRecDepth 100000 in
set_option maxHeartbeats 1600000 in
theorem rule_Tanh (w : World) (hl : Laid w) :
    Calls Tryz.prog 98 #[.string ⟨#[84, 97, 110, 104]⟩] w fun e w' => Ruled (some (1, 1, [thenRa])) w' e ∧ w.grownBy w' none := by
  have e1 : isOne ⟨#[84, 97, 110, 104]⟩ = true := by simp only [isOne, bytes_toList]; rfl
  obtain ⟨w0, hw0⟩ : ∃ w0, w0 = w.alloc (.cells #[.int .i64 0, .int .i64 0, .slice none 0 0] 134) := ⟨_, rfl⟩
  have g0 : w.grownBy w0 none := by rw [hw0]; exact grown_new _ _
  have b0 := heap_alloc_new w (.cells #[.int .i64 0, .int .i64 0, .slice none 0 0] 134)
  rw [← hw0] at b0
  have B0 := hide b0
  have OO := hide (ofone_any ⟨#[84, 97, 110, 104]⟩ w0 (hl.more g0))
  rw [e1] at OO
  clear hl b0 e1
  go_enter Tryz.func98, Tryz.ntmps98
  go_wp2_with fail
  rw [← hw0]
  clear hw0
  refine OO.out.mono ?_
  rintro e v0 ⟨rfl, h0⟩
  go_wp2_with fail
  refine (takes_any _ _ _ [] _ (Or.inl ⟨rfl, rfl⟩) (by decide)).mono ?_
  rintro e w6 ⟨⟨a, n, c, rfl, ho, hat⟩, hg6⟩
  have hlt := (Array.getElem?_eq_some_iff.1 B0.out).1
  have hsk := h0.size
  have hne : (Value.slice a n c).ownBlock ≠ some w.heap.size := fun hh => by
    rcases hat _ hh with h | h
    · cases h
    · omega
  obtain ⟨b6, hX, hO, gX⟩ := rule_put (lo := 1) (hi := 1) g0 B0.out h0 (grown_refl _) hg6 (fun g e => by cases e) ho hne
  obtain ⟨r0, r1, r2, f0, f1, f2⟩ := rule_cells b6
  have HX := hide hX
  have HO := hide hO
  have GX := hide gX
  clear hX hO gX b6 ho hg6 hne hat hlt hsk
  go_wp2
  refine bodyPost_ret (ret_rule2 rfl _ _ w.heap.size rfl HX.out) rfl ?_
  exact ⟨⟨_, _, _, rfl, HO.out⟩, GX.out⟩

set_option maxRecDepth 100000 in
set_option maxHeartbeats 1600000 in
theorem rule_Sub (w : World) (hl : Laid w) :
    Calls Tryz.prog 98 #[.string ⟨#[83, 117, 98]⟩] w fun e w' => Ruled (some (2, 2, [thenRa])) w' e ∧ w.grownBy w' none := by
  have e1 : isOne ⟨#[83, 117, 98]⟩ = false := by simp only [isOne, bytes_toList]; rfl
  obtain ⟨w0, hw0⟩ : ∃ w0, w0 = w.alloc (.cells #[.int .i64 0, .int .i64 0, .slice none 0 0] 134) := ⟨_, rfl⟩
  have g0 : w.grownBy w0 none := by rw [hw0]; exact grown_new _ _
  have b0 := heap_alloc_new w (.cells #[.int .i64 0, .int .i64 0, .slice none 0 0] 134)
  rw [← hw0] at b0
  have B0 := hide b0
  have OO := hide (ofone_any ⟨#[83, 117, 98]⟩ w0 (hl.more g0))
  rw [e1] at OO
  clear hl b0 e1
  go_enter Tryz.func98, Tryz.ntmps98
  go_wp2_with fail
  rw [← hw0]
  clear hw0
  refine OO.out.mono ?_
  rintro e v0 ⟨rfl, h0⟩
  go_wp2_with fail
  refine (takes_any _ _ _ [] _ (Or.inl ⟨rfl, rfl⟩) (by decide)).mono ?_
  rintro e w6 ⟨⟨a, n, c, rfl, ho, hat⟩, hg6⟩
  have hlt := (Array.getElem?_eq_some_iff.1 B0.out).1
  have hsk := h0.size
  have hne : (Value.slice a n c).ownBlock ≠ some w.heap.size := fun hh => by
    rcases hat _ hh with h | h
    · cases h
    · omega
  obtain ⟨b6, hX, hO, gX⟩ := rule_put (lo := 2) (hi := 2) g0 B0.out h0 (grown_refl _) hg6 (fun g e => by cases e) ho hne
  obtain ⟨r0, r1, r2, f0, f1, f2⟩ := rule_cells b6
  have HX := hide hX
  have HO := hide hO
  have GX := hide gX
  clear hX hO gX b6 ho hg6 hne hat hlt hsk
  go_wp2
  refine bodyPost_ret (ret_rule2 rfl _ _ w.heap.size rfl HX.out) rfl ?_
  exact ⟨⟨_, _, _, rfl, HO.out⟩, GX.out⟩

set_option maxRecDepth 100000 in
set_option maxHeartbeats 1600000 in
theorem rule_Mul (w : World) (hl : Laid w) :
    Calls Tryz.prog 98 #[.string ⟨#[77, 117, 108]⟩] w fun e w' => Ruled (some (2, 2, [thenRa])) w' e ∧ w.grownBy w' none := by
  have e1 : isOne ⟨#[77, 117, 108]⟩ = false := by simp only [isOne, bytes_toList]; rfl
  obtain ⟨w0, hw0⟩ : ∃ w0, w0 = w.alloc (.cells #[.int .i64 0, .int .i64 0, .slice none 0 0] 134) := ⟨_, rfl⟩
  have g0 : w.grownBy w0 none := by rw [hw0]; exact grown_new _ _
  have b0 := heap_alloc_new w (.cells #[.int .i64 0, .int .i64 0, .slice none 0 0] 134)
  rw [← hw0] at b0
  have B0 := hide b0
  have OO := hide (ofone_any ⟨#[77, 117, 108]⟩ w0 (hl.more g0))
  rw [e1] at OO
  clear hl b0 e1
  go_enter Tryz.func98, Tryz.ntmps98
  go_wp2_with fail
  rw [← hw0]
  clear hw0
  refine OO.out.mono ?_
  rintro e v0 ⟨rfl, h0⟩
  go_wp2_with fail
  refine (takes_any _ _ _ [] _ (Or.inl ⟨rfl, rfl⟩) (by decide)).mono ?_
  rintro e w6 ⟨⟨a, n, c, rfl, ho, hat⟩, hg6⟩
  have hlt := (Array.getElem?_eq_some_iff.1 B0.out).1
  have hsk := h0.size
  have hne : (Value.slice a n c).ownBlock ≠ some w.heap.size := fun hh => by
    rcases hat _ hh with h | h
    · cases h
    · omega
  obtain ⟨b6, hX, hO, gX⟩ := rule_put (lo := 2) (hi := 2) g0 B0.out h0 (grown_refl _) hg6 (fun g e => by cases e) ho hne
  obtain ⟨r0, r1, r2, f0, f1, f2⟩ := rule_cells b6
  have HX := hide hX
  have HO := hide hO
  have GX := hide gX
  clear hX hO gX b6 ho hg6 hne hat hlt hsk
  go_wp2
  refine bodyPost_ret (ret_rule2 rfl _ _ w.heap.size rfl HX.out) rfl ?_
  exact ⟨⟨_, _, _, rfl, HO.out⟩, GX.out⟩

set_option maxRecDepth 100000 in
set_option maxHeartbeats 1600000 in
theorem rule_Div (w : World) (hl : Laid w) :
    Calls Tryz.prog 98 #[.string ⟨#[68, 105, 118]⟩] w fun e w' => Ruled (some (2, 2, [thenRa])) w' e ∧ w.grownBy w' none := by
  have e1 : isOne ⟨#[68, 105, 118]⟩ = false := by simp only [isOne, bytes_toList]; rfl
  obtain ⟨w0, hw0⟩ : ∃ w0, w0 = w.alloc (.cells #[.int .i64 0, .int .i64 0, .slice none 0 0] 134) := ⟨_, rfl⟩
  have g0 : w.grownBy w0 none := by rw [hw0]; exact grown_new _ _
  have b0 := heap_alloc_new w (.cells #[.int .i64 0, .int .i64 0, .slice none 0 0] 134)
  rw [← hw0] at b0
  have B0 := hide b0
  have OO := hide (ofone_any ⟨#[68, 105, 118]⟩ w0 (hl.more g0))
  rw [e1] at OO
  clear hl b0 e1
  go_enter Tryz.func98, Tryz.ntmps98
  go_wp2_with fail
  rw [← hw0]
  clear hw0
  refine OO.out.mono ?_
  rintro e v0 ⟨rfl, h0⟩
  go_wp2_with fail
  refine (takes_any _ _ _ [] _ (Or.inl ⟨rfl, rfl⟩) (by decide)).mono ?_
  rintro e w6 ⟨⟨a, n, c, rfl, ho, hat⟩, hg6⟩
  have hlt := (Array.getElem?_eq_some_iff.1 B0.out).1
  have hsk := h0.size
  have hne : (Value.slice a n c).ownBlock ≠ some w.heap.size := fun hh => by
    rcases hat _ hh with h | h
    · cases h
    · omega
  obtain ⟨b6, hX, hO, gX⟩ := rule_put (lo := 2) (hi := 2) g0 B0.out h0 (grown_refl _) hg6 (fun g e => by cases e) ho hne
  obtain ⟨r0, r1, r2, f0, f1, f2⟩ := rule_cells b6
  have HX := hide hX
  have HO := hide hO
  have GX := hide gX
  clear hX hO gX b6 ho hg6 hne hat hlt hsk
  go_wp2
  refine bodyPost_ret (ret_rule2 rfl _ _ w.heap.size rfl HX.out) rfl ?_
  exact ⟨⟨_, _, _, rfl, HO.out⟩, GX.out⟩

set_option maxRecDepth 100000 in
set_option maxHeartbeats 1600000 in
theorem rule_Max (w : World) (hl : Laid w) :
    Calls Tryz.prog 98 #[.string ⟨#[77, 97, 120]⟩] w fun e w' => Ruled (some (2, 2, [thenRa])) w' e ∧ w.grownBy w' none := by
  have e1 : isOne ⟨#[77, 97, 120]⟩ = false := by simp only [isOne, bytes_toList]; rfl
  obtain ⟨w0, hw0⟩ : ∃ w0, w0 = w.alloc (.cells #[.int .i64 0, .int .i64 0, .slice none 0 0] 134) := ⟨_, rfl⟩
  have g0 : w.grownBy w0 none := by rw [hw0]; exact grown_new _ _
  have b0 := heap_alloc_new w (.cells #[.int .i64 0, .int .i64 0, .slice none 0 0] 134)
  rw [← hw0] at b0
  have B0 := hide b0
  have OO := hide (ofone_any ⟨#[77, 97, 120]⟩ w0 (hl.more g0))
  rw [e1] at OO
  clear hl b0 e1
  go_enter Tryz.func98, Tryz.ntmps98
  go_wp2_with fail
  rw [← hw0]
  clear hw0
  refine OO.out.mono ?_
  rintro e v0 ⟨rfl, h0⟩
  go_wp2_with fail
  refine (takes_any _ _ _ [] _ (Or.inl ⟨rfl, rfl⟩) (by decide)).mono ?_
  rintro e w6 ⟨⟨a, n, c, rfl, ho, hat⟩, hg6⟩
  have hlt := (Array.getElem?_eq_some_iff.1 B0.out).1
  have hsk := h0.size
  have hne : (Value.slice a n c).ownBlock ≠ some w.heap.size := fun hh => by
    rcases hat _ hh with h | h
    · cases h
    · omega
  obtain ⟨b6, hX, hO, gX⟩ := rule_put (lo := 2) (hi := 2) g0 B0.out h0 (grown_refl _) hg6 (fun g e => by cases e) ho hne
  obtain ⟨r0, r1, r2, f0, f1, f2⟩ := rule_cells b6
  have HX := hide hX
  have HO := hide hO
  have GX := hide gX
  clear hX hO gX b6 ho hg6 hne hat hlt hsk
  go_wp2
  refine bodyPost_ret (ret_rule2 rfl _ _ w.heap.size rfl HX.out) rfl ?_
  exact ⟨⟨_, _, _, rfl, HO.out⟩, GX.out⟩

set_option maxRecDepth 100000 in
set_option maxHeartbeats 1600000 in
theorem rule_Min (w : World) (hl : Laid w) :
    Calls Tryz.prog 98 #[.string ⟨#[77, 105, 110]⟩] w fun e w' => Ruled (some (2, 2, [thenRa])) w' e ∧ w.grownBy w' none := by
  have e1 : isOne ⟨#[77, 105, 110]⟩ = false := by simp only [isOne, bytes_toList]; rfl
  obtain ⟨w0, hw0⟩ : ∃ w0, w0 = w.alloc (.cells #[.int .i64 0, .int .i64 0, .slice none 0 0] 134) := ⟨_, rfl⟩
  have g0 : w.grownBy w0 none := by rw [hw0]; exact grown_new _ _
  have b0 := heap_alloc_new w (.cells #[.int .i64 0, .int .i64 0, .slice none 0 0] 134)
  rw [← hw0] at b0
  have B0 := hide b0
  have OO := hide (ofone_any ⟨#[77, 105, 110]⟩ w0 (hl.more g0))
  rw [e1] at OO
  clear hl b0 e1
  go_enter Tryz.func98, Tryz.ntmps98
  go_wp2_with fail
  rw [← hw0]
  clear hw0
  refine OO.out.mono ?_
  rintro e v0 ⟨rfl, h0⟩
  go_wp2_with fail
  refine (takes_any _ _ _ [] _ (Or.inl ⟨rfl, rfl⟩) (by decide)).mono ?_
  rintro e w6 ⟨⟨a, n, c, rfl, ho, hat⟩, hg6⟩
  have hlt := (Array.getElem?_eq_some_iff.1 B0.out).1
  have hsk := h0.size
  have hne : (Value.slice a n c).ownBlock ≠ some w.heap.size := fun hh => by
    rcases hat _ hh with h | h
    · cases h
    · omega
  obtain ⟨b6, hX, hO, gX⟩ := rule_put (lo := 2) (hi := 2) g0 B0.out h0 (grown_refl _) hg6 (fun g e => by cases e) ho hne
  obtain ⟨r0, r1, r2, f0, f1, f2⟩ := rule_cells b6
  have HX := hide hX
  have HO := hide hO
  have GX := hide gX
  clear hX hO gX b6 ho hg6 hne hat hlt hsk
  go_wp2
  refine bodyPost_ret (ret_rule2 rfl _ _ w.heap.size rfl HX.out) rfl ?_
  exact ⟨⟨_, _, _, rfl, HO.out⟩, GX.out⟩

set_option maxRecDepth 100000 in
set_option maxHeartbeats 1600000 in
theorem rule_And (w : World) (hl : Laid w) :
    Calls Tryz.prog 98 #[.string ⟨#[65, 110, 100]⟩] w fun e w' => Ruled (some (2, 2, [thenRa])) w' e ∧ w.grownBy w' none := by
  have e1 : isOne ⟨#[65, 110, 100]⟩ = false := by simp only [isOne, bytes_toList]; rfl
  obtain ⟨w0, hw0⟩ : ∃ w0, w0 = w.alloc (.cells #[.int .i64 0, .int .i64 0, .slice none 0 0] 134) := ⟨_, rfl⟩
  have g0 : w.grownBy w0 none := by rw [hw0]; exact grown_new _ _
  have b0 := heap_alloc_new w (.cells #[.int .i64 0, .int .i64 0, .slice none 0 0] 134)
  rw [← hw0] at b0
  have B0 := hide b0
  have OO := hide (ofone_any ⟨#[65, 110, 100]⟩ w0 (hl.more g0))
  rw [e1] at OO
  clear hl b0 e1
  go_enter Tryz.func98, Tryz.ntmps98
  go_wp2_with fail
  rw [← hw0]
  clear hw0
  refine OO.out.mono ?_
  rintro e v0 ⟨rfl, h0⟩
  go_wp2_with fail
  refine (takes_any _ _ _ [] _ (Or.inl ⟨rfl, rfl⟩) (by decide)).mono ?_
  rintro e w6 ⟨⟨a, n, c, rfl, ho, hat⟩, hg6⟩
  have hlt := (Array.getElem?_eq_some_iff.1 B0.out).1
  have hsk := h0.size
  have hne : (Value.slice a n c).ownBlock ≠ some w.heap.size := fun hh => by
    rcases hat _ hh with h | h
    · cases h
    · omega
  obtain ⟨b6, hX, hO, gX⟩ := rule_put (lo := 2) (hi := 2) g0 B0.out h0 (grown_refl _) hg6 (fun g e => by cases e) ho hne
  obtain ⟨r0, r1, r2, f0, f1, f2⟩ := rule_cells b6
  have HX := hide hX
  have HO := hide hO
  have GX := hide gX
  clear hX hO gX b6 ho hg6 hne hat hlt hsk
  go_wp2
  refine bodyPost_ret (ret_rule2 rfl _ _ w.heap.size rfl HX.out) rfl ?_
  exact ⟨⟨_, _, _, rfl, HO.out⟩, GX.out⟩

set_option maxRecDepth 100000 in
set_option maxHeartbeats 1600000 in
theorem rule_Or (w : World) (hl : Laid w) :
    Calls Tryz.prog 98 #[.string ⟨#[79, 114]⟩] w fun e w' => Ruled (some (2, 2, [thenRa])) w' e ∧ w.grownBy w' none := by
  have e1 : isOne ⟨#[79, 114]⟩ = false := by simp only [isOne, bytes_toList]; rfl
  obtain ⟨w0, hw0⟩ : ∃ w0, w0 = w.alloc (.cells #[.int .i64 0, .int .i64 0, .slice none 0 0] 134) := ⟨_, rfl⟩
  have g0 : w.grownBy w0 none := by rw [hw0]; exact grown_new _ _
  have b0 := heap_alloc_new w (.cells #[.int .i64 0, .int .i64 0, .slice none 0 0] 134)
  rw [← hw0] at b0
  have B0 := hide b0
  have OO := hide (ofone_any ⟨#[79, 114]⟩ w0 (hl.more g0))
  rw [e1] at OO
  clear hl b0 e1
  go_enter Tryz.func98, Tryz.ntmps98
  go_wp2_with fail
  rw [← hw0]
  clear hw0
  refine OO.out.mono ?_
  rintro e v0 ⟨rfl, h0⟩
  go_wp2_with fail
  refine (takes_any _ _ _ [] _ (Or.inl ⟨rfl, rfl⟩) (by decide)).mono ?_
  rintro e w6 ⟨⟨a, n, c, rfl, ho, hat⟩, hg6⟩
  have hlt := (Array.getElem?_eq_some_iff.1 B0.out).1
  have hsk := h0.size
  have hne : (Value.slice a n c).ownBlock ≠ some w.heap.size := fun hh => by
    rcases hat _ hh with h | h
    · cases h
    · omega
  obtain ⟨b6, hX, hO, gX⟩ := rule_put (lo := 2) (hi := 2) g0 B0.out h0 (grown_refl _) hg6 (fun g e => by cases e) ho hne
  obtain ⟨r0, r1, r2, f0, f1, f2⟩ := rule_cells b6
  have HX := hide hX
  have HO := hide hO
  have GX := hide gX
  clear hX hO gX b6 ho hg6 hne hat hlt hsk
  go_wp2
  refine bodyPost_ret (ret_rule2 rfl _ _ w.heap.size rfl HX.out) rfl ?_
  exact ⟨⟨_, _, _, rfl, HO.out⟩, GX.out⟩

set_option maxRecDepth 100000 in
set_option maxHeartbeats 1600000 in
theorem rule_Xor (w : World) (hl : Laid w) :
    Calls Tryz.prog 98 #[.string ⟨#[88, 111, 114]⟩] w fun e w' => Ruled (some (2, 2, [thenRa])) w' e ∧ w.grownBy w' none := by
  have e1 : isOne ⟨#[88, 111, 114]⟩ = false := by simp only [isOne, bytes_toList]; rfl
  obtain ⟨w0, hw0⟩ : ∃ w0, w0 = w.alloc (.cells #[.int .i64 0, .int .i64 0, .slice none 0 0] 134) := ⟨_, rfl⟩
  have g0 : w.grownBy w0 none := by rw [hw0]; exact grown_new _ _
  have b0 := heap_alloc_new w (.cells #[.int .i64 0, .int .i64 0, .slice none 0 0] 134)
  rw [← hw0] at b0
  have B0 := hide b0
  have OO := hide (ofone_any ⟨#[88, 111, 114]⟩ w0 (hl.more g0))
  rw [e1] at OO
  clear hl b0 e1
  go_enter Tryz.func98, Tryz.ntmps98
  go_wp2_with fail
  rw [← hw0]
  clear hw0
  refine OO.out.mono ?_
  rintro e v0 ⟨rfl, h0⟩
  go_wp2_with fail
  refine (takes_any _ _ _ [] _ (Or.inl ⟨rfl, rfl⟩) (by decide)).mono ?_
  rintro e w6 ⟨⟨a, n, c, rfl, ho, hat⟩, hg6⟩
  have hlt := (Array.getElem?_eq_some_iff.1 B0.out).1
  have hsk := h0.size
  have hne : (Value.slice a n c).ownBlock ≠ some w.heap.size := fun hh => by
    rcases hat _ hh with h | h
    · cases h
    · omega
  obtain ⟨b6, hX, hO, gX⟩ := rule_put (lo := 2) (hi := 2) g0 B0.out h0 (grown_refl _) hg6 (fun g e => by cases e) ho hne
  obtain ⟨r0, r1, r2, f0, f1, f2⟩ := rule_cells b6
  have HX := hide hX
  have HO := hide hO
  have GX := hide gX
  clear hX hO gX b6 ho hg6 hne hat hlt hsk
  go_wp2
  refine bodyPost_ret (ret_rule2 rfl _ _ w.heap.size rfl HX.out) rfl ?_
  exact ⟨⟨_, _, _, rfl, HO.out⟩, GX.out⟩

set_option maxRecDepth 100000 in
set_option maxHeartbeats 1600000 in
theorem rule_Equal (w : World) (hl : Laid w) :
    Calls Tryz.prog 98 #[.string ⟨#[69, 113, 117, 97, 108]⟩] w fun e w' => Ruled (some (2, 2, [thenRa])) w' e ∧ w.grownBy w' none := by
  have e1 : isOne ⟨#[69, 113, 117, 97, 108]⟩ = false := by simp only [isOne, bytes_toList]; rfl
  obtain ⟨w0, hw0⟩ : ∃ w0, w0 = w.alloc (.cells #[.int .i64 0, .int .i64 0, .slice none 0 0] 134) := ⟨_, rfl⟩
  have g0 : w.grownBy w0 none := by rw [hw0]; exact grown_new _ _
  have b0 := heap_alloc_new w (.cells #[.int .i64 0, .int .i64 0, .slice none 0 0] 134)
  rw [← hw0] at b0
  have B0 := hide b0
  have OO := hide (ofone_any ⟨#[69, 113, 117, 97, 108]⟩ w0 (hl.more g0))
  rw [e1] at OO
  clear hl b0 e1
  go_enter Tryz.func98, Tryz.ntmps98
  go_wp2_with fail
  rw [← hw0]
  clear hw0
  refine OO.out.mono ?_
  rintro e v0 ⟨rfl, h0⟩
  go_wp2_with fail
  refine (takes_any _ _ _ [] _ (Or.inl ⟨rfl, rfl⟩) (by decide)).mono ?_
  rintro e w6 ⟨⟨a, n, c, rfl, ho, hat⟩, hg6⟩
  have hlt := (Array.getElem?_eq_some_iff.1 B0.out).1
  have hsk := h0.size
  have hne : (Value.slice a n c).ownBlock ≠ some w.heap.size := fun hh => by
    rcases hat _ hh with h | h
    · cases h
    · omega
  obtain ⟨b6, hX, hO, gX⟩ := rule_put (lo := 2) (hi := 2) g0 B0.out h0 (grown_refl _) hg6 (fun g e => by cases e) ho hne
  obtain ⟨r0, r1, r2, f0, f1, f2⟩ := rule_cells b6
  have HX := hide hX
  have HO := hide hO
  have GX := hide gX
  clear hX hO gX b6 ho hg6 hne hat hlt hsk
  go_wp2
  refine bodyPost_ret (ret_rule2 rfl _ _ w.heap.size rfl HX.out) rfl ?_
  exact ⟨⟨_, _, _, rfl, HO.out⟩, GX.out⟩

set_option maxRecDepth 100000 in
set_option maxHeartbeats 1600000 in
theorem rule_Less (w : World) (hl : Laid w) :
    Calls Tryz.prog 98 #[.string ⟨#[76, 101, 115, 115]⟩] w fun e w' => Ruled (some (2, 2, [thenRa])) w' e ∧ w.grownBy w' none := by
  have e1 : isOne ⟨#[76, 101, 115, 115]⟩ = false := by simp only [isOne, bytes_toList]; rfl
  obtain ⟨w0, hw0⟩ : ∃ w0, w0 = w.alloc (.cells #[.int .i64 0, .int .i64 0, .slice none 0 0] 134) := ⟨_, rfl⟩
  have g0 : w.grownBy w0 none := by rw [hw0]; exact grown_new _ _
  have b0 := heap_alloc_new w (.cells #[.int .i64 0, .int .i64 0, .slice none 0 0] 134)
  rw [← hw0] at b0
  have B0 := hide b0
  have OO := hide (ofone_any ⟨#[76, 101, 115, 115]⟩ w0 (hl.more g0))
  rw [e1] at OO
  clear hl b0 e1
  go_enter Tryz.func98, Tryz.ntmps98
  go_wp2_with fail
  rw [← hw0]
  clear hw0
  refine OO.out.mono ?_
  rintro e v0 ⟨rfl, h0⟩
  go_wp2_with fail
  refine (takes_any _ _ _ [] _ (Or.inl ⟨rfl, rfl⟩) (by decide)).mono ?_
  rintro e w6 ⟨⟨a, n, c, rfl, ho, hat⟩, hg6⟩
  have hlt := (Array.getElem?_eq_some_iff.1 B0.out).1
  have hsk := h0.size
  have hne : (Value.slice a n c).ownBlock ≠ some w.heap.size := fun hh => by
    rcases hat _ hh with h | h
    · cases h
    · omega
  obtain ⟨b6, hX, hO, gX⟩ := rule_put (lo := 2) (hi := 2) g0 B0.out h0 (grown_refl _) hg6 (fun g e => by cases e) ho hne
  obtain ⟨r0, r1, r2, f0, f1, f2⟩ := rule_cells b6
  have HX := hide hX
  have HO := hide hO
  have GX := hide gX
  clear hX hO gX b6 ho hg6 hne hat hlt hsk
  go_wp2
  refine bodyPost_ret (ret_rule2 rfl _ _ w.heap.size rfl HX.out) rfl ?_
  exact ⟨⟨_, _, _, rfl, HO.out⟩, GX.out⟩

set_option maxRecDepth 100000 in
set_option maxHeartbeats 1600000 in
theorem rule_Greater (w : World) (hl : Laid w) :
    Calls Tryz.prog 98 #[.string ⟨#[71, 114, 101, 97, 116, 101, 114]⟩] w fun e w' => Ruled (some (2, 2, [thenRa])) w' e ∧ w.grownBy w' none := by
  have e1 : isOne ⟨#[71, 114, 101, 97, 116, 101, 114]⟩ = false := by simp only [isOne, bytes_toList]; rfl
  obtain ⟨w0, hw0⟩ : ∃ w0, w0 = w.alloc (.cells #[.int .i64 0, .int .i64 0, .slice none 0 0] 134) := ⟨_, rfl⟩
  have g0 : w.grownBy w0 none := by rw [hw0]; exact grown_new _ _
  have b0 := heap_alloc_new w (.cells #[.int .i64 0, .int .i64 0, .slice none 0 0] 134)
  rw [← hw0] at b0
  have B0 := hide b0
  have OO := hide (ofone_any ⟨#[71, 114, 101, 97, 116, 101, 114]⟩ w0 (hl.more g0))
  rw [e1] at OO
  clear hl b0 e1
  go_enter Tryz.func98, Tryz.ntmps98
  go_wp2_with fail
  rw [← hw0]
  clear hw0
  refine OO.out.mono ?_
  rintro e v0 ⟨rfl, h0⟩
  go_wp2_with fail
  refine (takes_any _ _ _ [] _ (Or.inl ⟨rfl, rfl⟩) (by decide)).mono ?_
  rintro e w6 ⟨⟨a, n, c, rfl, ho, hat⟩, hg6⟩
  have hlt := (Array.getElem?_eq_some_iff.1 B0.out).1
  have hsk := h0.size
  have hne : (Value.slice a n c).ownBlock ≠ some w.heap.size := fun hh => by
    rcases hat _ hh with h | h
    · cases h
    · omega
  obtain ⟨b6, hX, hO, gX⟩ := rule_put (lo := 2) (hi := 2) g0 B0.out h0 (grown_refl _) hg6 (fun g e => by cases e) ho hne
  obtain ⟨r0, r1, r2, f0, f1, f2⟩ := rule_cells b6
  have HX := hide hX
  have HO := hide hO
  have GX := hide gX
  clear hX hO gX b6 ho hg6 hne hat hlt hsk
  go_wp2
  refine bodyPost_ret (ret_rule2 rfl _ _ w.heap.size rfl HX.out) rfl ?_
  exact ⟨⟨_, _, _, rfl, HO.out⟩, GX.out⟩

set_option maxRecDepth 100000 in
set_option maxHeartbeats 1600000 in
theorem rule_MatMul (w : World) (hl : Laid w) :
    Calls Tryz.prog 98 #[.string ⟨#[77, 97, 116, 77, 117, 108]⟩] w fun e w' => Ruled (some (2, 2, [thenRa])) w' e ∧ w.grownBy w' none := by
  have e1 : isOne ⟨#[77, 97, 116, 77, 117, 108]⟩ = false := by simp only [isOne, bytes_toList]; rfl
  obtain ⟨w0, hw0⟩ : ∃ w0, w0 = w.alloc (.cells #[.int .i64 0, .int .i64 0, .slice none 0 0] 134) := ⟨_, rfl⟩
  have g0 : w.grownBy w0 none := by rw [hw0]; exact grown_new _ _
  have b0 := heap_alloc_new w (.cells #[.int .i64 0, .int .i64 0, .slice none 0 0] 134)
  rw [← hw0] at b0
  have B0 := hide b0
  have OO := hide (ofone_any ⟨#[77, 97, 116, 77, 117, 108]⟩ w0 (hl.more g0))
  rw [e1] at OO
  clear hl b0 e1
  go_enter Tryz.func98, Tryz.ntmps98
  go_wp2_with fail
  rw [← hw0]
  clear hw0
  refine OO.out.mono ?_
  rintro e v0 ⟨rfl, h0⟩
  go_wp2_with fail
  refine (takes_any _ _ _ [] _ (Or.inl ⟨rfl, rfl⟩) (by decide)).mono ?_
  rintro e w6 ⟨⟨a, n, c, rfl, ho, hat⟩, hg6⟩
  have hlt := (Array.getElem?_eq_some_iff.1 B0.out).1
  have hsk := h0.size
  have hne : (Value.slice a n c).ownBlock ≠ some w.heap.size := fun hh => by
    rcases hat _ hh with h | h
    · cases h
    · omega
  obtain ⟨b6, hX, hO, gX⟩ := rule_put (lo := 2) (hi := 2) g0 B0.out h0 (grown_refl _) hg6 (fun g e => by cases e) ho hne
  obtain ⟨r0, r1, r2, f0, f1, f2⟩ := rule_cells b6
  have HX := hide hX
  have HO := hide hO
  have GX := hide gX
  clear hX hO gX b6 ho hg6 hne hat hlt hsk
  go_wp2
  refine bodyPost_ret (ret_rule2 rfl _ _ w.heap.size rfl HX.out) rfl ?_
  exact ⟨⟨_, _, _, rfl, HO.out⟩, GX.out⟩

end Go.Proofs.YteigfipgmghgmaaGreatDoor
