/- What an operator takes, operator by operator (mkRule.py). -/
import Derived.Test.YteigfipgmghgmaaGreatDoorNRuleA
namespace Go.Proofs.YteigfipgmghgmaaGreatDoor
open Go.RowKit

set_option maxRecDepth 100000 in
set_option maxHeartbeats 1600000 in
theorem rule_Where (w : World) (hl : Laid w) :
    Calls Tryz.prog 98 #[.string ⟨#[87, 104, 101, 114, 101]⟩] w fun e w' => Ruled (some (3, 3, [thenRa])) w' e ∧ w.grownBy w' none := by
  have e1 : isOne ⟨#[87, 104, 101, 114, 101]⟩ = false := by simp only [isOne, bytes_toList]; rfl
  obtain ⟨w0, hw0⟩ : ∃ w0, w0 = w.alloc (.cells #[.int .i64 0, .int .i64 0, .slice none 0 0] 134) := ⟨_, rfl⟩
  have g0 : w.grownBy w0 none := by rw [hw0]; exact grown_new _ _
  have b0 := heap_alloc_new w (.cells #[.int .i64 0, .int .i64 0, .slice none 0 0] 134)
  rw [← hw0] at b0
  have B0 := hide b0
  have OO := hide (ofone_any ⟨#[87, 104, 101, 114, 101]⟩ w0 (hl.more g0))
  rw [e1] at OO
  clear hl b0 e1
  go_enter Tryz.func98, Tryz.ntmps98
  go_wp2_with fail
  rw [← hw0]
  clear hw0
  refine OO.out.mono ?_
  rintro e v0 ⟨rfl, h0⟩
  go_wp2_with fail
  refine (takes_any _ _ _ [] _ (Or.inl ⟨rfl, rfl⟩) (by decide)).mono ?_
  rintro e w6 ⟨⟨a, n, c, rfl, ho, hat⟩, hg6⟩
  have hlt := (Array.getElem?_eq_some_iff.1 B0.out).1
  have hsk := h0.size
  have hne : (Value.slice a n c).ownBlock ≠ some w.heap.size := fun hh => by
    rcases hat _ hh with h | h
    · cases h
    · omega
  obtain ⟨b6, hX, hO, gX⟩ := rule_put (lo := 3) (hi := 3) g0 B0.out h0 (grown_refl _) hg6 (fun g e => by cases e) ho hne
  obtain ⟨r0, r1, r2, f0, f1, f2⟩ := rule_cells b6
  have HX := hide hX
  have HO := hide hO
  have GX := hide gX
  clear hX hO gX b6 ho hg6 hne hat hlt hsk
  go_wp2
  refine bodyPost_ret (ret_rule2 rfl _ _ w.heap.size rfl HX.out) rfl ?_
  exact ⟨⟨_, _, _, rfl, HO.out⟩, GX.out⟩

set_option maxRecDepth 100000 in
set_option maxHeartbeats 1600000 in
theorem rule_Clip (w : World) (hl : Laid w) :
    Calls Tryz.prog 98 #[.string ⟨#[67, 108, 105, 112]⟩] w fun e w' => Ruled (some (1, 1, [⟨⟨#[109, 105, 110]⟩, 1, false⟩, ⟨⟨#[109, 97, 120]⟩, 1, false⟩, thenRa])) w' e ∧ w.grownBy w' none := by
  have e1 : isOne ⟨#[67, 108, 105, 112]⟩ = false := by simp only [isOne, bytes_toList]; rfl
  obtain ⟨w0, hw0⟩ : ∃ w0, w0 = w.alloc (.cells #[.int .i64 0, .int .i64 0, .slice none 0 0] 134) := ⟨_, rfl⟩
  have g0 : w.grownBy w0 none := by rw [hw0]; exact grown_new _ _
  have b0 := heap_alloc_new w (.cells #[.int .i64 0, .int .i64 0, .slice none 0 0] 134)
  rw [← hw0] at b0
  have B0 := hide b0
  have OO := hide (ofone_any ⟨#[67, 108, 105, 112]⟩ w0 (hl.more g0))
  rw [e1] at OO
  clear hl b0 e1
  go_enter Tryz.func98, Tryz.ntmps98
  go_wp2_with fail
  rw [← hw0]
  clear hw0
  refine OO.out.mono ?_
  rintro e v0 ⟨rfl, h0⟩
  go_wp2_with fail
  refine (may_any _ _ _).mono ?_
  rintro e v1 ⟨rfl, h1'⟩
  have h1 := grown_trans h0 h1'
  go_wp2_with fail
  refine (may_any _ _ _).mono ?_
  rintro e v2 ⟨rfl, h2'⟩
  have h2 := grown_trans h1 h2'
  go_wp2_with fail
  refine (takes_any _ _ _ [⟨⟨#[109, 105, 110]⟩, 1, false⟩, ⟨⟨#[109, 97, 120]⟩, 1, false⟩] _ (Or.inr ⟨_, _, rfl, heap_alloc_new _ _, rfl, rfl⟩) (by decide)).mono ?_
  rintro e w6 ⟨⟨a, n, c, rfl, ho, hat⟩, hg6⟩
  have hlt := (Array.getElem?_eq_some_iff.1 B0.out).1
  have hsk := h2.size
  have hne : (Value.slice a n c).ownBlock ≠ some w.heap.size := fun hh => by
    rcases hat _ hh with h | h
    · have : v2.heap.size = w.heap.size := by simpa [Value.ownBlock] using h
      omega
    · have : v2.heap.size + 1 ≤ w.heap.size := by simpa using h
      omega
  obtain ⟨b6, hX, hO, gX⟩ := rule_put (lo := 1) (hi := 1) g0 B0.out h2 (grown_new v2 (.cells #[.string ⟨#[109, 105, 110]⟩, .int .i64 1, .bool false, .string ⟨#[109, 97, 120]⟩, .int .i64 1, .bool false] 161)) hg6 (fun g e => by cases e; exact Nat.le_refl _) ho hne
  obtain ⟨r0, r1, r2, f0, f1, f2⟩ := rule_cells b6
  have HX := hide hX
  have HO := hide hO
  have GX := hide gX
  clear hX hO gX b6 ho hg6 hne hat hlt hsk
  go_wp2
  refine bodyPost_ret (ret_rule2 rfl _ _ w.heap.size rfl HX.out) rfl ?_
  exact ⟨⟨_, _, _, rfl, HO.out⟩, GX.out⟩

set_option maxRecDepth 100000 in
set_option maxHeartbeats 1600000 in
theorem rule_ReduceSum (w : World) (hl : Laid w) :
    Calls Tryz.prog 98 #[.string ⟨#[82, 101, 100, 117, 99, 101, 83, 117, 109]⟩] w fun e w' => Ruled (some (1, 1, [⟨⟨#[97, 120, 101, 115]⟩, 7, false⟩, ⟨⟨#[107, 101, 101, 112, 100, 105, 109, 115]⟩, 2, false⟩, thenRa])) w' e ∧ w.grownBy w' none := by
  have e1 : isOne ⟨#[82, 101, 100, 117, 99, 101, 83, 117, 109]⟩ = false := by simp only [isOne, bytes_toList]; rfl
  obtain ⟨w0, hw0⟩ : ∃ w0, w0 = w.alloc (.cells #[.int .i64 0, .int .i64 0, .slice none 0 0] 134) := ⟨_, rfl⟩
  have g0 : w.grownBy w0 none := by rw [hw0]; exact grown_new _ _
  have b0 := heap_alloc_new w (.cells #[.int .i64 0, .int .i64 0, .slice none 0 0] 134)
  rw [← hw0] at b0
  have B0 := hide b0
  have OO := hide (ofone_any ⟨#[82, 101, 100, 117, 99, 101, 83, 117, 109]⟩ w0 (hl.more g0))
  rw [e1] at OO
  clear hl b0 e1
  go_enter Tryz.func98, Tryz.ntmps98
  go_wp2_with fail
  rw [← hw0]
  clear hw0
  refine OO.out.mono ?_
  rintro e v0 ⟨rfl, h0⟩
  go_wp2_with fail
  refine (may_any _ _ _).mono ?_
  rintro e v1 ⟨rfl, h1'⟩
  have h1 := grown_trans h0 h1'
  go_wp2_with fail
  refine (may_any _ _ _).mono ?_
  rintro e v2 ⟨rfl, h2'⟩
  have h2 := grown_trans h1 h2'
  go_wp2_with fail
  refine (takes_any _ _ _ [⟨⟨#[97, 120, 101, 115]⟩, 7, false⟩, ⟨⟨#[107, 101, 101, 112, 100, 105, 109, 115]⟩, 2, false⟩] _ (Or.inr ⟨_, _, rfl, heap_alloc_new _ _, rfl, rfl⟩) (by decide)).mono ?_
  rintro e w6 ⟨⟨a, n, c, rfl, ho, hat⟩, hg6⟩
  have hlt := (Array.getElem?_eq_some_iff.1 B0.out).1
  have hsk := h2.size
  have hne : (Value.slice a n c).ownBlock ≠ some w.heap.size := fun hh => by
    rcases hat _ hh with h | h
    · have : v2.heap.size = w.heap.size := by simpa [Value.ownBlock] using h
      omega
    · have : v2.heap.size + 1 ≤ w.heap.size := by simpa using h
      omega
  obtain ⟨b6, hX, hO, gX⟩ := rule_put (lo := 1) (hi := 1) g0 B0.out h2 (grown_new v2 (.cells #[.string ⟨#[97, 120, 101, 115]⟩, .int .i64 7, .bool false, .string ⟨#[107, 101, 101, 112, 100, 105, 109, 115]⟩, .int .i64 2, .bool false] 161)) hg6 (fun g e => by cases e; exact Nat.le_refl _) ho hne
  obtain ⟨r0, r1, r2, f0, f1, f2⟩ := rule_cells b6
  have HX := hide hX
  have HO := hide hO
  have GX := hide gX
  clear hX hO gX b6 ho hg6 hne hat hlt hsk
  go_wp2
  refine bodyPost_ret (ret_rule2 rfl _ _ w.heap.size rfl HX.out) rfl ?_
  exact ⟨⟨_, _, _, rfl, HO.out⟩, GX.out⟩

set_option maxRecDepth 100000 in
set_option maxHeartbeats 1600000 in
theorem rule_ReduceMax (w : World) (hl : Laid w) :
    Calls Tryz.prog 98 #[.string ⟨#[82, 101, 100, 117, 99, 101, 77, 97, 120]⟩] w fun e w' => Ruled (some (1, 1, [⟨⟨#[97, 120, 101, 115]⟩, 7, false⟩, ⟨⟨#[107, 101, 101, 112, 100, 105, 109, 115]⟩, 2, false⟩, thenRa])) w' e ∧ w.grownBy w' none := by
  have e1 : isOne ⟨#[82, 101, 100, 117, 99, 101, 77, 97, 120]⟩ = false := by simp only [isOne, bytes_toList]; rfl
  obtain ⟨w0, hw0⟩ : ∃ w0, w0 = w.alloc (.cells #[.int .i64 0, .int .i64 0, .slice none 0 0] 134) := ⟨_, rfl⟩
  have g0 : w.grownBy w0 none := by rw [hw0]; exact grown_new _ _
  have b0 := heap_alloc_new w (.cells #[.int .i64 0, .int .i64 0, .slice none 0 0] 134)
  rw [← hw0] at b0
  have B0 := hide b0
  have OO := hide (ofone_any ⟨#[82, 101, 100, 117, 99, 101, 77, 97, 120]⟩ w0 (hl.more g0))
  rw [e1] at OO
  clear hl b0 e1
  go_enter Tryz.func98, Tryz.ntmps98
  go_wp2_with fail
  rw [← hw0]
  clear hw0
  refine OO.out.mono ?_
  rintro e v0 ⟨rfl, h0⟩
  go_wp2_with fail
  refine (may_any _ _ _).mono ?_
  rintro e v1 ⟨rfl, h1'⟩
  have h1 := grown_trans h0 h1'
  go_wp2_with fail
  refine (may_any _ _ _).mono ?_
  rintro e v2 ⟨rfl, h2'⟩
  have h2 := grown_trans h1 h2'
  go_wp2_with fail
  refine (takes_any _ _ _ [⟨⟨#[97, 120, 101, 115]⟩, 7, false⟩, ⟨⟨#[107, 101, 101, 112, 100, 105, 109, 115]⟩, 2, false⟩] _ (Or.inr ⟨_, _, rfl, heap_alloc_new _ _, rfl, rfl⟩) (by decide)).mono ?_
  rintro e w6 ⟨⟨a, n, c, rfl, ho, hat⟩, hg6⟩
  have hlt := (Array.getElem?_eq_some_iff.1 B0.out).1
  have hsk := h2.size
  have hne : (Value.slice a n c).ownBlock ≠ some w.heap.size := fun hh => by
    rcases hat _ hh with h | h
    · have : v2.heap.size = w.heap.size := by simpa [Value.ownBlock] using h
      omega
    · have : v2.heap.size + 1 ≤ w.heap.size := by simpa using h
      omega
  obtain ⟨b6, hX, hO, gX⟩ := rule_put (lo := 1) (hi := 1) g0 B0.out h2 (grown_new v2 (.cells #[.string ⟨#[97, 120, 101, 115]⟩, .int .i64 7, .bool false, .string ⟨#[107, 101, 101, 112, 100, 105, 109, 115]⟩, .int .i64 2, .bool false] 161)) hg6 (fun g e => by cases e; exact Nat.le_refl _) ho hne
  obtain ⟨r0, r1, r2, f0, f1, f2⟩ := rule_cells b6
  have HX := hide hX
  have HO := hide hO
  have GX := hide gX
  clear hX hO gX b6 ho hg6 hne hat hlt hsk
  go_wp2
  refine bodyPost_ret (ret_rule2 rfl _ _ w.heap.size rfl HX.out) rfl ?_
  exact ⟨⟨_, _, _, rfl, HO.out⟩, GX.out⟩

set_option maxRecDepth 100000 in
set_option maxHeartbeats 1600000 in
theorem rule_ReduceMean (w : World) (hl : Laid w) :
    Calls Tryz.prog 98 #[.string ⟨#[82, 101, 100, 117, 99, 101, 77, 101, 97, 110]⟩] w fun e w' => Ruled (some (1, 1, [⟨⟨#[97, 120, 101, 115]⟩, 7, false⟩, ⟨⟨#[107, 101, 101, 112, 100, 105, 109, 115]⟩, 2, false⟩, thenRa])) w' e ∧ w.grownBy w' none := by
  have e1 : isOne ⟨#[82, 101, 100, 117, 99, 101, 77, 101, 97, 110]⟩ = false := by simp only [isOne, bytes_toList]; rfl
  obtain ⟨w0, hw0⟩ : ∃ w0, w0 = w.alloc (.cells #[.int .i64 0, .int .i64 0, .slice none 0 0] 134) := ⟨_, rfl⟩
  have g0 : w.grownBy w0 none := by rw [hw0]; exact grown_new _ _
  have b0 := heap_alloc_new w (.cells #[.int .i64 0, .int .i64 0, .slice none 0 0] 134)
  rw [← hw0] at b0
  have B0 := hide b0
  have OO := hide (ofone_any ⟨#[82, 101, 100, 117, 99, 101, 77, 101, 97, 110]⟩ w0 (hl.more g0))
  rw [e1] at OO
  clear hl b0 e1
  go_enter Tryz.func98, Tryz.ntmps98
  go_wp2_with fail
  rw [← hw0]
  clear hw0
  refine OO.out.mono ?_
  rintro e v0 ⟨rfl, h0⟩
  go_wp2_with fail
  refine (may_any _ _ _).mono ?_
  rintro e v1 ⟨rfl, h1'⟩
  have h1 := grown_trans h0 h1'
  go_wp2_with fail
  refine (may_any _ _ _).mono ?_
  rintro e v2 ⟨rfl, h2'⟩
  have h2 := grown_trans h1 h2'
  go_wp2_with fail
  refine (takes_any _ _ _ [⟨⟨#[97, 120, 101, 115]⟩, 7, false⟩, ⟨⟨#[107, 101, 101, 112, 100, 105, 109, 115]⟩, 2, false⟩] _ (Or.inr ⟨_, _, rfl, heap_alloc_new _ _, rfl, rfl⟩) (by decide)).mono ?_
  rintro e w6 ⟨⟨a, n, c, rfl, ho, hat⟩, hg6⟩
  have hlt := (Array.getElem?_eq_some_iff.1 B0.out).1
  have hsk := h2.size
  have hne : (Value.slice a n c).ownBlock ≠ some w.heap.size := fun hh => by
    rcases hat _ hh with h | h
    · have : v2.heap.size = w.heap.size := by simpa [Value.ownBlock] using h
      omega
    · have : v2.heap.size + 1 ≤ w.heap.size := by simpa using h
      omega
  obtain ⟨b6, hX, hO, gX⟩ := rule_put (lo := 1) (hi := 1) g0 B0.out h2 (grown_new v2 (.cells #[.string ⟨#[97, 120, 101, 115]⟩, .int .i64 7, .bool false, .string ⟨#[107, 101, 101, 112, 100, 105, 109, 115]⟩, .int .i64 2, .bool false] 161)) hg6 (fun g e => by cases e; exact Nat.le_refl _) ho hne
  obtain ⟨r0, r1, r2, f0, f1, f2⟩ := rule_cells b6
  have HX := hide hX
  have HO := hide hO
  have GX := hide gX
  clear hX hO gX b6 ho hg6 hne hat hlt hsk
  go_wp2
  refine bodyPost_ret (ret_rule2 rfl _ _ w.heap.size rfl HX.out) rfl ?_
  exact ⟨⟨_, _, _, rfl, HO.out⟩, GX.out⟩

set_option maxRecDepth 100000 in
set_option maxHeartbeats 1600000 in
theorem rule_ArgMax (w : World) (hl : Laid w) :
    Calls Tryz.prog 98 #[.string ⟨#[65, 114, 103, 77, 97, 120]⟩] w fun e w' => Ruled (some (1, 1, [⟨⟨#[97, 120, 105, 115]⟩, 2, false⟩, ⟨⟨#[107, 101, 101, 112, 100, 105, 109, 115]⟩, 2, false⟩, thenRa])) w' e ∧ w.grownBy w' none := by
  have e1 : isOne ⟨#[65, 114, 103, 77, 97, 120]⟩ = false := by simp only [isOne, bytes_toList]; rfl
  obtain ⟨w0, hw0⟩ : ∃ w0, w0 = w.alloc (.cells #[.int .i64 0, .int .i64 0, .slice none 0 0] 134) := ⟨_, rfl⟩
  have g0 : w.grownBy w0 none := by rw [hw0]; exact grown_new _ _
  have b0 := heap_alloc_new w (.cells #[.int .i64 0, .int .i64 0, .slice none 0 0] 134)
  rw [← hw0] at b0
  have B0 := hide b0
  have OO := hide (ofone_any ⟨#[65, 114, 103, 77, 97, 120]⟩ w0 (hl.more g0))
  rw [e1] at OO
  clear hl b0 e1
  go_enter Tryz.func98, Tryz.ntmps98
  go_wp2_with fail
  rw [← hw0]
  clear hw0
  refine OO.out.mono ?_
  rintro e v0 ⟨rfl, h0⟩
  go_wp2_with fail
  refine (may_any _ _ _).mono ?_
  rintro e v1 ⟨rfl, h1'⟩
  have h1 := grown_trans h0 h1'
  go_wp2_with fail
  refine (may_any _ _ _).mono ?_
  rintro e v2 ⟨rfl, h2'⟩
  have h2 := grown_trans h1 h2'
  go_wp2_with fail
  refine (takes_any _ _ _ [⟨⟨#[97, 120, 105, 115]⟩, 2, false⟩, ⟨⟨#[107, 101, 101, 112, 100, 105, 109, 115]⟩, 2, false⟩] _ (Or.inr ⟨_, _, rfl, heap_alloc_new _ _, rfl, rfl⟩) (by decide)).mono ?_
  rintro e w6 ⟨⟨a, n, c, rfl, ho, hat⟩, hg6⟩
  have hlt := (Array.getElem?_eq_some_iff.1 B0.out).1
  have hsk := h2.size
  have hne : (Value.slice a n c).ownBlock ≠ some w.heap.size := fun hh => by
    rcases hat _ hh with h | h
    · have : v2.heap.size = w.heap.size := by simpa [Value.ownBlock] using h
      omega
    · have : v2.heap.size + 1 ≤ w.heap.size := by simpa using h
      omega
  obtain ⟨b6, hX, hO, gX⟩ := rule_put (lo := 1) (hi := 1) g0 B0.out h2 (grown_new v2 (.cells #[.string ⟨#[97, 120, 105, 115]⟩, .int .i64 2, .bool false, .string ⟨#[107, 101, 101, 112, 100, 105, 109, 115]⟩, .int .i64 2, .bool false] 161)) hg6 (fun g e => by cases e; exact Nat.le_refl _) ho hne
  obtain ⟨r0, r1, r2, f0, f1, f2⟩ := rule_cells b6
  have HX := hide hX
  have HO := hide hO
  have GX := hide gX
  clear hX hO gX b6 ho hg6 hne hat hlt hsk
  go_wp2
  refine bodyPost_ret (ret_rule2 rfl _ _ w.heap.size rfl HX.out) rfl ?_
  exact ⟨⟨_, _, _, rfl, HO.out⟩, GX.out⟩

set_option maxRecDepth 100000 in
set_option maxHeartbeats 1600000 in
theorem rule_Reshape (w : World) (hl : Laid w) :
    Calls Tryz.prog 98 #[.string ⟨#[82, 101, 115, 104, 97, 112, 101]⟩] w fun e w' => Ruled (some (1, 1, [⟨⟨#[115, 104, 97, 112, 101]⟩, 7, true⟩, thenRa])) w' e ∧ w.grownBy w' none := by
  have e1 : isOne ⟨#[82, 101, 115, 104, 97, 112, 101]⟩ = false := by simp only [isOne, bytes_toList]; rfl
  obtain ⟨w0, hw0⟩ : ∃ w0, w0 = w.alloc (.cells #[.int .i64 0, .int .i64 0, .slice none 0 0] 134) := ⟨_, rfl⟩
  have g0 : w.grownBy w0 none := by rw [hw0]; exact grown_new _ _
  have b0 := heap_alloc_new w (.cells #[.int .i64 0, .int .i64 0, .slice none 0 0] 134)
  rw [← hw0] at b0
  have B0 := hide b0
  have OO := hide (ofone_any ⟨#[82, 101, 115, 104, 97, 112, 101]⟩ w0 (hl.more g0))
  rw [e1] at OO
  clear hl b0 e1
  go_enter Tryz.func98, Tryz.ntmps98
  go_wp2_with fail
  rw [← hw0]
  clear hw0
  refine OO.out.mono ?_
  rintro e v0 ⟨rfl, h0⟩
  go_wp2_with fail
  refine (must_any _ _ _).mono ?_
  rintro e v1 ⟨rfl, h1'⟩
  have h1 := grown_trans h0 h1'
  go_wp2_with fail
  refine (takes_any _ _ _ [⟨⟨#[115, 104, 97, 112, 101]⟩, 7, true⟩] _ (Or.inr ⟨_, _, rfl, heap_alloc_new _ _, rfl, rfl⟩) (by decide)).mono ?_
  rintro e w6 ⟨⟨a, n, c, rfl, ho, hat⟩, hg6⟩
  have hlt := (Array.getElem?_eq_some_iff.1 B0.out).1
  have hsk := h1.size
  have hne : (Value.slice a n c).ownBlock ≠ some w.heap.size := fun hh => by
    rcases hat _ hh with h | h
    · have : v1.heap.size = w.heap.size := by simpa [Value.ownBlock] using h
      omega
    · have : v1.heap.size + 1 ≤ w.heap.size := by simpa using h
      omega
  obtain ⟨b6, hX, hO, gX⟩ := rule_put (lo := 1) (hi := 1) g0 B0.out h1 (grown_new v1 (.cells #[.string ⟨#[115, 104, 97, 112, 101]⟩, .int .i64 7, .bool true] 161)) hg6 (fun g e => by cases e; exact Nat.le_refl _) ho hne
  obtain ⟨r0, r1, r2, f0, f1, f2⟩ := rule_cells b6
  have HX := hide hX
  have HO := hide hO
  have GX := hide gX
  clear hX hO gX b6 ho hg6 hne hat hlt hsk
  go_wp2
  refine bodyPost_ret (ret_rule2 rfl _ _ w.heap.size rfl HX.out) rfl ?_
  exact ⟨⟨_, _, _, rfl, HO.out⟩, GX.out⟩

set_option maxRecDepth 100000 in
set_option maxHeartbeats 1600000 in
theorem rule_Expand (w : World) (hl : Laid w) :
    Calls Tryz.prog 98 #[.string ⟨#[69, 120, 112, 97, 110, 100]⟩] w fun e w' => Ruled (some (1, 1, [⟨⟨#[115, 104, 97, 112, 101]⟩, 7, true⟩, thenRa])) w' e ∧ w.grownBy w' none := by
  have e1 : isOne ⟨#[69, 120, 112, 97, 110, 100]⟩ = false := by simp only [isOne, bytes_toList]; rfl
  obtain ⟨w0, hw0⟩ : ∃ w0, w0 = w.alloc (.cells #[.int .i64 0, .int .i64 0, .slice none 0 0] 134) := ⟨_, rfl⟩
  have g0 : w.grownBy w0 none := by rw [hw0]; exact grown_new _ _
  have b0 := heap_alloc_new w (.cells #[.int .i64 0, .int .i64 0, .slice none 0 0] 134)
  rw [← hw0] at b0
  have B0 := hide b0
  have OO := hide (ofone_any ⟨#[69, 120, 112, 97, 110, 100]⟩ w0 (hl.more g0))
  rw [e1] at OO
  clear hl b0 e1
  go_enter Tryz.func98, Tryz.ntmps98
  go_wp2_with fail
  rw [← hw0]
  clear hw0
  refine OO.out.mono ?_
  rintro e v0 ⟨rfl, h0⟩
  go_wp2_with fail
  refine (must_any _ _ _).mono ?_
  rintro e v1 ⟨rfl, h1'⟩
  have h1 := grown_trans h0 h1'
  go_wp2_with fail
  refine (takes_any _ _ _ [⟨⟨#[115, 104, 97, 112, 101]⟩, 7, true⟩] _ (Or.inr ⟨_, _, rfl, heap_alloc_new _ _, rfl, rfl⟩) (by decide)).mono ?_
  rintro e w6 ⟨⟨a, n, c, rfl, ho, hat⟩, hg6⟩
  have hlt := (Array.getElem?_eq_some_iff.1 B0.out).1
  have hsk := h1.size
  have hne : (Value.slice a n c).ownBlock ≠ some w.heap.size := fun hh => by
    rcases hat _ hh with h | h
    · have : v1.heap.size = w.heap.size := by simpa [Value.ownBlock] using h
      omega
    · have : v1.heap.size + 1 ≤ w.heap.size := by simpa using h
      omega
  obtain ⟨b6, hX, hO, gX⟩ := rule_put (lo := 1) (hi := 1) g0 B0.out h1 (grown_new v1 (.cells #[.string ⟨#[115, 104, 97, 112, 101]⟩, .int .i64 7, .bool true] 161)) hg6 (fun g e => by cases e; exact Nat.le_refl _) ho hne
  obtain ⟨r0, r1, r2, f0, f1, f2⟩ := rule_cells b6
  have HX := hide hX
  have HO := hide hO
  have GX := hide gX
  clear hX hO gX b6 ho hg6 hne hat hlt hsk
  go_wp2
  refine bodyPost_ret (ret_rule2 rfl _ _ w.heap.size rfl HX.out) rfl ?_
  exact ⟨⟨_, _, _, rfl, HO.out⟩, GX.out⟩

set_option maxRecDepth 100000 in
set_option maxHeartbeats 1600000 in
theorem rule_Transpose (w : World) (hl : Laid w) :
    Calls Tryz.prog 98 #[.string ⟨#[84, 114, 97, 110, 115, 112, 111, 115, 101]⟩] w fun e w' => Ruled (some (1, 1, [⟨⟨#[112, 101, 114, 109]⟩, 7, false⟩, thenRa])) w' e ∧ w.grownBy w' none := by
  have e1 : isOne ⟨#[84, 114, 97, 110, 115, 112, 111, 115, 101]⟩ = false := by simp only [isOne, bytes_toList]; rfl
  obtain ⟨w0, hw0⟩ : ∃ w0, w0 = w.alloc (.cells #[.int .i64 0, .int .i64 0, .slice none 0 0] 134) := ⟨_, rfl⟩
  have g0 : w.grownBy w0 none := by rw [hw0]; exact grown_new _ _
  have b0 := heap_alloc_new w (.cells #[.int .i64 0, .int .i64 0, .slice none 0 0] 134)
  rw [← hw0] at b0
  have B0 := hide b0
  have OO := hide (ofone_any ⟨#[84, 114, 97, 110, 115, 112, 111, 115, 101]⟩ w0 (hl.more g0))
  rw [e1] at OO
  clear hl b0 e1
  go_enter Tryz.func98, Tryz.ntmps98
  go_wp2_with fail
  rw [← hw0]
  clear hw0
  refine OO.out.mono ?_
  rintro e v0 ⟨rfl, h0⟩
  go_wp2_with fail
  refine (may_any _ _ _).mono ?_
  rintro e v1 ⟨rfl, h1'⟩
  have h1 := grown_trans h0 h1'
  go_wp2_with fail
  refine (takes_any _ _ _ [⟨⟨#[112, 101, 114, 109]⟩, 7, false⟩] _ (Or.inr ⟨_, _, rfl, heap_alloc_new _ _, rfl, rfl⟩) (by decide)).mono ?_
  rintro e w6 ⟨⟨a, n, c, rfl, ho, hat⟩, hg6⟩
  have hlt := (Array.getElem?_eq_some_iff.1 B0.out).1
  have hsk := h1.size
  have hne : (Value.slice a n c).ownBlock ≠ some w.heap.size := fun hh => by
    rcases hat _ hh with h | h
    · have : v1.heap.size = w.heap.size := by simpa [Value.ownBlock] using h
      omega
    · have : v1.heap.size + 1 ≤ w.heap.size := by simpa using h
      omega
  obtain ⟨b6, hX, hO, gX⟩ := rule_put (lo := 1) (hi := 1) g0 B0.out h1 (grown_new v1 (.cells #[.string ⟨#[112, 101, 114, 109]⟩, .int .i64 7, .bool false] 161)) hg6 (fun g e => by cases e; exact Nat.le_refl _) ho hne
  obtain ⟨r0, r1, r2, f0, f1, f2⟩ := rule_cells b6
  have HX := hide hX
  have HO := hide hO
  have GX := hide gX
  clear hX hO gX b6 ho hg6 hne hat hlt hsk
  go_wp2
  refine bodyPost_ret (ret_rule2 rfl _ _ w.heap.size rfl HX.out) rfl ?_
  exact ⟨⟨_, _, _, rfl, HO.out⟩, GX.out⟩

set_option maxRecDepth 100000 in
set_option maxHeartbeats 1600000 in
theorem rule_Concat (w : World) (hl : Laid w) :
    Calls Tryz.prog 98 #[.string ⟨#[67, 111, 110, 99, 97, 116]⟩] w fun e w' => Ruled (some (1, 20, [⟨⟨#[97, 120, 105, 115]⟩, 2, true⟩, thenRa])) w' e ∧ w.grownBy w' none := by
  have e1 : isOne ⟨#[67, 111, 110, 99, 97, 116]⟩ = false := by simp only [isOne, bytes_toList]; rfl
  obtain ⟨w0, hw0⟩ : ∃ w0, w0 = w.alloc (.cells #[.int .i64 0, .int .i64 0, .slice none 0 0] 134) := ⟨_, rfl⟩
  have g0 : w.grownBy w0 none := by rw [hw0]; exact grown_new _ _
  have b0 := heap_alloc_new w (.cells #[.int .i64 0, .int .i64 0, .slice none 0 0] 134)
  rw [← hw0] at b0
  have B0 := hide b0
  have OO := hide (ofone_any ⟨#[67, 111, 110, 99, 97, 116]⟩ w0 (hl.more g0))
  rw [e1] at OO
  clear hl b0 e1
  go_enter Tryz.func98, Tryz.ntmps98
  go_wp2_with fail
  rw [← hw0]
  clear hw0
  refine OO.out.mono ?_
  rintro e v0 ⟨rfl, h0⟩
  go_wp2_with fail
  refine (must_any _ _ _).mono ?_
  rintro e v1 ⟨rfl, h1'⟩
  have h1 := grown_trans h0 h1'
  go_wp2_with fail
  refine (takes_any _ _ _ [⟨⟨#[97, 120, 105, 115]⟩, 2, true⟩] _ (Or.inr ⟨_, _, rfl, heap_alloc_new _ _, rfl, rfl⟩) (by decide)).mono ?_
  rintro e w6 ⟨⟨a, n, c, rfl, ho, hat⟩, hg6⟩
  have hlt := (Array.getElem?_eq_some_iff.1 B0.out).1
  have hsk := h1.size
  have hne : (Value.slice a n c).ownBlock ≠ some w.heap.size := fun hh => by
    rcases hat _ hh with h | h
    · have : v1.heap.size = w.heap.size := by simpa [Value.ownBlock] using h
      omega
    · have : v1.heap.size + 1 ≤ w.heap.size := by simpa using h
      omega
  obtain ⟨b6, hX, hO, gX⟩ := rule_put (lo := 1) (hi := 20) g0 B0.out h1 (grown_new v1 (.cells #[.string ⟨#[97, 120, 105, 115]⟩, .int .i64 2, .bool true] 161)) hg6 (fun g e => by cases e; exact Nat.le_refl _) ho hne
  obtain ⟨r0, r1, r2, f0, f1, f2⟩ := rule_cells b6
  have HX := hide hX
  have HO := hide hO
  have GX := hide gX
  clear hX hO gX b6 ho hg6 hne hat hlt hsk
  go_wp2
  refine bodyPost_ret (ret_rule2 rfl _ _ w.heap.size rfl HX.out) rfl ?_
  exact ⟨⟨_, _, _, rfl, HO.out⟩, GX.out⟩

set_option maxRecDepth 100000 in
set_option maxHeartbeats 1600000 in
theorem rule_Slice (w : World) (hl : Laid w) :
    Calls Tryz.prog 98 #[.string ⟨#[83, 108, 105, 99, 101]⟩] w fun e w' => Ruled (some (1, 1, [⟨⟨#[115, 116, 97, 114, 116, 115]⟩, 7, true⟩, ⟨⟨#[101, 110, 100, 115]⟩, 7, true⟩, ⟨⟨#[97, 120, 101, 115]⟩, 7, false⟩, thenRa])) w' e ∧ w.grownBy w' none := by
  have e1 : isOne ⟨#[83, 108, 105, 99, 101]⟩ = false := by simp only [isOne, bytes_toList]; rfl
  obtain ⟨w0, hw0⟩ : ∃ w0, w0 = w.alloc (.cells #[.int .i64 0, .int .i64 0, .slice none 0 0] 134) := ⟨_, rfl⟩
  have g0 : w.grownBy w0 none := by rw [hw0]; exact grown_new _ _
  have b0 := heap_alloc_new w (.cells #[.int .i64 0, .int .i64 0, .slice none 0 0] 134)
  rw [← hw0] at b0
  have B0 := hide b0
  have OO := hide (ofone_any ⟨#[83, 108, 105, 99, 101]⟩ w0 (hl.more g0))
  rw [e1] at OO
  clear hl b0 e1
  go_enter Tryz.func98, Tryz.ntmps98
  go_wp2_with fail
  rw [← hw0]
  clear hw0
  refine OO.out.mono ?_
  rintro e v0 ⟨rfl, h0⟩
  go_wp2_with fail
  refine (must_any _ _ _).mono ?_
  rintro e v1 ⟨rfl, h1'⟩
  have h1 := grown_trans h0 h1'
  go_wp2_with fail
  refine (must_any _ _ _).mono ?_
  rintro e v2 ⟨rfl, h2'⟩
  have h2 := grown_trans h1 h2'
  go_wp2_with fail
  refine (may_any _ _ _).mono ?_
  rintro e v3 ⟨rfl, h3'⟩
  have h3 := grown_trans h2 h3'
  go_wp2_with fail
  refine (takes_any _ _ _ [⟨⟨#[115, 116, 97, 114, 116, 115]⟩, 7, true⟩, ⟨⟨#[101, 110, 100, 115]⟩, 7, true⟩, ⟨⟨#[97, 120, 101, 115]⟩, 7, false⟩] _ (Or.inr ⟨_, _, rfl, heap_alloc_new _ _, rfl, rfl⟩) (by decide)).mono ?_
  rintro e w6 ⟨⟨a, n, c, rfl, ho, hat⟩, hg6⟩
  have hlt := (Array.getElem?_eq_some_iff.1 B0.out).1
  have hsk := h3.size
  have hne : (Value.slice a n c).ownBlock ≠ some w.heap.size := fun hh => by
    rcases hat _ hh with h | h
    · have : v3.heap.size = w.heap.size := by simpa [Value.ownBlock] using h
      omega
    · have : v3.heap.size + 1 ≤ w.heap.size := by simpa using h
      omega
  obtain ⟨b6, hX, hO, gX⟩ := rule_put (lo := 1) (hi := 1) g0 B0.out h3 (grown_new v3 (.cells #[.string ⟨#[115, 116, 97, 114, 116, 115]⟩, .int .i64 7, .bool true, .string ⟨#[101, 110, 100, 115]⟩, .int .i64 7, .bool true, .string ⟨#[97, 120, 101, 115]⟩, .int .i64 7, .bool false] 161)) hg6 (fun g e => by cases e; exact Nat.le_refl _) ho hne
  obtain ⟨r0, r1, r2, f0, f1, f2⟩ := rule_cells b6
  have HX := hide hX
  have HO := hide hO
  have GX := hide gX
  clear hX hO gX b6 ho hg6 hne hat hlt hsk
  go_wp2
  refine bodyPost_ret (ret_rule2 rfl _ _ w.heap.size rfl HX.out) rfl ?_
  exact ⟨⟨_, _, _, rfl, HO.out⟩, GX.out⟩

set_option maxRecDepth 100000 in
set_option maxHeartbeats 1600000 in
theorem rule_Gather (w : World) (hl : Laid w) :
    Calls Tryz.prog 98 #[.string ⟨#[71, 97, 116, 104, 101, 114]⟩] w fun e w' => Ruled (some (2, 2, [⟨⟨#[97, 120, 105, 115]⟩, 2, false⟩, thenRa])) w' e ∧ w.grownBy w' none := by
  have e1 : isOne ⟨#[71, 97, 116, 104, 101, 114]⟩ = false := by simp only [isOne, bytes_toList]; rfl
  obtain ⟨w0, hw0⟩ : ∃ w0, w0 = w.alloc (.cells #[.int .i64 0, .int .i64 0, .slice none 0 0] 134) := ⟨_, rfl⟩
  have g0 : w.grownBy w0 none := by rw [hw0]; exact grown_new _ _
  have b0 := heap_alloc_new w (.cells #[.int .i64 0, .int .i64 0, .slice none 0 0] 134)
  rw [← hw0] at b0
  have B0 := hide b0
  have OO := hide (ofone_any ⟨#[71, 97, 116, 104, 101, 114]⟩ w0 (hl.more g0))
  rw [e1] at OO
  clear hl b0 e1
  go_enter Tryz.func98, Tryz.ntmps98
  go_wp2_with fail
  rw [← hw0]
  clear hw0
  refine OO.out.mono ?_
  rintro e v0 ⟨rfl, h0⟩
  go_wp2_with fail
  refine (may_any _ _ _).mono ?_
  rintro e v1 ⟨rfl, h1'⟩
  have h1 := grown_trans h0 h1'
  go_wp2_with fail
  refine (takes_any _ _ _ [⟨⟨#[97, 120, 105, 115]⟩, 2, false⟩] _ (Or.inr ⟨_, _, rfl, heap_alloc_new _ _, rfl, rfl⟩) (by decide)).mono ?_
  rintro e w6 ⟨⟨a, n, c, rfl, ho, hat⟩, hg6⟩
  have hlt := (Array.getElem?_eq_some_iff.1 B0.out).1
  have hsk := h1.size
  have hne : (Value.slice a n c).ownBlock ≠ some w.heap.size := fun hh => by
    rcases hat _ hh with h | h
    · have : v1.heap.size = w.heap.size := by simpa [Value.ownBlock] using h
      omega
    · have : v1.heap.size + 1 ≤ w.heap.size := by simpa using h
      omega
  obtain ⟨b6, hX, hO, gX⟩ := rule_put (lo := 2) (hi := 2) g0 B0.out h1 (grown_new v1 (.cells #[.string ⟨#[97, 120, 105, 115]⟩, .int .i64 2, .bool false] 161)) hg6 (fun g e => by cases e; exact Nat.le_refl _) ho hne
  obtain ⟨r0, r1, r2, f0, f1, f2⟩ := rule_cells b6
  have HX := hide hX
  have HO := hide hO
  have GX := hide gX
  clear hX hO gX b6 ho hg6 hne hat hlt hsk
  go_wp2
  refine bodyPost_ret (ret_rule2 rfl _ _ w.heap.size rfl HX.out) rfl ?_
  exact ⟨⟨_, _, _, rfl, HO.out⟩, GX.out⟩

end Go.Proofs.YteigfipgmghgmaaGreatDoor
