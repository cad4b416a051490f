/- What any operator takes, by the walk (mkRuleAll.py). -/
import Derived.Test.YteigfipgmghgmaaGreatDoorNRuleB
import Derived.Test.YteigfipgmghgmaaGreatDoorNRuleC
import Derived.Test.YteigfipgmghgmaaGreatDoorNRuleD
namespace Go.Proofs.YteigfipgmghgmaaGreatDoor
open Go.RowKit

/-- All operators: how many inputs at least and at most, and the attributes. -/
def rules : List (List UInt8 × Int × Int × List Ra) := [
  ([73, 100, 101, 110, 116, 105, 116, 121], 1, 1, [thenRa]),
  ([78, 101, 103], 1, 1, [thenRa]),
  ([65, 98, 115], 1, 1, [thenRa]),
  ([78, 111, 116], 1, 1, [thenRa]),
  ([82, 101, 108, 117], 1, 1, [thenRa]),
  ([83, 113, 114, 116], 1, 1, [thenRa]),
  ([70, 108, 111, 111, 114], 1, 1, [thenRa]),
  ([69, 120, 112], 1, 1, [thenRa]),
  ([83, 105, 103, 109, 111, 105, 100], 1, 1, [thenRa]),
  ([84, 97, 110, 104], 1, 1, [thenRa]),
  ([65, 100, 100], 2, 2, [thenRa]),
  ([83, 117, 98], 2, 2, [thenRa]),
  ([77, 117, 108], 2, 2, [thenRa]),
  ([68, 105, 118], 2, 2, [thenRa]),
  ([77, 97, 120], 2, 2, [thenRa]),
  ([77, 105, 110], 2, 2, [thenRa]),
  ([65, 110, 100], 2, 2, [thenRa]),
  ([79, 114], 2, 2, [thenRa]),
  ([88, 111, 114], 2, 2, [thenRa]),
  ([69, 113, 117, 97, 108], 2, 2, [thenRa]),
  ([76, 101, 115, 115], 2, 2, [thenRa]),
  ([71, 114, 101, 97, 116, 101, 114], 2, 2, [thenRa]),
  ([77, 97, 116, 77, 117, 108], 2, 2, [thenRa]),
  ([87, 104, 101, 114, 101], 3, 3, [thenRa]),
  ([67, 108, 105, 112], 1, 1, [⟨⟨#[109, 105, 110]⟩, 1, false⟩, ⟨⟨#[109, 97, 120]⟩, 1, false⟩, thenRa]),
  ([67, 97, 115, 116], 1, 1, [⟨⟨#[116, 111]⟩, 2, true⟩, thenRa]),
  ([82, 101, 100, 117, 99, 101, 83, 117, 109], 1, 1, [⟨⟨#[97, 120, 101, 115]⟩, 7, false⟩, ⟨⟨#[107, 101, 101, 112, 100, 105, 109, 115]⟩, 2, false⟩, thenRa]),
  ([82, 101, 100, 117, 99, 101, 77, 97, 120], 1, 1, [⟨⟨#[97, 120, 101, 115]⟩, 7, false⟩, ⟨⟨#[107, 101, 101, 112, 100, 105, 109, 115]⟩, 2, false⟩, thenRa]),
  ([82, 101, 100, 117, 99, 101, 77, 101, 97, 110], 1, 1, [⟨⟨#[97, 120, 101, 115]⟩, 7, false⟩, ⟨⟨#[107, 101, 101, 112, 100, 105, 109, 115]⟩, 2, false⟩, thenRa]),
  ([65, 114, 103, 77, 97, 120], 1, 1, [⟨⟨#[97, 120, 105, 115]⟩, 2, false⟩, ⟨⟨#[107, 101, 101, 112, 100, 105, 109, 115]⟩, 2, false⟩, thenRa]),
  ([82, 101, 115, 104, 97, 112, 101], 1, 1, [⟨⟨#[115, 104, 97, 112, 101]⟩, 7, true⟩, thenRa]),
  ([69, 120, 112, 97, 110, 100], 1, 1, [⟨⟨#[115, 104, 97, 112, 101]⟩, 7, true⟩, thenRa]),
  ([84, 114, 97, 110, 115, 112, 111, 115, 101], 1, 1, [⟨⟨#[112, 101, 114, 109]⟩, 7, false⟩, thenRa]),
  ([67, 111, 110, 99, 97, 116], 1, 20, [⟨⟨#[97, 120, 105, 115]⟩, 2, true⟩, thenRa]),
  ([83, 108, 105, 99, 101], 1, 1, [⟨⟨#[115, 116, 97, 114, 116, 115]⟩, 7, true⟩, ⟨⟨#[101, 110, 100, 115]⟩, 7, true⟩, ⟨⟨#[97, 120, 101, 115]⟩, 7, false⟩, thenRa]),
  ([71, 97, 116, 104, 101, 114], 2, 2, [⟨⟨#[97, 120, 105, 115]⟩, 2, false⟩, thenRa]),
  ([80, 97, 100], 1, 1, [⟨⟨#[112, 97, 100, 115]⟩, 7, true⟩, ⟨⟨#[118, 97, 108, 117, 101]⟩, 1, false⟩, thenRa]),
  ([83, 113, 117, 101, 101, 122, 101], 1, 1, [⟨⟨#[97, 120, 101, 115]⟩, 7, true⟩, thenRa]),
  ([85, 110, 115, 113, 117, 101, 101, 122, 101], 1, 1, [⟨⟨#[97, 120, 101, 115]⟩, 7, true⟩, thenRa]),
  ([70, 108, 97, 116, 116, 101, 110], 1, 1, [⟨⟨#[97, 120, 105, 115]⟩, 2, false⟩, thenRa]),
  ([83, 111, 102, 116, 109, 97, 120], 1, 1, [⟨⟨#[97, 120, 105, 115]⟩, 2, false⟩, thenRa]),
  ([71, 101, 109, 109], 2, 3, [⟨⟨#[116, 114, 97, 110, 115, 65]⟩, 2, false⟩, ⟨⟨#[116, 114, 97, 110, 115, 66]⟩, 2, false⟩, ⟨⟨#[97, 108, 112, 104, 97]⟩, 1, false⟩, ⟨⟨#[98, 101, 116, 97]⟩, 1, false⟩, thenRa]),
  ([67, 111, 110, 118], 2, 3, [⟨⟨#[115, 116, 114, 105, 100, 101, 115]⟩, 7, false⟩, ⟨⟨#[112, 97, 100, 115]⟩, 7, false⟩, ⟨⟨#[100, 105, 108, 97, 116, 105, 111, 110, 115]⟩, 7, false⟩, ⟨⟨#[103, 114, 111, 117, 112]⟩, 2, false⟩, thenRa]),
  ([77, 97, 120, 80, 111, 111, 108], 1, 1, [⟨⟨#[107, 101, 114, 110, 101, 108, 95, 115, 104, 97, 112, 101]⟩, 7, true⟩, ⟨⟨#[115, 116, 114, 105, 100, 101, 115]⟩, 7, false⟩, ⟨⟨#[112, 97, 100, 115]⟩, 7, false⟩, thenRa]),
  ([65, 118, 101, 114, 97, 103, 101, 80, 111, 111, 108], 1, 1, [⟨⟨#[107, 101, 114, 110, 101, 108, 95, 115, 104, 97, 112, 101]⟩, 7, true⟩, ⟨⟨#[115, 116, 114, 105, 100, 101, 115]⟩, 7, false⟩, ⟨⟨#[112, 97, 100, 115]⟩, 7, false⟩, thenRa]),
  ([71, 108, 111, 98, 97, 108, 65, 118, 101, 114, 97, 103, 101, 80, 111, 111, 108], 1, 1, [thenRa]),
  ([66, 97, 116, 99, 104, 78, 111, 114, 109, 97, 108, 105, 122, 97, 116, 105, 111, 110], 5, 5, [⟨⟨#[101, 112, 115, 105, 108, 111, 110]⟩, 1, false⟩, thenRa]),
  ([67, 111, 110, 115, 116, 97, 110, 116], 0, 0, [⟨⟨#[118, 97, 108, 117, 101]⟩, 4, true⟩, thenRa])]

def ruleF (op : ByteArray) : Option (Int × Int × List Ra) := (rules.find? (fun r => r.1 == op.toList)).map (·.2)

set_option maxRecDepth 100000 in
theorem rule_each (w : World) (hl : Laid w) : ∀ r ∈ rules, Calls Tryz.prog 98 #[.string (B r.1)] w fun e w' => Ruled (some r.2) w' e ∧ w.grownBy w' none := by
  unfold rules
  simp only [List.forall_mem_cons]
  exact ⟨rule_Identity w hl, rule_Neg w hl, rule_Abs w hl, rule_Not w hl, rule_Relu w hl, rule_Sqrt w hl, rule_Floor w hl, rule_Exp w hl, rule_Sigmoid w hl, rule_Tanh w hl, rule_Add w hl, rule_Sub w hl, rule_Mul w hl, rule_Div w hl, rule_Max w hl, rule_Min w hl, rule_And w hl, rule_Or w hl, rule_Xor w hl, rule_Equal w hl, rule_Less w hl, rule_Greater w hl, rule_MatMul w hl, rule_Where w hl, rule_Clip w hl, rule_Cast w hl, rule_ReduceSum w hl, rule_ReduceMax w hl, rule_ReduceMean w hl, rule_ArgMax w hl, rule_Reshape w hl, rule_Expand w hl, rule_Transpose w hl, rule_Concat w hl, rule_Slice w hl, rule_Gather w hl, rule_Pad w hl, rule_Squeeze w hl, rule_Unsqueeze w hl, rule_Flatten w hl, rule_Softmax w hl, rule_Gemm w hl, rule_Conv w hl, rule_MaxPool w hl, rule_AveragePool w hl, rule_GlobalAveragePool w hl, rule_BatchNormalization w hl, rule_Constant w hl, fun r hr => absurd hr (List.not_mem_nil)⟩

theorem rules_no {s : ByteArray} (h : rules.find? (fun r => r.1 == s.toList) = none) (n : List UInt8) (hn : n ∈ rules.map (·.1)) : (s.toList == n) = false := by
  obtain ⟨r, hr, rfl⟩ := List.mem_map.1 hn
  have := List.find?_eq_none.1 h r hr
  rw [beq_eq_false_iff_ne]
  intro e
  exact this (by simp [e])

set_option maxRecDepth 100000 in
set_option maxHeartbeats 6400000 in
theorem rule_none (s : ByteArray) (h : rules.find? (fun r => r.1 == s.toList) = none) (w : World) (hl : Laid w) :
    Calls Tryz.prog 98 #[.string s] w fun e w' => Ruled none w' e ∧ w.grownBy w' none := by
  have e1 : isOne s = false := by
    unfold isOne
    rw [List.any_eq_false]
    intro n hn
    have h2 := rules_no h n (by revert n; decide)
    rw [beq_eq_false_iff_ne] at h2
    simpa using fun e => h2 e.symm
  obtain ⟨w0, hw0⟩ : ∃ w0, w0 = w.alloc (.cells #[.int .i64 0, .int .i64 0, .slice none 0 0] 134) := ⟨_, rfl⟩
  have g0 : w.grownBy w0 none := by rw [hw0]; exact grown_new _ _
  have b0 := heap_alloc_new w (.cells #[.int .i64 0, .int .i64 0, .slice none 0 0] 134)
  rw [← hw0] at b0
  have B0 := hide b0
  have OO := hide (ofone_any s w0 (hl.more g0))
  rw [e1] at OO
  have q0 : (s.toList == [65, 100, 100]) = false := rules_no h _ (by decide)
  have q1 : (s.toList == [83, 117, 98]) = false := rules_no h _ (by decide)
  have q2 : (s.toList == [77, 117, 108]) = false := rules_no h _ (by decide)
  have q3 : (s.toList == [68, 105, 118]) = false := rules_no h _ (by decide)
  have q4 : (s.toList == [77, 97, 120]) = false := rules_no h _ (by decide)
  have q5 : (s.toList == [77, 105, 110]) = false := rules_no h _ (by decide)
  have q6 : (s.toList == [65, 110, 100]) = false := rules_no h _ (by decide)
  have q7 : (s.toList == [79, 114]) = false := rules_no h _ (by decide)
  have q8 : (s.toList == [88, 111, 114]) = false := rules_no h _ (by decide)
  have q9 : (s.toList == [69, 113, 117, 97, 108]) = false := rules_no h _ (by decide)
  have q10 : (s.toList == [76, 101, 115, 115]) = false := rules_no h _ (by decide)
  have q11 : (s.toList == [71, 114, 101, 97, 116, 101, 114]) = false := rules_no h _ (by decide)
  have q12 : (s.toList == [77, 97, 116, 77, 117, 108]) = false := rules_no h _ (by decide)
  have q13 : (s.toList == [87, 104, 101, 114, 101]) = false := rules_no h _ (by decide)
  have q14 : (s.toList == [67, 108, 105, 112]) = false := rules_no h _ (by decide)
  have q15 : (s.toList == [67, 97, 115, 116]) = false := rules_no h _ (by decide)
  have q16 : (s.toList == [82, 101, 100, 117, 99, 101, 83, 117, 109]) = false := rules_no h _ (by decide)
  have q17 : (s.toList == [82, 101, 100, 117, 99, 101, 77, 97, 120]) = false := rules_no h _ (by decide)
  have q18 : (s.toList == [82, 101, 100, 117, 99, 101, 77, 101, 97, 110]) = false := rules_no h _ (by decide)
  have q19 : (s.toList == [65, 114, 103, 77, 97, 120]) = false := rules_no h _ (by decide)
  have q20 : (s.toList == [82, 101, 115, 104, 97, 112, 101]) = false := rules_no h _ (by decide)
  have q21 : (s.toList == [69, 120, 112, 97, 110, 100]) = false := rules_no h _ (by decide)
  have q22 : (s.toList == [84, 114, 97, 110, 115, 112, 111, 115, 101]) = false := rules_no h _ (by decide)
  have q23 : (s.toList == [67, 111, 110, 99, 97, 116]) = false := rules_no h _ (by decide)
  have q24 : (s.toList == [83, 108, 105, 99, 101]) = false := rules_no h _ (by decide)
  have q25 : (s.toList == [71, 97, 116, 104, 101, 114]) = false := rules_no h _ (by decide)
  have q26 : (s.toList == [80, 97, 100]) = false := rules_no h _ (by decide)
  have q27 : (s.toList == [83, 113, 117, 101, 101, 122, 101]) = false := rules_no h _ (by decide)
  have q28 : (s.toList == [85, 110, 115, 113, 117, 101, 101, 122, 101]) = false := rules_no h _ (by decide)
  have q29 : (s.toList == [70, 108, 97, 116, 116, 101, 110]) = false := rules_no h _ (by decide)
  have q30 : (s.toList == [83, 111, 102, 116, 109, 97, 120]) = false := rules_no h _ (by decide)
  have q31 : (s.toList == [71, 101, 109, 109]) = false := rules_no h _ (by decide)
  have q32 : (s.toList == [67, 111, 110, 118]) = false := rules_no h _ (by decide)
  have q33 : (s.toList == [77, 97, 120, 80, 111, 111, 108]) = false := rules_no h _ (by decide)
  have q34 : (s.toList == [65, 118, 101, 114, 97, 103, 101, 80, 111, 111, 108]) = false := rules_no h _ (by decide)
  have q35 : (s.toList == [71, 108, 111, 98, 97, 108, 65, 118, 101, 114, 97, 103, 101, 80, 111, 111, 108]) = false := rules_no h _ (by decide)
  have q36 : (s.toList == [66, 97, 116, 99, 104, 78, 111, 114, 109, 97, 108, 105, 122, 97, 116, 105, 111, 110]) = false := rules_no h _ (by decide)
  have q37 : (s.toList == [67, 111, 110, 115, 116, 97, 110, 116]) = false := rules_no h _ (by decide)
  clear hl b0 e1 h
  go_enter Tryz.func98, Tryz.ntmps98
  go_wp2_with fail
  rw [← hw0]
  clear hw0
  refine OO.out.mono ?_
  rintro e v0 ⟨rfl, h0⟩
  have b1 := box_kept B0.out h0
  obtain ⟨r0, r1, r2, f0, f1, f2⟩ := rule_cells b1
  obtain ⟨hX, gX⟩ := store3r (.int .i64 0) (.int .i64 0) (.slice none 0 0) b1
  have HX := hide hX
  have GX := hide (grown_row_box (grown_trans g0 h0) gX (Nat.le_refl _))
  clear hX gX b1
  go_wp2
  refine bodyPost_ret (ret_rule2 rfl _ _ w.heap.size rfl HX.out) rfl ?_
  exact ⟨rfl, GX.out⟩

theorem ruleof_any (s : ByteArray) (w : World) (hl : Laid w) :
    Calls Tryz.prog 98 #[.string s] w fun e w' => Ruled (ruleF s) w' e ∧ w.grownBy w' none := by
  unfold ruleF
  cases h : rules.find? (fun r => r.1 == s.toList) with
  | none => exact rule_none s h w hl
  | some r =>
    have h1 := List.find?_some h
    have h2 : r.1 = s.data.toList := by rw [← bytes_toList]; simpa using h1
    have h3 := rule_each w hl r (List.mem_of_find?_eq_some h)
    rw [h2, B_self] at h3
    exact h3
end Go.Proofs.YteigfipgmghgmaaGreatDoor
