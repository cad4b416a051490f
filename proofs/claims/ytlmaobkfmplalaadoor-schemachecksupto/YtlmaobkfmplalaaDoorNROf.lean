/- The document's of, at any operator (mkROf.py). -/
import Derived.Test.YtlmaobkfmplalaaDoorNROfA
import Derived.Test.YtlmaobkfmplalaaDoorNROfB
namespace Go.Proofs.YtlmaobkfmplalaaDoor
open Go.RowKit

set_option maxRecDepth 100000 in
theorem rof_each (w : World) : ∀ r ∈ rules, Calls Tryd.prog 35 #[.string (B r.1)] w fun e w' => Formed (some r.2) w w' e ∧ w.grownBy w' none := by
  unfold rules
  simp only [List.forall_mem_cons]
  exact ⟨rof_Identity w, rof_Neg w, rof_Abs w, rof_Not w, rof_Relu w, rof_Sqrt w, rof_Floor w, rof_Exp w, rof_Sigmoid w, rof_Tanh w, rof_Add w, rof_Sub w, rof_Mul w, rof_Div w, rof_Max w, rof_Min w, rof_And w, rof_Or w, rof_Xor w, rof_Equal w, rof_Less w, rof_Greater w, rof_MatMul w, rof_Where w, rof_Clip w, rof_Cast w, rof_ReduceSum w, rof_ReduceMax w, rof_ReduceMean w, rof_ArgMax w, rof_Reshape w, rof_Expand w, rof_Transpose w, rof_Concat w, rof_Slice w, rof_Gather w, rof_Pad w, rof_Squeeze w, rof_Unsqueeze w, rof_Flatten w, rof_Softmax w, rof_Gemm w, rof_Conv w, rof_MaxPool w, rof_AveragePool w, rof_GlobalAveragePool w, rof_BatchNormalization w, rof_Constant w, fun r hr => absurd hr (List.not_mem_nil)⟩

set_option maxRecDepth 100000 in
set_option maxHeartbeats 6400000 in
theorem rof_none (s : ByteArray) (h : rules.find? (fun r => r.1 == s.toList) = none) (w : World) :
    Calls Tryd.prog 35 #[.string s] w fun e w' => Formed none w w' e ∧ w.grownBy w' none := by
  have e1 : isOne s = false := by
    unfold isOne
    rw [List.any_eq_false]
    intro n hn
    have h2 := rules_no h n (by revert n; decide)
    rw [beq_eq_false_iff_ne] at h2
    simpa using fun e => h2 e.symm
  have e2 : isTwo s = false := by
    simp only [isTwo, twoL, eqS, List.any_cons, List.any_nil, Bool.or_false, Bool.or_eq_false_iff]
    have k : ∀ x : ByteArray, x.data.toList ∈ rules.map (·.1) → (x.toList == s.toList) = false := fun x hx => by
      have h2 := rules_no h x.data.toList hx
      rw [beq_eq_false_iff_ne] at h2 ⊢
      rw [bytes_toList x]
      exact fun e => h2 e.symm
    exact ⟨k _ (by decide), k _ (by decide), k _ (by decide), k _ (by decide), k _ (by decide), k _ (by decide), k _ (by decide), k _ (by decide), k _ (by decide), k _ (by decide), k _ (by decide), k _ (by decide)⟩
  have O1 := hide (rone_any s w)
  have O2 := hide (fun wx => rtwo_any s wx)
  rw [e1] at O1
  rw [e2] at O2
  have q0 : (s.toList == [77, 97, 116, 77, 117, 108]) = false := rules_no h _ (by decide)
  have q1 : (s.toList == [87, 104, 101, 114, 101]) = false := rules_no h _ (by decide)
  have q2 : (s.toList == [67, 108, 105, 112]) = false := rules_no h _ (by decide)
  have q3 : (s.toList == [67, 97, 115, 116]) = false := rules_no h _ (by decide)
  have q4 : (s.toList == [82, 101, 100, 117, 99, 101, 83, 117, 109]) = false := rules_no h _ (by decide)
  have q5 : (s.toList == [82, 101, 100, 117, 99, 101, 77, 97, 120]) = false := rules_no h _ (by decide)
  have q6 : (s.toList == [82, 101, 100, 117, 99, 101, 77, 101, 97, 110]) = false := rules_no h _ (by decide)
  have q7 : (s.toList == [65, 114, 103, 77, 97, 120]) = false := rules_no h _ (by decide)
  have q8 : (s.toList == [82, 101, 115, 104, 97, 112, 101]) = false := rules_no h _ (by decide)
  have q9 : (s.toList == [69, 120, 112, 97, 110, 100]) = false := rules_no h _ (by decide)
  have q10 : (s.toList == [84, 114, 97, 110, 115, 112, 111, 115, 101]) = false := rules_no h _ (by decide)
  have q11 : (s.toList == [67, 111, 110, 99, 97, 116]) = false := rules_no h _ (by decide)
  have q12 : (s.toList == [83, 108, 105, 99, 101]) = false := rules_no h _ (by decide)
  have q13 : (s.toList == [71, 97, 116, 104, 101, 114]) = false := rules_no h _ (by decide)
  have q14 : (s.toList == [80, 97, 100]) = false := rules_no h _ (by decide)
  have q15 : (s.toList == [83, 113, 117, 101, 101, 122, 101]) = false := rules_no h _ (by decide)
  have q16 : (s.toList == [85, 110, 115, 113, 117, 101, 101, 122, 101]) = false := rules_no h _ (by decide)
  have q17 : (s.toList == [70, 108, 97, 116, 116, 101, 110]) = false := rules_no h _ (by decide)
  have q18 : (s.toList == [83, 111, 102, 116, 109, 97, 120]) = false := rules_no h _ (by decide)
  have q19 : (s.toList == [71, 101, 109, 109]) = false := rules_no h _ (by decide)
  have q20 : (s.toList == [67, 111, 110, 118]) = false := rules_no h _ (by decide)
  have q21 : (s.toList == [77, 97, 120, 80, 111, 111, 108]) = false := rules_no h _ (by decide)
  have q22 : (s.toList == [65, 118, 101, 114, 97, 103, 101, 80, 111, 111, 108]) = false := rules_no h _ (by decide)
  have q23 : (s.toList == [71, 108, 111, 98, 97, 108, 65, 118, 101, 114, 97, 103, 101, 80, 111, 111, 108]) = false := rules_no h _ (by decide)
  have q24 : (s.toList == [66, 97, 116, 99, 104, 78, 111, 114, 109, 97, 108, 105, 122, 97, 116, 105, 111, 110]) = false := rules_no h _ (by decide)
  have q25 : (s.toList == [67, 111, 110, 115, 116, 97, 110, 116]) = false := rules_no h _ (by decide)
  clear e1 e2 h
  go_enter Tryd.func35, Tryd.ntmps35
  go_wp2_with fail
  refine O1.out.mono ?_
  rintro e v0 ⟨rfl, h0⟩
  go_wp2_with fail
  refine (O2.out v0).mono ?_
  rintro e v1 ⟨rfl, h1⟩
  go_wp2
  refine bodyPost_ret (results_tmp4 rfl _ _ _) rfl ?_
  exact ⟨rfl, grown_trans h0 h1⟩

theorem rof_any (s : ByteArray) (w : World) :
    Calls Tryd.prog 35 #[.string s] w fun e w' => Formed (ruleF s) w w' e ∧ w.grownBy w' none := by
  unfold ruleF
  cases h : rules.find? (fun r => r.1 == s.toList) with
  | none => exact rof_none s h w
  | some r =>
    have h1 := List.find?_some h
    have h2 : r.1 = s.data.toList := by rw [← bytes_toList]; simpa using h1
    have h3 := rof_each w r (List.mem_of_find?_eq_some h)
    rw [h2, B_self] at h3
    exact h3
end Go.Proofs.YtlmaobkfmplalaaDoor
