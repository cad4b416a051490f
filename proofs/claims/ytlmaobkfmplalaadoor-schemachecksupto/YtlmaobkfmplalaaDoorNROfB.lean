/- The document's of, operator by operator (mkROf.py). -/
import Derived.Test.YtlmaobkfmplalaaDoorNRAmong
namespace Go.Proofs.YtlmaobkfmplalaaDoor
open Go.RowKit

set_option maxRecDepth 100000 in
set_option maxHeartbeats 1600000 in
theorem rof_ReduceSum (w : World) :
    Calls Tryd.prog 35 #[.string ⟨#[82, 101, 100, 117, 99, 101, 83, 117, 109]⟩] w fun e w' => Formed (some (1, 1, [⟨⟨#[97, 120, 101, 115]⟩, 7, false⟩, ⟨⟨#[107, 101, 101, 112, 100, 105, 109, 115]⟩, 2, false⟩, thenRa])) w w' e ∧ w.grownBy w' none := by
  have e1 : isOne ⟨#[82, 101, 100, 117, 99, 101, 83, 117, 109]⟩ = false := by simp only [isOne, bytes_toList]; rfl
  have O1 := hide (rone_any ⟨#[82, 101, 100, 117, 99, 101, 83, 117, 109]⟩ w)
  rw [e1] at O1
  have e2 : isTwo ⟨#[82, 101, 100, 117, 99, 101, 83, 117, 109]⟩ = false := by simp only [isTwo, twoL, eqS, List.any_cons, List.any_nil, bytes_toList]; rfl
  have O2 := hide (fun wx => rtwo_any ⟨#[82, 101, 100, 117, 99, 101, 83, 117, 109]⟩ wx)
  rw [e2] at O2
  clear e2
  clear e1
  go_enter Tryd.func35, Tryd.ntmps35
  go_wp2_with fail
  refine O1.out.mono ?_
  rintro e v0 ⟨rfl, h0⟩
  go_wp2_with fail
  refine (O2.out v0).mono ?_
  rintro e v1 ⟨rfl, h1'⟩
  have h1 := grown_trans h0 h1'
  go_wp2_with fail
  refine (ropt_any _ _ _).mono ?_
  rintro e v2 ⟨rfl, h2'⟩
  have h2 := grown_trans h1 h2'
  go_wp2_with fail
  refine (ropt_any _ _ _).mono ?_
  rintro e v3 ⟨rfl, h3'⟩
  have h3 := grown_trans h2 h3'
  have FL := hide (forms_lit v3 [⟨⟨#[97, 120, 101, 115]⟩, 7, false⟩, ⟨⟨#[107, 101, 101, 112, 100, 105, 109, 115]⟩, 2, false⟩] (by decide) (by decide))
  have G := hide (grown_trans h3 (grown_new v3 (.cells #[.string ⟨#[97, 120, 101, 115]⟩, .int .i64 7, .bool false, .string ⟨#[107, 101, 101, 112, 100, 105, 109, 115]⟩, .int .i64 2, .bool false] 89)))
  go_wp2
  refine bodyPost_ret (results_tmp4 rfl _ _ _) rfl ?_
  exact ⟨⟨⟨some ⟨v3.heap.size, 0, none⟩, 2, 2⟩, [⟨⟨#[97, 120, 101, 115]⟩, 7, false⟩, ⟨⟨#[107, 101, 101, 112, 100, 105, 109, 115]⟩, 2, false⟩], rfl, rfl, OwnsL.base_le FL.out h3.size⟩, G.out⟩

set_option maxRecDepth 100000 in
set_option maxHeartbeats 1600000 in
theorem rof_ReduceMax (w : World) :
    Calls Tryd.prog 35 #[.string ⟨#[82, 101, 100, 117, 99, 101, 77, 97, 120]⟩] w fun e w' => Formed (some (1, 1, [⟨⟨#[97, 120, 101, 115]⟩, 7, false⟩, ⟨⟨#[107, 101, 101, 112, 100, 105, 109, 115]⟩, 2, false⟩, thenRa])) w w' e ∧ w.grownBy w' none := by
  have e1 : isOne ⟨#[82, 101, 100, 117, 99, 101, 77, 97, 120]⟩ = false := by simp only [isOne, bytes_toList]; rfl
  have O1 := hide (rone_any ⟨#[82, 101, 100, 117, 99, 101, 77, 97, 120]⟩ w)
  rw [e1] at O1
  have e2 : isTwo ⟨#[82, 101, 100, 117, 99, 101, 77, 97, 120]⟩ = false := by simp only [isTwo, twoL, eqS, List.any_cons, List.any_nil, bytes_toList]; rfl
  have O2 := hide (fun wx => rtwo_any ⟨#[82, 101, 100, 117, 99, 101, 77, 97, 120]⟩ wx)
  rw [e2] at O2
  clear e2
  clear e1
  go_enter Tryd.func35, Tryd.ntmps35
  go_wp2_with fail
  refine O1.out.mono ?_
  rintro e v0 ⟨rfl, h0⟩
  go_wp2_with fail
  refine (O2.out v0).mono ?_
  rintro e v1 ⟨rfl, h1'⟩
  have h1 := grown_trans h0 h1'
  go_wp2_with fail
  refine (ropt_any _ _ _).mono ?_
  rintro e v2 ⟨rfl, h2'⟩
  have h2 := grown_trans h1 h2'
  go_wp2_with fail
  refine (ropt_any _ _ _).mono ?_
  rintro e v3 ⟨rfl, h3'⟩
  have h3 := grown_trans h2 h3'
  have FL := hide (forms_lit v3 [⟨⟨#[97, 120, 101, 115]⟩, 7, false⟩, ⟨⟨#[107, 101, 101, 112, 100, 105, 109, 115]⟩, 2, false⟩] (by decide) (by decide))
  have G := hide (grown_trans h3 (grown_new v3 (.cells #[.string ⟨#[97, 120, 101, 115]⟩, .int .i64 7, .bool false, .string ⟨#[107, 101, 101, 112, 100, 105, 109, 115]⟩, .int .i64 2, .bool false] 89)))
  go_wp2
  refine bodyPost_ret (results_tmp4 rfl _ _ _) rfl ?_
  exact ⟨⟨⟨some ⟨v3.heap.size, 0, none⟩, 2, 2⟩, [⟨⟨#[97, 120, 101, 115]⟩, 7, false⟩, ⟨⟨#[107, 101, 101, 112, 100, 105, 109, 115]⟩, 2, false⟩], rfl, rfl, OwnsL.base_le FL.out h3.size⟩, G.out⟩

set_option maxRecDepth 100000 in
set_option maxHeartbeats 1600000 in
theorem rof_ReduceMean (w : World) :
    Calls Tryd.prog 35 #[.string ⟨#[82, 101, 100, 117, 99, 101, 77, 101, 97, 110]⟩] w fun e w' => Formed (some (1, 1, [⟨⟨#[97, 120, 101, 115]⟩, 7, false⟩, ⟨⟨#[107, 101, 101, 112, 100, 105, 109, 115]⟩, 2, false⟩, thenRa])) w w' e ∧ w.grownBy w' none := by
  have e1 : isOne ⟨#[82, 101, 100, 117, 99, 101, 77, 101, 97, 110]⟩ = false := by simp only [isOne, bytes_toList]; rfl
  have O1 := hide (rone_any ⟨#[82, 101, 100, 117, 99, 101, 77, 101, 97, 110]⟩ w)
  rw [e1] at O1
  have e2 : isTwo ⟨#[82, 101, 100, 117, 99, 101, 77, 101, 97, 110]⟩ = false := by simp only [isTwo, twoL, eqS, List.any_cons, List.any_nil, bytes_toList]; rfl
  have O2 := hide (fun wx => rtwo_any ⟨#[82, 101, 100, 117, 99, 101, 77, 101, 97, 110]⟩ wx)
  rw [e2] at O2
  clear e2
  clear e1
  go_enter Tryd.func35, Tryd.ntmps35
  go_wp2_with fail
  refine O1.out.mono ?_
  rintro e v0 ⟨rfl, h0⟩
  go_wp2_with fail
  refine (O2.out v0).mono ?_
  rintro e v1 ⟨rfl, h1'⟩
  have h1 := grown_trans h0 h1'
  go_wp2_with fail
  refine (ropt_any _ _ _).mono ?_
  rintro e v2 ⟨rfl, h2'⟩
  have h2 := grown_trans h1 h2'
  go_wp2_with fail
  refine (ropt_any _ _ _).mono ?_
  rintro e v3 ⟨rfl, h3'⟩
  have h3 := grown_trans h2 h3'
  have FL := hide (forms_lit v3 [⟨⟨#[97, 120, 101, 115]⟩, 7, false⟩, ⟨⟨#[107, 101, 101, 112, 100, 105, 109, 115]⟩, 2, false⟩] (by decide) (by decide))
  have G := hide (grown_trans h3 (grown_new v3 (.cells #[.string ⟨#[97, 120, 101, 115]⟩, .int .i64 7, .bool false, .string ⟨#[107, 101, 101, 112, 100, 105, 109, 115]⟩, .int .i64 2, .bool false] 89)))
  go_wp2
  refine bodyPost_ret (results_tmp4 rfl _ _ _) rfl ?_
  exact ⟨⟨⟨some ⟨v3.heap.size, 0, none⟩, 2, 2⟩, [⟨⟨#[97, 120, 101, 115]⟩, 7, false⟩, ⟨⟨#[107, 101, 101, 112, 100, 105, 109, 115]⟩, 2, false⟩], rfl, rfl, OwnsL.base_le FL.out h3.size⟩, G.out⟩

set_option maxRecDepth 100000 in
set_option maxHeartbeats 1600000 in
theorem rof_ArgMax (w : World) :
    Calls Tryd.prog 35 #[.string ⟨#[65, 114, 103, 77, 97, 120]⟩] w fun e w' => Formed (some (1, 1, [⟨⟨#[97, 120, 105, 115]⟩, 2, false⟩, ⟨⟨#[107, 101, 101, 112, 100, 105, 109, 115]⟩, 2, false⟩, thenRa])) w w' e ∧ w.grownBy w' none := by
  have e1 : isOne ⟨#[65, 114, 103, 77, 97, 120]⟩ = false := by simp only [isOne, bytes_toList]; rfl
  have O1 := hide (rone_any ⟨#[65, 114, 103, 77, 97, 120]⟩ w)
  rw [e1] at O1
  have e2 : isTwo ⟨#[65, 114, 103, 77, 97, 120]⟩ = false := by simp only [isTwo, twoL, eqS, List.any_cons, List.any_nil, bytes_toList]; rfl
  have O2 := hide (fun wx => rtwo_any ⟨#[65, 114, 103, 77, 97, 120]⟩ wx)
  rw [e2] at O2
  clear e2
  clear e1
  go_enter Tryd.func35, Tryd.ntmps35
  go_wp2_with fail
  refine O1.out.mono ?_
  rintro e v0 ⟨rfl, h0⟩
  go_wp2_with fail
  refine (O2.out v0).mono ?_
  rintro e v1 ⟨rfl, h1'⟩
  have h1 := grown_trans h0 h1'
  go_wp2_with fail
  refine (ropt_any _ _ _).mono ?_
  rintro e v2 ⟨rfl, h2'⟩
  have h2 := grown_trans h1 h2'
  go_wp2_with fail
  refine (ropt_any _ _ _).mono ?_
  rintro e v3 ⟨rfl, h3'⟩
  have h3 := grown_trans h2 h3'
  have FL := hide (forms_lit v3 [⟨⟨#[97, 120, 105, 115]⟩, 2, false⟩, ⟨⟨#[107, 101, 101, 112, 100, 105, 109, 115]⟩, 2, false⟩] (by decide) (by decide))
  have G := hide (grown_trans h3 (grown_new v3 (.cells #[.string ⟨#[97, 120, 105, 115]⟩, .int .i64 2, .bool false, .string ⟨#[107, 101, 101, 112, 100, 105, 109, 115]⟩, .int .i64 2, .bool false] 89)))
  go_wp2
  refine bodyPost_ret (results_tmp4 rfl _ _ _) rfl ?_
  exact ⟨⟨⟨some ⟨v3.heap.size, 0, none⟩, 2, 2⟩, [⟨⟨#[97, 120, 105, 115]⟩, 2, false⟩, ⟨⟨#[107, 101, 101, 112, 100, 105, 109, 115]⟩, 2, false⟩], rfl, rfl, OwnsL.base_le FL.out h3.size⟩, G.out⟩

set_option maxRecDepth 100000 in
set_option maxHeartbeats 1600000 in
theorem rof_Reshape (w : World) :
    Calls Tryd.prog 35 #[.string ⟨#[82, 101, 115, 104, 97, 112, 101]⟩] w fun e w' => Formed (some (1, 1, [⟨⟨#[115, 104, 97, 112, 101]⟩, 7, true⟩, thenRa])) w w' e ∧ w.grownBy w' none := by
  have e1 : isOne ⟨#[82, 101, 115, 104, 97, 112, 101]⟩ = false := by simp only [isOne, bytes_toList]; rfl
  have O1 := hide (rone_any ⟨#[82, 101, 115, 104, 97, 112, 101]⟩ w)
  rw [e1] at O1
  have e2 : isTwo ⟨#[82, 101, 115, 104, 97, 112, 101]⟩ = false := by simp only [isTwo, twoL, eqS, List.any_cons, List.any_nil, bytes_toList]; rfl
  have O2 := hide (fun wx => rtwo_any ⟨#[82, 101, 115, 104, 97, 112, 101]⟩ wx)
  rw [e2] at O2
  clear e2
  clear e1
  go_enter Tryd.func35, Tryd.ntmps35
  go_wp2_with fail
  refine O1.out.mono ?_
  rintro e v0 ⟨rfl, h0⟩
  go_wp2_with fail
  refine (O2.out v0).mono ?_
  rintro e v1 ⟨rfl, h1'⟩
  have h1 := grown_trans h0 h1'
  go_wp2_with fail
  refine (rmust_any _ _ _).mono ?_
  rintro e v2 ⟨rfl, h2'⟩
  have h2 := grown_trans h1 h2'
  have FL := hide (forms_lit v2 [⟨⟨#[115, 104, 97, 112, 101]⟩, 7, true⟩] (by decide) (by decide))
  have G := hide (grown_trans h2 (grown_new v2 (.cells #[.string ⟨#[115, 104, 97, 112, 101]⟩, .int .i64 7, .bool true] 89)))
  go_wp2
  refine bodyPost_ret (results_tmp4 rfl _ _ _) rfl ?_
  exact ⟨⟨⟨some ⟨v2.heap.size, 0, none⟩, 1, 1⟩, [⟨⟨#[115, 104, 97, 112, 101]⟩, 7, true⟩], rfl, rfl, OwnsL.base_le FL.out h2.size⟩, G.out⟩

set_option maxRecDepth 100000 in
set_option maxHeartbeats 1600000 in
theorem rof_Expand (w : World) :
    Calls Tryd.prog 35 #[.string ⟨#[69, 120, 112, 97, 110, 100]⟩] w fun e w' => Formed (some (1, 1, [⟨⟨#[115, 104, 97, 112, 101]⟩, 7, true⟩, thenRa])) w w' e ∧ w.grownBy w' none := by
  have e1 : isOne ⟨#[69, 120, 112, 97, 110, 100]⟩ = false := by simp only [isOne, bytes_toList]; rfl
  have O1 := hide (rone_any ⟨#[69, 120, 112, 97, 110, 100]⟩ w)
  rw [e1] at O1
  have e2 : isTwo ⟨#[69, 120, 112, 97, 110, 100]⟩ = false := by simp only [isTwo, twoL, eqS, List.any_cons, List.any_nil, bytes_toList]; rfl
  have O2 := hide (fun wx => rtwo_any ⟨#[69, 120, 112, 97, 110, 100]⟩ wx)
  rw [e2] at O2
  clear e2
  clear e1
  go_enter Tryd.func35, Tryd.ntmps35
  go_wp2_with fail
  refine O1.out.mono ?_
  rintro e v0 ⟨rfl, h0⟩
  go_wp2_with fail
  refine (O2.out v0).mono ?_
  rintro e v1 ⟨rfl, h1'⟩
  have h1 := grown_trans h0 h1'
  go_wp2_with fail
  refine (rmust_any _ _ _).mono ?_
  rintro e v2 ⟨rfl, h2'⟩
  have h2 := grown_trans h1 h2'
  have FL := hide (forms_lit v2 [⟨⟨#[115, 104, 97, 112, 101]⟩, 7, true⟩] (by decide) (by decide))
  have G := hide (grown_trans h2 (grown_new v2 (.cells #[.string ⟨#[115, 104, 97, 112, 101]⟩, .int .i64 7, .bool true] 89)))
  go_wp2
  refine bodyPost_ret (results_tmp4 rfl _ _ _) rfl ?_
  exact ⟨⟨⟨some ⟨v2.heap.size, 0, none⟩, 1, 1⟩, [⟨⟨#[115, 104, 97, 112, 101]⟩, 7, true⟩], rfl, rfl, OwnsL.base_le FL.out h2.size⟩, G.out⟩

set_option maxRecDepth 100000 in
set_option maxHeartbeats 1600000 in
theorem rof_Transpose (w : World) :
    Calls Tryd.prog 35 #[.string ⟨#[84, 114, 97, 110, 115, 112, 111, 115, 101]⟩] w fun e w' => Formed (some (1, 1, [⟨⟨#[112, 101, 114, 109]⟩, 7, false⟩, thenRa])) w w' e ∧ w.grownBy w' none := by
  have e1 : isOne ⟨#[84, 114, 97, 110, 115, 112, 111, 115, 101]⟩ = false := by simp only [isOne, bytes_toList]; rfl
  have O1 := hide (rone_any ⟨#[84, 114, 97, 110, 115, 112, 111, 115, 101]⟩ w)
  rw [e1] at O1
  have e2 : isTwo ⟨#[84, 114, 97, 110, 115, 112, 111, 115, 101]⟩ = false := by simp only [isTwo, twoL, eqS, List.any_cons, List.any_nil, bytes_toList]; rfl
  have O2 := hide (fun wx => rtwo_any ⟨#[84, 114, 97, 110, 115, 112, 111, 115, 101]⟩ wx)
  rw [e2] at O2
  clear e2
  clear e1
  go_enter Tryd.func35, Tryd.ntmps35
  go_wp2_with fail
  refine O1.out.mono ?_
  rintro e v0 ⟨rfl, h0⟩
  go_wp2_with fail
  refine (O2.out v0).mono ?_
  rintro e v1 ⟨rfl, h1'⟩
  have h1 := grown_trans h0 h1'
  go_wp2_with fail
  refine (ropt_any _ _ _).mono ?_
  rintro e v2 ⟨rfl, h2'⟩
  have h2 := grown_trans h1 h2'
  have FL := hide (forms_lit v2 [⟨⟨#[112, 101, 114, 109]⟩, 7, false⟩] (by decide) (by decide))
  have G := hide (grown_trans h2 (grown_new v2 (.cells #[.string ⟨#[112, 101, 114, 109]⟩, .int .i64 7, .bool false] 89)))
  go_wp2
  refine bodyPost_ret (results_tmp4 rfl _ _ _) rfl ?_
  exact ⟨⟨⟨some ⟨v2.heap.size, 0, none⟩, 1, 1⟩, [⟨⟨#[112, 101, 114, 109]⟩, 7, false⟩], rfl, rfl, OwnsL.base_le FL.out h2.size⟩, G.out⟩

set_option maxRecDepth 100000 in
set_option maxHeartbeats 1600000 in
theorem rof_Concat (w : World) :
    Calls Tryd.prog 35 #[.string ⟨#[67, 111, 110, 99, 97, 116]⟩] w fun e w' => Formed (some (1, 20, [⟨⟨#[97, 120, 105, 115]⟩, 2, true⟩, thenRa])) w w' e ∧ w.grownBy w' none := by
  have e1 : isOne ⟨#[67, 111, 110, 99, 97, 116]⟩ = false := by simp only [isOne, bytes_toList]; rfl
  have O1 := hide (rone_any ⟨#[67, 111, 110, 99, 97, 116]⟩ w)
  rw [e1] at O1
  have e2 : isTwo ⟨#[67, 111, 110, 99, 97, 116]⟩ = false := by simp only [isTwo, twoL, eqS, List.any_cons, List.any_nil, bytes_toList]; rfl
  have O2 := hide (fun wx => rtwo_any ⟨#[67, 111, 110, 99, 97, 116]⟩ wx)
  rw [e2] at O2
  clear e2
  clear e1
  go_enter Tryd.func35, Tryd.ntmps35
  go_wp2_with fail
  refine O1.out.mono ?_
  rintro e v0 ⟨rfl, h0⟩
  go_wp2_with fail
  refine (O2.out v0).mono ?_
  rintro e v1 ⟨rfl, h1'⟩
  have h1 := grown_trans h0 h1'
  go_wp2_with fail
  refine (rmust_any _ _ _).mono ?_
  rintro e v2 ⟨rfl, h2'⟩
  have h2 := grown_trans h1 h2'
  have FL := hide (forms_lit v2 [⟨⟨#[97, 120, 105, 115]⟩, 2, true⟩] (by decide) (by decide))
  have G := hide (grown_trans h2 (grown_new v2 (.cells #[.string ⟨#[97, 120, 105, 115]⟩, .int .i64 2, .bool true] 89)))
  go_wp2
  refine bodyPost_ret (results_tmp4 rfl _ _ _) rfl ?_
  exact ⟨⟨⟨some ⟨v2.heap.size, 0, none⟩, 1, 1⟩, [⟨⟨#[97, 120, 105, 115]⟩, 2, true⟩], rfl, rfl, OwnsL.base_le FL.out h2.size⟩, G.out⟩

set_option maxRecDepth 100000 in
set_option maxHeartbeats 1600000 in
theorem rof_Slice (w : World) :
    Calls Tryd.prog 35 #[.string ⟨#[83, 108, 105, 99, 101]⟩] w fun e w' => Formed (some (1, 1, [⟨⟨#[115, 116, 97, 114, 116, 115]⟩, 7, true⟩, ⟨⟨#[101, 110, 100, 115]⟩, 7, true⟩, ⟨⟨#[97, 120, 101, 115]⟩, 7, false⟩, thenRa])) w w' e ∧ w.grownBy w' none := by
  have e1 : isOne ⟨#[83, 108, 105, 99, 101]⟩ = false := by simp only [isOne, bytes_toList]; rfl
  have O1 := hide (rone_any ⟨#[83, 108, 105, 99, 101]⟩ w)
  rw [e1] at O1
  have e2 : isTwo ⟨#[83, 108, 105, 99, 101]⟩ = false := by simp only [isTwo, twoL, eqS, List.any_cons, List.any_nil, bytes_toList]; rfl
  have O2 := hide (fun wx => rtwo_any ⟨#[83, 108, 105, 99, 101]⟩ wx)
  rw [e2] at O2
  clear e2
  clear e1
  go_enter Tryd.func35, Tryd.ntmps35
  go_wp2_with fail
  refine O1.out.mono ?_
  rintro e v0 ⟨rfl, h0⟩
  go_wp2_with fail
  refine (O2.out v0).mono ?_
  rintro e v1 ⟨rfl, h1'⟩
  have h1 := grown_trans h0 h1'
  go_wp2_with fail
  refine (rmust_any _ _ _).mono ?_
  rintro e v2 ⟨rfl, h2'⟩
  have h2 := grown_trans h1 h2'
  go_wp2_with fail
  refine (rmust_any _ _ _).mono ?_
  rintro e v3 ⟨rfl, h3'⟩
  have h3 := grown_trans h2 h3'
  go_wp2_with fail
  refine (ropt_any _ _ _).mono ?_
  rintro e v4 ⟨rfl, h4'⟩
  have h4 := grown_trans h3 h4'
  have FL := hide (forms_lit v4 [⟨⟨#[115, 116, 97, 114, 116, 115]⟩, 7, true⟩, ⟨⟨#[101, 110, 100, 115]⟩, 7, true⟩, ⟨⟨#[97, 120, 101, 115]⟩, 7, false⟩] (by decide) (by decide))
  have G := hide (grown_trans h4 (grown_new v4 (.cells #[.string ⟨#[115, 116, 97, 114, 116, 115]⟩, .int .i64 7, .bool true, .string ⟨#[101, 110, 100, 115]⟩, .int .i64 7, .bool true, .string ⟨#[97, 120, 101, 115]⟩, .int .i64 7, .bool false] 89)))
  go_wp2
  refine bodyPost_ret (results_tmp4 rfl _ _ _) rfl ?_
  exact ⟨⟨⟨some ⟨v4.heap.size, 0, none⟩, 3, 3⟩, [⟨⟨#[115, 116, 97, 114, 116, 115]⟩, 7, true⟩, ⟨⟨#[101, 110, 100, 115]⟩, 7, true⟩, ⟨⟨#[97, 120, 101, 115]⟩, 7, false⟩], rfl, rfl, OwnsL.base_le FL.out h4.size⟩, G.out⟩

set_option maxRecDepth 100000 in
set_option maxHeartbeats 1600000 in
theorem rof_Gather (w : World) :
    Calls Tryd.prog 35 #[.string ⟨#[71, 97, 116, 104, 101, 114]⟩] w fun e w' => Formed (some (2, 2, [⟨⟨#[97, 120, 105, 115]⟩, 2, false⟩, thenRa])) w w' e ∧ w.grownBy w' none := by
  have e1 : isOne ⟨#[71, 97, 116, 104, 101, 114]⟩ = false := by simp only [isOne, bytes_toList]; rfl
  have O1 := hide (rone_any ⟨#[71, 97, 116, 104, 101, 114]⟩ w)
  rw [e1] at O1
  have e2 : isTwo ⟨#[71, 97, 116, 104, 101, 114]⟩ = false := by simp only [isTwo, twoL, eqS, List.any_cons, List.any_nil, bytes_toList]; rfl
  have O2 := hide (fun wx => rtwo_any ⟨#[71, 97, 116, 104, 101, 114]⟩ wx)
  rw [e2] at O2
  clear e2
  clear e1
  go_enter Tryd.func35, Tryd.ntmps35
  go_wp2_with fail
  refine O1.out.mono ?_
  rintro e v0 ⟨rfl, h0⟩
  go_wp2_with fail
  refine (O2.out v0).mono ?_
  rintro e v1 ⟨rfl, h1'⟩
  have h1 := grown_trans h0 h1'
  go_wp2_with fail
  refine (ropt_any _ _ _).mono ?_
  rintro e v2 ⟨rfl, h2'⟩
  have h2 := grown_trans h1 h2'
  have FL := hide (forms_lit v2 [⟨⟨#[97, 120, 105, 115]⟩, 2, false⟩] (by decide) (by decide))
  have G := hide (grown_trans h2 (grown_new v2 (.cells #[.string ⟨#[97, 120, 105, 115]⟩, .int .i64 2, .bool false] 89)))
  go_wp2
  refine bodyPost_ret (results_tmp4 rfl _ _ _) rfl ?_
  exact ⟨⟨⟨some ⟨v2.heap.size, 0, none⟩, 1, 1⟩, [⟨⟨#[97, 120, 105, 115]⟩, 2, false⟩], rfl, rfl, OwnsL.base_le FL.out h2.size⟩, G.out⟩

set_option maxRecDepth 100000 in
set_option maxHeartbeats 1600000 in
theorem rof_Pad (w : World) :
    Calls Tryd.prog 35 #[.string ⟨#[80, 97, 100]⟩] w fun e w' => Formed (some (1, 1, [⟨⟨#[112, 97, 100, 115]⟩, 7, true⟩, ⟨⟨#[118, 97, 108, 117, 101]⟩, 1, false⟩, thenRa])) w w' e ∧ w.grownBy w' none := by
  have e1 : isOne ⟨#[80, 97, 100]⟩ = false := by simp only [isOne, bytes_toList]; rfl
  have O1 := hide (rone_any ⟨#[80, 97, 100]⟩ w)
  rw [e1] at O1
  have e2 : isTwo ⟨#[80, 97, 100]⟩ = false := by simp only [isTwo, twoL, eqS, List.any_cons, List.any_nil, bytes_toList]; rfl
  have O2 := hide (fun wx => rtwo_any ⟨#[80, 97, 100]⟩ wx)
  rw [e2] at O2
  clear e2
  clear e1
  go_enter Tryd.func35, Tryd.ntmps35
  go_wp2_with fail
  refine O1.out.mono ?_
  rintro e v0 ⟨rfl, h0⟩
  go_wp2_with fail
  refine (O2.out v0).mono ?_
  rintro e v1 ⟨rfl, h1'⟩
  have h1 := grown_trans h0 h1'
  go_wp2_with fail
  refine (rmust_any _ _ _).mono ?_
  rintro e v2 ⟨rfl, h2'⟩
  have h2 := grown_trans h1 h2'
  go_wp2_with fail
  refine (ropt_any _ _ _).mono ?_
  rintro e v3 ⟨rfl, h3'⟩
  have h3 := grown_trans h2 h3'
  have FL := hide (forms_lit v3 [⟨⟨#[112, 97, 100, 115]⟩, 7, true⟩, ⟨⟨#[118, 97, 108, 117, 101]⟩, 1, false⟩] (by decide) (by decide))
  have G := hide (grown_trans h3 (grown_new v3 (.cells #[.string ⟨#[112, 97, 100, 115]⟩, .int .i64 7, .bool true, .string ⟨#[118, 97, 108, 117, 101]⟩, .int .i64 1, .bool false] 89)))
  go_wp2
  refine bodyPost_ret (results_tmp4 rfl _ _ _) rfl ?_
  exact ⟨⟨⟨some ⟨v3.heap.size, 0, none⟩, 2, 2⟩, [⟨⟨#[112, 97, 100, 115]⟩, 7, true⟩, ⟨⟨#[118, 97, 108, 117, 101]⟩, 1, false⟩], rfl, rfl, OwnsL.base_le FL.out h3.size⟩, G.out⟩

set_option maxRecDepth 100000 in
set_option maxHeartbeats 1600000 in
theorem rof_Squeeze (w : World) :
    Calls Tryd.prog 35 #[.string ⟨#[83, 113, 117, 101, 101, 122, 101]⟩] w fun e w' => Formed (some (1, 1, [⟨⟨#[97, 120, 101, 115]⟩, 7, true⟩, thenRa])) w w' e ∧ w.grownBy w' none := by
  have e1 : isOne ⟨#[83, 113, 117, 101, 101, 122, 101]⟩ = false := by simp only [isOne, bytes_toList]; rfl
  have O1 := hide (rone_any ⟨#[83, 113, 117, 101, 101, 122, 101]⟩ w)
  rw [e1] at O1
  have e2 : isTwo ⟨#[83, 113, 117, 101, 101, 122, 101]⟩ = false := by simp only [isTwo, twoL, eqS, List.any_cons, List.any_nil, bytes_toList]; rfl
  have O2 := hide (fun wx => rtwo_any ⟨#[83, 113, 117, 101, 101, 122, 101]⟩ wx)
  rw [e2] at O2
  clear e2
  clear e1
  go_enter Tryd.func35, Tryd.ntmps35
  go_wp2_with fail
  refine O1.out.mono ?_
  rintro e v0 ⟨rfl, h0⟩
  go_wp2_with fail
  refine (O2.out v0).mono ?_
  rintro e v1 ⟨rfl, h1'⟩
  have h1 := grown_trans h0 h1'
  go_wp2_with fail
  refine (rmust_any _ _ _).mono ?_
  rintro e v2 ⟨rfl, h2'⟩
  have h2 := grown_trans h1 h2'
  have FL := hide (forms_lit v2 [⟨⟨#[97, 120, 101, 115]⟩, 7, true⟩] (by decide) (by decide))
  have G := hide (grown_trans h2 (grown_new v2 (.cells #[.string ⟨#[97, 120, 101, 115]⟩, .int .i64 7, .bool true] 89)))
  go_wp2
  refine bodyPost_ret (results_tmp4 rfl _ _ _) rfl ?_
  exact ⟨⟨⟨some ⟨v2.heap.size, 0, none⟩, 1, 1⟩, [⟨⟨#[97, 120, 101, 115]⟩, 7, true⟩], rfl, rfl, OwnsL.base_le FL.out h2.size⟩, G.out⟩

set_option maxRecDepth 100000 in
set_option maxHeartbeats 1600000 in
theorem rof_Unsqueeze (w : World) :
    Calls Tryd.prog 35 #[.string ⟨#[85, 110, 115, 113, 117, 101, 101, 122, 101]⟩] w fun e w' => Formed (some (1, 1, [⟨⟨#[97, 120, 101, 115]⟩, 7, true⟩, thenRa])) w w' e ∧ w.grownBy w' none := by
  have e1 : isOne ⟨#[85, 110, 115, 113, 117, 101, 101, 122, 101]⟩ = false := by simp only [isOne, bytes_toList]; rfl
  have O1 := hide (rone_any ⟨#[85, 110, 115, 113, 117, 101, 101, 122, 101]⟩ w)
  rw [e1] at O1
  have e2 : isTwo ⟨#[85, 110, 115, 113, 117, 101, 101, 122, 101]⟩ = false := by simp only [isTwo, twoL, eqS, List.any_cons, List.any_nil, bytes_toList]; rfl
  have O2 := hide (fun wx => rtwo_any ⟨#[85, 110, 115, 113, 117, 101, 101, 122, 101]⟩ wx)
  rw [e2] at O2
  clear e2
  clear e1
  go_enter Tryd.func35, Tryd.ntmps35
  go_wp2_with fail
  refine O1.out.mono ?_
  rintro e v0 ⟨rfl, h0⟩
  go_wp2_with fail
  refine (O2.out v0).mono ?_
  rintro e v1 ⟨rfl, h1'⟩
  have h1 := grown_trans h0 h1'
  go_wp2_with fail
  refine (rmust_any _ _ _).mono ?_
  rintro e v2 ⟨rfl, h2'⟩
  have h2 := grown_trans h1 h2'
  have FL := hide (forms_lit v2 [⟨⟨#[97, 120, 101, 115]⟩, 7, true⟩] (by decide) (by decide))
  have G := hide (grown_trans h2 (grown_new v2 (.cells #[.string ⟨#[97, 120, 101, 115]⟩, .int .i64 7, .bool true] 89)))
  go_wp2
  refine bodyPost_ret (results_tmp4 rfl _ _ _) rfl ?_
  exact ⟨⟨⟨some ⟨v2.heap.size, 0, none⟩, 1, 1⟩, [⟨⟨#[97, 120, 101, 115]⟩, 7, true⟩], rfl, rfl, OwnsL.base_le FL.out h2.size⟩, G.out⟩

set_option maxRecDepth 100000 in
set_option maxHeartbeats 1600000 in
theorem rof_Flatten (w : World) :
    Calls Tryd.prog 35 #[.string ⟨#[70, 108, 97, 116, 116, 101, 110]⟩] w fun e w' => Formed (some (1, 1, [⟨⟨#[97, 120, 105, 115]⟩, 2, false⟩, thenRa])) w w' e ∧ w.grownBy w' none := by
  have e1 : isOne ⟨#[70, 108, 97, 116, 116, 101, 110]⟩ = false := by simp only [isOne, bytes_toList]; rfl
  have O1 := hide (rone_any ⟨#[70, 108, 97, 116, 116, 101, 110]⟩ w)
  rw [e1] at O1
  have e2 : isTwo ⟨#[70, 108, 97, 116, 116, 101, 110]⟩ = false := by simp only [isTwo, twoL, eqS, List.any_cons, List.any_nil, bytes_toList]; rfl
  have O2 := hide (fun wx => rtwo_any ⟨#[70, 108, 97, 116, 116, 101, 110]⟩ wx)
  rw [e2] at O2
  clear e2
  clear e1
  go_enter Tryd.func35, Tryd.ntmps35
  go_wp2_with fail
  refine O1.out.mono ?_
  rintro e v0 ⟨rfl, h0⟩
  go_wp2_with fail
  refine (O2.out v0).mono ?_
  rintro e v1 ⟨rfl, h1'⟩
  have h1 := grown_trans h0 h1'
  go_wp2_with fail
  refine (ropt_any _ _ _).mono ?_
  rintro e v2 ⟨rfl, h2'⟩
  have h2 := grown_trans h1 h2'
  have FL := hide (forms_lit v2 [⟨⟨#[97, 120, 105, 115]⟩, 2, false⟩] (by decide) (by decide))
  have G := hide (grown_trans h2 (grown_new v2 (.cells #[.string ⟨#[97, 120, 105, 115]⟩, .int .i64 2, .bool false] 89)))
  go_wp2
  refine bodyPost_ret (results_tmp4 rfl _ _ _) rfl ?_
  exact ⟨⟨⟨some ⟨v2.heap.size, 0, none⟩, 1, 1⟩, [⟨⟨#[97, 120, 105, 115]⟩, 2, false⟩], rfl, rfl, OwnsL.base_le FL.out h2.size⟩, G.out⟩

set_option maxRecDepth 100000 in
set_option maxHeartbeats 1600000 in
theorem rof_Softmax (w : World) :
    Calls Tryd.prog 35 #[.string ⟨#[83, 111, 102, 116, 109, 97, 120]⟩] w fun e w' => Formed (some (1, 1, [⟨⟨#[97, 120, 105, 115]⟩, 2, false⟩, thenRa])) w w' e ∧ w.grownBy w' none := by
  have e1 : isOne ⟨#[83, 111, 102, 116, 109, 97, 120]⟩ = false := by simp only [isOne, bytes_toList]; rfl
  have O1 := hide (rone_any ⟨#[83, 111, 102, 116, 109, 97, 120]⟩ w)
  rw [e1] at O1
  have e2 : isTwo ⟨#[83, 111, 102, 116, 109, 97, 120]⟩ = false := by simp only [isTwo, twoL, eqS, List.any_cons, List.any_nil, bytes_toList]; rfl
  have O2 := hide (fun wx => rtwo_any ⟨#[83, 111, 102, 116, 109, 97, 120]⟩ wx)
  rw [e2] at O2
  clear e2
  clear e1
  go_enter Tryd.func35, Tryd.ntmps35
  go_wp2_with fail
  refine O1.out.mono ?_
  rintro e v0 ⟨rfl, h0⟩
  go_wp2_with fail
  refine (O2.out v0).mono ?_
  rintro e v1 ⟨rfl, h1'⟩
  have h1 := grown_trans h0 h1'
  go_wp2_with fail
  refine (ropt_any _ _ _).mono ?_
  rintro e v2 ⟨rfl, h2'⟩
  have h2 := grown_trans h1 h2'
  have FL := hide (forms_lit v2 [⟨⟨#[97, 120, 105, 115]⟩, 2, false⟩] (by decide) (by decide))
  have G := hide (grown_trans h2 (grown_new v2 (.cells #[.string ⟨#[97, 120, 105, 115]⟩, .int .i64 2, .bool false] 89)))
  go_wp2
  refine bodyPost_ret (results_tmp4 rfl _ _ _) rfl ?_
  exact ⟨⟨⟨some ⟨v2.heap.size, 0, none⟩, 1, 1⟩, [⟨⟨#[97, 120, 105, 115]⟩, 2, false⟩], rfl, rfl, OwnsL.base_le FL.out h2.size⟩, G.out⟩

set_option maxRecDepth 100000 in
set_option maxHeartbeats 1600000 in
theorem rof_Gemm (w : World) :
    Calls Tryd.prog 35 #[.string ⟨#[71, 101, 109, 109]⟩] w fun e w' => Formed (some (2, 3, [⟨⟨#[116, 114, 97, 110, 115, 65]⟩, 2, false⟩, ⟨⟨#[116, 114, 97, 110, 115, 66]⟩, 2, false⟩, ⟨⟨#[97, 108, 112, 104, 97]⟩, 1, false⟩, ⟨⟨#[98, 101, 116, 97]⟩, 1, false⟩, thenRa])) w w' e ∧ w.grownBy w' none := by
  have e1 : isOne ⟨#[71, 101, 109, 109]⟩ = false := by simp only [isOne, bytes_toList]; rfl
  have O1 := hide (rone_any ⟨#[71, 101, 109, 109]⟩ w)
  rw [e1] at O1
  have e2 : isTwo ⟨#[71, 101, 109, 109]⟩ = false := by simp only [isTwo, twoL, eqS, List.any_cons, List.any_nil, bytes_toList]; rfl
  have O2 := hide (fun wx => rtwo_any ⟨#[71, 101, 109, 109]⟩ wx)
  rw [e2] at O2
  clear e2
  clear e1
  go_enter Tryd.func35, Tryd.ntmps35
  go_wp2_with fail
  refine O1.out.mono ?_
  rintro e v0 ⟨rfl, h0⟩
  go_wp2_with fail
  refine (O2.out v0).mono ?_
  rintro e v1 ⟨rfl, h1'⟩
  have h1 := grown_trans h0 h1'
  go_wp2_with fail
  refine (ropt_any _ _ _).mono ?_
  rintro e v2 ⟨rfl, h2'⟩
  have h2 := grown_trans h1 h2'
  go_wp2_with fail
  refine (ropt_any _ _ _).mono ?_
  rintro e v3 ⟨rfl, h3'⟩
  have h3 := grown_trans h2 h3'
  go_wp2_with fail
  refine (ropt_any _ _ _).mono ?_
  rintro e v4 ⟨rfl, h4'⟩
  have h4 := grown_trans h3 h4'
  go_wp2_with fail
  refine (ropt_any _ _ _).mono ?_
  rintro e v5 ⟨rfl, h5'⟩
  have h5 := grown_trans h4 h5'
  have FL := hide (forms_lit v5 [⟨⟨#[116, 114, 97, 110, 115, 65]⟩, 2, false⟩, ⟨⟨#[116, 114, 97, 110, 115, 66]⟩, 2, false⟩, ⟨⟨#[97, 108, 112, 104, 97]⟩, 1, false⟩, ⟨⟨#[98, 101, 116, 97]⟩, 1, false⟩] (by decide) (by decide))
  have G := hide (grown_trans h5 (grown_new v5 (.cells #[.string ⟨#[116, 114, 97, 110, 115, 65]⟩, .int .i64 2, .bool false, .string ⟨#[116, 114, 97, 110, 115, 66]⟩, .int .i64 2, .bool false, .string ⟨#[97, 108, 112, 104, 97]⟩, .int .i64 1, .bool false, .string ⟨#[98, 101, 116, 97]⟩, .int .i64 1, .bool false] 89)))
  go_wp2
  refine bodyPost_ret (results_tmp4 rfl _ _ _) rfl ?_
  exact ⟨⟨⟨some ⟨v5.heap.size, 0, none⟩, 4, 4⟩, [⟨⟨#[116, 114, 97, 110, 115, 65]⟩, 2, false⟩, ⟨⟨#[116, 114, 97, 110, 115, 66]⟩, 2, false⟩, ⟨⟨#[97, 108, 112, 104, 97]⟩, 1, false⟩, ⟨⟨#[98, 101, 116, 97]⟩, 1, false⟩], rfl, rfl, OwnsL.base_le FL.out h5.size⟩, G.out⟩

set_option maxRecDepth 100000 in
set_option maxHeartbeats 1600000 in
theorem rof_Conv (w : World) :
    Calls Tryd.prog 35 #[.string ⟨#[67, 111, 110, 118]⟩] w fun e w' => Formed (some (2, 3, [⟨⟨#[115, 116, 114, 105, 100, 101, 115]⟩, 7, false⟩, ⟨⟨#[112, 97, 100, 115]⟩, 7, false⟩, ⟨⟨#[100, 105, 108, 97, 116, 105, 111, 110, 115]⟩, 7, false⟩, ⟨⟨#[103, 114, 111, 117, 112]⟩, 2, false⟩, thenRa])) w w' e ∧ w.grownBy w' none := by
  have e1 : isOne ⟨#[67, 111, 110, 118]⟩ = false := by simp only [isOne, bytes_toList]; rfl
  have O1 := hide (rone_any ⟨#[67, 111, 110, 118]⟩ w)
  rw [e1] at O1
  have e2 : isTwo ⟨#[67, 111, 110, 118]⟩ = false := by simp only [isTwo, twoL, eqS, List.any_cons, List.any_nil, bytes_toList]; rfl
  have O2 := hide (fun wx => rtwo_any ⟨#[67, 111, 110, 118]⟩ wx)
  rw [e2] at O2
  clear e2
  clear e1
  go_enter Tryd.func35, Tryd.ntmps35
  go_wp2_with fail
  refine O1.out.mono ?_
  rintro e v0 ⟨rfl, h0⟩
  go_wp2_with fail
  refine (O2.out v0).mono ?_
  rintro e v1 ⟨rfl, h1'⟩
  have h1 := grown_trans h0 h1'
  go_wp2_with fail
  refine (ropt_any _ _ _).mono ?_
  rintro e v2 ⟨rfl, h2'⟩
  have h2 := grown_trans h1 h2'
  go_wp2_with fail
  refine (ropt_any _ _ _).mono ?_
  rintro e v3 ⟨rfl, h3'⟩
  have h3 := grown_trans h2 h3'
  go_wp2_with fail
  refine (ropt_any _ _ _).mono ?_
  rintro e v4 ⟨rfl, h4'⟩
  have h4 := grown_trans h3 h4'
  go_wp2_with fail
  refine (ropt_any _ _ _).mono ?_
  rintro e v5 ⟨rfl, h5'⟩
  have h5 := grown_trans h4 h5'
  have FL := hide (forms_lit v5 [⟨⟨#[115, 116, 114, 105, 100, 101, 115]⟩, 7, false⟩, ⟨⟨#[112, 97, 100, 115]⟩, 7, false⟩, ⟨⟨#[100, 105, 108, 97, 116, 105, 111, 110, 115]⟩, 7, false⟩, ⟨⟨#[103, 114, 111, 117, 112]⟩, 2, false⟩] (by decide) (by decide))
  have G := hide (grown_trans h5 (grown_new v5 (.cells #[.string ⟨#[115, 116, 114, 105, 100, 101, 115]⟩, .int .i64 7, .bool false, .string ⟨#[112, 97, 100, 115]⟩, .int .i64 7, .bool false, .string ⟨#[100, 105, 108, 97, 116, 105, 111, 110, 115]⟩, .int .i64 7, .bool false, .string ⟨#[103, 114, 111, 117, 112]⟩, .int .i64 2, .bool false] 89)))
  go_wp2
  refine bodyPost_ret (results_tmp4 rfl _ _ _) rfl ?_
  exact ⟨⟨⟨some ⟨v5.heap.size, 0, none⟩, 4, 4⟩, [⟨⟨#[115, 116, 114, 105, 100, 101, 115]⟩, 7, false⟩, ⟨⟨#[112, 97, 100, 115]⟩, 7, false⟩, ⟨⟨#[100, 105, 108, 97, 116, 105, 111, 110, 115]⟩, 7, false⟩, ⟨⟨#[103, 114, 111, 117, 112]⟩, 2, false⟩], rfl, rfl, OwnsL.base_le FL.out h5.size⟩, G.out⟩

set_option maxRecDepth 100000 in
set_option maxHeartbeats 1600000 in
theorem rof_MaxPool (w : World) :
    Calls Tryd.prog 35 #[.string ⟨#[77, 97, 120, 80, 111, 111, 108]⟩] w fun e w' => Formed (some (1, 1, [⟨⟨#[107, 101, 114, 110, 101, 108, 95, 115, 104, 97, 112, 101]⟩, 7, true⟩, ⟨⟨#[115, 116, 114, 105, 100, 101, 115]⟩, 7, false⟩, ⟨⟨#[112, 97, 100, 115]⟩, 7, false⟩, thenRa])) w w' e ∧ w.grownBy w' none := by
  have e1 : isOne ⟨#[77, 97, 120, 80, 111, 111, 108]⟩ = false := by simp only [isOne, bytes_toList]; rfl
  have O1 := hide (rone_any ⟨#[77, 97, 120, 80, 111, 111, 108]⟩ w)
  rw [e1] at O1
  have e2 : isTwo ⟨#[77, 97, 120, 80, 111, 111, 108]⟩ = false := by simp only [isTwo, twoL, eqS, List.any_cons, List.any_nil, bytes_toList]; rfl
  have O2 := hide (fun wx => rtwo_any ⟨#[77, 97, 120, 80, 111, 111, 108]⟩ wx)
  rw [e2] at O2
  clear e2
  clear e1
  go_enter Tryd.func35, Tryd.ntmps35
  go_wp2_with fail
  refine O1.out.mono ?_
  rintro e v0 ⟨rfl, h0⟩
  go_wp2_with fail
  refine (O2.out v0).mono ?_
  rintro e v1 ⟨rfl, h1'⟩
  have h1 := grown_trans h0 h1'
  go_wp2_with fail
  refine (rmust_any _ _ _).mono ?_
  rintro e v2 ⟨rfl, h2'⟩
  have h2 := grown_trans h1 h2'
  go_wp2_with fail
  refine (ropt_any _ _ _).mono ?_
  rintro e v3 ⟨rfl, h3'⟩
  have h3 := grown_trans h2 h3'
  go_wp2_with fail
  refine (ropt_any _ _ _).mono ?_
  rintro e v4 ⟨rfl, h4'⟩
  have h4 := grown_trans h3 h4'
  have FL := hide (forms_lit v4 [⟨⟨#[107, 101, 114, 110, 101, 108, 95, 115, 104, 97, 112, 101]⟩, 7, true⟩, ⟨⟨#[115, 116, 114, 105, 100, 101, 115]⟩, 7, false⟩, ⟨⟨#[112, 97, 100, 115]⟩, 7, false⟩] (by decide) (by decide))
  have G := hide (grown_trans h4 (grown_new v4 (.cells #[.string ⟨#[107, 101, 114, 110, 101, 108, 95, 115, 104, 97, 112, 101]⟩, .int .i64 7, .bool true, .string ⟨#[115, 116, 114, 105, 100, 101, 115]⟩, .int .i64 7, .bool false, .string ⟨#[112, 97, 100, 115]⟩, .int .i64 7, .bool false] 89)))
  go_wp2
  refine bodyPost_ret (results_tmp4 rfl _ _ _) rfl ?_
  exact ⟨⟨⟨some ⟨v4.heap.size, 0, none⟩, 3, 3⟩, [⟨⟨#[107, 101, 114, 110, 101, 108, 95, 115, 104, 97, 112, 101]⟩, 7, true⟩, ⟨⟨#[115, 116, 114, 105, 100, 101, 115]⟩, 7, false⟩, ⟨⟨#[112, 97, 100, 115]⟩, 7, false⟩], rfl, rfl, OwnsL.base_le FL.out h4.size⟩, G.out⟩

set_option maxRecDepth 100000 in
set_option maxHeartbeats 1600000 in
theorem rof_AveragePool (w : World) :
    Calls Tryd.prog 35 #[.string ⟨#[65, 118, 101, 114, 97, 103, 101, 80, 111, 111, 108]⟩] w fun e w' => Formed (some (1, 1, [⟨⟨#[107, 101, 114, 110, 101, 108, 95, 115, 104, 97, 112, 101]⟩, 7, true⟩, ⟨⟨#[115, 116, 114, 105, 100, 101, 115]⟩, 7, false⟩, ⟨⟨#[112, 97, 100, 115]⟩, 7, false⟩, thenRa])) w w' e ∧ w.grownBy w' none := by
  have e1 : isOne ⟨#[65, 118, 101, 114, 97, 103, 101, 80, 111, 111, 108]⟩ = false := by simp only [isOne, bytes_toList]; rfl
  have O1 := hide (rone_any ⟨#[65, 118, 101, 114, 97, 103, 101, 80, 111, 111, 108]⟩ w)
  rw [e1] at O1
  have e2 : isTwo ⟨#[65, 118, 101, 114, 97, 103, 101, 80, 111, 111, 108]⟩ = false := by simp only [isTwo, twoL, eqS, List.any_cons, List.any_nil, bytes_toList]; rfl
  have O2 := hide (fun wx => rtwo_any ⟨#[65, 118, 101, 114, 97, 103, 101, 80, 111, 111, 108]⟩ wx)
  rw [e2] at O2
  clear e2
  clear e1
  go_enter Tryd.func35, Tryd.ntmps35
  go_wp2_with fail
  refine O1.out.mono ?_
  rintro e v0 ⟨rfl, h0⟩
  go_wp2_with fail
  refine (O2.out v0).mono ?_
  rintro e v1 ⟨rfl, h1'⟩
  have h1 := grown_trans h0 h1'
  go_wp2_with fail
  refine (rmust_any _ _ _).mono ?_
  rintro e v2 ⟨rfl, h2'⟩
  have h2 := grown_trans h1 h2'
  go_wp2_with fail
  refine (ropt_any _ _ _).mono ?_
  rintro e v3 ⟨rfl, h3'⟩
  have h3 := grown_trans h2 h3'
  go_wp2_with fail
  refine (ropt_any _ _ _).mono ?_
  rintro e v4 ⟨rfl, h4'⟩
  have h4 := grown_trans h3 h4'
  have FL := hide (forms_lit v4 [⟨⟨#[107, 101, 114, 110, 101, 108, 95, 115, 104, 97, 112, 101]⟩, 7, true⟩, ⟨⟨#[115, 116, 114, 105, 100, 101, 115]⟩, 7, false⟩, ⟨⟨#[112, 97, 100, 115]⟩, 7, false⟩] (by decide) (by decide))
  have G := hide (grown_trans h4 (grown_new v4 (.cells #[.string ⟨#[107, 101, 114, 110, 101, 108, 95, 115, 104, 97, 112, 101]⟩, .int .i64 7, .bool true, .string ⟨#[115, 116, 114, 105, 100, 101, 115]⟩, .int .i64 7, .bool false, .string ⟨#[112, 97, 100, 115]⟩, .int .i64 7, .bool false] 89)))
  go_wp2
  refine bodyPost_ret (results_tmp4 rfl _ _ _) rfl ?_
  exact ⟨⟨⟨some ⟨v4.heap.size, 0, none⟩, 3, 3⟩, [⟨⟨#[107, 101, 114, 110, 101, 108, 95, 115, 104, 97, 112, 101]⟩, 7, true⟩, ⟨⟨#[115, 116, 114, 105, 100, 101, 115]⟩, 7, false⟩, ⟨⟨#[112, 97, 100, 115]⟩, 7, false⟩], rfl, rfl, OwnsL.base_le FL.out h4.size⟩, G.out⟩

set_option maxRecDepth 100000 in
set_option maxHeartbeats 1600000 in
theorem rof_GlobalAveragePool (w : World) :
    Calls Tryd.prog 35 #[.string ⟨#[71, 108, 111, 98, 97, 108, 65, 118, 101, 114, 97, 103, 101, 80, 111, 111, 108]⟩] w fun e w' => Formed (some (1, 1, [thenRa])) w w' e ∧ w.grownBy w' none := by
  have e1 : isOne ⟨#[71, 108, 111, 98, 97, 108, 65, 118, 101, 114, 97, 103, 101, 80, 111, 111, 108]⟩ = false := by simp only [isOne, bytes_toList]; rfl
  have O1 := hide (rone_any ⟨#[71, 108, 111, 98, 97, 108, 65, 118, 101, 114, 97, 103, 101, 80, 111, 111, 108]⟩ w)
  rw [e1] at O1
  clear e1
  go_enter Tryd.func35, Tryd.ntmps35
  go_wp2_with fail
  refine O1.out.mono ?_
  rintro e v0 ⟨rfl, h0⟩
  have h1 := h0
  obtain ⟨v1, rfl⟩ : ∃ v1, v1 = v0 := ⟨_, rfl⟩
  go_wp2
  refine bodyPost_ret (results_tmp4 rfl _ _ _) rfl ?_
  exact ⟨⟨⟨none, 0, 0⟩, [], rfl, rfl, OwnsL.nil ..⟩, h1⟩

set_option maxRecDepth 100000 in
set_option maxHeartbeats 1600000 in
theorem rof_BatchNormalization (w : World) :
    Calls Tryd.prog 35 #[.string ⟨#[66, 97, 116, 99, 104, 78, 111, 114, 109, 97, 108, 105, 122, 97, 116, 105, 111, 110]⟩] w fun e w' => Formed (some (5, 5, [⟨⟨#[101, 112, 115, 105, 108, 111, 110]⟩, 1, false⟩, thenRa])) w w' e ∧ w.grownBy w' none := by
  have e1 : isOne ⟨#[66, 97, 116, 99, 104, 78, 111, 114, 109, 97, 108, 105, 122, 97, 116, 105, 111, 110]⟩ = false := by simp only [isOne, bytes_toList]; rfl
  have O1 := hide (rone_any ⟨#[66, 97, 116, 99, 104, 78, 111, 114, 109, 97, 108, 105, 122, 97, 116, 105, 111, 110]⟩ w)
  rw [e1] at O1
  have e2 : isTwo ⟨#[66, 97, 116, 99, 104, 78, 111, 114, 109, 97, 108, 105, 122, 97, 116, 105, 111, 110]⟩ = false := by simp only [isTwo, twoL, eqS, List.any_cons, List.any_nil, bytes_toList]; rfl
  have O2 := hide (fun wx => rtwo_any ⟨#[66, 97, 116, 99, 104, 78, 111, 114, 109, 97, 108, 105, 122, 97, 116, 105, 111, 110]⟩ wx)
  rw [e2] at O2
  clear e2
  clear e1
  go_enter Tryd.func35, Tryd.ntmps35
  go_wp2_with fail
  refine O1.out.mono ?_
  rintro e v0 ⟨rfl, h0⟩
  go_wp2_with fail
  refine (O2.out v0).mono ?_
  rintro e v1 ⟨rfl, h1'⟩
  have h1 := grown_trans h0 h1'
  go_wp2_with fail
  refine (ropt_any _ _ _).mono ?_
  rintro e v2 ⟨rfl, h2'⟩
  have h2 := grown_trans h1 h2'
  have FL := hide (forms_lit v2 [⟨⟨#[101, 112, 115, 105, 108, 111, 110]⟩, 1, false⟩] (by decide) (by decide))
  have G := hide (grown_trans h2 (grown_new v2 (.cells #[.string ⟨#[101, 112, 115, 105, 108, 111, 110]⟩, .int .i64 1, .bool false] 89)))
  go_wp2
  refine bodyPost_ret (results_tmp4 rfl _ _ _) rfl ?_
  exact ⟨⟨⟨some ⟨v2.heap.size, 0, none⟩, 1, 1⟩, [⟨⟨#[101, 112, 115, 105, 108, 111, 110]⟩, 1, false⟩], rfl, rfl, OwnsL.base_le FL.out h2.size⟩, G.out⟩

set_option maxRecDepth 100000 in
set_option maxHeartbeats 1600000 in
theorem rof_Constant (w : World) :
    Calls Tryd.prog 35 #[.string ⟨#[67, 111, 110, 115, 116, 97, 110, 116]⟩] w fun e w' => Formed (some (0, 0, [⟨⟨#[118, 97, 108, 117, 101]⟩, 4, true⟩, thenRa])) w w' e ∧ w.grownBy w' none := by
  have e1 : isOne ⟨#[67, 111, 110, 115, 116, 97, 110, 116]⟩ = false := by simp only [isOne, bytes_toList]; rfl
  have O1 := hide (rone_any ⟨#[67, 111, 110, 115, 116, 97, 110, 116]⟩ w)
  rw [e1] at O1
  have e2 : isTwo ⟨#[67, 111, 110, 115, 116, 97, 110, 116]⟩ = false := by simp only [isTwo, twoL, eqS, List.any_cons, List.any_nil, bytes_toList]; rfl
  have O2 := hide (fun wx => rtwo_any ⟨#[67, 111, 110, 115, 116, 97, 110, 116]⟩ wx)
  rw [e2] at O2
  clear e2
  clear e1
  go_enter Tryd.func35, Tryd.ntmps35
  go_wp2_with fail
  refine O1.out.mono ?_
  rintro e v0 ⟨rfl, h0⟩
  go_wp2_with fail
  refine (O2.out v0).mono ?_
  rintro e v1 ⟨rfl, h1'⟩
  have h1 := grown_trans h0 h1'
  go_wp2_with fail
  refine (rmust_any _ _ _).mono ?_
  rintro e v2 ⟨rfl, h2'⟩
  have h2 := grown_trans h1 h2'
  have FL := hide (forms_lit v2 [⟨⟨#[118, 97, 108, 117, 101]⟩, 4, true⟩] (by decide) (by decide))
  have G := hide (grown_trans h2 (grown_new v2 (.cells #[.string ⟨#[118, 97, 108, 117, 101]⟩, .int .i64 4, .bool true] 89)))
  go_wp2
  refine bodyPost_ret (results_tmp4 rfl _ _ _) rfl ?_
  exact ⟨⟨⟨some ⟨v2.heap.size, 0, none⟩, 1, 1⟩, [⟨⟨#[118, 97, 108, 117, 101]⟩, 4, true⟩], rfl, rfl, OwnsL.base_le FL.out h2.size⟩, G.out⟩

end Go.Proofs.YtlmaobkfmplalaaDoor
