/- The document's of, operator by operator (mkROf.py). -/
import Derived.Test.YtlmaobkfmplalaaDoorNRAmong
namespace Go.Proofs.YtlmaobkfmplalaaDoor
open Go.RowKit

set_option maxRecDepth 100000 in
set_option maxHeartbeats 1600000 in
theorem rof_Identity (w : World) :
    Calls Tryd.prog 35 #[.string ⟨#[73, 100, 101, 110, 116, 105, 116, 121]⟩] w fun e w' => Formed (some (1, 1, [thenRa])) w w' e ∧ w.grownBy w' none := by
  have e1 : isOne ⟨#[73, 100, 101, 110, 116, 105, 116, 121]⟩ = true := by simp only [isOne, bytes_toList]; rfl
  have O1 := hide (rone_any ⟨#[73, 100, 101, 110, 116, 105, 116, 121]⟩ w)
  rw [e1] at O1
  clear e1
  go_enter Tryd.func35, Tryd.ntmps35
  go_wp2_with fail
  refine O1.out.mono ?_
  rintro e v0 ⟨rfl, h0⟩
  have h1 := h0
  obtain ⟨v1, rfl⟩ : ∃ v1, v1 = v0 := ⟨_, rfl⟩
  go_wp2
  refine bodyPost_ret (results_tmp4 rfl _ _ _) rfl ?_
  exact ⟨⟨⟨none, 0, 0⟩, [], rfl, rfl, OwnsL.nil ..⟩, h1⟩

set_option maxRecDepth 100000 in
set_option maxHeartbeats 1600000 in
theorem rof_Neg (w : World) :
    Calls Tryd.prog 35 #[.string ⟨#[78, 101, 103]⟩] w fun e w' => Formed (some (1, 1, [thenRa])) w w' e ∧ w.grownBy w' none := by
  have e1 : isOne ⟨#[78, 101, 103]⟩ = true := by simp only [isOne, bytes_toList]; rfl
  have O1 := hide (rone_any ⟨#[78, 101, 103]⟩ w)
  rw [e1] at O1
  clear e1
  go_enter Tryd.func35, Tryd.ntmps35
  go_wp2_with fail
  refine O1.out.mono ?_
  rintro e v0 ⟨rfl, h0⟩
  have h1 := h0
  obtain ⟨v1, rfl⟩ : ∃ v1, v1 = v0 := ⟨_, rfl⟩
  go_wp2
  refine bodyPost_ret (results_tmp4 rfl _ _ _) rfl ?_
  exact ⟨⟨⟨none, 0, 0⟩, [], rfl, rfl, OwnsL.nil ..⟩, h1⟩

set_option maxRecDepth 100000 in
set_option maxHeartbeats 1600000 in
theorem rof_Abs (w : World) :
    Calls Tryd.prog 35 #[.string ⟨#[65, 98, 115]⟩] w fun e w' => Formed (some (1, 1, [thenRa])) w w' e ∧ w.grownBy w' none := by
  have e1 : isOne ⟨#[65, 98, 115]⟩ = true := by simp only [isOne, bytes_toList]; rfl
  have O1 := hide (rone_any ⟨#[65, 98, 115]⟩ w)
  rw [e1] at O1
  clear e1
  go_enter Tryd.func35, Tryd.ntmps35
  go_wp2_with fail
  refine O1.out.mono ?_
  rintro e v0 ⟨rfl, h0⟩
  have h1 := h0
  obtain ⟨v1, rfl⟩ : ∃ v1, v1 = v0 := ⟨_, rfl⟩
  go_wp2
  refine bodyPost_ret (results_tmp4 rfl _ _ _) rfl ?_
  exact ⟨⟨⟨none, 0, 0⟩, [], rfl, rfl, OwnsL.nil ..⟩, h1⟩

set_option maxRecDepth 100000 in
set_option maxHeartbeats 1600000 in
theorem rof_Not (w : World) :
    Calls Tryd.prog 35 #[.string ⟨#[78, 111, 116]⟩] w fun e w' => Formed (some (1, 1, [thenRa])) w w' e ∧ w.grownBy w' none := by
  have e1 : isOne ⟨#[78, 111, 116]⟩ = true := by simp only [isOne, bytes_toList]; rfl
  have O1 := hide (rone_any ⟨#[78, 111, 116]⟩ w)
  rw [e1] at O1
  clear e1
  go_enter Tryd.func35, Tryd.ntmps35
  go_wp2_with fail
  refine O1.out.mono ?_
  rintro e v0 ⟨rfl, h0⟩
  have h1 := h0
  obtain ⟨v1, rfl⟩ : ∃ v1, v1 = v0 := ⟨_, rfl⟩
  go_wp2
  refine bodyPost_ret (results_tmp4 rfl _ _ _) rfl ?_
  exact ⟨⟨⟨none, 0, 0⟩, [], rfl, rfl, OwnsL.nil ..⟩, h1⟩

set_option maxRecDepth 100000 in
set_option maxHeartbeats 1600000 in
theorem rof_Relu (w : World) :
    Calls Tryd.prog 35 #[.string ⟨#[82, 101, 108, 117]⟩] w fun e w' => Formed (some (1, 1, [thenRa])) w w' e ∧ w.grownBy w' none := by
  have e1 : isOne ⟨#[82, 101, 108, 117]⟩ = true := by simp only [isOne, bytes_toList]; rfl
  have O1 := hide (rone_any ⟨#[82, 101, 108, 117]⟩ w)
  rw [e1] at O1
  clear e1
  go_enter Tryd.func35, Tryd.ntmps35
  go_wp2_with fail
  refine O1.out.mono ?_
  rintro e v0 ⟨rfl, h0⟩
  have h1 := h0
  obtain ⟨v1, rfl⟩ : ∃ v1, v1 = v0 := ⟨_, rfl⟩
  go_wp2
  refine bodyPost_ret (results_tmp4 rfl _ _ _) rfl ?_
  exact ⟨⟨⟨none, 0, 0⟩, [], rfl, rfl, OwnsL.nil ..⟩, h1⟩

set_option maxRecDepth 100000 in
set_option maxHeartbeats 1600000 in
theorem rof_Sqrt (w : World) :
    Calls Tryd.prog 35 #[.string ⟨#[83, 113, 114, 116]⟩] w fun e w' => Formed (some (1, 1, [thenRa])) w w' e ∧ w.grownBy w' none := by
  have e1 : isOne ⟨#[83, 113, 114, 116]⟩ = true := by simp only [isOne, bytes_toList]; rfl
  have O1 := hide (rone_any ⟨#[83, 113, 114, 116]⟩ w)
  rw [e1] at O1
  clear e1
  go_enter Tryd.func35, Tryd.ntmps35
  go_wp2_with fail
  refine O1.out.mono ?_
  rintro e v0 ⟨rfl, h0⟩
  have h1 := h0
  obtain ⟨v1, rfl⟩ : ∃ v1, v1 = v0 := ⟨_, rfl⟩
  go_wp2
  refine bodyPost_ret (results_tmp4 rfl _ _ _) rfl ?_
  exact ⟨⟨⟨none, 0, 0⟩, [], rfl, rfl, OwnsL.nil ..⟩, h1⟩

set_option maxRecDepth 100000 in
set_option maxHeartbeats 1600000 in
theorem rof_Floor (w : World) :
    Calls Tryd.prog 35 #[.string ⟨#[70, 108, 111, 111, 114]⟩] w fun e w' => Formed (some (1, 1, [thenRa])) w w' e ∧ w.grownBy w' none := by
  have e1 : isOne ⟨#[70, 108, 111, 111, 114]⟩ = true := by simp only [isOne, bytes_toList]; rfl
  have O1 := hide (rone_any ⟨#[70, 108, 111, 111, 114]⟩ w)
  rw [e1] at O1
  clear e1
  go_enter Tryd.func35, Tryd.ntmps35
  go_wp2_with fail
  refine O1.out.mono ?_
  rintro e v0 ⟨rfl, h0⟩
  have h1 := h0
  obtain ⟨v1, rfl⟩ : ∃ v1, v1 = v0 := ⟨_, rfl⟩
  go_wp2
  refine bodyPost_ret (results_tmp4 rfl _ _ _) rfl ?_
  exact ⟨⟨⟨none, 0, 0⟩, [], rfl, rfl, OwnsL.nil ..⟩, h1⟩

set_option maxRecDepth 100000 in
set_option maxHeartbeats 1600000 in
theorem rof_Exp (w : World) :
    Calls Tryd.prog 35 #[.string ⟨#[69, 120, 112]⟩] w fun e w' => Formed (some (1, 1, [thenRa])) w w' e ∧ w.grownBy w' none := by
  have e1 : isOne ⟨#[69, 120, 112]⟩ = true := by simp only [isOne, bytes_toList]; rfl
  have O1 := hide (rone_any ⟨#[69, 120, 112]⟩ w)
  rw [e1] at O1
  clear e1
  go_enter Tryd.func35, Tryd.ntmps35
  go_wp2_with fail
  refine O1.out.mono ?_
  rintro e v0 ⟨rfl, h0⟩
  have h1 := h0
  obtain ⟨v1, rfl⟩ : ∃ v1, v1 = v0 := ⟨_, rfl⟩
  go_wp2
  refine bodyPost_ret (results_tmp4 rfl _ _ _) rfl ?_
  exact ⟨⟨⟨none, 0, 0⟩, [], rfl, rfl, OwnsL.nil ..⟩, h1⟩

set_option maxRecDepth 100000 in
set_option maxHeartbeats 1600000 in
theorem rof_Sigmoid (w : World) :
    Calls Tryd.prog 35 #[.string ⟨#[83, 105, 103, 109, 111, 105, 100]⟩] w fun e w' => Formed (some (1, 1, [thenRa])) w w' e ∧ w.grownBy w' none := by
  have e1 : isOne ⟨#[83, 105, 103, 109, 111, 105, 100]⟩ = true := by simp only [isOne, bytes_toList]; rfl
  have O1 := hide (rone_any ⟨#[83, 105, 103, 109, 111, 105, 100]⟩ w)
  rw [e1] at O1
  clear e1
  go_enter Tryd.func35, Tryd.ntmps35
  go_wp2_with fail
  refine O1.out.mono ?_
  rintro e v0 ⟨rfl, h0⟩
  have h1 := h0
  obtain ⟨v1, rfl⟩ : ∃ v1, v1 = v0 := ⟨_, rfl⟩
  go_wp2
  refine bodyPost_ret (results_tmp4 rfl _ _ _) rfl ?_
  exact ⟨⟨⟨none, 0, 0⟩, [], rfl, rfl, OwnsL.nil ..⟩, h1⟩

set_option maxRecDepth 100000 in
set_option maxHeartbeats 1600000 in
theorem rof_Tanh (w : World) :
    Calls Tryd.prog 35 #[.string ⟨#[84, 97, 110, 104]⟩] w fun e w' => Formed (some (1, 1, [thenRa])) w w' e ∧ w.grownBy w' none := by
  have e1 : isOne ⟨#[84, 97, 110, 104]⟩ = true := by simp only [isOne, bytes_toList]; rfl
  have O1 := hide (rone_any ⟨#[84, 97, 110, 104]⟩ w)
  rw [e1] at O1
  clear e1
  go_enter Tryd.func35, Tryd.ntmps35
  go_wp2_with fail
  refine O1.out.mono ?_
  rintro e v0 ⟨rfl, h0⟩
  have h1 := h0
  obtain ⟨v1, rfl⟩ : ∃ v1, v1 = v0 := ⟨_, rfl⟩
  go_wp2
  refine bodyPost_ret (results_tmp4 rfl _ _ _) rfl ?_
  exact ⟨⟨⟨none, 0, 0⟩, [], rfl, rfl, OwnsL.nil ..⟩, h1⟩

set_option maxRecDepth 100000 in
set_option maxHeartbeats 1600000 in
theorem rof_Add (w : World) :
    Calls Tryd.prog 35 #[.string ⟨#[65, 100, 100]⟩] w fun e w' => Formed (some (2, 2, [thenRa])) w w' e ∧ w.grownBy w' none := by
  have e1 : isOne ⟨#[65, 100, 100]⟩ = false := by simp only [isOne, bytes_toList]; rfl
  have O1 := hide (rone_any ⟨#[65, 100, 100]⟩ w)
  rw [e1] at O1
  have e2 : isTwo ⟨#[65, 100, 100]⟩ = true := by simp only [isTwo, twoL, eqS, List.any_cons, List.any_nil, bytes_toList]; rfl
  have O2 := hide (fun wx => rtwo_any ⟨#[65, 100, 100]⟩ wx)
  rw [e2] at O2
  clear e2
  clear e1
  go_enter Tryd.func35, Tryd.ntmps35
  go_wp2_with fail
  refine O1.out.mono ?_
  rintro e v0 ⟨rfl, h0⟩
  go_wp2_with fail
  refine (O2.out v0).mono ?_
  rintro e v1 ⟨rfl, h1'⟩
  have h1 := grown_trans h0 h1'
  go_wp2
  refine bodyPost_ret (results_tmp4 rfl _ _ _) rfl ?_
  exact ⟨⟨⟨none, 0, 0⟩, [], rfl, rfl, OwnsL.nil ..⟩, h1⟩

set_option maxRecDepth 100000 in
set_option maxHeartbeats 1600000 in
theorem rof_Sub (w : World) :
    Calls Tryd.prog 35 #[.string ⟨#[83, 117, 98]⟩] w fun e w' => Formed (some (2, 2, [thenRa])) w w' e ∧ w.grownBy w' none := by
  have e1 : isOne ⟨#[83, 117, 98]⟩ = false := by simp only [isOne, bytes_toList]; rfl
  have O1 := hide (rone_any ⟨#[83, 117, 98]⟩ w)
  rw [e1] at O1
  have e2 : isTwo ⟨#[83, 117, 98]⟩ = true := by simp only [isTwo, twoL, eqS, List.any_cons, List.any_nil, bytes_toList]; rfl
  have O2 := hide (fun wx => rtwo_any ⟨#[83, 117, 98]⟩ wx)
  rw [e2] at O2
  clear e2
  clear e1
  go_enter Tryd.func35, Tryd.ntmps35
  go_wp2_with fail
  refine O1.out.mono ?_
  rintro e v0 ⟨rfl, h0⟩
  go_wp2_with fail
  refine (O2.out v0).mono ?_
  rintro e v1 ⟨rfl, h1'⟩
  have h1 := grown_trans h0 h1'
  go_wp2
  refine bodyPost_ret (results_tmp4 rfl _ _ _) rfl ?_
  exact ⟨⟨⟨none, 0, 0⟩, [], rfl, rfl, OwnsL.nil ..⟩, h1⟩

set_option maxRecDepth 100000 in
set_option maxHeartbeats 1600000 in
theorem rof_Mul (w : World) :
    Calls Tryd.prog 35 #[.string ⟨#[77, 117, 108]⟩] w fun e w' => Formed (some (2, 2, [thenRa])) w w' e ∧ w.grownBy w' none := by
  have e1 : isOne ⟨#[77, 117, 108]⟩ = false := by simp only [isOne, bytes_toList]; rfl
  have O1 := hide (rone_any ⟨#[77, 117, 108]⟩ w)
  rw [e1] at O1
  have e2 : isTwo ⟨#[77, 117, 108]⟩ = true := by simp only [isTwo, twoL, eqS, List.any_cons, List.any_nil, bytes_toList]; rfl
  have O2 := hide (fun wx => rtwo_any ⟨#[77, 117, 108]⟩ wx)
  rw [e2] at O2
  clear e2
  clear e1
  go_enter Tryd.func35, Tryd.ntmps35
  go_wp2_with fail
  refine O1.out.mono ?_
  rintro e v0 ⟨rfl, h0⟩
  go_wp2_with fail
  refine (O2.out v0).mono ?_
  rintro e v1 ⟨rfl, h1'⟩
  have h1 := grown_trans h0 h1'
  go_wp2
  refine bodyPost_ret (results_tmp4 rfl _ _ _) rfl ?_
  exact ⟨⟨⟨none, 0, 0⟩, [], rfl, rfl, OwnsL.nil ..⟩, h1⟩

set_option maxRecDepth 100000 in
set_option maxHeartbeats 1600000 in
theorem rof_Div (w : World) :
    Calls Tryd.prog 35 #[.string ⟨#[68, 105, 118]⟩] w fun e w' => Formed (some (2, 2, [thenRa])) w w' e ∧ w.grownBy w' none := by
  have e1 : isOne ⟨#[68, 105, 118]⟩ = false := by simp only [isOne, bytes_toList]; rfl
  have O1 := hide (rone_any ⟨#[68, 105, 118]⟩ w)
  rw [e1] at O1
  have e2 : isTwo ⟨#[68, 105, 118]⟩ = true := by simp only [isTwo, twoL, eqS, List.any_cons, List.any_nil, bytes_toList]; rfl
  have O2 := hide (fun wx => rtwo_any ⟨#[68, 105, 118]⟩ wx)
  rw [e2] at O2
  clear e2
  clear e1
  go_enter Tryd.func35, Tryd.ntmps35
  go_wp2_with fail
  refine O1.out.mono ?_
  rintro e v0 ⟨rfl, h0⟩
  go_wp2_with fail
  refine (O2.out v0).mono ?_
  rintro e v1 ⟨rfl, h1'⟩
  have h1 := grown_trans h0 h1'
  go_wp2
  refine bodyPost_ret (results_tmp4 rfl _ _ _) rfl ?_
  exact ⟨⟨⟨none, 0, 0⟩, [], rfl, rfl, OwnsL.nil ..⟩, h1⟩

set_option maxRecDepth 100000 in
set_option maxHeartbeats 1600000 in
theorem rof_Max (w : World) :
    Calls Tryd.prog 35 #[.string ⟨#[77, 97, 120]⟩] w fun e w' => Formed (some (2, 2, [thenRa])) w w' e ∧ w.grownBy w' none := by
  have e1 : isOne ⟨#[77, 97, 120]⟩ = false := by simp only [isOne, bytes_toList]; rfl
  have O1 := hide (rone_any ⟨#[77, 97, 120]⟩ w)
  rw [e1] at O1
  have e2 : isTwo ⟨#[77, 97, 120]⟩ = true := by simp only [isTwo, twoL, eqS, List.any_cons, List.any_nil, bytes_toList]; rfl
  have O2 := hide (fun wx => rtwo_any ⟨#[77, 97, 120]⟩ wx)
  rw [e2] at O2
  clear e2
  clear e1
  go_enter Tryd.func35, Tryd.ntmps35
  go_wp2_with fail
  refine O1.out.mono ?_
  rintro e v0 ⟨rfl, h0⟩
  go_wp2_with fail
  refine (O2.out v0).mono ?_
  rintro e v1 ⟨rfl, h1'⟩
  have h1 := grown_trans h0 h1'
  go_wp2
  refine bodyPost_ret (results_tmp4 rfl _ _ _) rfl ?_
  exact ⟨⟨⟨none, 0, 0⟩, [], rfl, rfl, OwnsL.nil ..⟩, h1⟩

set_option maxRecDepth 100000 in
set_option maxHeartbeats 1600000 in
theorem rof_Min (w : World) :
    Calls Tryd.prog 35 #[.string ⟨#[77, 105, 110]⟩] w fun e w' => Formed (some (2, 2, [thenRa])) w w' e ∧ w.grownBy w' none := by
  have e1 : isOne ⟨#[77, 105, 110]⟩ = false := by simp only [isOne, bytes_toList]; rfl
  have O1 := hide (rone_any ⟨#[77, 105, 110]⟩ w)
  rw [e1] at O1
  have e2 : isTwo ⟨#[77, 105, 110]⟩ = true := by simp only [isTwo, twoL, eqS, List.any_cons, List.any_nil, bytes_toList]; rfl
  have O2 := hide (fun wx => rtwo_any ⟨#[77, 105, 110]⟩ wx)
  rw [e2] at O2
  clear e2
  clear e1
  go_enter Tryd.func35, Tryd.ntmps35
  go_wp2_with fail
  refine O1.out.mono ?_
  rintro e v0 ⟨rfl, h0⟩
  go_wp2_with fail
  refine (O2.out v0).mono ?_
  rintro e v1 ⟨rfl, h1'⟩
  have h1 := grown_trans h0 h1'
  go_wp2
  refine bodyPost_ret (results_tmp4 rfl _ _ _) rfl ?_
  exact ⟨⟨⟨none, 0, 0⟩, [], rfl, rfl, OwnsL.nil ..⟩, h1⟩

set_option maxRecDepth 100000 in
set_option maxHeartbeats 1600000 in
theorem rof_And (w : World) :
    Calls Tryd.prog 35 #[.string ⟨#[65, 110, 100]⟩] w fun e w' => Formed (some (2, 2, [thenRa])) w w' e ∧ w.grownBy w' none := by
  have e1 : isOne ⟨#[65, 110, 100]⟩ = false := by simp only [isOne, bytes_toList]; rfl
  have O1 := hide (rone_any ⟨#[65, 110, 100]⟩ w)
  rw [e1] at O1
  have e2 : isTwo ⟨#[65, 110, 100]⟩ = true := by simp only [isTwo, twoL, eqS, List.any_cons, List.any_nil, bytes_toList]; rfl
  have O2 := hide (fun wx => rtwo_any ⟨#[65, 110, 100]⟩ wx)
  rw [e2] at O2
  clear e2
  clear e1
  go_enter Tryd.func35, Tryd.ntmps35
  go_wp2_with fail
  refine O1.out.mono ?_
  rintro e v0 ⟨rfl, h0⟩
  go_wp2_with fail
  refine (O2.out v0).mono ?_
  rintro e v1 ⟨rfl, h1'⟩
  have h1 := grown_trans h0 h1'
  go_wp2
  refine bodyPost_ret (results_tmp4 rfl _ _ _) rfl ?_
  exact ⟨⟨⟨none, 0, 0⟩, [], rfl, rfl, OwnsL.nil ..⟩, h1⟩

set_option maxRecDepth 100000 in
set_option maxHeartbeats 1600000 in
theorem rof_Or (w : World) :
    Calls Tryd.prog 35 #[.string ⟨#[79, 114]⟩] w fun e w' => Formed (some (2, 2, [thenRa])) w w' e ∧ w.grownBy w' none := by
  have e1 : isOne ⟨#[79, 114]⟩ = false := by simp only [isOne, bytes_toList]; rfl
  have O1 := hide (rone_any ⟨#[79, 114]⟩ w)
  rw [e1] at O1
  have e2 : isTwo ⟨#[79, 114]⟩ = true := by simp only [isTwo, twoL, eqS, List.any_cons, List.any_nil, bytes_toList]; rfl
  have O2 := hide (fun wx => rtwo_any ⟨#[79, 114]⟩ wx)
  rw [e2] at O2
  clear e2
  clear e1
  go_enter Tryd.func35, Tryd.ntmps35
  go_wp2_with fail
  refine O1.out.mono ?_
  rintro e v0 ⟨rfl, h0⟩
  go_wp2_with fail
  refine (O2.out v0).mono ?_
  rintro e v1 ⟨rfl, h1'⟩
  have h1 := grown_trans h0 h1'
  go_wp2
  refine bodyPost_ret (results_tmp4 rfl _ _ _) rfl ?_
  exact ⟨⟨⟨none, 0, 0⟩, [], rfl, rfl, OwnsL.nil ..⟩, h1⟩

set_option maxRecDepth 100000 in
set_option maxHeartbeats 1600000 in
theorem rof_Xor (w : World) :
    Calls Tryd.prog 35 #[.string ⟨#[88, 111, 114]⟩] w fun e w' => Formed (some (2, 2, [thenRa])) w w' e ∧ w.grownBy w' none := by
  have e1 : isOne ⟨#[88, 111, 114]⟩ = false := by simp only [isOne, bytes_toList]; rfl
  have O1 := hide (rone_any ⟨#[88, 111, 114]⟩ w)
  rw [e1] at O1
  have e2 : isTwo ⟨#[88, 111, 114]⟩ = true := by simp only [isTwo, twoL, eqS, List.any_cons, List.any_nil, bytes_toList]; rfl
  have O2 := hide (fun wx => rtwo_any ⟨#[88, 111, 114]⟩ wx)
  rw [e2] at O2
  clear e2
  clear e1
  go_enter Tryd.func35, Tryd.ntmps35
  go_wp2_with fail
  refine O1.out.mono ?_
  rintro e v0 ⟨rfl, h0⟩
  go_wp2_with fail
  refine (O2.out v0).mono ?_
  rintro e v1 ⟨rfl, h1'⟩
  have h1 := grown_trans h0 h1'
  go_wp2
  refine bodyPost_ret (results_tmp4 rfl _ _ _) rfl ?_
  exact ⟨⟨⟨none, 0, 0⟩, [], rfl, rfl, OwnsL.nil ..⟩, h1⟩

set_option maxRecDepth 100000 in
set_option maxHeartbeats 1600000 in
theorem rof_Equal (w : World) :
    Calls Tryd.prog 35 #[.string ⟨#[69, 113, 117, 97, 108]⟩] w fun e w' => Formed (some (2, 2, [thenRa])) w w' e ∧ w.grownBy w' none := by
  have e1 : isOne ⟨#[69, 113, 117, 97, 108]⟩ = false := by simp only [isOne, bytes_toList]; rfl
  have O1 := hide (rone_any ⟨#[69, 113, 117, 97, 108]⟩ w)
  rw [e1] at O1
  have e2 : isTwo ⟨#[69, 113, 117, 97, 108]⟩ = true := by simp only [isTwo, twoL, eqS, List.any_cons, List.any_nil, bytes_toList]; rfl
  have O2 := hide (fun wx => rtwo_any ⟨#[69, 113, 117, 97, 108]⟩ wx)
  rw [e2] at O2
  clear e2
  clear e1
  go_enter Tryd.func35, Tryd.ntmps35
  go_wp2_with fail
  refine O1.out.mono ?_
  rintro e v0 ⟨rfl, h0⟩
  go_wp2_with fail
  refine (O2.out v0).mono ?_
  rintro e v1 ⟨rfl, h1'⟩
  have h1 := grown_trans h0 h1'
  go_wp2
  refine bodyPost_ret (results_tmp4 rfl _ _ _) rfl ?_
  exact ⟨⟨⟨none, 0, 0⟩, [], rfl, rfl, OwnsL.nil ..⟩, h1⟩

set_option maxRecDepth 100000 in
set_option maxHeartbeats 1600000 in
theorem rof_Less (w : World) :
    Calls Tryd.prog 35 #[.string ⟨#[76, 101, 115, 115]⟩] w fun e w' => Formed (some (2, 2, [thenRa])) w w' e ∧ w.grownBy w' none := by
  have e1 : isOne ⟨#[76, 101, 115, 115]⟩ = false := by simp only [isOne, bytes_toList]; rfl
  have O1 := hide (rone_any ⟨#[76, 101, 115, 115]⟩ w)
  rw [e1] at O1
  have e2 : isTwo ⟨#[76, 101, 115, 115]⟩ = true := by simp only [isTwo, twoL, eqS, List.any_cons, List.any_nil, bytes_toList]; rfl
  have O2 := hide (fun wx => rtwo_any ⟨#[76, 101, 115, 115]⟩ wx)
  rw [e2] at O2
  clear e2
  clear e1
  go_enter Tryd.func35, Tryd.ntmps35
  go_wp2_with fail
  refine O1.out.mono ?_
  rintro e v0 ⟨rfl, h0⟩
  go_wp2_with fail
  refine (O2.out v0).mono ?_
  rintro e v1 ⟨rfl, h1'⟩
  have h1 := grown_trans h0 h1'
  go_wp2
  refine bodyPost_ret (results_tmp4 rfl _ _ _) rfl ?_
  exact ⟨⟨⟨none, 0, 0⟩, [], rfl, rfl, OwnsL.nil ..⟩, h1⟩

set_option maxRecDepth 100000 in
set_option maxHeartbeats 1600000 in
theorem rof_Greater (w : World) :
    Calls Tryd.prog 35 #[.string ⟨#[71, 114, 101, 97, 116, 101, 114]⟩] w fun e w' => Formed (some (2, 2, [thenRa])) w w' e ∧ w.grownBy w' none := by
  have e1 : isOne ⟨#[71, 114, 101, 97, 116, 101, 114]⟩ = false := by simp only [isOne, bytes_toList]; rfl
  have O1 := hide (rone_any ⟨#[71, 114, 101, 97, 116, 101, 114]⟩ w)
  rw [e1] at O1
  have e2 : isTwo ⟨#[71, 114, 101, 97, 116, 101, 114]⟩ = true := by simp only [isTwo, twoL, eqS, List.any_cons, List.any_nil, bytes_toList]; rfl
  have O2 := hide (fun wx => rtwo_any ⟨#[71, 114, 101, 97, 116, 101, 114]⟩ wx)
  rw [e2] at O2
  clear e2
  clear e1
  go_enter Tryd.func35, Tryd.ntmps35
  go_wp2_with fail
  refine O1.out.mono ?_
  rintro e v0 ⟨rfl, h0⟩
  go_wp2_with fail
  refine (O2.out v0).mono ?_
  rintro e v1 ⟨rfl, h1'⟩
  have h1 := grown_trans h0 h1'
  go_wp2
  refine bodyPost_ret (results_tmp4 rfl _ _ _) rfl ?_
  exact ⟨⟨⟨none, 0, 0⟩, [], rfl, rfl, OwnsL.nil ..⟩, h1⟩

set_option maxRecDepth 100000 in
set_option maxHeartbeats 1600000 in
theorem rof_MatMul (w : World) :
    Calls Tryd.prog 35 #[.string ⟨#[77, 97, 116, 77, 117, 108]⟩] w fun e w' => Formed (some (2, 2, [thenRa])) w w' e ∧ w.grownBy w' none := by
  have e1 : isOne ⟨#[77, 97, 116, 77, 117, 108]⟩ = false := by simp only [isOne, bytes_toList]; rfl
  have O1 := hide (rone_any ⟨#[77, 97, 116, 77, 117, 108]⟩ w)
  rw [e1] at O1
  have e2 : isTwo ⟨#[77, 97, 116, 77, 117, 108]⟩ = false := by simp only [isTwo, twoL, eqS, List.any_cons, List.any_nil, bytes_toList]; rfl
  have O2 := hide (fun wx => rtwo_any ⟨#[77, 97, 116, 77, 117, 108]⟩ wx)
  rw [e2] at O2
  clear e2
  clear e1
  go_enter Tryd.func35, Tryd.ntmps35
  go_wp2_with fail
  refine O1.out.mono ?_
  rintro e v0 ⟨rfl, h0⟩
  go_wp2_with fail
  refine (O2.out v0).mono ?_
  rintro e v1 ⟨rfl, h1'⟩
  have h1 := grown_trans h0 h1'
  go_wp2
  refine bodyPost_ret (results_tmp4 rfl _ _ _) rfl ?_
  exact ⟨⟨⟨none, 0, 0⟩, [], rfl, rfl, OwnsL.nil ..⟩, h1⟩

set_option maxRecDepth 100000 in
set_option maxHeartbeats 1600000 in
theorem rof_Where (w : World) :
    Calls Tryd.prog 35 #[.string ⟨#[87, 104, 101, 114, 101]⟩] w fun e w' => Formed (some (3, 3, [thenRa])) w w' e ∧ w.grownBy w' none := by
  have e1 : isOne ⟨#[87, 104, 101, 114, 101]⟩ = false := by simp only [isOne, bytes_toList]; rfl
  have O1 := hide (rone_any ⟨#[87, 104, 101, 114, 101]⟩ w)
  rw [e1] at O1
  have e2 : isTwo ⟨#[87, 104, 101, 114, 101]⟩ = false := by simp only [isTwo, twoL, eqS, List.any_cons, List.any_nil, bytes_toList]; rfl
  have O2 := hide (fun wx => rtwo_any ⟨#[87, 104, 101, 114, 101]⟩ wx)
  rw [e2] at O2
  clear e2
  clear e1
  go_enter Tryd.func35, Tryd.ntmps35
  go_wp2_with fail
  refine O1.out.mono ?_
  rintro e v0 ⟨rfl, h0⟩
  go_wp2_with fail
  refine (O2.out v0).mono ?_
  rintro e v1 ⟨rfl, h1'⟩
  have h1 := grown_trans h0 h1'
  go_wp2
  refine bodyPost_ret (results_tmp4 rfl _ _ _) rfl ?_
  exact ⟨⟨⟨none, 0, 0⟩, [], rfl, rfl, OwnsL.nil ..⟩, h1⟩

set_option maxRecDepth 100000 in
set_option maxHeartbeats 1600000 in
theorem rof_Clip (w : World) :
    Calls Tryd.prog 35 #[.string ⟨#[67, 108, 105, 112]⟩] w fun e w' => Formed (some (1, 1, [⟨⟨#[109, 105, 110]⟩, 1, false⟩, ⟨⟨#[109, 97, 120]⟩, 1, false⟩, thenRa])) w w' e ∧ w.grownBy w' none := by
  have e1 : isOne ⟨#[67, 108, 105, 112]⟩ = false := by simp only [isOne, bytes_toList]; rfl
  have O1 := hide (rone_any ⟨#[67, 108, 105, 112]⟩ w)
  rw [e1] at O1
  have e2 : isTwo ⟨#[67, 108, 105, 112]⟩ = false := by simp only [isTwo, twoL, eqS, List.any_cons, List.any_nil, bytes_toList]; rfl
  have O2 := hide (fun wx => rtwo_any ⟨#[67, 108, 105, 112]⟩ wx)
  rw [e2] at O2
  clear e2
  clear e1
  go_enter Tryd.func35, Tryd.ntmps35
  go_wp2_with fail
  refine O1.out.mono ?_
  rintro e v0 ⟨rfl, h0⟩
  go_wp2_with fail
  refine (O2.out v0).mono ?_
  rintro e v1 ⟨rfl, h1'⟩
  have h1 := grown_trans h0 h1'
  go_wp2_with fail
  refine (ropt_any _ _ _).mono ?_
  rintro e v2 ⟨rfl, h2'⟩
  have h2 := grown_trans h1 h2'
  go_wp2_with fail
  refine (ropt_any _ _ _).mono ?_
  rintro e v3 ⟨rfl, h3'⟩
  have h3 := grown_trans h2 h3'
  have FL := hide (forms_lit v3 [⟨⟨#[109, 105, 110]⟩, 1, false⟩, ⟨⟨#[109, 97, 120]⟩, 1, false⟩] (by decide) (by decide))
  have G := hide (grown_trans h3 (grown_new v3 (.cells #[.string ⟨#[109, 105, 110]⟩, .int .i64 1, .bool false, .string ⟨#[109, 97, 120]⟩, .int .i64 1, .bool false] 89)))
  go_wp2
  refine bodyPost_ret (results_tmp4 rfl _ _ _) rfl ?_
  exact ⟨⟨⟨some ⟨v3.heap.size, 0, none⟩, 2, 2⟩, [⟨⟨#[109, 105, 110]⟩, 1, false⟩, ⟨⟨#[109, 97, 120]⟩, 1, false⟩], rfl, rfl, OwnsL.base_le FL.out h3.size⟩, G.out⟩

set_option maxRecDepth 100000 in
set_option maxHeartbeats 1600000 in
theorem rof_Cast (w : World) :
    Calls Tryd.prog 35 #[.string ⟨#[67, 97, 115, 116]⟩] w fun e w' => Formed (some (1, 1, [⟨⟨#[116, 111]⟩, 2, true⟩, thenRa])) w w' e ∧ w.grownBy w' none := by
  have e1 : isOne ⟨#[67, 97, 115, 116]⟩ = false := by simp only [isOne, bytes_toList]; rfl
  have O1 := hide (rone_any ⟨#[67, 97, 115, 116]⟩ w)
  rw [e1] at O1
  have e2 : isTwo ⟨#[67, 97, 115, 116]⟩ = false := by simp only [isTwo, twoL, eqS, List.any_cons, List.any_nil, bytes_toList]; rfl
  have O2 := hide (fun wx => rtwo_any ⟨#[67, 97, 115, 116]⟩ wx)
  rw [e2] at O2
  clear e2
  clear e1
  go_enter Tryd.func35, Tryd.ntmps35
  go_wp2_with fail
  refine O1.out.mono ?_
  rintro e v0 ⟨rfl, h0⟩
  go_wp2_with fail
  refine (O2.out v0).mono ?_
  rintro e v1 ⟨rfl, h1'⟩
  have h1 := grown_trans h0 h1'
  go_wp2_with fail
  refine (rmust_any _ _ _).mono ?_
  rintro e v2 ⟨rfl, h2'⟩
  have h2 := grown_trans h1 h2'
  have FL := hide (forms_lit v2 [⟨⟨#[116, 111]⟩, 2, true⟩] (by decide) (by decide))
  have G := hide (grown_trans h2 (grown_new v2 (.cells #[.string ⟨#[116, 111]⟩, .int .i64 2, .bool true] 89)))
  go_wp2
  refine bodyPost_ret (results_tmp4 rfl _ _ _) rfl ?_
  exact ⟨⟨⟨some ⟨v2.heap.size, 0, none⟩, 1, 1⟩, [⟨⟨#[116, 111]⟩, 2, true⟩], rfl, rfl, OwnsL.base_le FL.out h2.size⟩, G.out⟩

end Go.Proofs.YtlmaobkfmplalaaDoor
