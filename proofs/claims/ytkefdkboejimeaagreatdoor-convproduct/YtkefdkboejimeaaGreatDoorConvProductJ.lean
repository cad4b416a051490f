/- Law ConvProduct, of any size. -/
import Derived.Test.YtkefdkboejimeaaGreatDoorPartAG
import Derived.Test.YtkefdkboejimeaaGreatDoorPartAK
import Derived.Test.YtkefdkboejimeaaGreatDoorPartBT
import Derived.Test.YtkefdkboejimeaaGreatDoorCards
import Derived.Test.YtkefdkboejimeaaGreatDoorTie
import Derived.SevenTiedAt
import Derived.JoinedCond
import Derived.Deep.DeepHandedRow
set_option maxRecDepth 100000
namespace Go.Proofs.YtkefdkboejimeaaGreatDoor.convProductFull
open Go.ChangeShapes Go.WideShapes Go.ChangeAt Go.RowKit
theorem jnV (H : Type) (enc : TypeId × Value → H) (W : World) (base : Nat) (args : Array Value) (ds gs : List (DataW H)) (before : List MemPlace)
    (hval : ∀ (j : Nat) t v, Tryz.f3.params[j]? = some t → args[j]? = some v → Value.okWide Tryz.prog W .any base t v)
    (hW : DataW.Whole enc Tryz.prog Tryz.f3.params.toList Rows.convProductSpec.vars false W args.toList ds gs before) (hsz0 : (DataW.weightsEach Tryz.prog (Tryz.f3.params.toList ++ Rows.convProductSpec.plain.varTypes Tryz.prog) (ds ++ gs)).all (· ≤ reachBytes) = true) (hL : laidMetH Tryz.prog jpJ W) :
    Calls Tryz.prog 3 args W fun e W' => ∃ v, e = .returned v ∧ Rows.convProductSpec.post enc Tryz.prog Tryz.f3 false true false false W args v W' := by
     have hW' := hW
     obtain ⟨p, q, hA0, hV, rfl, _, _⟩ := hW
     have hA : DataW.TrodAll enc Tryz.prog W 0 (fun _ => true) true Tryz.f3.params.toList args.toList ds p := hA0
     rw [Tryz.params3] at hA hval
     obtain ⟨v0, vs0, d0, ds0, p0, q0, hargs, rfl, rfl, h0, r0⟩ := trodAll_cons hA
     obtain ⟨v1, vs1, d1, ds1, p1, q1, rfl, rfl, rfl, h1, r1⟩ := trodAll_cons r0
     obtain ⟨rfl, rfl, rfl⟩ := trodAll_nil r1
     obtain rfl : args = #[v0, v1] := by cases args; simp_all
     obtain ⟨rfl, rfl⟩ := trodVars_none hV
     rw [Tryz.params3] at hsz0
     have hw : ∀ (j : Nat) (t : TypeId) (d : DataW H), ([25, 25] : List TypeId)[j]? = some t → ([d0, d1] : List (DataW H))[j]? = some d → ∀ q ∈ d.weights Tryz.prog t, q ≤ reachBytes := fun j t d h1 h2 q hq => by have h := List.all_eq_true.1 hsz0 q (DataW.weights_mem_each (j := j) (t := t) (d := d) (show ([25, 25] ++ Rows.convProductSpec.plain.varTypes Tryz.prog)[j]? = some t by rw [List.getElem?_append_left ((List.getElem?_eq_some_iff.1 h1).1)]; exact h1) (by simpa using h2) q hq); simpa using h
     have k0 := h0
     have k1 := h1
     obtain ⟨c0, rfl, -⟩ := okWide_struct Tryz.underlying25 (hval 0 25 v0 rfl rfl)
     obtain ⟨fuel0, hf0⟩ := h0
     obtain ⟨ty0, dd0, tt0, xs0, ys0, ec0, hx0, hy0⟩ := jj6 hf0 (hw 0 _ _ rfl rfl)
     obtain rfl : c0 = #[.int .i64 ty0, .slice dd0.a dd0.n dd0.c, .slice tt0.a tt0.n tt0.c] := by cases c0; simpa [Value.cells] using ec0
     obtain ⟨c1, rfl, -⟩ := okWide_struct Tryz.underlying25 (hval 1 25 v1 rfl rfl)
     obtain ⟨fuel1, hf1⟩ := h1
     obtain ⟨ty1, dd1, tt1, xs1, ys1, ec1, hx1, hy1⟩ := jj6 hf1 (hw 1 _ _ rfl rfl)
     obtain rfl : c1 = #[.int .i64 ty1, .slice dd1.a dd1.n dd1.c, .slice tt1.a tt1.n tt1.c] := by cases c1; simpa [Value.cells] using ec1
     clear hA0
     simp only [List.append_nil] at hW'
     refine (jec ⟨ty0, dd0, tt0⟩ ⟨ty1, dd1, tt1⟩ W (joq hL) hx0 hy0 hx1 hy1).mono fun e W' ⟨he, hb⟩ => ?_
     subst he
     have hlt := fun x (hx : x ∈ p0 ++ p1) => show x.block < W.heap.size by simpa using hW'.lt x (by simpa using hx)
     exact ⟨_, rfl, _, _, _, [], _, [], hW', trodAll_cons_mk (shut_bool Tryz.underlying4 _) trodAll_mk0, (trodAll_cons_mk (Below.trod jjT (by kernel_rfl) (of_decide_eq_true (by kernel_rfl)) k0 hb (fun x hx => hlt x (by simp [hx]))) (trodAll_cons_mk (Below.trod jjT (by kernel_rfl) (of_decide_eq_true (by kernel_rfl)) k1 hb (fun x hx => hlt x (by simp [hx]))) trodAll_mk0)), rfl, hb.frame _, fun h => by cases h⟩
theorem jnW (os : Os) : laidMet Tryz.prog Rows.convProductRow.laid ((World.doorLaid Tryz.prog 400 os).forCall (fun _ _ => 0) ⟨#[], #[.agg #[.int .i64 0, .slice none 0 0, .slice none 0 0], .agg #[.int .i64 0, .slice none 0 0, .slice none 0 0]], []⟩).memory :=
 laidMet_of_run' 8 (by kernel_rfl) (by kernel_rfl)
theorem reads (os : Os) {H : Type} (enc : TypeId × Value → H) : ∃ x, DataW.whole enc Tryz.prog ((World.doorLaid Tryz.prog 400 os).forCall (fun _ _ => 0) ⟨#[], #[.agg #[.int .i64 0, .slice none 0 0, .slice none 0 0], .agg #[.int .i64 0, .slice none 0 0, .slice none 0 0]], []⟩).memory Tryz.f3.params.toList Rows.convProductSpec.vars false (#[.agg #[.int .i64 0, .slice none 0 0, .slice none 0 0], .agg #[.int .i64 0, .slice none 0 0, .slice none 0 0]] : Array Value).toList 8 = some x :=
 ⟨([.agg [.lit (.int .i64 0), .nil, .nil], .agg [.lit (.int .i64 0), .nil, .nil]], [], []), by kernel_rfl⟩
theorem jqk (os : Os) (started : os.Started) (H : Type) (enc : TypeId × Value → H) (F : Stop.Interp) :
    ReturnsInHanded {} Tryz.checked os 3 .any ((OpenSpec.ofChange Rows.convProductSpec).preRow enc Tryz.prog Tryz.f3 Rows.convProductRow.domain false Rows.convProductRow.laid) (((OpenSpec.ofChange Rows.convProductSpec).at F).post enc Tryz.prog Tryz.f3 false true false false) := by
     obtain ⟨x, hx⟩ := reads os enc
     refine returnsInHanded_of_row (C := Tryz.checked) (s := OpenSpec.ofChange Rows.convProductSpec) own started (by kernel_rfl) Tryz.func3
      (witness_row_at (enc := enc) (C := Tryz.checked) false (World.doorLaid Tryz.prog 400 os) #[.agg #[.int .i64 0, .slice none 0 0, .slice none 0 0], .agg #[.int .i64 0, .slice none 0 0, .slice none 0 0]] rfl (by kernel_rfl) (by kernel_rfl) (by kernel_rfl)
       (OpenSpec.preRow_of_cond 8 hx (by kernel_rfl) (fun k hk => by cases hk) (by kernel_rfl) (jnW os))) ?_
     intro W base args ds gs before hval hW _ _ hsz hL _ _
     exact jnV H enc W base args ds gs before hval hW hsz hL
theorem said : Rows.ConvProductSaid :=
 OpenClaim.holds_of_cond 3 Tryz.f3 rfl rfl rfl rfl rfl rfl rfl ⟨rfl, rfl, rfl, rfl, rfl⟩ rfl rfl rfl rfl rfl (by kernel_rfl) Tryz.func3 (by kernel_rfl)
  (of_decide_eq_true (by kernel_rfl)) (by unfold Func.isWrapper; first | (rw [if_pos (by decide +kernel)]; kernel_rfl) | (rw [if_neg (by decide +kernel)]; exact ⟨rfl, rfl⟩))
  (fun os started H enc _ F => by rw [OpenClaim.pre_eq_preRow]; exact jqk os started H enc F)
theorem plain (f : FuncId) (fn : Func) (hf : Tryz.pinned.checked.prog.funcNamed "mandrel/mandrellaw13.ConvProduct" = some f) (hfn : Tryz.pinned.checked.prog.funcs[f]? = some fn) :
    true = Tryz.pinned.checked.prog.looks [] ∧ ∀ (j : Nat) t, fn.params[j]? = some t → Tryz.pinned.checked.prog.wantsStandIn t = false := by
     obtain rfl : f = 3 := Option.some.inj ((show Tryz.prog.funcNamed "mandrel/mandrellaw13.ConvProduct" = some 3 by kernel_rfl).symm.trans hf) |>.symm
     obtain rfl : fn = Tryz.f3 := (Option.some.inj (Tryz.func3.symm.trans hfn)).symm
     refine ⟨by kernel_rfl, fun j t ht => ?_⟩
     rw [Tryz.params3] at ht
     have hm : t ∈ [25, 25] := by simpa using Array.mem_of_getElem? ht
     have hall : ([25, 25].all fun u => !Tryz.prog.wantsStandIn u) = true := by kernel_rfl
     exact (show Tryz.prog.wantsStandIn t = false by simpa using List.all_eq_true.1 hall t hm)
theorem card : Rows.ConvProductCardSaid :=
 Claim7.holds_tied_plain_at .later [] _ _ _ _ said (fun _ h => by cases h) (by kernel_rfl) (fun _ h => by cases h) convProduct_row_tie rfl ⟨rfl, rfl⟩ (by kernel_rfl) rfl plain (by kernel_rfl)
end Go.Proofs.YtkefdkboejimeaaGreatDoor.convProductFull
namespace Go.Proofs.YtkefdkboejimeaaGreatDoor
theorem convProduct_holds : Rows.ConvProductCardSaid := convProductFull.card
end Go.Proofs.YtkefdkboejimeaaGreatDoor
