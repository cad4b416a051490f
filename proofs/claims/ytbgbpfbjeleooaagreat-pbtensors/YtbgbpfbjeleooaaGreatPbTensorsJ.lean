/- Whether any tensor may be: the first form (any size), of a row without listed variables. -/
import Derived.Test.YtbgbpfbjeleooaaGreatPartAI
import Derived.Test.YtbgbpfbjeleooaaGreatPartBT
set_option maxRecDepth 100000
namespace Go.Proofs.YtbgbpfbjeleooaaGreat.pbTensorsFull
open Go.ChangeShapes Go.WideShapes Go.ChangeAt Go.RowKit
theorem ownT : ownKnob Tryz.prog.godebug = none := by kernel_rfl
theorem jlj (os : Os) (started : os.Started) (H : Type) (enc : TypeId × Value → H) :
    ReturnsInHanded {} Tryz.checked os 5 .any (Rows.pbTensorsSpec.pre6 enc Tryz.prog Tryz.f5 Rows.pbTensorsRow.domain false) (Rows.pbTensorsSpec.post enc Tryz.prog Tryz.f5 false true false false) := by
     refine returnsInHanded_of_change_sized (C := Tryz.checked) ownT started (by kernel_rfl) Tryz.func5
      (ChangeSpec.witness6 (enc := enc) (C := Tryz.checked) false ⟨#[], #[.agg #[.int .i64 0, .slice none 0 0, .slice none 0 0]], []⟩ 8 (by kernel_rfl) (by kernel_rfl) (by kernel_rfl) (by kernel_rfl)) ?_
     intro W base args ds gs before hval0 hW _ hsz1 _
     have hsz0 : (DataW.weightsEach Tryz.prog (Tryz.f5.params.toList ++ Rows.pbTensorsSpec.plain.varTypes Tryz.prog) (ds ++ gs)).all (· ≤ reachBytes) = true := hsz1
     clear hsz1
     have hval : ∀ (j : Nat) t v, Tryz.f5.params[j]? = some t → args[j]? = some v → Value.okWide Tryz.prog W .any base t v := hval0
     have hW' := hW
     obtain ⟨p, q, hA0, hV, rfl, _, _⟩ := hW
     have hA : DataW.TrodAll enc Tryz.prog W 0 (fun _ => true) true Tryz.f5.params.toList args.toList ds p := hA0
     rw [Tryz.params5] at hA hval hsz0
     obtain ⟨v0, vs0, d0, ds0, p0, q0, hargs, rfl, rfl, h0, r0⟩ := trodAll_cons hA
     obtain ⟨rfl, rfl, rfl⟩ := trodAll_nil r0
     obtain rfl : args = #[v0] := by cases args; simp_all
     obtain ⟨rfl, rfl⟩ := trodVars_none hV
     have hw : ∀ (j : Nat) (t : TypeId) (d : DataW H), ([44] : List TypeId)[j]? = some t → ([d0] : List (DataW H))[j]? = some d → ∀ q ∈ d.weights Tryz.prog t, q ≤ reachBytes := fun j t d h1 h2 q hq => by have h := List.all_eq_true.1 hsz0 q (DataW.weights_mem_each (j := j) (t := t) (d := d) (show ([44] ++ Rows.pbTensorsSpec.plain.varTypes Tryz.prog)[j]? = some t by rw [List.getElem?_append_left ((List.getElem?_eq_some_iff.1 h1).1)]; exact h1) (by simpa using h2) q hq); simpa using h
     have k0 := h0
     obtain ⟨c0, rfl, -⟩ := okWide_struct Tryz.underlying44 (hval 0 44 v0 rfl rfl)
     obtain ⟨fuel0, hf0⟩ := h0
     obtain ⟨ty0, dd0, tt0, xs0, ys0, ec0, hx0, hy0⟩ := jkv hf0 (hw 0 _ _ rfl rfl)
     obtain rfl : c0 = #[.int .i64 ty0, .slice dd0.a dd0.n dd0.c, .slice tt0.a tt0.n tt0.c] := by cases c0; simpa [Value.cells] using ec0
     clear hA0 hval0
     simp only [List.append_nil] at hW'
     refine (Pd.pbTensors_walk ty0 dd0.v tt0.v _ _ W hx0 hy0).mono fun e W' ⟨he, hg⟩ => ?_
     have hb := jeQ hg
     subst he
     have hlt := fun x (hx : x ∈ p0) => show x.block < W.heap.size by simpa using hW'.lt x (by simpa using hx)
     exact ⟨_, rfl, _, _, _, [], _, [], hW', trodAll_cons_mk (shut_bool Tryz.underlying4 _) trodAll_mk0, (trodAll_cons_mk (Below.trod jko (by kernel_rfl) (of_decide_eq_true (by kernel_rfl)) k0 hb (fun x hx => hlt x (by simp [hx]))) trodAll_mk0), rfl, hb.frame _, fun h => by cases h⟩
theorem over : Rows.PbTensorsSaid :=
 OpenClaim.holds_of_wide 5 Tryz.f5 rfl rfl rfl rfl rfl rfl rfl ⟨rfl, rfl, rfl, rfl, rfl⟩ rfl rfl rfl rfl rfl (by kernel_rfl) Tryz.func5 (by kernel_rfl)
  (of_decide_eq_true (by kernel_rfl)) (by unfold Func.isWrapper; first | (rw [if_pos (by decide +kernel)]; kernel_rfl) | (rw [if_neg (by decide +kernel)]; exact ⟨rfl, rfl⟩))
  (fun os started H enc _ => jlj os started H enc)
end Go.Proofs.YtbgbpfbjeleooaaGreat.pbTensorsFull
namespace Go.Proofs.YtbgbpfbjeleooaaGreat
theorem pbTensors_holds : Rows.PbTensorsSaid := pbTensorsFull.over
end Go.Proofs.YtbgbpfbjeleooaaGreat
