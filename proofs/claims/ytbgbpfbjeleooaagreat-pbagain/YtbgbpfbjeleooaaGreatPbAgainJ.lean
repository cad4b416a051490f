/- What is read may be told, and told and read again it is the same; for every text, of any size: the first form, of a row without listed variables. -/
import Derived.Test.YtbgbpfbjeleooaaGreatQartAP
import Derived.Test.YtbgbpfbjeleooaaGreatQartBS
set_option maxRecDepth 100000
namespace Go.Proofs.YtbgbpfbjeleooaaGreat.pbAgainFull
open Go.ChangeShapes Go.WideShapes Go.ChangeAt Go.RowKit
theorem ownT : ownKnob Tryz.prog.godebug = none := by kernel_rfl
theorem jm4 (os : Os) (started : os.Started) (H : Type) (enc : TypeId × Value → H) :
    ReturnsInHanded {} Tryz.checked os 6 .any (Rows.pbAgainSpec.pre6 enc Tryz.prog Tryz.f6 Rows.pbAgainRow.domain false) (Rows.pbAgainSpec.post enc Tryz.prog Tryz.f6 false true false false) := by
     refine returnsInHanded_of_change_sized (C := Tryz.checked) ownT started (by kernel_rfl) Tryz.func6
      (ChangeSpec.witness6 (enc := enc) (C := Tryz.checked) false ⟨#[], #[.string ⟨#[]⟩], []⟩ 8 (by kernel_rfl) (by kernel_rfl) (by kernel_rfl) (by kernel_rfl)) ?_
     intro W base args ds gs before hval0 hW _ hsz1 _
     have hsz0 : (DataW.weightsEach Tryz.prog (Tryz.f6.params.toList ++ Rows.pbAgainSpec.plain.varTypes Tryz.prog) (ds ++ gs)).all (· ≤ reachBytes) = true := hsz1
     clear hsz1
     have hval : ∀ (j : Nat) t v, Tryz.f6.params[j]? = some t → args[j]? = some v → Value.okWide Tryz.prog W .any base t v := hval0
     have hW' := hW
     obtain ⟨p, q, hA0, hV, rfl, _, _⟩ := hW
     have hA : DataW.TrodAll enc Tryz.prog W 0 (fun _ => true) true Tryz.f6.params.toList args.toList ds p := hA0
     rw [Tryz.params6] at hA hval hsz0
     obtain ⟨v0, vs0, d0, ds0, p0, q0, hargs, rfl, rfl, h0, r0⟩ := trodAll_cons hA
     obtain ⟨rfl, rfl, rfl⟩ := trodAll_nil r0
     obtain rfl : args = #[v0] := by cases args; simp_all
     obtain ⟨rfl, rfl⟩ := trodVars_none hV
     have k0 := h0
     obtain ⟨a0, rfl, rfl, rfl, wf0⟩ := Go.ChangeMaps.open_string Tryz.underlying9 (hval 0 9 v0 rfl rfl) h0
     have sz0 : a0.size ≤ 140737488351232 := Pd.size_of (sized_string hsz0 (j := 0) (t := 9) rfl rfl)
     clear hA0 hval0
     simp only [List.append_nil] at hW'
     refine (Pd.pbAgain_walk a0 sz0 W).mono fun e W' ⟨he, hg⟩ => ?_
     have hb := jfp hg
     subst he
     exact ⟨_, rfl, _, _, _, [], _, [], hW', trodAll_cons_mk (shut_bool Tryz.underlying4 _) trodAll_mk0, (trodAll_cons_mk (Below.trod jlN (by kernel_rfl) (of_decide_eq_true (by kernel_rfl)) k0 hb (fun x hx => by simp at hx)) trodAll_mk0), rfl, hb.frame _, fun h => by cases h⟩
theorem over : Rows.PbAgainSaid :=
 OpenClaim.holds_of_wide 6 Tryz.f6 rfl rfl rfl rfl rfl rfl rfl ⟨rfl, rfl, rfl, rfl, rfl⟩ rfl rfl rfl rfl rfl (by kernel_rfl) Tryz.func6 (by kernel_rfl)
  (of_decide_eq_true (by kernel_rfl)) (by unfold Func.isWrapper; first | (rw [if_pos (by decide +kernel)]; kernel_rfl) | (rw [if_neg (by decide +kernel)]; exact ⟨rfl, rfl⟩))
  (fun os started H enc _ => jm4 os started H enc)
end Go.Proofs.YtbgbpfbjeleooaaGreat.pbAgainFull
namespace Go.Proofs.YtbgbpfbjeleooaaGreat
theorem pbAgain_holds : Rows.PbAgainSaid := pbAgainFull.over
end Go.Proofs.YtbgbpfbjeleooaaGreat
