/- A field that no table knows, ahead of a model or behind it, changes nothing; for every text and every field, of any size: the first form, of a row without listed variables. -/
import Derived.Test.YtbgbpfbjeleooaaGreatRartAQ
import Derived.Test.YtbgbpfbjeleooaaGreatRartBS
set_option maxRecDepth 100000
namespace Go.Proofs.YtbgbpfbjeleooaaGreat.pbPassesFull
open Go.ChangeShapes Go.WideShapes Go.ChangeAt Go.RowKit
theorem ownT : ownKnob Tryz.prog.godebug = none := by kernel_rfl
theorem jma (os : Os) (started : os.Started) (H : Type) (enc : TypeId × Value → H) :
    ReturnsInHanded {} Tryz.checked os 7 .any (Rows.pbPassesSpec.pre6 enc Tryz.prog Tryz.f7 Rows.pbPassesRow.domain false) (Rows.pbPassesSpec.post enc Tryz.prog Tryz.f7 false true false false) := by
     refine returnsInHanded_of_change_sized (C := Tryz.checked) ownT started (by kernel_rfl) Tryz.func7
      (ChangeSpec.witness6 (enc := enc) (C := Tryz.checked) false ⟨#[], #[.string ⟨#[]⟩, .agg #[.int .i64 0, .int .i64 0, .int .u64 0, .string ⟨#[]⟩], .bool false], []⟩ 8 (by kernel_rfl) (by kernel_rfl) (by kernel_rfl) (by kernel_rfl)) ?_
     intro W base args ds gs before hval0 hW _ hsz1 _
     have hsz0 : (DataW.weightsEach Tryz.prog (Tryz.f7.params.toList ++ Rows.pbPassesSpec.plain.varTypes Tryz.prog) (ds ++ gs)).all (· ≤ reachBytes) = true := hsz1
     clear hsz1
     have hval : ∀ (j : Nat) t v, Tryz.f7.params[j]? = some t → args[j]? = some v → Value.okWide Tryz.prog W .any base t v := hval0
     have hW' := hW
     obtain ⟨p, q, hA0, hV, rfl, _, _⟩ := hW
     have hA : DataW.TrodAll enc Tryz.prog W 0 (fun _ => true) true Tryz.f7.params.toList args.toList ds p := hA0
     rw [Tryz.params7] at hA hval hsz0
     obtain ⟨v0, vs0, d0, ds0, p0, q0, hargs, rfl, rfl, h0, r0⟩ := trodAll_cons hA
     obtain ⟨v1, vs1, d1, ds1, p1, q1, rfl, rfl, rfl, h1, r1⟩ := trodAll_cons r0
     obtain ⟨v2, vs2, d2, ds2, p2, q2, rfl, rfl, rfl, h2, r2⟩ := trodAll_cons r1
     obtain ⟨rfl, rfl, rfl⟩ := trodAll_nil r2
     obtain rfl : args = #[v0, v1, v2] := by cases args; simp_all
     obtain ⟨rfl, rfl⟩ := trodVars_none hV
     have hw : ∀ (j : Nat) (t : TypeId) (d : DataW H), ([9, 49, 4] : List TypeId)[j]? = some t → ([d0, d1, d2] : List (DataW H))[j]? = some d → ∀ q ∈ d.weights Tryz.prog t, q ≤ reachBytes := fun j t d h1 h2 q hq => by have h := List.all_eq_true.1 hsz0 q (DataW.weights_mem_each (j := j) (t := t) (d := d) (show ([9, 49, 4] ++ Rows.pbPassesSpec.plain.varTypes Tryz.prog)[j]? = some t by rw [List.getElem?_append_left ((List.getElem?_eq_some_iff.1 h1).1)]; exact h1) (by simpa using h2) q hq); simpa using h
     have k0 := h0
     have k1 := h1
     have k2 := h2
     obtain ⟨a0, rfl, rfl, rfl, wf0⟩ := Go.ChangeMaps.open_string Tryz.underlying9 (hval 0 9 v0 rfl rfl) h0
     have sz0 : a0.size ≤ 140737488351232 := Pd.size_of (sized_string hsz0 (j := 0) (t := 9) rfl rfl)
     obtain ⟨c1, rfl, -⟩ := okWide_struct Tryz.underlying49 (hval 1 49 v1 rfl rfl)
     obtain ⟨fuel1, hf1⟩ := h1
     obtain ⟨⟨fn, fk, fu, fb⟩, ec1, hin1⟩ := Pd.fld_inw hf1 (hw 1 _ _ rfl rfl)
     obtain rfl : c1 = #[.int .i64 fn, .int .i64 fk, .int .u64 fu, .string fb] := by cases c1; simpa [Value.cells, Wr.fcells] using ec1
     obtain ⟨b2, rfl, rfl, rfl⟩ := open_bool Tryz.underlying4 (hval 2 4 v2 rfl rfl) h2
     clear hA0 hval0
     simp only [List.append_nil] at hW'
     refine (Pd.pbPasses_walk a0 sz0 fn fk fu fb hin1 b2 W).mono fun e W' ⟨he, hg⟩ => ?_
     have hb := je2 hg
     subst he
     have hlt := fun x (hx : x ∈ p1) => show x.block < W.heap.size by simpa using hW'.lt x (by simpa using hx)
     exact ⟨_, rfl, _, _, _, [], _, [], hW', trodAll_cons_mk (shut_bool Tryz.underlying4 _) trodAll_mk0, (trodAll_cons_mk (Below.trod jg2 (by kernel_rfl) (of_decide_eq_true (by kernel_rfl)) k0 hb (fun x hx => by simp at hx)) (trodAll_cons_mk (Below.trod jg2 (by kernel_rfl) (of_decide_eq_true (by kernel_rfl)) k1 hb (fun x hx => hlt x (by simp [hx]))) (trodAll_cons_mk (Below.trod jg2 (by kernel_rfl) (of_decide_eq_true (by kernel_rfl)) k2 hb (fun x hx => by simp at hx)) trodAll_mk0))), rfl, hb.frame _, fun h => by cases h⟩
theorem over : Rows.PbPassesSaid :=
 OpenClaim.holds_of_wide 7 Tryz.f7 rfl rfl rfl rfl rfl rfl rfl ⟨rfl, rfl, rfl, rfl, rfl⟩ rfl rfl rfl rfl rfl (by kernel_rfl) Tryz.func7 (by kernel_rfl)
  (of_decide_eq_true (by kernel_rfl)) (by unfold Func.isWrapper; first | (rw [if_pos (by decide +kernel)]; kernel_rfl) | (rw [if_neg (by decide +kernel)]; exact ⟨rfl, rfl⟩))
  (fun os started H enc _ => jma os started H enc)
end Go.Proofs.YtbgbpfbjeleooaaGreat.pbPassesFull
namespace Go.Proofs.YtbgbpfbjeleooaaGreat
theorem pbPasses_holds : Rows.PbPassesSaid := pbPassesFull.over
end Go.Proofs.YtbgbpfbjeleooaaGreat
