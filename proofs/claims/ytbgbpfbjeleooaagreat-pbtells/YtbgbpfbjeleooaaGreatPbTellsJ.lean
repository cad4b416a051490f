/- Which graphs may be told, and that what is told is read as the graph; for every graph, of any size: the first form, of a row without listed variables. -/
import Derived.Test.YtbgbpfbjeleooaaGreatSartAI
import Derived.Test.YtbgbpfbjeleooaaGreatSartBV
set_option maxRecDepth 100000
namespace Go.Proofs.YtbgbpfbjeleooaaGreat.pbTellsFull
open Go.ChangeShapes Go.WideShapes Go.ChangeAt Go.RowKit
theorem ownT:ownKnob Tryz.prog.godebug=none:=by kernel_rfl
theorem jox (os:Os) (started:os.Started) (H:Type) (enc:TypeId×Value→H) :
    ReturnsInHanded {} Tryz.checked os 4 .any (Rows.pbTellsSpec.pre6 enc Tryz.prog Tryz.f4 Rows.pbTellsRow.domain false) (Rows.pbTellsSpec.post enc Tryz.prog Tryz.f4 false true false false):=by
     refine returnsInHanded_of_change_sized (C:=Tryz.checked) ownT started (by kernel_rfl) Tryz.func4
      (ChangeSpec.witness6 (enc:=enc) (C:=Tryz.checked) false ⟨#[],#[.agg #[.string ⟨#[]⟩,.slice none 0 0,.slice none 0 0,.slice none 0 0,.slice none 0 0]],[]⟩ 8 (by kernel_rfl) (by kernel_rfl) (by kernel_rfl) (by kernel_rfl)) ?_
     intro W base args ds gs before hval0 hW _ hsz1 _;have hsz0:(DataW.weightsEach Tryz.prog (Tryz.f4.params.toList++Rows.pbTellsSpec.plain.varTypes Tryz.prog) (ds++gs)).all (·≤reachBytes)=true:=hsz1;clear hsz1;have hval:∀ (j:Nat) t v,Tryz.f4.params[j]?=some t→args[j]?=some v→Value.okWide Tryz.prog W .any base t v:=hval0;have hW':=hW;obtain ⟨p,q,hA0,hV,rfl,_,_⟩:=hW;have hA:DataW.TrodAll enc Tryz.prog W 0 (fun _=>true) true Tryz.f4.params.toList args.toList ds p:=hA0;rw [Tryz.params4] at hA hval hsz0;obtain ⟨v0,vs0,d0,ds0,p0,q0,hargs,rfl,rfl,h0,r0⟩:=trodAll_cons hA;obtain ⟨rfl,rfl,rfl⟩:=trodAll_nil r0;obtain rfl:args=#[v0]:=by cases args;simp_all
     obtain ⟨rfl,rfl⟩:=trodVars_none hV;have hw:∀ (j:Nat) (t:TypeId) (d:DataW H),([27]:List TypeId)[j]?=some t→([d0]:List (DataW H))[j]?=some d→∀ q∈d.weights Tryz.prog t,q≤reachBytes:=fun j t d h1 h2 q hq=>by have h:=List.all_eq_true.1 hsz0 q (DataW.weights_mem_each (j:=j) (t:=t) (d:=d) (show ([27]++Rows.pbTellsSpec.plain.varTypes Tryz.prog)[j]?=some t by rw [List.getElem?_append_left ((List.getElem?_eq_some_iff.1 h1).1)];exact h1) (by simpa using h2) q hq);simpa using h
     have k0:=h0;obtain ⟨c0,rfl,-⟩:=okWide_struct Tryz.underlying27 (hval 0 27 v0 rfl rfl);obtain ⟨fuel0,hf0⟩:=h0;obtain ⟨⟨gn,⟨n1,n2,n3⟩,⟨i1,i2,i3⟩,⟨o1,o2,o3⟩,⟨t1,t2,t3⟩⟩,ns,is,os',ts,ec0,hr0,hi0⟩:=Pd.graph_inp hf0 (hw 0 _ _ rfl rfl);obtain rfl:c0=#[.string gn,.slice n1 n2 n3,.slice i1 i2 i3,.slice o1 o2 o3,.slice t1 t2 t3]:=by cases c0;simpa [Value.cells] using ec0
     clear hA0 hval0;simp only [List.append_nil] at hW';refine (Pd.pbTells_walk ⟨gn,⟨n1,n2,n3⟩,⟨i1,i2,i3⟩,⟨o1,o2,o3⟩,⟨t1,t2,t3⟩⟩ ns is os' ts W hr0 hi0).mono fun e W' ⟨he,hg⟩=>?_;have hb:=jfV hg;subst he;have hlt:=fun x (hx:x∈p0)=>show x.block<W.heap.size by simpa using hW'.lt x (by simpa using hx)
     exact ⟨_,rfl,_,_,_,[],_,[],hW',trodAll_cons_mk (shut_bool Tryz.underlying4 _) trodAll_mk0,(trodAll_cons_mk (Below.trod jm2 (by kernel_rfl) (of_decide_eq_true (by kernel_rfl)) k0 hb (fun x hx=>hlt x (by simp [hx]))) trodAll_mk0),rfl,hb.frame _,fun h=>by cases h⟩
theorem over:Rows.PbTellsSaid :=
 OpenClaim.holds_of_wide 4 Tryz.f4 rfl rfl rfl rfl rfl rfl rfl ⟨rfl,rfl,rfl,rfl,rfl⟩ rfl rfl rfl rfl rfl (by kernel_rfl) Tryz.func4 (by kernel_rfl)
  (of_decide_eq_true (by kernel_rfl)) (by unfold Func.isWrapper;first | (rw [if_pos (by decide +kernel)];kernel_rfl) | (rw [if_neg (by decide +kernel)];exact ⟨rfl,rfl⟩))
  (fun os started H enc _=>jox os started H enc)
end Go.Proofs.YtbgbpfbjeleooaaGreat.pbTellsFull
namespace Go.Proofs.YtbgbpfbjeleooaaGreat
theorem pbTells_holds:Rows.PbTellsSaid:=pbTellsFull.over
end Go.Proofs.YtbgbpfbjeleooaaGreat
