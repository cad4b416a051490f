/- A graph that is told in two parts, one behind the other, is one: its nodes and all else in their order; for every two graphs, of any size: the first form, of a row without listed variables. -/
import Derived.Test.YtbgbpfbjeleooaaGreatRartAI
import Derived.Test.YtbgbpfbjeleooaaGreatRartBV
set_option maxRecDepth 100000
namespace Go.Proofs.YtbgbpfbjeleooaaGreat.pbJoinsFull
open Go.ChangeShapes Go.WideShapes Go.ChangeAt Go.RowKit
theorem ownT:ownKnob Tryz.prog.godebug=none:=by kernel_rfl
theorem joH (os:Os) (started:os.Started) (H:Type) (enc:TypeId×Value→H) :
    ReturnsInHanded {} Tryz.checked os 8 .any (Rows.pbJoinsSpec.pre6 enc Tryz.prog Tryz.f8 Rows.pbJoinsRow.domain false) (Rows.pbJoinsSpec.post enc Tryz.prog Tryz.f8 false true false false):=by
     refine returnsInHanded_of_change_sized (C:=Tryz.checked) ownT started (by kernel_rfl) Tryz.func8
      (ChangeSpec.witness6 (enc:=enc) (C:=Tryz.checked) false ⟨#[],#[.agg #[.string ⟨#[]⟩,.slice none 0 0,.slice none 0 0,.slice none 0 0,.slice none 0 0],.agg #[.string ⟨#[]⟩,.slice none 0 0,.slice none 0 0,.slice none 0 0,.slice none 0 0]],[]⟩ 8 (by kernel_rfl) (by kernel_rfl) (by kernel_rfl) (by kernel_rfl)) ?_
     intro W base args ds gs before hval0 hW _ hsz1 _;have hsz0:(DataW.weightsEach Tryz.prog (Tryz.f8.params.toList++Rows.pbJoinsSpec.plain.varTypes Tryz.prog) (ds++gs)).all (·≤reachBytes)=true:=hsz1;clear hsz1;have hval:∀ (j:Nat) t v,Tryz.f8.params[j]?=some t→args[j]?=some v→Value.okWide Tryz.prog W .any base t v:=hval0;have hW':=hW;obtain ⟨p,q,hA0,hV,rfl,_,_⟩:=hW;have hA:DataW.TrodAll enc Tryz.prog W 0 (fun _=>true) true Tryz.f8.params.toList args.toList ds p:=hA0;rw [Tryz.params8] at hA hval hsz0;obtain ⟨v0,vs0,d0,ds0,p0,q0,hargs,rfl,rfl,h0,r0⟩:=trodAll_cons hA;obtain ⟨v1,vs1,d1,ds1,p1,q1,rfl,rfl,rfl,h1,r1⟩:=trodAll_cons r0;obtain ⟨rfl,rfl,rfl⟩:=trodAll_nil r1;obtain rfl:args=#[v0,v1]:=by cases args;simp_all
     obtain ⟨rfl,rfl⟩:=trodVars_none hV;have hw:∀ (j:Nat) (t:TypeId) (d:DataW H),([27,27]:List TypeId)[j]?=some t→([d0,d1]:List (DataW H))[j]?=some d→∀ q∈d.weights Tryz.prog t,q≤reachBytes:=fun j t d h1 h2 q hq=>by have h:=List.all_eq_true.1 hsz0 q (DataW.weights_mem_each (j:=j) (t:=t) (d:=d) (show ([27,27]++Rows.pbJoinsSpec.plain.varTypes Tryz.prog)[j]?=some t by rw [List.getElem?_append_left ((List.getElem?_eq_some_iff.1 h1).1)];exact h1) (by simpa using h2) q hq);simpa using h
     have k0:=h0;have k1:=h1;obtain ⟨c0,rfl,-⟩:=okWide_struct Tryz.underlying27 (hval 0 27 v0 rfl rfl);obtain ⟨fuel0,hf0⟩:=h0;obtain ⟨⟨gn,⟨n1,n2,n3⟩,⟨i1,i2,i3⟩,⟨o1,o2,o3⟩,⟨t1,t2,t3⟩⟩,ns,is,os',ts,ec0,hr0,hi0⟩:=Pd.graph_inp hf0 (hw 0 _ _ rfl rfl);obtain rfl:c0=#[.string gn,.slice n1 n2 n3,.slice i1 i2 i3,.slice o1 o2 o3,.slice t1 t2 t3]:=by cases c0;simpa [Value.cells] using ec0
     obtain ⟨c1,rfl,-⟩:=okWide_struct Tryz.underlying27 (hval 1 27 v1 rfl rfl);obtain ⟨fuel1,hf1⟩:=h1;obtain ⟨⟨hn,⟨m1,m2,m3⟩,⟨j1,j2,j3⟩,⟨s1,s2,s3⟩,⟨u1,u2,u3⟩⟩,nt,js,ps,us,ec1,hr1,hi1⟩:=Pd.graph_inp hf1 (hw 1 _ _ rfl rfl);obtain rfl:c1=#[.string hn,.slice m1 m2 m3,.slice j1 j2 j3,.slice s1 s2 s3,.slice u1 u2 u3]:=by cases c1;simpa [Value.cells] using ec1
     clear hA0 hval0;simp only [List.append_nil] at hW';refine (Pd.pbJoins_walk ⟨gn,⟨n1,n2,n3⟩,⟨i1,i2,i3⟩,⟨o1,o2,o3⟩,⟨t1,t2,t3⟩⟩ ⟨hn,⟨m1,m2,m3⟩,⟨j1,j2,j3⟩,⟨s1,s2,s3⟩,⟨u1,u2,u3⟩⟩ ns nt is os' js ps ts us W hr0 hi0 hr1 hi1).mono fun e W' ⟨he,hg⟩=>?_;have hb:=jf2 hg;subst he;have hlt:=fun x (hx:x∈p0++p1)=>show x.block<W.heap.size by simpa using hW'.lt x (by simpa using hx)
     exact ⟨_,rfl,_,_,_,[],_,[],hW',trodAll_cons_mk (shut_bool Tryz.underlying4 _) trodAll_mk0,(trodAll_cons_mk (Below.trod jkv (by kernel_rfl) (of_decide_eq_true (by kernel_rfl)) k0 hb (fun x hx=>hlt x (by simp [hx]))) (trodAll_cons_mk (Below.trod jkv (by kernel_rfl) (of_decide_eq_true (by kernel_rfl)) k1 hb (fun x hx=>hlt x (by simp [hx]))) trodAll_mk0)),rfl,hb.frame _,fun h=>by cases h⟩
theorem over:Rows.PbJoinsSaid :=
 OpenClaim.holds_of_wide 8 Tryz.f8 rfl rfl rfl rfl rfl rfl rfl ⟨rfl,rfl,rfl,rfl,rfl⟩ rfl rfl rfl rfl rfl (by kernel_rfl) Tryz.func8 (by kernel_rfl)
  (of_decide_eq_true (by kernel_rfl)) (by unfold Func.isWrapper;first | (rw [if_pos (by decide +kernel)];kernel_rfl) | (rw [if_neg (by decide +kernel)];exact ⟨rfl,rfl⟩))
  (fun os started H enc _=>joH os started H enc)
end Go.Proofs.YtbgbpfbjeleooaaGreat.pbJoinsFull
namespace Go.Proofs.YtbgbpfbjeleooaaGreat
theorem pbJoins_holds:Rows.PbJoinsSaid:=pbJoinsFull.over
end Go.Proofs.YtbgbpfbjeleooaaGreat
