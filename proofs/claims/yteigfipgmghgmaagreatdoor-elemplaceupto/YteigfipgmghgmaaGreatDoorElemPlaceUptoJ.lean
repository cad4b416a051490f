/- The law ElemPlace answers true, however the arguments come in, where they hold together at most 1048576 values and letters. -/
import Derived.Test.YteigfipgmghgmaaGreatDoorVartAG
import Derived.Test.YteigfipgmghgmaaGreatDoorVartBB
import Derived.Test.YteigfipgmghgmaaGreatDoorVartBO
import Derived.Test.YteigfipgmghgmaaGreatDoorCards
import Derived.Test.YteigfipgmghgmaaGreatDoorTie
import Derived.SevenTiedAt
import Derived.JoinedCond
import Derived.Deep.DeepHandedRow
set_option maxRecDepth 100000
namespace Go.Proofs.YteigfipgmghgmaaGreatDoor.elemPlaceUpto
open Go.ChangeShapes Go.WideShapes Go.ChangeAt Go.RowKit
theorem jrW (H : Type) (enc : TypeId × Value → H) (W : World) (base : Nat) (args : Array Value) (ds gs : List (DataW H)) (before : List MemPlace)
    (hval:∀ (j:Nat) t v,Tryz.f4.params[j]?=some t→args[j]?=some v→Value.okWide Tryz.prog W .any base t v)
    (hW:DataW.Whole enc Tryz.prog Tryz.f4.params.toList Rows.elemPlaceSpec.vars false W args.toList ds gs before) (hk:Rows.uptoSmall H (ds++gs)=true) (hL:laidMetH Tryz.prog juo W) :
    Calls Tryz.prog 4 args W fun e W'=>∃ v,e=.returned v∧Rows.elemPlaceSpec.post enc Tryz.prog Tryz.f4 false true false false W args v W':=by
     have hW':=hW;obtain ⟨p,q,hA0,hV,rfl,_,_⟩:=hW;have hA:DataW.TrodAll enc Tryz.prog W 0 (fun _=>true) true Tryz.f4.params.toList args.toList ds p:=hA0;rw [Tryz.params4] at hA hval;obtain ⟨v0,vs0,d0,ds0,p0,q0,hargs,rfl,rfl,h0,r0⟩:=trodAll_cons hA;obtain ⟨v1,vs1,d1,ds1,p1,q1,rfl,rfl,rfl,h1,r1⟩:=trodAll_cons r0;obtain ⟨v2,vs2,d2,ds2,p2,q2,rfl,rfl,rfl,h2,r2⟩:=trodAll_cons r1;obtain ⟨rfl,rfl,rfl⟩:=trodAll_nil r2;obtain rfl:args=#[v0,v1,v2]:=by cases args;simp_all
     obtain ⟨rfl,rfl⟩:=trodVars_none hV;simp only [List.append_nil] at hk;have hbk:Rows.uptoBulkAll [d0,d1,d2]≤1048576:=of_decide_eq_true hk;simp only [Rows.uptoBulkAll] at hbk;have k0:=h0;have k1:=h1;have k2:=h2;obtain ⟨c0,rfl,-⟩:=okWide_struct Tryz.underlying25 (hval 0 25 v0 rfl rfl);obtain ⟨fuel0,hf0⟩:=h0;obtain ⟨nd0,ins0,A0,ec0,na0,hl0,hil0⟩:=jmE hf0 (by simp only;omega);obtain rfl:c0=#[.string nd0.op,.string nd0.name,.slice nd0.iv.a nd0.iv.n nd0.iv.c,.string nd0.out,.slice nd0.av.a nd0.av.n nd0.av.c]:=by cases c0;simpa [Value.cells] using ec0
     obtain ⟨sa1,sn1,sc1,rfl⟩:=okWide_slice Tryz.underlying26 (hval 1 26 v1 rfl rfl);obtain ⟨fuel1,hf1⟩:=h1;obtain ⟨sl1,vs1',ec1,hi1,hl1⟩:=jtG hf1 (by simp only;omega);obtain ⟨rfl,rfl,rfl⟩ : sa1=sl1.a∧sn1=sl1.n∧sc1=sl1.c:=by simpa [Value.cells] using ec1
     obtain ⟨a2,rfl,rfl,rfl,wf2⟩:=open_int Tryz.underlying3 (hval 2 3 v2 rfl rfl) h2;clear hA0;simp only [List.append_nil] at hW';refine (jkO nd0 ins0 A0 sl1 vs1' a2 W (jsE hL) na0 hl0 hil0 hi1 hl1 (jdz wf2).1 (jdz wf2).2).mono fun e W' ⟨he,hb⟩=>?_;subst he;have hlt:=fun x (hx:x∈p0++p1)=>show x.block<W.heap.size by simpa using hW'.lt x (by simpa using hx)
     exact ⟨_,rfl,_,_,_,[],_,[],hW',trodAll_cons_mk (shut_bool Tryz.underlying4 _) trodAll_mk0,(trodAll_cons_mk (Below.trod jjF (by kernel_rfl) (of_decide_eq_true (by kernel_rfl)) k0 hb (fun x hx=>hlt x (by simp [hx]))) (trodAll_cons_mk (Below.trod jjF (by kernel_rfl) (of_decide_eq_true (by kernel_rfl)) k1 hb (fun x hx=>hlt x (by simp [hx]))) (trodAll_cons_mk (Below.trod jjF (by kernel_rfl) (of_decide_eq_true (by kernel_rfl)) k2 hb (fun x hx=>by simp at hx)) trodAll_mk0))),rfl,hb.frame _,fun h=>by cases h⟩
theorem jrX (os:Os):laidMet Tryz.prog Rows.elemPlaceUptoRow.laid ((World.doorLaid Tryz.prog 400 os).forCall (fun _ _=>0) ⟨#[],#[.agg #[.string ⟨#[]⟩,.string ⟨#[]⟩,.slice none 0 0,.string ⟨#[]⟩,.slice none 0 0],.slice none 0 0,.int .i64 0],[]⟩).memory :=
 laidMet_of_run' 8 (by kernel_rfl) (by kernel_rfl)
theorem reads (os:Os) {H:Type} (enc:TypeId×Value→H):∃ x,DataW.whole enc Tryz.prog ((World.doorLaid Tryz.prog 400 os).forCall (fun _ _=>0) ⟨#[],#[.agg #[.string ⟨#[]⟩,.string ⟨#[]⟩,.slice none 0 0,.string ⟨#[]⟩,.slice none 0 0],.slice none 0 0,.int .i64 0],[]⟩).memory Tryz.f4.params.toList Rows.elemPlaceSpec.vars false (#[.agg #[.string ⟨#[]⟩,.string ⟨#[]⟩,.slice none 0 0,.string ⟨#[]⟩,.slice none 0 0],.slice none 0 0,.int .i64 0]:Array Value).toList 8=some x∧Rows.uptoSmall H (x.1++x.2.1)=true :=
 ⟨([.agg [.lit (.string []),.lit (.string []),.nil,.lit (.string []),.nil],.nil,.lit (.int .i64 0)],[],[]),by kernel_rfl,by kernel_rfl⟩
theorem jvm (os:Os) (started:os.Started) (H:Type) (enc:TypeId×Value→H) (F:Stop.Interp) :
    ReturnsInHanded {} Tryz.checked os 4 .any ((Rows.OpenSpec.upto Rows.elemPlaceSpec).preRow enc Tryz.prog Tryz.f4 Rows.elemPlaceUptoRow.domain false Rows.elemPlaceUptoRow.laid) (((Rows.OpenSpec.upto Rows.elemPlaceSpec).at F).post enc Tryz.prog Tryz.f4 false true false false):=by
     obtain ⟨x,hx,hxs⟩:=reads os enc
     refine returnsInHanded_of_row (C:=Tryz.checked) (s:=Rows.OpenSpec.upto Rows.elemPlaceSpec) own started (by kernel_rfl) Tryz.func4
      (witness_row_at (enc:=enc) (C:=Tryz.checked) false (World.doorLaid Tryz.prog 400 os) #[.agg #[.string ⟨#[]⟩,.string ⟨#[]⟩,.slice none 0 0,.string ⟨#[]⟩,.slice none 0 0],.slice none 0 0,.int .i64 0] rfl (by kernel_rfl) (by kernel_rfl) (by kernel_rfl)
       (OpenSpec.preRow_of_cond 8 hx (by kernel_rfl) (fun k hk=>by cases hk;exact hxs) (by kernel_rfl) (jrX os))) ?_
     intro W base args ds gs before hval hW _ hcond _ hL _ _;exact jrW H enc W base args ds gs before hval hW (hcond _ rfl) hL
theorem said:Rows.ElemPlaceUptoSaid :=
 OpenClaim.holds_of_cond 4 Tryz.f4 rfl rfl rfl rfl rfl rfl rfl ⟨rfl,rfl,rfl,rfl,rfl⟩ rfl rfl rfl rfl rfl (by kernel_rfl) Tryz.func4 (by kernel_rfl)
  (of_decide_eq_true (by kernel_rfl)) (by unfold Func.isWrapper;first | (rw [if_pos (by decide +kernel)];kernel_rfl) | (rw [if_neg (by decide +kernel)];exact ⟨rfl,rfl⟩))
  (fun os started H enc _ F=>by rw [OpenClaim.pre_eq_preRow];exact jvm os started H enc F)
theorem plain (f : FuncId) (fn : Func) (hf : Tryz.pinned.checked.prog.funcNamed "mandrel/mandrellaw09.ElemPlace" = some f) (hfn : Tryz.pinned.checked.prog.funcs[f]? = some fn) :
    true=Tryz.pinned.checked.prog.looks []∧∀ (j:Nat) t,fn.params[j]?=some t→Tryz.pinned.checked.prog.wantsStandIn t=false:=by
     obtain rfl : f = 4 := Option.some.inj ((show Tryz.prog.funcNamed "mandrel/mandrellaw09.ElemPlace" = some 4 by kernel_rfl).symm.trans hf) |>.symm
     obtain rfl:fn=Tryz.f4:=(Option.some.inj (Tryz.func4.symm.trans hfn)).symm;refine ⟨by kernel_rfl,fun j t ht=>?_⟩;rw [Tryz.params4] at ht;have hm:t∈[25,26,3]:=by simpa using Array.mem_of_getElem? ht
     have hall:([25,26,3].all fun u=>!Tryz.prog.wantsStandIn u)=true:=by kernel_rfl
     exact (show Tryz.prog.wantsStandIn t=false by simpa using List.all_eq_true.1 hall t hm)
theorem card:Rows.ElemPlaceUptoCardSaid :=
 Claim7.holds_tied_plain_at .later [] _ _ _ _ said (fun _ h=>by cases h) (by kernel_rfl) (fun _ h=>by cases h) elemPlaceUpto_row_tie rfl ⟨rfl,rfl⟩ (by kernel_rfl) rfl plain (by kernel_rfl)
end Go.Proofs.YteigfipgmghgmaaGreatDoor.elemPlaceUpto
namespace Go.Proofs.YteigfipgmghgmaaGreatDoor
theorem elemPlaceUpto_holds:Rows.ElemPlaceUptoCardSaid:=elemPlaceUpto.card
end Go.Proofs.YteigfipgmghgmaaGreatDoor
