/- A part. -/
import Derived.Test.YtbgbpfbjeleooaaGreatRartBL
namespace Go.Proofs.YtbgbpfbjeleooaaGreat.Pd
open Go.RowKit
open Wr (Fld)
structure TA (A:NAtr):Prop where
 kind:je3 A=.ok A
 long:jas [A.name,A.s]=false
 few:A.ints.length≤20
 flt:A.kind=1→chk 1 A.f=true
 ten:A.kind=4→pbE A.ty A.dims A.data=0
 rd:I64 A.data
 ri:I64 A.ints
 r1:I64 [A.i]
theorem jgY {A:NAtr} (h:je3 A=.ok A):(A.kind=1∨A.kind=2∨A.kind=3∨A.kind=4∨A.kind=7)∧(A.kind≠4→A.ty=0∧A.dims=[]∧A.data=[])∧(A.kind≠1→A.f=0):=by
 obtain ⟨nm,k,f,i,s,ty,ds,da,is⟩:=A;unfold je3 at h;simp only at h ⊢
 split at h
 ·simp only [Except.ok.injEq,NAtr.mk.injEq] at h;exact ⟨by omega,fun _=>⟨h.2.2.2.2.2.1.symm,h.2.2.2.2.2.2.1.symm,h.2.2.2.2.2.2.2.1.symm⟩,fun k=>by omega⟩
 split at h
 ·simp only [Except.ok.injEq,NAtr.mk.injEq] at h;exact ⟨by omega,fun _=>⟨h.2.2.2.2.2.1.symm,h.2.2.2.2.2.2.1.symm,h.2.2.2.2.2.2.2.1.symm⟩,fun _=>h.2.2.1.symm⟩
 split at h
 ·simp only [Except.ok.injEq,NAtr.mk.injEq] at h;exact ⟨by omega,fun _=>⟨h.2.2.2.2.2.1.symm,h.2.2.2.2.2.2.1.symm,h.2.2.2.2.2.2.2.1.symm⟩,fun _=>h.2.2.1.symm⟩
 split at h
 ·simp only [Except.ok.injEq,NAtr.mk.injEq] at h;exact ⟨by omega,fun k=>by omega,fun _=>h.2.2.1.symm⟩
 split at h
 ·simp only [Except.ok.injEq,NAtr.mk.injEq] at h;exact ⟨by omega,fun _=>⟨h.2.2.2.2.2.1.symm,h.2.2.2.2.2.2.1.symm,h.2.2.2.2.2.2.2.1.symm⟩,fun _=>h.2.2.1.symm⟩
 ·cases h
theorem jox {m:List Fld×Nat} {l:List Fld} {k ty:Int} {ds da:List Int} (h:Lst m l) (hp:k=4→pbE ty ds da=0) (h64:I64 da):WP (jlM m k ty ds da) fun m'=>∃ ts,Lst m' (l++ts.map (ja0 5))∧((k=4∧∃ s,ts=[s]∧jaB s=.ok ⟨⟨#[]⟩,ty,ds,da⟩)∨(k≠4∧ts=[])):=by
 unfold jlM
 split
 ·rename_i h4;refine (jjG (T:=⟨⟨#[]⟩,ty,ds,da⟩) rfl (hp h4) h64).bind fun s hs=>(jdQ h (jjB (by decide))).mono fun m' hm=>⟨[s],hm,.inl ⟨h4,s,rfl,hs⟩⟩
 ·rename_i h4;exact ⟨[],by simpa using h,.inr ⟨h4,rfl⟩⟩
theorem jkc {num x:Int} (h:chk 1 x=true):jcX (jgz num x)=.ok x:=by
 have hx:=h;simp only [chk,if_true,decide_eq_true_eq] at hx;show Except.ok (jbK (wrap64 (x % 18446744073709551616)))=_;rw [show wrap64 (x % 18446744073709551616)=x by unfold wrap64;omega];unfold jbK;rw [if_pos h]
theorem jmt {A:NAtr} (h:TA A):WP (jao A) fun s=>jaw s=.ok A:=by
 obtain ⟨k0,k1,k2⟩:=jgY h.kind
 have hf:chk 1 A.f=true:=by
  by_cases e:A.kind=1
  ·exact h.flt e
  ·rw [k2 e];decide
 have hf2:0≤A.f∧A.f<4294967296:=by
  have e:=hf;simp only [chk,if_true,decide_eq_true_eq] at e;omega
 unfold jao;refine (jeO (l:=[]) Lst.nil (by decide)).bind fun m hm=>(jot hm (by decide) hf2).bind fun m hm=>(jii hm (by decide)).bind fun m hm=>(jeO hm (by decide)).bind fun m hm=>(jox hm h.ten h.rd).bind fun m ⟨ts,hm,hts⟩=>(jou hm (by decide)).bind fun m hm=>(jii hm (by decide)).bind fun m hm=>(jfL hm).mono fun s hs=>?_;unfold jaw;rw [hs];have hi : -9223372036854775808≤A.i∧A.i≤9223372036854775807:=h.r1 A.i (List.mem_singleton.2 rfl)
 have e5:∀ (ts:List ByteArray) (a:ASt),jaF jaR a (ts.map (ja0 5))=.ok ⟨a.name,a.f,a.i,a.s,a.ts++ts,a.ints,a.kind⟩:=by
  intro ts
  induction ts with
  | nil=>intro a;simp [jaF]
  | cons t ts ih =>
   intro a;rw [List.map_cons];show jaF jaR ⟨a.name,a.f,a.i,a.s,a.ts++[t],a.ints,a.kind⟩ (ts.map (ja0 5))=_;rw [ih];simp
 have k:jaF jaR a0 ([]++txF 1 A.name++flF 2 A.f++nuF 3 A.i++txF 4 A.s++ts.map (ja0 5)++nsF 8 A.ints++nuF 20 A.kind)=.ok ⟨A.name,A.f,A.i,A.s,ts,A.ints,A.kind⟩:=by
  rw [List.nil_append];simp only [List.append_assoc]
  rw [jbN (b:=⟨A.name,0,0,⟨#[]⟩,[],[],0⟩) (jdy (fun h0=>by rw [jb3 h0];rfl) rfl),
   jbN (b:=⟨A.name,A.f,0,⟨#[]⟩,[],[],0⟩) (jmp (fun h0=>by rw [h0]) (by
    unfold jaR;rw [if_neg (show ¬ (jgz 2 A.f).num=1 by show ¬ (2:Int)=1;decide),if_pos (show (jgz 2 A.f).num=2 from rfl),jkc hf]
    rfl)),
   jbN (b:=⟨A.name,A.f,A.i,⟨#[]⟩,[],[],0⟩) (jfe (fun h0=>by rw [h0]) (by
    unfold jaR;rw [if_neg (show ¬ (jfy 3 A.i).num=1 by show ¬ (3:Int)=1;decide),if_neg (show ¬ (jfy 3 A.i).num=2 by show ¬ (3:Int)=2;decide),if_pos (show (jfy 3 A.i).num=3 from rfl),jeq hi]
    rfl)),
   jbN (b:=⟨A.name,A.f,A.i,A.s,[],[],0⟩) (jdy (fun h0=>by rw [jb3 h0]) rfl),
   jbN (b:=⟨A.name,A.f,A.i,A.s,ts,[],0⟩) (e5 ts _),
   jbN (b:=⟨A.name,A.f,A.i,A.s,ts,A.ints,0⟩) (jli (fun h0=>by rw [h0]) (by
    have hn:(jbS 8 A.ints).num=8:=by unfold jbS;split <;> rfl
    unfold jaR;rw [hn,if_neg (by decide),if_neg (by decide),if_neg (by decide),if_neg (by decide),if_neg (by decide),if_pos rfl,jdi h.ri]
    rfl))]
  exact jfe (fun h0=>by rw [h0]) (by
   unfold jaR;have hn:(jfy 20 A.kind).num=20:=rfl;rw [hn,if_neg (by decide),if_neg (by decide),if_neg (by decide),if_neg (by decide),if_neg (by decide),if_neg (by decide),if_pos rfl,jeq (by omega)]
   rfl)
 show (jaF jaR a0 _).bind _=_;rw [k];show jfE _=_
 obtain ⟨T,hT,hA⟩ : ∃ T,jkZ ts=.ok T∧(⟨A.name,A.kind,A.f,A.i,A.s,T.ty,T.dims,T.data,A.ints⟩ : NAtr)=A:=by
  rcases hts with ⟨h4,s2,rfl,hs2⟩ | ⟨h4,rfl⟩
  ·refine ⟨⟨⟨#[]⟩,A.ty,A.dims,A.data⟩,?_,rfl⟩;unfold jkZ;rw [if_neg (by simp),jfd];exact hs2
  ·obtain ⟨e1,e2,e3⟩:=k1 h4;refine ⟨jn6,rfl,?_⟩
   have e:∀ B:NAtr,B.ty=0→B.dims=[]→B.data=[]→(⟨B.name,B.kind,B.f,B.i,B.s,0,[],[],B.ints⟩ : NAtr)=B:=by
    rintro ⟨a,b,c,d,e,f,g,h,i⟩ h1 h2 h3;simp only at h1 h2 h3;rw [h1,h2,h3]
   exact e A e1 e2 e3
 unfold jfE;rw [hT];show (je3 _).bind _=_;simp only;rw [hA,h.kind];show (jal (decide (A.kind=4)&&ts.length==0) 4).bind _=_
 rw [show (decide (A.kind=4)&&ts.length==0)=false by
  rcases hts with ⟨h4,s,rfl,hs⟩ | ⟨h4,rfl⟩
  ·simp
  ·rw [decide_eq_false h4];rfl]
 show (jal (jas [A.name,A.s]||decide (20<A.ints.length)) 6).bind _=_;rw [h.long,decide_eq_false (by have:=h.few;omega)]
 rfl
structure TN (N:NNod):Prop where
 li:jas N.ins=false
 ln:jas [N.out,N.name,N.op]=false
 fi:N.ins.length≤20
 fa:N.attrs.length≤20
 at':∀ A∈N.attrs,TA A
theorem jgZ:∀ (l:List ByteArray) (a:NSt),l.foldl (fun s t=>(⟨s.ins++[t],s.outs,s.name,s.op,s.attrs,s.dom⟩ : NSt)) a=⟨a.ins++l,a.outs,a.name,a.op,a.attrs,a.dom⟩
 | [],a=>by simp
 | x::l,a=>by rw [List.foldl_cons,jgZ l];simp
theorem jg0:∀ (l:List NAtr) (a:NSt),l.foldl (fun s t=>(⟨s.ins,s.outs,s.name,s.op,s.attrs++[t],s.dom⟩ : NSt)) a=⟨a.ins,a.outs,a.name,a.op,a.attrs++l,a.dom⟩
 | [],a=>by simp
 | x::l,a=>by rw [List.foldl_cons,jg0 l];simp
theorem jmu {N:NNod} (h:TN N):WP (jaE N) fun s=>jaC s=.ok N:=by
 unfold jaE;refine (jeb (f:=fun s=>.ok s) (P:=fun (a b:ByteArray)=>b=a) (by decide) N.ins Lst.nil (fun x _=>(rfl:x=x))).bind fun m ⟨ss,h1,hm⟩=>(jdQ hm (jjB (by decide))).bind fun m hm=>(jeO hm (by decide)).bind fun m hm=>(jeO hm (by decide)).bind fun m hm=>(jeb (P:=fun A s=>jaw s=.ok A) (by decide) N.attrs hm (fun A hA=>jmt (h.at' A hA))).bind fun m ⟨ats,h2,hm⟩=>(jfL hm).mono fun s hs=>?_;unfold jaC;rw [hs]
 have k:jaF jaO n0 ([]++ss.map (ja0 1)++[ja0 2 N.out]++txF 3 N.name++txF 4 N.op++ats.map (ja0 5))=.ok ⟨N.ins,[N.out],N.name,N.op,N.attrs,⟨#[]⟩⟩:=by
  rw [List.nil_append];simp only [List.append_assoc]
  have e1:jaF jaO n0 (ss.map (ja0 1))=.ok ⟨N.ins,[],⟨#[]⟩,⟨#[]⟩,[],⟨#[]⟩⟩:=by
   rw [jcQ (P:=fun (a b:ByteArray)=>b=a) (fun s t=>(⟨s.ins++[t],s.outs,s.name,s.op,s.attrs,s.dom⟩ : NSt)) (fun a x s e=>by rw [e];rfl) h1,jgZ]
   rfl
  rw [jbN e1,jbN (b:=⟨N.ins,[N.out],⟨#[]⟩,⟨#[]⟩,[],⟨#[]⟩⟩) (jdL rfl),
   jbN (b:=⟨N.ins,[N.out],N.name,⟨#[]⟩,[],⟨#[]⟩⟩) (jdy (fun h0=>by rw [jb3 h0]) rfl),
   jbN (b:=⟨N.ins,[N.out],N.name,N.op,[],⟨#[]⟩⟩) (jdy (fun h0=>by rw [jb3 h0]) rfl),
   jcQ (P:=fun A s=>jaw s=.ok A) (fun s t=>(⟨s.ins,s.outs,s.name,s.op,s.attrs++[t],s.dom⟩ : NSt)) (fun a A s e=>by show (jaw s).bind _=_;rw [e];rfl) h2,jg0]
  rfl
 show (jaF jaO n0 _).bind _=_;rw [k];show (jal (jas N.ins||jas [N.out,N.name,N.op]) 6).bind _=_;rw [h.li,h.ln];show (jal (decide (20<N.ins.length)||decide (20<N.attrs.length)) 6).bind _=_;rw [decide_eq_false (by have:=h.fi;omega),decide_eq_false (by have:=h.fa;omega)]
 rfl
structure TT (T:NTen):Prop where
 long:jas [T.name]=false
 ok:pbE T.ty T.dims T.data=0
 rd:I64 T.data
structure TV (V:NVal):Prop where
 long:jas [V.name]=false
 ty:chk V.ty 0=true
 ok:jcL V.dims=0
structure TG (G:NGra):Prop where
 long:jas [G.name]=false
 few:jcu G.nodes.length G.ins.length G.outs.length G.inits.length=false
 nodes:∀ N∈G.nodes,TN N
 inits:∀ T∈G.inits,TT T
 ins:∀ V∈G.ins,TV V
 outs:∀ V∈G.outs,TV V
theorem jg1:∀ (l:List NNod) (a:NGra),l.foldl (fun s t=>(⟨s.name,s.nodes++[t],s.ins,s.outs,s.inits⟩ : NGra)) a=⟨a.name,a.nodes++l,a.ins,a.outs,a.inits⟩
 | [],a=>by simp
 | x::l,a=>by rw [List.foldl_cons,jg1 l];simp
theorem jg2:∀ (l:List NTen) (a:NGra),l.foldl (fun s t=>(⟨s.name,s.nodes,s.ins,s.outs,s.inits++[t]⟩ : NGra)) a=⟨a.name,a.nodes,a.ins,a.outs,a.inits++l⟩
 | [],a=>by simp
 | x::l,a=>by rw [List.foldl_cons,jg2 l];simp
theorem jgq:∀ (l:List NVal) (a:NGra),l.foldl (fun s t=>(⟨s.name,s.nodes,s.ins++[t],s.outs,s.inits⟩ : NGra)) a=⟨a.name,a.nodes,a.ins++l,a.outs,a.inits⟩
 | [],a=>by simp
 | x::l,a=>by rw [List.foldl_cons,jgq l];simp
theorem jgr:∀ (l:List NVal) (a:NGra),l.foldl (fun s t=>(⟨s.name,s.nodes,s.ins,s.outs++[t],s.inits⟩ : NGra)) a=⟨a.name,a.nodes,a.ins,a.outs++l,a.inits⟩
 | [],a=>by simp
 | x::l,a=>by rw [List.foldl_cons,jgr l];simp
theorem jmv {G:NGra} (h:TG G):WP (jap G) fun s=>∃ l,jaX s=.ok l∧∀ a:NGra,jaF jav a l=.ok ⟨if G.name.size=0 then a.name else G.name,a.nodes++G.nodes,a.ins++G.ins,a.outs++G.outs,a.inits++G.inits⟩:=by
 unfold jap;refine (jeb (P:=fun A s=>jaC s=.ok A) (by decide) G.nodes Lst.nil (fun A hA=>jmu (h.nodes A hA))).bind fun m ⟨ns,h1,hm⟩=>(jeO hm (by decide)).bind fun m hm=>(jeb (P:=fun A s=>jaB s=.ok A) (by decide) G.inits hm (fun A hA=>jjG (h.inits A hA).long (h.inits A hA).ok (h.inits A hA).rd)).bind fun m ⟨ts,h5,hm⟩=>(jeb (P:=fun A s=>jaG s=.ok A) (by decide) G.ins hm (fun A hA=>jjD (h.ins A hA).long (h.ins A hA).ty (h.ins A hA).ok)).bind fun m ⟨is,h11,hm⟩=>(jeb (P:=fun A s=>jaG s=.ok A) (by decide) G.outs hm (fun A hA=>jjD (h.outs A hA).long (h.outs A hA).ty (h.outs A hA).ok)).bind fun m ⟨os,h12,hm⟩=>(jfL hm).mono fun s hs=>⟨_,hs,fun a=>?_⟩
 rw [List.nil_append];simp only [List.append_assoc]
 rw [jbN (jcQ (P:=fun A s=>jaC s=.ok A) (fun s t=>(⟨s.name,s.nodes++[t],s.ins,s.outs,s.inits⟩ : NGra)) (fun a A s e=>by show (jaC s).bind _=_;rw [e];rfl) h1 a),jg1,
  jbN (b:=⟨if G.name.size=0 then a.name else G.name,a.nodes++G.nodes,a.ins,a.outs,a.inits⟩) (by
   unfold txF
   split
   ·rfl
   ·exact jdL rfl),
  jbN (jcQ (P:=fun A s=>jaB s=.ok A) (fun s t=>(⟨s.name,s.nodes,s.ins,s.outs,s.inits++[t]⟩ : NGra)) (fun a A s e=>by show (jaB s).bind _=_;rw [e];rfl) h5 _),jg2,
  jbN (jcQ (P:=fun A s=>jaG s=.ok A) (fun s t=>(⟨s.name,s.nodes,s.ins++[t],s.outs,s.inits⟩ : NGra)) (fun a A s e=>by show (jaG s).bind _=_;rw [e];rfl) h11 _),jgq,
  jcQ (P:=fun A s=>jaG s=.ok A) (fun s t=>(⟨s.name,s.nodes,s.ins,s.outs++[t],s.inits⟩ : NGra)) (fun a A s e=>by show (jaG s).bind _=_;rw [e];rfl) h12,jgr]
theorem jm6 {G:NGra} (h:TG G):jdf G=.ok G:=by
 unfold jdf;rw [h.long,h.few]
 rfl
theorem jhB {G:NGra} (h:TG G):WP (jax G) fun s=>∃ t l,jaX s=.ok [ja0 7 t]∧jaX t=.ok l∧∀ a:NGra,jaF jav a l=.ok ⟨if G.name.size=0 then a.name else G.name,a.nodes++G.nodes,a.ins++G.ins,a.outs++G.outs,a.inits++G.inits⟩:=by
 unfold jax;refine (jmv h).bind fun t ⟨l,h1,h2⟩=>(jdQ (l:=[]) Lst.nil (jjB (by decide))).bind fun m hm=>(jfL hm).mono fun s hs=>⟨t,l,hs,h1,h2⟩
theorem jmw {G:NGra} (h:TG G):WP (jax G) fun s=>jaP s=.ok G:=by
 refine (jhB h).mono fun s ⟨t,l,h1,h2,h3⟩=>?_;unfold jaP;rw [h1];show jaK (jbR [t])=_;rw [jfd];unfold jaK;rw [h2];show (jaF jav g0 l).bind jdf=_;rw [h3]
 have e:(⟨if G.name.size=0 then g0.name else G.name,g0.nodes++G.nodes,g0.ins++G.ins,g0.outs++G.outs,g0.inits++G.inits⟩ : NGra)=G:=by
  have e1:(if G.name.size=0 then g0.name else G.name)=G.name:=by
   split
   ·rename_i h0;rw [jb3 h0];rfl
   ·rfl
  rw [e1]
  rfl
 show jdf _=_;rw [e];exact jm6 h
end Go.Proofs.YtbgbpfbjeleooaaGreat.Pd
namespace Go.Proofs.YtbgbpfbjeleooaaGreat.Pd
open Go.RowKit
open Wr (Fld)
def R64 (x:Int):Prop := -9223372036854775808≤x∧x≤9223372036854775807
end Go.Proofs.YtbgbpfbjeleooaaGreat.Pd
namespace Go.Proofs.YtbgbpfbjeleooaaGreat.Pd
open Go.RowKit
open Wr (Fld)
def jer:ByteArray:=⟨#[58,51,10,12,10,1,120,18,1,121,34,4,82,101,108,117,18,1,103,90,15,10,1,120,18,10,10,8,8,1,18,4,10,2,8,2,98,15,10,1,121,18,10,10,8,8,1,18,4,10,2,8,2]⟩
def jdl (s:Sl):List (Nod×Ni):=[(⟨⟨#[82,101,108,117]⟩,⟨#[]⟩,s,⟨#[121]⟩,⟨none,0,0⟩⟩,⟨[⟨#[120]⟩],[],[]⟩)]
def jdm (s:Sl):List (Val×List Int):=[(⟨⟨#[120]⟩,1,s⟩,[2])]
def jdn (s:Sl):List (Val×List Int):=[(⟨⟨#[121]⟩,1,s⟩,[2])]
def jll:NGra:=⟨⟨#[103]⟩,[⟨⟨#[82,101,108,117]⟩,⟨#[]⟩,[⟨#[120]⟩],⟨#[121]⟩,[]⟩],[⟨⟨#[120]⟩,1,[2]⟩],[⟨⟨#[121]⟩,1,[2]⟩],[]⟩
theorem jkd (nv iv ov tv s1 s2 s3:Sl):jc6 ⟨⟨#[103]⟩,nv,iv,ov,tv⟩ (jdl s1) (jdm s2) (jdn s3) []=true:=by kernel_rfl
theorem jlm:jax jll=.ok jer:=by kernel_rfl
theorem jke:jaP jer=.ok jll:=by kernel_rfl
theorem jln:jaP ⟨#[58,0]⟩=.ok ⟨⟨#[]⟩,[],[],[],[]⟩:=by kernel_rfl
theorem jlo:jaP ⟨#[56,1]⟩=.error 3:=by kernel_rfl
theorem jkf:jaP ⟨#[]⟩=.error 4:=by kernel_rfl
end Go.Proofs.YtbgbpfbjeleooaaGreat.Pd
