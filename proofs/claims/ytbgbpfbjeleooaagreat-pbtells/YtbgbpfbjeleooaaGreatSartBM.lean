/- A part. -/
import Derived.Test.YtbgbpfbjeleooaaGreatSartBL
namespace Go.Proofs.YtbgbpfbjeleooaaGreat.Pd
open Go.RowKit
open Wr (Fld)
structure TA (A:NAtr):Prop where
 kind:jeY A=.ok A
 long:jaq [A.name,A.s]=false
 few:A.ints.length≤20
 flt:A.kind=1→chk 1 A.f=true
 ten:A.kind=4→pbE A.ty A.dims A.data=0
 rd:I64 A.data
 ri:I64 A.ints
 r1:I64 [A.i]
theorem jgU {A:NAtr} (h:jeY A=.ok A):(A.kind=1∨A.kind=2∨A.kind=3∨A.kind=4∨A.kind=7)∧(A.kind≠4→A.ty=0∧A.dims=[]∧A.data=[])∧(A.kind≠1→A.f=0):=by
 obtain ⟨nm,k,f,i,s,ty,ds,da,is⟩:=A;unfold jeY at h;simp only at h ⊢
 split at h
 ·simp only [Except.ok.injEq,NAtr.mk.injEq] at h;exact ⟨by omega,fun _=>⟨h.2.2.2.2.2.1.symm,h.2.2.2.2.2.2.1.symm,h.2.2.2.2.2.2.2.1.symm⟩,fun k=>by omega⟩
 split at h
 ·simp only [Except.ok.injEq,NAtr.mk.injEq] at h;exact ⟨by omega,fun _=>⟨h.2.2.2.2.2.1.symm,h.2.2.2.2.2.2.1.symm,h.2.2.2.2.2.2.2.1.symm⟩,fun _=>h.2.2.1.symm⟩
 split at h
 ·simp only [Except.ok.injEq,NAtr.mk.injEq] at h;exact ⟨by omega,fun _=>⟨h.2.2.2.2.2.1.symm,h.2.2.2.2.2.2.1.symm,h.2.2.2.2.2.2.2.1.symm⟩,fun _=>h.2.2.1.symm⟩
 split at h
 ·simp only [Except.ok.injEq,NAtr.mk.injEq] at h;exact ⟨by omega,fun k=>by omega,fun _=>h.2.2.1.symm⟩
 split at h
 ·simp only [Except.ok.injEq,NAtr.mk.injEq] at h;exact ⟨by omega,fun _=>⟨h.2.2.2.2.2.1.symm,h.2.2.2.2.2.2.1.symm,h.2.2.2.2.2.2.2.1.symm⟩,fun _=>h.2.2.1.symm⟩
 ·cases h
theorem jom {m:List Fld×Nat} {l:List Fld} {k ty:Int} {ds da:List Int} (h:Lst m l) (hp:k=4→pbE ty ds da=0) (h64:I64 da):WP (jlA m k ty ds da) fun m'=>∃ ts,Lst m' (l++ts.map (jaY 5))∧((k=4∧∃ s,ts=[s]∧jaA s=.ok ⟨⟨#[]⟩,ty,ds,da⟩)∨(k≠4∧ts=[])):=by
 unfold jlA
 split
 ·rename_i h4;refine (jjv (T:=⟨⟨#[]⟩,ty,ds,da⟩) rfl (hp h4) h64).bind fun s hs=>(jdK h (jjq (by decide))).mono fun m' hm=>⟨[s],hm,.inl ⟨h4,s,rfl,hs⟩⟩
 ·rename_i h4;exact ⟨[],by simpa using h,.inr ⟨h4,rfl⟩⟩
theorem jj2 {num x:Int} (h:chk 1 x=true):jcT (jgt num x)=.ok x:=by
 have hx:=h;simp only [chk,if_true,decide_eq_true_eq] at hx;show Except.ok (jbH (wrap64 (x % 18446744073709551616)))=_;rw [show wrap64 (x % 18446744073709551616)=x by unfold wrap64;omega];unfold jbH;rw [if_pos h]
theorem jmj {A:NAtr} (h:TA A):WP (jam A) fun s=>jau s=.ok A:=by
 obtain ⟨k0,k1,k2⟩:=jgU h.kind
 have hf:chk 1 A.f=true:=by
  by_cases e:A.kind=1
  ·exact h.flt e
  ·rw [k2 e];decide
 have hf2:0≤A.f∧A.f<4294967296:=by
  have e:=hf;simp only [chk,if_true,decide_eq_true_eq] at e;omega
 unfold jam;refine (jeI (l:=[]) Lst.nil (by decide)).bind fun m hm=>(joi hm (by decide) hf2).bind fun m hm=>(jh9 hm (by decide)).bind fun m hm=>(jeI hm (by decide)).bind fun m hm=>(jom hm h.ten h.rd).bind fun m ⟨ts,hm,hts⟩=>(joj hm (by decide)).bind fun m hm=>(jh9 hm (by decide)).bind fun m hm=>(jfE hm).mono fun s hs=>?_;unfold jau;rw [hs];have hi : -9223372036854775808≤A.i∧A.i≤9223372036854775807:=h.r1 A.i (List.mem_singleton.2 rfl)
 have e5:∀ (ts:List ByteArray) (a:ASt),jaE jaQ a (ts.map (jaY 5))=.ok ⟨a.name,a.f,a.i,a.s,a.ts++ts,a.ints,a.kind⟩:=by
  intro ts
  induction ts with
  | nil=>intro a;simp [jaE]
  | cons t ts ih =>
   intro a;rw [List.map_cons];show jaE jaQ ⟨a.name,a.f,a.i,a.s,a.ts++[t],a.ints,a.kind⟩ (ts.map (jaY 5))=_;rw [ih];simp
 have k:jaE jaQ a0 ([]++txF 1 A.name++flF 2 A.f++nuF 3 A.i++txF 4 A.s++ts.map (jaY 5)++nsF 8 A.ints++nuF 20 A.kind)=.ok ⟨A.name,A.f,A.i,A.s,ts,A.ints,A.kind⟩:=by
  rw [List.nil_append];simp only [List.append_assoc]
  rw [jbP (b:=⟨A.name,0,0,⟨#[]⟩,[],[],0⟩) (jdt (fun h0=>by rw [jb2 h0];rfl) rfl),
   jbP (b:=⟨A.name,A.f,0,⟨#[]⟩,[],[],0⟩) (jmf (fun h0=>by rw [h0]) (by
    unfold jaQ;rw [if_neg (show ¬ (jgt 2 A.f).num=1 by show ¬ (2:Int)=1;decide),if_pos (show (jgt 2 A.f).num=2 from rfl),jj2 hf]
    rfl)),
   jbP (b:=⟨A.name,A.f,A.i,⟨#[]⟩,[],[],0⟩) (jfa (fun h0=>by rw [h0]) (by
    unfold jaQ;rw [if_neg (show ¬ (jfr 3 A.i).num=1 by show ¬ (3:Int)=1;decide),if_neg (show ¬ (jfr 3 A.i).num=2 by show ¬ (3:Int)=2;decide),if_pos (show (jfr 3 A.i).num=3 from rfl),jel hi]
    rfl)),
   jbP (b:=⟨A.name,A.f,A.i,A.s,[],[],0⟩) (jdt (fun h0=>by rw [jb2 h0]) rfl),
   jbP (b:=⟨A.name,A.f,A.i,A.s,ts,[],0⟩) (e5 ts _),
   jbP (b:=⟨A.name,A.f,A.i,A.s,ts,A.ints,0⟩) (jk9 (fun h0=>by rw [h0]) (by
    have hn:(jbO 8 A.ints).num=8:=by unfold jbO;split <;> rfl
    unfold jaQ;rw [hn,if_neg (by decide),if_neg (by decide),if_neg (by decide),if_neg (by decide),if_neg (by decide),if_pos rfl,jdb h.ri]
    rfl))]
  exact jfa (fun h0=>by rw [h0]) (by
   unfold jaQ;have hn:(jfr 20 A.kind).num=20:=rfl;rw [hn,if_neg (by decide),if_neg (by decide),if_neg (by decide),if_neg (by decide),if_neg (by decide),if_neg (by decide),if_pos rfl,jel (by omega)]
   rfl)
 show (jaE jaQ a0 _).bind _=_;rw [k];show jfx _=_
 obtain ⟨T,hT,hA⟩ : ∃ T,jkQ ts=.ok T∧(⟨A.name,A.kind,A.f,A.i,A.s,T.ty,T.dims,T.data,A.ints⟩ : NAtr)=A:=by
  rcases hts with ⟨h4,s2,rfl,hs2⟩ | ⟨h4,rfl⟩
  ·refine ⟨⟨⟨#[]⟩,A.ty,A.dims,A.data⟩,?_,rfl⟩;unfold jkQ;rw [if_neg (by simp),je9];exact hs2
  ·obtain ⟨e1,e2,e3⟩:=k1 h4;refine ⟨jnV,rfl,?_⟩
   have e:∀ B:NAtr,B.ty=0→B.dims=[]→B.data=[]→(⟨B.name,B.kind,B.f,B.i,B.s,0,[],[],B.ints⟩ : NAtr)=B:=by
    rintro ⟨a,b,c,d,e,f,g,h,i⟩ h1 h2 h3;simp only at h1 h2 h3;rw [h1,h2,h3]
   exact e A e1 e2 e3
 unfold jfx;rw [hT];show (jeY _).bind _=_;simp only;rw [hA,h.kind];show (jak (decide (A.kind=4)&&ts.length==0) 4).bind _=_
 rw [show (decide (A.kind=4)&&ts.length==0)=false by
  rcases hts with ⟨h4,s,rfl,hs⟩ | ⟨h4,rfl⟩
  ·simp
  ·rw [decide_eq_false h4];rfl]
 show (jak (jaq [A.name,A.s]||decide (20<A.ints.length)) 6).bind _=_;rw [h.long,decide_eq_false (by have:=h.few;omega)]
 rfl
structure TN (N:NNod):Prop where
 li:jaq N.ins=false
 ln:jaq [N.out,N.name,N.op]=false
 fi:N.ins.length≤20
 fa:N.attrs.length≤20
 at':∀ A∈N.attrs,TA A
theorem jgV:∀ (l:List ByteArray) (a:NSt),l.foldl (fun s t=>(⟨s.ins++[t],s.outs,s.name,s.op,s.attrs,s.dom⟩ : NSt)) a=⟨a.ins++l,a.outs,a.name,a.op,a.attrs,a.dom⟩
 | [],a=>by simp
 | x::l,a=>by rw [List.foldl_cons,jgV l];simp
theorem jgW:∀ (l:List NAtr) (a:NSt),l.foldl (fun s t=>(⟨s.ins,s.outs,s.name,s.op,s.attrs++[t],s.dom⟩ : NSt)) a=⟨a.ins,a.outs,a.name,a.op,a.attrs++l,a.dom⟩
 | [],a=>by simp
 | x::l,a=>by rw [List.foldl_cons,jgW l];simp
theorem jmk {N:NNod} (h:TN N):WP (jaD N) fun s=>jaB s=.ok N:=by
 unfold jaD;refine (jd5 (f:=fun s=>.ok s) (P:=fun (a b:ByteArray)=>b=a) (by decide) N.ins Lst.nil (fun x _=>(rfl:x=x))).bind fun m ⟨ss,h1,hm⟩=>(jdK hm (jjq (by decide))).bind fun m hm=>(jeI hm (by decide)).bind fun m hm=>(jeI hm (by decide)).bind fun m hm=>(jd5 (P:=fun A s=>jau s=.ok A) (by decide) N.attrs hm (fun A hA=>jmj (h.at' A hA))).bind fun m ⟨ats,h2,hm⟩=>(jfE hm).mono fun s hs=>?_;unfold jaB;rw [hs]
 have k:jaE jaN n0 ([]++ss.map (jaY 1)++[jaY 2 N.out]++txF 3 N.name++txF 4 N.op++ats.map (jaY 5))=.ok ⟨N.ins,[N.out],N.name,N.op,N.attrs,⟨#[]⟩⟩:=by
  rw [List.nil_append];simp only [List.append_assoc]
  have e1:jaE jaN n0 (ss.map (jaY 1))=.ok ⟨N.ins,[],⟨#[]⟩,⟨#[]⟩,[],⟨#[]⟩⟩:=by
   rw [jcK (P:=fun (a b:ByteArray)=>b=a) (fun s t=>(⟨s.ins++[t],s.outs,s.name,s.op,s.attrs,s.dom⟩ : NSt)) (fun a x s e=>by rw [e];rfl) h1,jgV]
   rfl
  rw [jbP e1,jbP (b:=⟨N.ins,[N.out],⟨#[]⟩,⟨#[]⟩,[],⟨#[]⟩⟩) (jdG rfl),
   jbP (b:=⟨N.ins,[N.out],N.name,⟨#[]⟩,[],⟨#[]⟩⟩) (jdt (fun h0=>by rw [jb2 h0]) rfl),
   jbP (b:=⟨N.ins,[N.out],N.name,N.op,[],⟨#[]⟩⟩) (jdt (fun h0=>by rw [jb2 h0]) rfl),
   jcK (P:=fun A s=>jau s=.ok A) (fun s t=>(⟨s.ins,s.outs,s.name,s.op,s.attrs++[t],s.dom⟩ : NSt)) (fun a A s e=>by show (jau s).bind _=_;rw [e];rfl) h2,jgW]
  rfl
 show (jaE jaN n0 _).bind _=_;rw [k];show (jak (jaq N.ins||jaq [N.out,N.name,N.op]) 6).bind _=_;rw [h.li,h.ln];show (jak (decide (20<N.ins.length)||decide (20<N.attrs.length)) 6).bind _=_;rw [decide_eq_false (by have:=h.fi;omega),decide_eq_false (by have:=h.fa;omega)]
 rfl
structure TT (T:NTen):Prop where
 long:jaq [T.name]=false
 ok:pbE T.ty T.dims T.data=0
 rd:I64 T.data
structure TV (V:NVal):Prop where
 long:jaq [V.name]=false
 ty:chk V.ty 0=true
 ok:jcG V.dims=0
structure TG (G:NGra):Prop where
 long:jaq [G.name]=false
 few:jcJ G.nodes.length G.ins.length G.outs.length G.inits.length=false
 nodes:∀ N∈G.nodes,TN N
 inits:∀ T∈G.inits,TT T
 ins:∀ V∈G.ins,TV V
 outs:∀ V∈G.outs,TV V
theorem jgX:∀ (l:List NNod) (a:NGra),l.foldl (fun s t=>(⟨s.name,s.nodes++[t],s.ins,s.outs,s.inits⟩ : NGra)) a=⟨a.name,a.nodes++l,a.ins,a.outs,a.inits⟩
 | [],a=>by simp
 | x::l,a=>by rw [List.foldl_cons,jgX l];simp
theorem jgY:∀ (l:List NTen) (a:NGra),l.foldl (fun s t=>(⟨s.name,s.nodes,s.ins,s.outs,s.inits++[t]⟩ : NGra)) a=⟨a.name,a.nodes,a.ins,a.outs,a.inits++l⟩
 | [],a=>by simp
 | x::l,a=>by rw [List.foldl_cons,jgY l];simp
theorem jgl:∀ (l:List NVal) (a:NGra),l.foldl (fun s t=>(⟨s.name,s.nodes,s.ins++[t],s.outs,s.inits⟩ : NGra)) a=⟨a.name,a.nodes,a.ins++l,a.outs,a.inits⟩
 | [],a=>by simp
 | x::l,a=>by rw [List.foldl_cons,jgl l];simp
theorem jgm:∀ (l:List NVal) (a:NGra),l.foldl (fun s t=>(⟨s.name,s.nodes,s.ins,s.outs++[t],s.inits⟩ : NGra)) a=⟨a.name,a.nodes,a.ins,a.outs++l,a.inits⟩
 | [],a=>by simp
 | x::l,a=>by rw [List.foldl_cons,jgm l];simp
theorem jml {G:NGra} (h:TG G):WP (jan G) fun s=>∃ l,jba s=.ok l∧∀ a:NGra,jaE jaw a l=.ok ⟨if G.name.size=0 then a.name else G.name,a.nodes++G.nodes,a.ins++G.ins,a.outs++G.outs,a.inits++G.inits⟩:=by
 unfold jan;refine (jd5 (P:=fun A s=>jaB s=.ok A) (by decide) G.nodes Lst.nil (fun A hA=>jmk (h.nodes A hA))).bind fun m ⟨ns,h1,hm⟩=>(jeI hm (by decide)).bind fun m hm=>(jd5 (P:=fun A s=>jaA s=.ok A) (by decide) G.inits hm (fun A hA=>jjv (h.inits A hA).long (h.inits A hA).ok (h.inits A hA).rd)).bind fun m ⟨ts,h5,hm⟩=>(jd5 (P:=fun A s=>jaG s=.ok A) (by decide) G.ins hm (fun A hA=>jjs (h.ins A hA).long (h.ins A hA).ty (h.ins A hA).ok)).bind fun m ⟨is,h11,hm⟩=>(jd5 (P:=fun A s=>jaG s=.ok A) (by decide) G.outs hm (fun A hA=>jjs (h.outs A hA).long (h.outs A hA).ty (h.outs A hA).ok)).bind fun m ⟨os,h12,hm⟩=>(jfE hm).mono fun s hs=>⟨_,hs,fun a=>?_⟩
 rw [List.nil_append];simp only [List.append_assoc]
 rw [jbP (jcK (P:=fun A s=>jaB s=.ok A) (fun s t=>(⟨s.name,s.nodes++[t],s.ins,s.outs,s.inits⟩ : NGra)) (fun a A s e=>by show (jaB s).bind _=_;rw [e];rfl) h1 a),jgX,
  jbP (b:=⟨if G.name.size=0 then a.name else G.name,a.nodes++G.nodes,a.ins,a.outs,a.inits⟩) (by
   unfold txF
   split
   ·rfl
   ·exact jdG rfl),
  jbP (jcK (P:=fun A s=>jaA s=.ok A) (fun s t=>(⟨s.name,s.nodes,s.ins,s.outs,s.inits++[t]⟩ : NGra)) (fun a A s e=>by show (jaA s).bind _=_;rw [e];rfl) h5 _),jgY,
  jbP (jcK (P:=fun A s=>jaG s=.ok A) (fun s t=>(⟨s.name,s.nodes,s.ins++[t],s.outs,s.inits⟩ : NGra)) (fun a A s e=>by show (jaG s).bind _=_;rw [e];rfl) h11 _),jgl,
  jcK (P:=fun A s=>jaG s=.ok A) (fun s t=>(⟨s.name,s.nodes,s.ins,s.outs++[t],s.inits⟩ : NGra)) (fun a A s e=>by show (jaG s).bind _=_;rw [e];rfl) h12,jgm]
theorem jon {G:NGra} (h:TG G):jeZ G=.ok G:=by
 unfold jeZ;rw [h.long,h.few]
 rfl
theorem jmm {G:NGra} (h:TG G):WP (jaF G) fun s=>∃ t l,jba s=.ok [jaY 7 t]∧jba t=.ok l∧∀ a:NGra,jaE jaw a l=.ok ⟨if G.name.size=0 then a.name else G.name,a.nodes++G.nodes,a.ins++G.ins,a.outs++G.outs,a.inits++G.inits⟩:=by
 unfold jaF;refine (jml h).bind fun t ⟨l,h1,h2⟩=>(jdK (l:=[]) Lst.nil (jjq (by decide))).bind fun m hm=>(jfE hm).mono fun s hs=>⟨t,l,hs,h1,h2⟩
theorem jjw {G:NGra} (h:TG G):WP (jaF G) fun s=>jaO s=.ok G:=by
 refine (jmm h).mono fun s ⟨t,l,h1,h2,h3⟩=>?_;unfold jaO;rw [h1];show jaK (jbX [t])=_;rw [je9];unfold jaK;rw [h2];show (jaE jaw g0 l).bind jeZ=_;rw [h3]
 have e:(⟨if G.name.size=0 then g0.name else G.name,g0.nodes++G.nodes,g0.ins++G.ins,g0.outs++G.outs,g0.inits++G.inits⟩ : NGra)=G:=by
  have e1:(if G.name.size=0 then g0.name else G.name)=G.name:=by
   split
   ·rename_i h0;rw [jb2 h0];rfl
   ·rfl
  rw [e1]
  rfl
 show jeZ _=_;rw [e];exact jon h
end Go.Proofs.YtbgbpfbjeleooaaGreat.Pd
namespace Go.Proofs.YtbgbpfbjeleooaaGreat.Pd
open Go.RowKit
open Wr (Fld)
def R64 (x:Int):Prop := -9223372036854775808≤x∧x≤9223372036854775807
end Go.Proofs.YtbgbpfbjeleooaaGreat.Pd
namespace Go.Proofs.YtbgbpfbjeleooaaGreat.Pd
open Go.RowKit
open Wr (Fld)
def jem:ByteArray:=⟨#[58,51,10,12,10,1,120,18,1,121,34,4,82,101,108,117,18,1,103,90,15,10,1,120,18,10,10,8,8,1,18,4,10,2,8,2,98,15,10,1,121,18,10,10,8,8,1,18,4,10,2,8,2]⟩
def jde (s:Sl):List (Nod×Ni):=[(⟨⟨#[82,101,108,117]⟩,⟨#[]⟩,s,⟨#[121]⟩,⟨none,0,0⟩⟩,⟨[⟨#[120]⟩],[],[]⟩)]
def jdf (s:Sl):List (Val×List Int):=[(⟨⟨#[120]⟩,1,s⟩,[2])]
def jdg (s:Sl):List (Val×List Int):=[(⟨⟨#[121]⟩,1,s⟩,[2])]
def jlc:NGra:=⟨⟨#[103]⟩,[⟨⟨#[82,101,108,117]⟩,⟨#[]⟩,[⟨#[120]⟩],⟨#[121]⟩,[]⟩],[⟨⟨#[120]⟩,1,[2]⟩],[⟨⟨#[121]⟩,1,[2]⟩],[]⟩
theorem jj3 (nv iv ov tv s1 s2 s3:Sl):jds ⟨⟨#[103]⟩,nv,iv,ov,tv⟩ (jde s1) (jdf s2) (jdg s3) []=true:=by kernel_rfl
theorem jld:jaF jlc=.ok jem:=by kernel_rfl
theorem jj4:jaO jem=.ok jlc:=by kernel_rfl
theorem jle:jaO ⟨#[58,0]⟩=.ok ⟨⟨#[]⟩,[],[],[],[]⟩:=by kernel_rfl
theorem jlf:jaO ⟨#[56,1]⟩=.error 3:=by kernel_rfl
theorem jj5:jaO ⟨#[]⟩=.error 4:=by kernel_rfl
end Go.Proofs.YtbgbpfbjeleooaaGreat.Pd
