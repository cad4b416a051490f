/- A part. -/
import Derived.Test.YtekocmdfaaoggaaGreatDoorTartBP
import Derived.Test.YtekocmdfaaoggaaGreatDoorTartBO
import Derived.ArgAppend
set_option maxHeartbeats 8000000
set_option maxRecDepth 100000
namespace Go.Proofs.YtekocmdfaaoggaaGreatDoor
open Go.RowKit
def inI (nm:ByteArray) (a:Int):Atr:=⟨nm,2,0,a,⟨#[]⟩,0,jmC,jmC,jmC⟩
def jnv (op:ByteArray) (k:Int) (s:Sl) (L:List Int):At:=⟨op,[inI ⟨#[107,101,101,112,100,105,109,115]⟩ k,inA ⟨#[97,120,101,115]⟩ s],[⟨[],[],[]⟩,⟨[],[],L⟩]⟩
def jq5 (op:ByteArray) (k:Int) (s:Sl) (L:List Int):At:=⟨op,[inA ⟨#[97,120,101,115]⟩ s,inI ⟨#[107,101,101,112,100,105,109,115]⟩ k],[⟨[],[],L⟩,⟨[],[],[]⟩]⟩
def jrM (op:ByteArray) (k a:Int):At:=⟨op,[inI ⟨#[107,101,101,112,100,105,109,115]⟩ k,inI ⟨#[97,120,105,115]⟩ a],[⟨[],[],[]⟩,⟨[],[],[]⟩]⟩
theorem jnw {w:World} {op:ByteArray} {a b:Atr} {c d:Cont} (h1:Has w a c) (h2:Has w b d):∀ (j:Nat) (q:Atr),(At.xs ⟨op,[a,b],[c,d]⟩)[j]?=some q→∃ e,(At.cs ⟨op,[a,b],[c,d]⟩)[j]?=some e∧Has w q e
 | 0,q,h=>by cases h;exact ⟨_,rfl,h1⟩
 | 1,q,h=>by cases h;exact ⟨_,rfl,h2⟩
 | _+2,q,h=>by simp at h
theorem jrN {w:World} {op out:ByteArray} {iv av:Sl} {a b:Atr} {c d:Cont} (h1:Has w a c) (h2:Has w b d) (r1 : -9223372036854775808≤a.i∧a.i≤9223372036854775807) (r2 : -9223372036854775808≤b.i∧b.i≤9223372036854775807) (h:jbu w av.v [a,b]):NodeOk w ⟨op,⟨#[]⟩,iv,out,av⟩ ⟨op,[a,b],[c,d]⟩ :=
 ⟨rfl,h,jnw h1 h2,fun q hq=>by
  simp only [List.mem_cons,List.not_mem_nil,or_false] at hq
  rcases hq with rfl | rfl
  ·exact r1
  ·exact r2⟩
theorem jrO {w:World} {op out:ByteArray} {iv av:Sl} {a b:Atr} {c d:Cont} {ins:List ByteArray} (hi:jdK w iv.v ins) (h1:Has w a c) (h2:Has w b d) (s1:a.s.size≤1048576) (s2:b.s.size≤1048576) (h:jbu w av.v [a,b]):NodeIn w ⟨op,⟨#[]⟩,iv,out,av⟩ ins (At.xs ⟨op,[a,b],[c,d]⟩) (At.cs ⟨op,[a,b],[c,d]⟩) :=
 ⟨hi,h,jnw h1 h2,by simp,fun q hq=>by
  simp only [List.mem_cons,List.not_mem_nil,or_false] at hq
  rcases hq with rfl | rfl
  ·exact s1
  ·exact s2⟩
theorem jrP (w:World) (nm:ByteArray) (a:Int):Has w (inI nm a) ⟨[],[],[]⟩:=⟨jdP w,jdP w,jdP w⟩
theorem jrQ {w:World} {nm:ByteArray} {s:Sl} {L:List Int} (h:jak w s.v L):Has w (inA nm s) ⟨[],[],L⟩:=⟨jdP w,jdP w,h⟩
theorem jrR (k:Int) (s:Sl) (L:List Int):jbn (jbN ⟨#[82,101,100,117,99,101,83,117,109]⟩) ⟨#[82,101,100,117,99,101,83,117,109]⟩ [⟨#[120]⟩] ⟨#[122]⟩ (jnv ⟨#[82,101,100,117,99,101,83,117,109]⟩ k s L).xs (jnv ⟨#[82,101,100,117,99,101,83,117,109]⟩ k s L).cs=0:=by kernel_rfl
theorem jrS (k:Int) (s:Sl) (L:List Int):jbn (jbN ⟨#[82,101,100,117,99,101,77,97,120]⟩) ⟨#[82,101,100,117,99,101,77,97,120]⟩ [⟨#[120]⟩] ⟨#[122]⟩ (jnv ⟨#[82,101,100,117,99,101,77,97,120]⟩ k s L).xs (jnv ⟨#[82,101,100,117,99,101,77,97,120]⟩ k s L).cs=0:=by kernel_rfl
theorem jrT (k:Int) (s:Sl) (L:List Int):jbn (jbN ⟨#[82,101,100,117,99,101,77,101,97,110]⟩) ⟨#[82,101,100,117,99,101,77,101,97,110]⟩ [⟨#[120]⟩] ⟨#[122]⟩ (jnv ⟨#[82,101,100,117,99,101,77,101,97,110]⟩ k s L).xs (jnv ⟨#[82,101,100,117,99,101,77,101,97,110]⟩ k s L).cs=0:=by kernel_rfl
theorem ka_check (k a:Int):jbn (jbN ⟨#[65,114,103,77,97,120]⟩) ⟨#[65,114,103,77,97,120]⟩ [⟨#[120]⟩] ⟨#[122]⟩ (jrM ⟨#[65,114,103,77,97,120]⟩ k a).xs (jrM ⟨#[65,114,103,77,97,120]⟩ k a).cs=0:=by kernel_rfl
theorem jpl (k:Int) (s:Sl) (L:List Int):jbn (jbN ⟨#[82,101,100,117,99,101,83,117,109]⟩) ⟨#[82,101,100,117,99,101,83,117,109]⟩ [⟨#[120]⟩] ⟨#[122]⟩ (jq5 ⟨#[82,101,100,117,99,101,83,117,109]⟩ k s L).xs (jq5 ⟨#[82,101,100,117,99,101,83,117,109]⟩ k s L).cs=0:=by kernel_rfl
theorem kp_then (op:ByteArray) (k:Int) (s:Sl) (L:List Int):jcH ((jnv op k s L).xs.find? (isA ⟨#[116,104,101,110]⟩ 3))=[]:=by kernel_rfl
theorem jq6 (op:ByteArray) (k:Int) (s:Sl) (L:List Int):jcH ((jq5 op k s L).xs.find? (isA ⟨#[116,104,101,110]⟩ 3))=[]:=by kernel_rfl
theorem ka_then (op:ByteArray) (k a:Int):jcH ((jrM op k a).xs.find? (isA ⟨#[116,104,101,110]⟩ 3))=[]:=by kernel_rfl
theorem kp_keep (op:ByteArray) (k:Int) (s:Sl) (L:List Int):At.int (jnv op k s L) ⟨#[107,101,101,112,100,105,109,115]⟩ 1=k:=by kernel_rfl
theorem ka_keep (op:ByteArray) (k a:Int):At.int (jrM op k a) ⟨#[107,101,101,112,100,105,109,115]⟩ 1=k:=by kernel_rfl
theorem jrU (k:Int) (s:Sl) (L:List Int) (r:Nat):jaQ (jnv ⟨#[82,101,100,117,99,101,83,117,109]⟩ k s L) r=L:=by kernel_rfl
theorem jrV (k:Int) (s:Sl) (L:List Int) (r:Nat):jaQ (jnv ⟨#[82,101,100,117,99,101,77,97,120]⟩ k s L) r=L:=by kernel_rfl
theorem jrW (k:Int) (s:Sl) (L:List Int) (r:Nat):jaQ (jnv ⟨#[82,101,100,117,99,101,77,101,97,110]⟩ k s L) r=L:=by kernel_rfl
theorem ka_along (k a:Int) (r:Nat):jaQ (jrM ⟨#[65,114,103,77,97,120]⟩ k a) r=[a]:=by kernel_rfl
theorem pk_along (k:Int) (s:Sl) (L:List Int) (r:Nat):jaQ (jq5 ⟨#[82,101,100,117,99,101,83,117,109]⟩ k s L) r=L:=by kernel_rfl
end Go.Proofs.YtekocmdfaaoggaaGreatDoor
namespace Go.Proofs.YtekocmdfaaoggaaGreatDoor
open Go.RowKit
theorem jgo (w:World) (o0 o1 o2 o3:Obj):∀ W,W=(((w.alloc o0).alloc o1).alloc o2).alloc o3→W.heap[w.heap.size]?=some o0∧W.heap[w.heap.size+1]?=some o1∧W.heap[w.heap.size+1+1]?=some o2∧W.heap[w.heap.size+1+1+1]?=some o3∧w.grownBy W none∧W.heap.size=w.heap.size+1+1+1+1:=by
 rintro W rfl;obtain ⟨a0,z0⟩:=jcE o0 (x:=w) rfl;obtain ⟨a1,z1⟩:=jcE o1 z0;obtain ⟨a2,z2⟩:=jcE o2 z1;obtain ⟨a3,z3⟩:=jcE o3 z2;exact ⟨jdm _ (jdm _ (jdm _ a0)),jdm _ (jdm _ a1),jdm _ a2,a3,jaa (jaa (jaa (jab _ _) (jab _ _)) (jab _ _)) (jab _ _),z3⟩
end Go.Proofs.YtekocmdfaaoggaaGreatDoor
namespace Go.Proofs.YtekocmdfaaoggaaGreatDoor
open Go.RowKit
theorem jpm (s:Sl):sumR (jq5 ⟨#[82,101,100,117,99,101,83,117,109]⟩ 0 s [0]) 6 [2,2] [1,2,3,4]=.ok (6,[2],[4,6]):=by kernel_rfl
theorem jkT (w:World) (hl:Laid w):Calls Tryz.prog 5 #[] w fun e w'=>e=.returned (.bool true)∧w.grownBy w' none:=by
 have HL:=jac hl;clear hl;obtain ⟨W,hW⟩ : ∃ W,W=(((w.alloc (.cells #[.string ⟨#[120]⟩] 9)).alloc (.cells #[.int .i64 0] 2)).alloc (.cells #[.string ⟨#[97,120,101,115]⟩,.int .i64 7,.int .i64 0,.int .i64 0,.string ⟨#[]⟩,.int .i64 0,.slice none 0 0,.slice none 0 0,.slice (some ⟨w.heap.size+1,0,none⟩) 1 1,.string ⟨#[107,101,101,112,100,105,109,115]⟩,.int .i64 2,.int .i64 0,.int .i64 0,.string ⟨#[]⟩,.int .i64 0,.slice none 0 0,.slice none 0 0,.slice none 0 0] 40)).alloc (.cells #[.string ⟨#[82,101,100,117,99,101,83,117,109]⟩,.string ⟨#[]⟩,.slice (some ⟨w.heap.size,0,none⟩) 1 1,.string ⟨#[122]⟩,.slice (some ⟨w.heap.size+1+1,0,none⟩) 2 2] 25):=⟨_,rfl⟩
 obtain ⟨b0,b1,b2,b3,gW,zW⟩:=jgo w _ _ _ _ W hW;obtain ⟨n0,n1,n2,n3,n4⟩:=jai (n:=⟨⟨#[82,101,100,117,99,101,83,117,109]⟩,⟨#[]⟩,⟨some ⟨w.heap.size,0,none⟩,1,1⟩,⟨#[122]⟩,⟨some ⟨w.heap.size+1+1,0,none⟩,2,2⟩⟩) b3;simp only at n0 n1 n2 n3 n4;rw [hW] at n0 n1 n2 n3 n4;obtain ⟨V,hV⟩ : ∃ V,V=((W.alloc (.cells #[.int .i64 2,.int .i64 2] 3)).alloc (.cells #[.int .i64 1,.int .i64 2,.int .i64 3,.int .i64 4] 2)).alloc (.cells #[.int .i64 6,.slice (some ⟨w.heap.size+1+1+1+1,0,none⟩) 2 2,.slice (some ⟨w.heap.size+1+1+1+1+1,0,none⟩) 4 4] 32):=⟨_,rfl⟩
 obtain ⟨c0,c1,c2⟩:=jff W (.cells #[.int .i64 2,.int .i64 2] 3) (.cells #[.int .i64 1,.int .i64 2,.int .i64 3,.int .i64 4] 2) (.cells #[.int .i64 6,.slice (some ⟨w.heap.size+1+1+1+1,0,none⟩) 2 2,.slice (some ⟨w.heap.size+1+1+1+1+1,0,none⟩) 4 4] 32);rw [← hV,zW] at c0 c1 c2;have gV:W.grownBy V none:=by rw [hV];exact jaa (jaa (jab _ _) (jab _ _)) (jab _ _)
 have GV:=jac (jaa gW gV);have AT:jbu V (.slice (some ⟨w.heap.size+1+1,0,none⟩) 2 2) [inA ⟨#[97,120,101,115]⟩ ⟨some ⟨w.heap.size+1,0,none⟩,1,1⟩,inI ⟨#[107,101,101,112,100,105,109,115]⟩ 0]:=jgS (te:=40) (bytes:=136) (xs:=[inA ⟨#[97,120,101,115]⟩ ⟨some ⟨w.heap.size+1,0,none⟩,1,1⟩,inI ⟨#[107,101,101,112,100,105,109,115]⟩ 0]) jcz (jaf b2 gV) rfl rfl (Nat.le_of_ble_eq_true rfl) (Nat.le_of_ble_eq_true rfl);have IL:jak V (.slice (some ⟨w.heap.size+1,0,none⟩) 1 1) [0]:=jcg (zs:=[0]) (jaf b1 gV) (by simp) (by simp);have E1:=jac (jrL ⟨⟨#[82,101,100,117,99,101,83,117,109]⟩,⟨#[]⟩,⟨some ⟨w.heap.size,0,none⟩,1,1⟩,⟨#[122]⟩,⟨some ⟨w.heap.size+1+1,0,none⟩,2,2⟩⟩ (jq5 ⟨#[82,101,100,117,99,101,83,117,109]⟩ 0 ⟨some ⟨w.heap.size+1,0,none⟩,1,1⟩ [0]) ⟨#[120]⟩ rfl ⟨some ⟨w.heap.size+1+1+1+1+1+1,0,none⟩,1,1⟩ ⟨6,⟨some ⟨w.heap.size+1+1+1+1,0,none⟩,2,2⟩,⟨some ⟨w.heap.size+1+1+1+1+1,0,none⟩,4,4⟩⟩ [2,2] [1,2,3,4] V (HL.out.more GV.out) (jrO (jpM (jaf b0 gV)) (jrQ IL) (jrP V _ _) (by show 0≤1048576;omega) (by show 0≤1048576;omega) AT) (jrN (jrQ IL) (jrP V _ _) (by show -9223372036854775808≤(0:Int)∧(0:Int)≤9223372036854775807;omega) (by show -9223372036854775808≤(0:Int)∧(0:Int)≤9223372036854775807;omega) AT) (jpl _ _ _) (jq6 _ _ _ _) (by show 1≤1048576;omega) (jnc _ c2 (jcg (zs:=[2,2]) c0 (by simp) (by simp)) (jcg (zs:=[1,2,3,4]) c1 (by simp) (by simp))));rw [show sumR (jq5 ⟨#[82,101,100,117,99,101,83,117,109]⟩ 0 ⟨some ⟨w.heap.size+1,0,none⟩,1,1⟩ [0]) (Ten.ty ⟨6,⟨some ⟨w.heap.size+1+1+1+1,0,none⟩,2,2⟩,⟨some ⟨w.heap.size+1+1+1+1+1,0,none⟩,4,4⟩⟩) [2,2] [1,2,3,4]=.ok (6,[2],[4,6]) from jpm _] at E1;unfold jax at E1;simp only at E1;clear b0 b1 b2 b3 gW gV c0 c1 c2 zW AT IL;go_enter Tryz.func5,Tryz.ntmps5;go_wp2_with fail;rw [← hW,← hV];clear hW hV n0 n1 n2 n3 n4;refine E1.out.mono ?_;rintro e w1 ⟨hg1,⟨ty,⟨da,dn,dc⟩,⟨ta,tn,tc⟩⟩,ht,rfl,od,ot⟩;simp only at ht;subst ht;unfold jqF;simp only;obtain ⟨p,hp⟩ : ∃ p,p=w1.alloc (.cells #[.int .i64 6,.slice da dn dc,.slice ta tn tc] 32):=⟨_,rfl⟩
 obtain ⟨bp,zp⟩:=jcE (.cells #[.int .i64 6,.slice da dn dc,.slice ta tn tc] 32) (x:=w1) rfl;rw [← hp] at bp zp;have gp:w1.grownBy p none:=by rw [hp];exact jab _ _
 obtain ⟨q,hq⟩ : ∃ q,q=(((p.alloc (.cells #[.string ⟨#[120]⟩] 9)).alloc (.cells #[.int .i64 2] 3)).alloc (.cells #[.int .i64 0,.int .i64 0] 2)).alloc (.cells #[.int .i64 1,.slice (some ⟨w1.heap.size+1+1,0,none⟩) 1 1,.slice (some ⟨w1.heap.size+1+1+1,0,none⟩) 2 2] 32):=⟨_,rfl⟩
 obtain ⟨c0,c1,c2,c3,gq,zq⟩:=jgo p _ _ _ _ q hq;rw [zp] at c0 c1 c2 c3;have GP:=jac (jaa GV.out (jaa hg1 gp));have GQ:=jac (jaa GP.out gq);have E2:=jac (jq2 ⟨⟨#[83,111,102,116,109,97,120]⟩,⟨#[]⟩,⟨some ⟨w1.heap.size+1,0,none⟩,1,1⟩,⟨#[122]⟩,jmC⟩ ⟨⟨#[83,111,102,116,109,97,120]⟩,[],[]⟩ ⟨#[120]⟩ rfl ⟨some ⟨w1.heap.size+1+1+1+1,0,none⟩,1,1⟩ ⟨1,⟨some ⟨w1.heap.size+1+1,0,none⟩,1,1⟩,⟨some ⟨w1.heap.size+1+1+1,0,none⟩,2,2⟩⟩ rfl q (HL.out.more GQ.out) (jqV q _ _ _ _ (jpM c0)) (jqW q _ _ _) (by kernel_rfl) (by kernel_rfl) (by show 1≤1048576;omega) (jnc _ c3 (jcg (zs:=[2]) c1 (by simp) (by simp)) (jcg (zs:=[0,0]) c2 (by simp) (by simp))) (by kernel_rfl));unfold jax jmC at E2;simp only at E2;have D1:=jac (od.ints.more (jaa gp gq));have T1:=jac (ot.ints.more (jaa gp gq));have BP:=jac (jaf bp gq);clear bp zp gp c0 c1 c2 c3 gq zq od ot E1 hg1;go_wp2_with fail;rw [← hp,← hq];clear hp hq;refine E2.out.mono ?_;rintro e w2 ⟨hg2,⟨ty,⟨ea,en,ec⟩,⟨va,vn,vc⟩⟩,ht,rfl,od,ot⟩;simp only at ht;subst ht;unfold jqF;simp only;obtain ⟨p2,hp2⟩ : ∃ p,p=w2.alloc (.cells #[.int .i64 1,.slice ea en ec,.slice va vn vc] 32):=⟨_,rfl⟩
 obtain ⟨bp2,zp2⟩:=jcE (.cells #[.int .i64 1,.slice ea en ec,.slice va vn vc] 32) (x:=w2) rfl;rw [← hp2] at bp2 zp2;have gp2:w2.grownBy p2 none:=by rw [hp2];exact jab _ _
 obtain ⟨r,hr⟩ : ∃ r,r=(p2.alloc (.cells #[.int .i64 2] 3)).alloc (.cells #[.int .i64 4,.int .i64 6] 2):=⟨_,rfl⟩
 obtain ⟨d0,d1⟩:=jaJ p2 (.cells #[.int .i64 2] 3) (.cells #[.int .i64 4,.int .i64 6] 2);rw [← hr] at d0 d1;have gr:p2.grownBy r none:=by rw [hr];exact jaa (jab _ _) (jab _ _)
 have GR:=jac (jaa (jaa hg2 gp2) gr);have D2':=jac (od.ints.more (jaa gp2 gr));have T2':=jac (ot.ints.more (jaa gp2 gr));have BP2:=jac (jaf bp2 gr);obtain ⟨x0,x1,x2⟩:=jaD (jaf BP.out (jaa hg2 gp2));have SA:=jac (jeh 6 _ _ _ _ [2] [4,6] r (D1.out.more GR.out) (T1.out.more GR.out) (jcg (zs:=[2]) d0 (by simp) (by simp)) (jcg (zs:=[4,6]) d1 (by simp) (by simp)));rw [zp2] at SA;simp only [Sl.v,List.length_cons,List.length_nil,Nat.zero_add] at SA;rw [hp2] at x0 x1 x2;have GR2:=jac (jaa GQ.out GR.out);clear d0 d1 gr gp2 bp2 zp2 od ot hg2 E2;go_wp2_with (first | (go_at_call 7;rw [← hp2,← hr];refine SA.out.mono ?_;rintro e w7 ⟨rfl,hg7⟩;obtain ⟨y0,y1,y2⟩:=jaD (jaf BP2.out hg7);clear x0 x1 x2) | fail);obtain ⟨t,ht⟩ : ∃ t,t=(w7.alloc (.cells #[.int .i64 2] 3)).alloc (.cells #[.int .i64 1056964608,.int .i64 1056964608] 2):=⟨_,rfl⟩
 obtain ⟨d0,d1⟩:=jaJ w7 (.cells #[.int .i64 2] 3) (.cells #[.int .i64 1056964608,.int .i64 1056964608] 2);rw [← ht] at d0 d1 ⊢;have gt:w7.grownBy t none:=by rw [ht];exact jaa (jab _ _) (jab _ _)
 have g7t:=jaa hg7 gt;have SB:=jac (jeh 1 _ _ _ _ [2] [1056964608,1056964608] t (D2'.out.more g7t) (T2'.out.more g7t) (jcg (zs:=[2]) d0 (by simp) (by simp)) (jcg (zs:=[1056964608,1056964608]) d1 (by simp) (by simp)));simp only [Sl.v,List.length_cons,List.length_nil,Nat.zero_add] at SB;refine SB.out.mono ?_;rintro e w8 ⟨rfl,hg8⟩;have GZ:=jac (jaa GR2.out (jaa g7t hg8));clear d0 d1 gt g7t hg7 hg8 ht;go_wp2;go_ret;exact ⟨rfl,GZ.out⟩
end Go.Proofs.YtekocmdfaaoggaaGreatDoor
