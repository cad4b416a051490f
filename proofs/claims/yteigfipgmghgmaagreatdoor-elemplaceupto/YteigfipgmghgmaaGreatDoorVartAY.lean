/- A part. -/
import Derived.Test.YteigfipgmghgmaaGreatDoorVartAO
import Derived.Lib.AppendZerosOnto
import Derived.Lib.SliceRun
import Derived.Lib.Walk
import Derived.Test.YteigfipgmghgmaaGreatDoorVartAU
set_option maxHeartbeats 4000000
set_option maxRecDepth 100000
namespace Go.Proofs.YteigfipgmghgmaaGreatDoor
open Go.RowKit
open Go.Lib in
theorem jkq (n:Nat) (w:World) (hn:n≤1000000):Calls Tryz.prog 151 #[.slice none 0 0,.int .i64 n] w fun e w'=>∃ s:Sl,e=.returned (.slice s.a s.n s.c)∧Owns w' w.heap.size s.v []∧w.grownBy w' none:=by
 obtain ⟨i0,hi,hz0,hz1,hz2⟩:=info_parts jdx
 by_cases h0:n=0
 ·subst h0;go_enter Tryz.func151,Tryz.ntmps151;go_wp2;go_ret;exact ⟨⟨none,0,0⟩,rfl,jbp _ _,jad _⟩
 ·have hold:(Builtin.firstCells i0.size 0 (.slice none 0 0)).run Tryz.prog w.drew=.ok (#[]:Array Value) w.drew:=run_firstCells_none w.drew i0.size 0 0 0
  have hrz:∀ ty,(Builtin.append_ #[29,3] ty #[.slice none 0 0,.int .i64 (n:Int)]).run Tryz.prog w=.ok (.slice (some ⟨w.heap.size,0,none⟩) n (grownCap w n 0 3)) (w.drew.alloc (.cells ((#[]:Array Value)++Builtin.zeroCells (Value.int .i64 0).cells n++Builtin.zeroCells (Value.int .i64 0).cells (grownCap w n 0 3 - n)) 3)):=fun ty=>by
   have h:=Lib.run_append_grow_zeros w 29 3 ty 3 i0 (.int .i64 0) .i64 .i64 Tryz.underlying29 Tryz.underlying3 hi hz0 none 0 0 [] hold n (by omega) (by rw [hz1];decide) (by omega) (by omega) (by rw [hz2];omega) (by rw [Nat.zero_add];exact growslice_fits (by omega) (by rw [hz2];omega));simpa using h
  have hGn:n≤grownCap w n 0 3:=grownCap_ge w _ _ _;have hG63:grownCap w n 0 3≤maxLen:=grownCap_le_maxLen w n 0 3 (by unfold maxLen;omega);obtain ⟨G,hG⟩ : ∃ G,G=grownCap w n 0 3:=⟨_,rfl⟩
  rw [← hG] at hrz hGn hG63;obtain ⟨M,hM⟩ : ∃ M:Array Value,M=(#[]:Array Value)++Builtin.zeroCells (Value.int .i64 0).cells n++Builtin.zeroCells (Value.int .i64 0).cells (G - n):=⟨_,rfl⟩
  rw [← hM] at hrz;have hMs:M.size=G:=by rw [hM];simp [Builtin.zeroCells,Value.cells];omega
  have HG:=jac hG63;have hg2:G≤9223372036854775807:=by simpa [maxLen] using hG63
  have HMS:=jac hMs;have h1:(0:Int)<(n:Int):=by omega
  clear hG hM hold hMs hG63;go_enter Tryz.func151,Tryz.ntmps151;go_wp2_with (at_builtin;refine Lib.wpList_append_run _ rfl _ _ _ _ rfl _ _ rfl rfl _ _ (hrz _) ?_)
  all_goals
   go_ret;refine ⟨⟨some ⟨w.heap.size,0,none⟩,0,G⟩,rfl,⟨⟨rfl,.inr ⟨w.heap.size,G,M,rfl,Nat.le_refl _,?_,Nat.zero_le _,HG.out,by rw [HMS.out];simp,by simp⟩⟩,by simp,fun z hz=>by simp at hz⟩,jaa (jaf (jad _)) (jab _ _)⟩;exact heap_alloc_new w.drew _
def jb4 (ps:List (Sl×List Int)) (k:Nat):List Int:=((ps.take k).map (·.2)).flatten
theorem jfa (ps:List (Sl×List Int)) (k:Nat) (hk:k<ps.length):jb4 ps (k+1)=jb4 ps k++ps[k].2:=by
 unfold jb4;rw [List.take_add_one,List.getElem?_eq_getElem hk,List.map_append,List.flatten_append];simp only [Option.toList_some,List.map_cons,List.map_nil,List.flatten_cons,List.flatten_nil,List.append_nil]
theorem jfh (ps:List (Sl×List Int)) (k j:Nat) (h:k≤j):(jb4 ps k).length≤(jb4 ps j).length:=by
 induction j with
 | zero => have : k = 0 := by omega
           subst this;exact Nat.le_refl _
 | succ j ih =>
  by_cases e:k=j+1
  ·subst e;exact Nat.le_refl _
  ·have h1:=ih (by omega)
   by_cases hj:j<ps.length
   ·rw [jfa ps j hj,List.length_append];omega
   ·have e2:jb4 ps (j+1)=jb4 ps j:=by unfold jb4;rw [List.take_of_length_le (by omega),List.take_of_length_le (by omega)]
    rw [e2];exact h1
theorem jhb (B m c:Nat) (ps:List (Sl×List Int)) (w:World) (hm:m=ps.length) (hmc:m≤c) (hc63:c≤9223372036854775807) (hc:∀ k (hk:k<ps.length),w.cell? ⟨B,k,none⟩=some (.slice ps[k].1.a ps[k].1.n ps[k].1.c)) (hi:∀ p∈ps,IsInts w p.1.v p.2) (hb:(jb4 ps ps.length).length≤1000000) :
    Calls Tryz.prog 118 #[.slice (some ⟨B,0,none⟩) m c] w fun e w'=>∃ s:Sl,e=.returned (.slice s.a s.n s.c)∧Owns w' w.heap.size s.v (jb4 ps ps.length)∧w.grownBy w' none:=by
     have HC:=jac hc;have HI:=jac hi;have HM:=jac hm;clear hc hi;have hm1:m≤9223372036854775807:=by omega
     clear hm;go_enter Tryz.func118,Tryz.ntmps118;go_wp2;go_loopw [3,11] (fun sz i wr=>w=wr∧∃ k:Nat,k≤m∧i=.int .i64 k∧sz=.int .i64 ((jb4 ps k).length:Nat)) (fun _ i _=>m - (intOf i).toNat)
     case atStart=>exact ⟨rfl,0,Nat.zero_le _,rfl,by simp [jb4]⟩
     case round =>
      obtain ⟨hw,k,hk,rfl,rfl⟩:=hrel;subst hw
      by_cases hkl:k<m
      ·have hkp:k<ps.length:=by rw [← HM.out];exact hkl
       have cc:=HC.out k hkp;have st:=jfa ps k hkp;have le:=jfh ps (k+1) ps.length (by omega);have hp:=(HI.out ps[k] (List.getElem_mem hkp)).sl;obtain ⟨⟨⟨s1,s2,s3⟩,y⟩,hpk⟩ : ∃ p,p=ps[k]:=⟨_,rfl⟩
       rw [← hpk] at cc st hp;obtain ⟨a',c',e,-⟩:=hp;simp only [Sl.v,Value.slice.injEq] at e;obtain ⟨rfl,rfl,rfl⟩:=e;simp only at cc st;have hln:(jb4 ps (k+1)).length=(jb4 ps k).length+y.length:=by rw [st,List.length_append]
       obtain ⟨A,hA⟩ : ∃ A,A=(jb4 ps k).length:=⟨_,rfl⟩
       rw [← hA] at hln ⊢;have hAy:A+y.length≤1000000:=by omega
       have HLN:=jac hln;have hge:¬ ((A:Int)+(y.length:Int)<0):=by omega
       have hdec:decide ((A:Int)+(y.length:Int)<0)=false:=by simpa using hge
       clear hln hA st le hpk;go_wp2;go_roundw
       case rel=>exact ⟨by trivial,k+1,by omega,by go_num,by rw [HLN.out];go_num⟩
       case measure=>simp [intOf];omega
      ·have hkm:k=m:=by omega
       have hfl:jb4 ps k=jb4 ps ps.length:=by rw [hkm,HM.out]
       rw [hfl];have GR:=jac (jkq (jb4 ps ps.length).length w hb);obtain ⟨F,hF⟩ : ∃ F,F=jb4 ps ps.length:=⟨_,rfl⟩
       rw [← hF] at GR hb ⊢;have HF:=jac hF;clear hkm hfl hF;go_wp2_with (first | (go_at_call 151;refine GR.out.mono ?_;rintro e w1 ⟨⟨g1,g2,g3⟩,rfl,ho,hg⟩;simp only) | fail);have HO:=jac ho;have HG:=jac hg;clear ho hg GR;go_loopw [6,27] (fun s i wr=>∃ (k:Nat) (u:Sl),k≤m∧i=.int .i64 k∧s=.slice u.a u.n u.c∧Owns wr w.heap.size u.v (jb4 ps k)∧w.grownBy wr none) (fun _ i _=>m - (intOf i).toNat)
       case atStart=>exact ⟨0,⟨g1,g2,g3⟩,Nat.zero_le _,rfl,rfl,by simp [jb4];exact HO.out,HG.out⟩
       case round =>
        obtain ⟨k,⟨u1,u2,u3⟩,hk,rfl,rfl,ho,hg⟩:=hrel;simp only;have HO2:=jac ho;have HG2:=jac hg;have hsz:=hg.size
        by_cases hkl:k<m
        ·have hkp:k<ps.length:=by rw [← HM.out];exact hkl
         have cc:=jae (HC.out k hkp) hg;have st:=jfa ps k hkp;have le:=jfh ps (k+1) ps.length (by omega);rw [← HF.out] at le;have hp:=HI.out ps[k] (List.getElem_mem hkp);obtain ⟨⟨⟨s1,s2,s3⟩,y⟩,hpk⟩ : ∃ p,p=ps[k]:=⟨_,rfl⟩
         rw [← hpk] at cc st hp;simp only at cc st;have HY:=jac (hp.more hg);have hln:(jb4 ps (k+1)).length=(jb4 ps k).length+y.length:=by rw [st,List.length_append]
         have hbb:((jb4 ps k).length+y.length)*8≤140737488351232:=by omega
         have HST:=jac st;clear st le hpk hp ho hg hln;go_wp2_with (at_builtin;refine jdS rfl (.tmp 31) (.tmp 32) rfl w.heap.size (.slice u1 u2 u3) _ rfl HO2.out (.slice s1 s2 s3) y rfl HY.out ?_ ?_ ?_;exact hbb;exact hsz;intro v' w2 hown hgrow);obtain ⟨⟨x1,x2,x3⟩,rfl⟩:=hown.sl;have HO3:=jac hown;have HG3:=jac (jan HG2.out hgrow (fun r e=>(HO2.out.lt r e).1));clear hown hgrow;go_roundw
         case rel=>exact ⟨k+1,⟨x1,x2,x3⟩,by omega,by go_num,rfl,by rw [HST.out];exact HO3.out,HG3.out⟩
         case measure=>simp [intOf];omega
        ·have hfl:jb4 ps k=F:=by rw [HF.out,← HM.out,show k=m by omega]
         rw [hfl] at HO2;clear ho hg hfl;go_wp2;go_ret;exact ⟨⟨u1,u2,u3⟩,rfl,by rw [← HF.out];exact HO2.out,HG2.out⟩
end Go.Proofs.YteigfipgmghgmaaGreatDoor
namespace Go.Proofs.YteigfipgmghgmaaGreatDoor
open Go.RowKit
def jf7 (A:At) (x y:List Int):R (List Int):=(jd9 (A.int ⟨#[97,120,105,115]⟩ 0) x.length).bind (fun a=>.ok (x.take a++(y++x.drop (a+1))))
theorem jkr (n:Nod) (A:At) (u:Sl) (v0 v1:Val) (x y:List Int) (w:World) (hop:n.op=⟨#[71,97,116,104,101,114]⟩) (hn:NodeOk w n A) (hv:ValsIn w u.v [(v0,x),(v1,y)]) (hf:Fine x) (hfy:Fine y):Calls Tryz.prog 75 #[jaz n,.slice u.a u.n u.c] w (jaJ w (jf7 A x y) jbd):=by
 obtain ⟨xa,xc,e1,q1,q2,q3⟩:=hv.vals.form;simp only [List.map_cons,List.map_nil,List.length_cons,List.length_nil,Nat.zero_add,Nat.reduceAdd] at e1 q1 q3;obtain ⟨ua,un,uc⟩:=u;simp only [Sl.v,Value.slice.injEq] at e1;obtain ⟨rfl,rfl,rfl⟩:=e1;obtain ⟨b,off,rfl⟩:=hv.vals.addr (k:=0) (by simp);obtain ⟨-,z0⟩:=hv.at 0 (by simp);obtain ⟨-,z1⟩:=hv.at 1 (by simp);rw [Nat.zero_mul,Nat.add_zero] at z0;rw [Nat.one_mul] at z1;simp only [List.getElem_cons_zero,List.getElem_cons_succ] at z0 z1;have HX:=jac (hv.dims (v0,x) (by simp));have HY:=jac (hv.dims (v1,y) (by simp));obtain ⟨vn1,vt1,⟨d1a,d1n,d1c⟩⟩:=v1;obtain ⟨vn0,vt0,⟨d0a,d0n,d0c⟩⟩:=v0;simp only at z0 z1 HX HY;obtain ⟨xx,xcc,ex,f1,f2,f3⟩:=HX.out.sl;simp only [Sl.v,Value.slice.injEq] at ex;obtain ⟨rfl,rfl,rfl⟩:=ex;have FX:=hf.few;have FY:=hfy.few;have Z0:=jac z0;have Z1:=jac z1;have RG:=hn.int ⟨#[97,120,105,115]⟩ 0 (by omega);clear hv z0 z1 hf hfy;have NK:=jac hn;obtain ⟨op,nam,⟨ia,il,ic⟩,out,⟨ao,al,cap⟩⟩:=n;unfold jaz;simp only;obtain ⟨w0,hw0⟩ : ∃ w0,w0=w.alloc (.cells #[.string op,.string nam,.slice ia il ic,.string out,.slice ao al cap] 25):=⟨_,rfl⟩
 have g0:Hid (w.grownBy w0 none):=by show w.grownBy w0 none;rw [hw0];exact jab _ _
 have hb0:=heap_alloc_new w (.cells #[.string op,.string nam,.slice ia il ic,.string out,.slice ao al cap] 25);rw [← hw0] at hb0;have BX:Hid (∀ wx,w0.grownBy wx none→wx.heap[w.heap.size]?=some (.cells #[.string op,.string nam,.slice ia il ic,.string out,.slice ao al cap] 25 (0,0))):=fun wx hg=>jag hb0 hg;clear hb0 hn;simp only at hop;subst hop;have z0:(w.alloc (.cells #[.string ⟨#[71,97,116,104,101,114]⟩,.string nam,.slice ia il ic,.string out,.slice ao al cap] 25)).cell? ⟨b,off+2,none⟩=some (.slice d0a x.length d0c):=jae Z0.out (jab _ _);have I0:=jac (jb2 ⟨⟨#[71,97,116,104,101,114]⟩,nam,⟨ia,il,ic⟩,out,⟨ao,al,cap⟩⟩ A ⟨#[97,120,105,115]⟩ 0 w0 (NK.out.more g0.out));unfold jaz at I0;simp only at I0;obtain ⟨z,hz⟩ : ∃ z,z=A.int ⟨#[97,120,105,115]⟩ 0:=⟨_,rfl⟩
 rw [← hz] at I0 RG;have E0:Hid (jf7 A x y=(jd9 z x.length).bind (fun a=>.ok (x.take a++(y++x.drop (a+1))))):=by show _=_;rw [hz];rfl
 have AO:=jac (fun wx=>je2 z x.length wx (by omega) RG.1);clear hz;go_enter Tryz.func75,Tryz.ntmps75;go_wp2_with fail;rw [← hw0];clear hw0 z0;refine I0.out.mono ?_;rintro e w1 ⟨rfl,hg1⟩;have G1:=jac (jaa g0.out hg1);clear hg1 I0
 cases hk:jd9 z x.length with
 | error c =>
  rw [hk] at AO;have E:Hid (jf7 A x y=.error c):=by show _=_;rw [E0.out,hk];rfl
  clear hk;go_wp2_with (first | (go_at_call 117;refine (AO.out _).mono ?_;rintro e w' ⟨hg,rfl⟩) | fail);exact ⟨rfl,jai E.out (jaa G1.out hg)⟩
 | ok a =>
  rw [hk] at AO;have E:Hid (jf7 A x y=.ok (x.take a++(y++x.drop (a+1)))):=by show _=_;rw [E0.out,hk];rfl
  have hax:a<x.length:=by
   unfold jd9 at hk
   cases ha:jcs z x.length with
   | none=>rw [ha] at hk;cases hk
   | some i=>rw [ha] at hk;cases hk;exact jeF ha
  clear hk;obtain ⟨xb,xo,rfl,-⟩:=HX.out.get hax;have k1:=jae Z1.out G1.out;have a1:a≤d0c:=by omega
  have a2:a+1≤x.length:=by omega
  have a3:(a:Int)≤(d0c:Int):=by omega
  have a4:(a:Int)+1≤(x.length:Int):=by omega
  have a5:(0:Int)≤(a:Int)+1:=by omega
  have a6:IntKind.i64.wrap ((a:Int)+1)=(a:Int)+1:=by rw [jbS];unfold wrap64;omega
  have a7:((a:Int)+1).toNat=a+1:=by omega
  have i1:(1:Int)<2:=by decide
  have HF:=jac (HX.out.front (k:=a) (by omega));have HB:=jac (HX.out.back (k:=a+1) (by omega))
  by_cases hu:d0c=a+1
  ·rw [if_pos hu] at HB;have hxl:x.length - (a+1)=0:=by omega
   have hxl2:d0c - (a+1)=0:=by omega
   rw [hxl,hxl2] at HB;subst hu;have a8:(a:Int)≤(a:Int)+1:=by omega
   have a9:a≤a+1:=by omega
   go_wp2_with (first | (go_at_call 117;refine (AO.out _).mono ?_;rintro e w' ⟨-,v,rfl,rfl,rfl⟩) | fail);have CC:=jac (fun (wx:World) (B:Nat) (hg:w.grownBy wx none) (h0:wx.cell? ⟨B,0,none⟩=some (.slice (some ⟨xb,xo,none⟩) a (a+1))) (h1:wx.cell? ⟨B,1,none⟩=some (.slice d1a d1n d1c)) (h2:wx.cell? ⟨B,2,none⟩=some (.slice (some ⟨xb,xo,none⟩) (0) 0))=>jhb B 3 3 [(⟨some ⟨xb,xo,none⟩,a,(a+1)⟩,x.take a),(⟨d1a,d1n,d1c⟩,y),(⟨some ⟨xb,xo,none⟩,0,0⟩,x.drop (a+1))] wx rfl (by decide) (by decide) (fun k hk=>by match k,hk with | 0,_=>exact h0 | 1,_=>exact h1 | 2,_=>exact h2) (fun p hp=>by simp at hp;rcases hp with rfl | rfl | rfl;exact HF.out.more hg;exact HY.out.more hg;exact HB.out.more hg) (by simp [jb4];omega));go_region_held3 (fun w'=>w'.cell? ⟨b,off+3+2,none⟩=some (.slice d1a d1n d1c)) (go_keep) (first | (go_at_call 118;refine (CC.out _ _ (by first | exact jaf (jaa G1.out (jab _ _)) | exact jaa (jaf G1.out) (jab _ _)) (by exact (cell_of_row _ _ 0 _ _ (0,0) (heap_alloc_new w1 _)).trans rfl) (by exact (cell_of_row _ _ 1 _ _ (0,0) (heap_alloc_new w1 _)).trans rfl) (by exact (cell_of_row _ _ 2 _ _ (0,0) (heap_alloc_new w1 _)).trans rfl)).mono ?_;rintro e w2 ⟨⟨r1,r2,r3⟩,rfl,ho,hg2⟩;simp only;have g2:w.grownBy w2 none:=jaa (by first | exact jaf (jaa G1.out (jab _ _)) | exact jaa (jaf G1.out) (jab _ _)) hg2;have k2:=jae Z1.out g2) | fail);go_wp2;go_ret;exact jap E.out g2 ⟨⟨r1,r2,r3⟩,rfl,by have h:=ho.ints;simpa [jb4] using h⟩
  ·rw [if_neg hu,Addr.add_lit] at HB;go_wp2_with (first | (go_at_call 117;refine (AO.out _).mono ?_;rintro e w' ⟨-,v,rfl,rfl,rfl⟩) | fail);have CC:=jac (fun (wx:World) (B:Nat) (hg:w.grownBy wx none) (h0:wx.cell? ⟨B,0,none⟩=some (.slice (some ⟨xb,xo,none⟩) a d0c)) (h1:wx.cell? ⟨B,1,none⟩=some (.slice d1a d1n d1c)) (h2:wx.cell? ⟨B,2,none⟩=some (.slice (some ⟨xb,xo+(a+1),none⟩) (x.length - (a+1)) (d0c - (a+1))))=>jhb B 3 3 [(⟨some ⟨xb,xo,none⟩,a,d0c⟩,x.take a),(⟨d1a,d1n,d1c⟩,y),(⟨some ⟨xb,xo+(a+1),none⟩,x.length - (a+1),d0c - (a+1)⟩,x.drop (a+1))] wx rfl (by decide) (by decide) (fun k hk=>by match k,hk with | 0,_=>exact h0 | 1,_=>exact h1 | 2,_=>exact h2) (fun p hp=>by simp at hp;rcases hp with rfl | rfl | rfl;exact HF.out.more hg;exact HY.out.more hg;exact HB.out.more hg) (by simp [jb4];omega));go_region_held3 (fun w'=>w'.cell? ⟨b,off+3+2,none⟩=some (.slice d1a d1n d1c)) (go_keep) (first | (go_at_call 118;refine (CC.out _ _ (by first | exact jaf (jaa G1.out (jab _ _)) | exact jaa (jaf G1.out) (jab _ _)) (by exact (cell_of_row _ _ 0 _ _ (0,0) (heap_alloc_new w1 _)).trans rfl) (by exact (cell_of_row _ _ 1 _ _ (0,0) (heap_alloc_new w1 _)).trans rfl) (by exact (cell_of_row _ _ 2 _ _ (0,0) (heap_alloc_new w1 _)).trans rfl)).mono ?_;rintro e w2 ⟨⟨r1,r2,r3⟩,rfl,ho,hg2⟩;simp only;have g2:w.grownBy w2 none:=jaa (by first | exact jaf (jaa G1.out (jab _ _)) | exact jaa (jaf G1.out) (jab _ _)) hg2;have k2:=jae Z1.out g2) | fail);go_wp2;go_ret;exact jap E.out g2 ⟨⟨r1,r2,r3⟩,rfl,by have h:=ho.ints;simpa [jb4] using h⟩
end Go.Proofs.YteigfipgmghgmaaGreatDoor
