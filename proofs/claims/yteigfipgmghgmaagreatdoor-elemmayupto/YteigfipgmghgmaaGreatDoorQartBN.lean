/- A part. -/
import Derived.Test.YteigfipgmghgmaaGreatDoorQartBL
import Derived.Test.YteigfipgmghgmaaGreatDoorQartBM
import Derived.Test.YteigfipgmghgmaaGreatDoorQartAX
import Derived.Test.YteigfipgmghgmaaGreatDoorQartAW
import Derived.Test.YteigfipgmghgmaaGreatDoorQartBA
import Derived.Test.YteigfipgmghgmaaGreatDoorQartAV
set_option maxHeartbeats 8000000
set_option maxRecDepth 100000
namespace Go.Proofs.YteigfipgmghgmaaGreatDoor
open Go.RowKit
def evL (F:List Int→Int×Int) (cs:List (List Int)):Nat→Nat→R (List Int)
 | _,0=>.ok []
 | k,m+1=>if (F (cs.map (·.getD k 0))).2=0 then (evL F cs (k+1) m).map ((F (cs.map (·.getD k 0))).1::·) else .error (F (cs.map (·.getD k 0))).2
theorem jnL (F:List Int→Int×Int) (cols:List (Sl×List Int)):∀ (m k:Nat),evE F cols k m=evL F (cols.map (·.2)) k m
 | 0,_=>rfl
 | m+1,k=>by
  have h:jbA cols k=(cols.map (·.2)).map (·.getD k 0):=by unfold jbA;rw [List.map_map];rfl
  simp only [evE,evL,h,jnL F cols m (k+1)]
def jgp (l:List Int) (p:Ten×Tq):List Int:=asL p.2.1 p.2.2 l
def jeB (l:List Int) (p:Ten×Tq):Bool:=asE p.2.1 p.2.2 l==0
def jfw (l:List Int):List (Ten×Tq)→Int
 | []=>0
 | p::ps=>if jeB l p=true then jfw l ps else asE p.2.1 p.2.2 l
def jg7 (F:List Int→Int×Int) (ps:List (Ten×Tq)) (l:List Int) (N:Nat):R (List Int):=if ps.all (jeB l)=true then evL F (ps.map (jgp l)) 0 N else .error (jfw l ps)
theorem jii {l:List Int} : ∀ {ps:List (Ten×Tq)} {k:Nat} (hk:k<ps.length),(ps.take k).all (jeB l)=true→jeB l ps[k]=false→jfw l ps=asE ps[k].2.1 ps[k].2.2 l∧ps.all (jeB l)=false
 | [],k,hk,_,_=>by simp at hk
 | p::ps,0,_,_,h=>by
  simp only [List.getElem_cons_zero] at h ⊢;simp [jfw,h]
 | p::ps,k+1,hk,ha,h=>by
  simp only [List.take_succ_cons,List.all_cons,Bool.and_eq_true] at ha;simp only [List.getElem_cons_succ] at h ⊢;obtain ⟨h1,h2⟩:=jii (by simpa using hk) ha.2 h;simp [jfw,ha.1,h1,h2]
theorem jgq (s:Sl):∀ u∈jb0 s,u.oneCell'=true:=by
 intro u hu;simp only [jb0,List.mem_cons,List.not_mem_nil,or_false] at hu
 rcases hu with rfl
 rfl
theorem jjR:(Tryz.prog.info? 30).map (fun i=>(i.zero,i.size,i.bytes))=some (some (.slice none 0 0),1,24):=by kernel_rfl
theorem jjS {w:World} {b1 b2 t1 t2 s1 s2 n1 n2:Nat} {v1 v2:Value} {c1 c2:List Value} (h1:w.ownsRow b1 t1 s1 v1 n1 c1) (h2:w.ownsRow b2 t2 s2 v2 n2 c2) (ht:t1≠t2):v1.ownBlock=none∨v1.ownBlock≠v2.ownBlock:=by
 rcases h1.2 with ⟨e,-⟩ | ⟨g,cap,cur,e,-,hg,-⟩
 ·exact .inl (by rw [e];rfl)
 ·rcases h2.2 with ⟨e',-⟩ | ⟨g',cap',cur',e',-,hg',-⟩
  ·exact .inr (by rw [e,e'];simp [Value.ownBlock])
  ·refine .inr ?_;rw [e,e'];simp only [Value.ownBlock,ne_eq,Option.some.injEq];rintro rfl;rw [hg] at hg';simp only [Option.some.injEq,Obj.cells.injEq] at hg';exact ht hg'.2.1
def BoxN (w:World) (B:Nat) (n:Nod):Prop:=w.heap[B]?=some (.cells #[.string n.op,.string n.name,.slice n.iv.a n.iv.n n.iv.c,.string n.out,.slice n.av.a n.av.n n.av.c] 25 (0,0))
def BoxT (w:World) (B:Nat) (u:Sl):Prop:=w.heap[B]?=some (.cells #[.slice u.a u.n u.c] 26 (0,0))
theorem jpK (n : Nod) (hop : n.op ∈ ([⟨#[65, 100, 100]⟩, ⟨#[83, 117, 98]⟩, ⟨#[77, 117, 108]⟩, ⟨#[68, 105, 118]⟩, ⟨#[77, 97, 120]⟩, ⟨#[77, 105, 110]⟩, ⟨#[65, 110, 100]⟩, ⟨#[79, 114]⟩, ⟨#[88, 111, 114]⟩, ⟨#[69, 113, 117, 97, 108]⟩, ⟨#[76, 101, 115, 115]⟩, ⟨#[71, 114, 101, 97, 116, 101, 114]⟩] : List ByteArray)) (u : Sl) (ps : List (Ten × Tq)) (nam0 : ByteArray) (vty : Int) (dv : Sl) (l : List Int) (F : List Int → Int × Int) (N : Nat) (w : World) (hv : TensIn w u.v ps) (hp0 : 0 < ps.length) (hp1 : ps.length ≤ 1000) (hd : IsInts w dv.v l) (hN : N ≤ 65536) (hL : ∀ p ∈ ps, jeB l p = true → (jgp l p).length = N) (hF : ∀ xs, -9223372036854775808 ≤ (F xs).1 ∧ (F xs).1 ≤ 9223372036854775807)
    (WC:∀ (wx:World) (p1 p2 B:Nat) (xs:List Int),w.grownBy wx none→BoxN wx p1 n→BoxT wx p2 u→xs.length=ps.length→IsInts wx (.slice (some ⟨B,0,none⟩) ps.length ps.length) xs→Calls Tryz.prog 30 #[.slice (some ⟨B,0,none⟩) ps.length ps.length,.pointer (some ⟨p1,0,none⟩),.pointer (some ⟨p2,0,none⟩)] wx fun e w'=>e=.returned (.tuple #[.int .i64 (F xs).1,.int .i64 (F xs).2])∧∃ q,w'=wx.drewN q) :
    Calls Tryz.prog 14 #[jaz n,.slice u.a u.n u.c,.agg #[.string nam0,.int .i64 vty,.slice dv.a dv.n dv.c]] w (EvQ w (jg7 F ps l N)):=by
     obtain ⟨i0,hi,hz0,hz1,hz2⟩:=info_parts jjR;obtain ⟨xa,xc,e1,p1,p2,p3⟩:=hv.vals.form;rw [List.length_map] at e1 p1 p3;obtain ⟨ua,un,uc⟩:=u;simp only [Sl.v,Value.slice.injEq] at e1;obtain ⟨rfl,rfl,rfl⟩:=e1;have HV:=jac hv;have HD:=jac hd;have HLN:=jac hL;have HF:=jac hF;have HWC:=jac WC;clear hv hd hL hF WC;obtain ⟨w0,hw0⟩ : ∃ w0,w0=(w.alloc (.cells #[.string n.op,.string n.name,.slice n.iv.a n.iv.n n.iv.c,.string n.out,.slice n.av.a n.av.n n.av.c] 25)).alloc (.cells #[.string nam0,.int .i64 vty,.slice dv.a dv.n dv.c] 53):=⟨_,rfl⟩
     have g0:Hid (w.grownBy w0 none):=by show w.grownBy w0 none;rw [hw0];exact jaa (jab _ _) (jab _ _)
     have hbx:=ja1 w (.cells #[.string n.op,.string n.name,.slice n.iv.a n.iv.n n.iv.c,.string n.out,.slice n.av.a n.av.n n.av.c] 25) (.cells #[.string nam0,.int .i64 vty,.slice dv.a dv.n dv.c] 53);rw [← hw0] at hbx;have BX:Hid (∀ wx,w0.grownBy wx none→wx.heap[w.heap.size+1]?=some (.cells #[.string nam0,.int .i64 vty,.slice dv.a dv.n dv.c] 53 (0,0))):=fun wx hg=>jaf hbx.2 hg;have WO:=jac (jfv n hop ⟨ua,ps.length,uc⟩ (.string nam0) (.int .i64 vty) (.slice dv.a dv.n dv.c) w0);clear hbx;obtain ⟨dva,dvn,dvc⟩:=dv;obtain ⟨op,nam,⟨ia,il,ic⟩,out,⟨ao,al,cap⟩⟩:=n;unfold jaz at WO ⊢;simp only at WO BX hw0 ⊢;go_enter Tryz.func14,Tryz.ntmps14;go_wp2_with fail;rw [← hw0];clear hw0;refine WO.out.mono ?_;rintro e w1 ⟨rfl,hg1,hb1,hb2⟩;have G1:=jac hg1;have BN:Hid (∀ wx,w1.grownBy wx none→BoxN wx w0.heap.size ⟨op,nam,⟨ia,il,ic⟩,out,⟨ao,al,cap⟩⟩∧BoxT wx (w0.heap.size+1) ⟨ua,ps.length,uc⟩):=fun wx hg=>⟨jaf hb1 hg,jaf hb2 hg⟩
     clear hg1 hb1 hb2;have hbo:∀ wx,(binOp .eql 58 (.func (.func 30) #[] #[.pointer (some ⟨w0.heap.size,0,none⟩),.pointer (some ⟨w0.heap.size+1,0,none⟩)]) .nilFunc).run Tryz.prog wx=.ok (.bool false) wx:=fun wx=>by rfl
     obtain ⟨q1,hq1⟩ : ∃ q,q=w0.heap.size:=⟨_,rfl⟩
     obtain ⟨q2,hq2⟩ : ∃ q,q=w0.heap.size+1:=⟨_,rfl⟩
     rw [← hq2,← hq1] at BN hbo ⊢;clear hq1 hq2;go_wp2_with fail;go_loopw [9,22] (fun v i wr=>w1.grownBy wr none∧∃ (k:Nat) (va:Option Addr) (vc:Nat) (cols:List (Sl×List Int)),k≤ps.length∧i=.int .i64 k∧v=.slice va k vc∧cols.length=k∧cols.map (·.2)=(ps.take k).map (jgp l)∧(ps.take k).all (jeB l)=true∧jaX 30 1 jb0 wr w1.heap.size (.slice va k vc) (cols.map (·.1))∧∀ c∈cols,jbt wr w1.heap.size c.1.v c.2) (fun _ i _=>ps.length - (intOf i).toNat)
     case atStart=>exact ⟨jad _,0,none,0,[],Nat.zero_le _,rfl,rfl,rfl,rfl,rfl,jaX.nil ..,fun c hc=>by simp at hc⟩
     case round =>
      obtain ⟨hg,k,va,vc,cols,hk,rfl,rfl,hcl,hcm,hall,hown,hin⟩:=hrel;have HG:=jac hg;have HO:=jac hown;have HAL:=jac hall;have HCL:=jac hcl;have HCM:=jac hcm;have HIN:=jac hin;clear hown hall hcl hcm hin;have gw:=jac (jaa g0.out (jaa G1.out hg))
      by_cases hlt:k<ps.length
      ·obtain ⟨b,off,rfl⟩:=HV.out.vals.addr (k:=k) (by rw [List.length_map];exact hlt);obtain ⟨a0,a1,a2⟩:=(HV.out.more gw.out).at k hlt;have HH:=jac (HV.out.has ps[k] (List.getElem_mem hlt))
       have HT:Hid ((ps.take (k+1)).all (jeB l)=((ps.take k).all (jeB l)&&jeB l ps[k])):=by
        show _=_;rw [List.take_add_one,List.all_append,List.getElem?_eq_getElem hlt];simp
       have HM:Hid ((ps.take (k+1)).map (jgp l)=(ps.take k).map (jgp l)++[jgp l ps[k]]):=by
        show _=_;rw [List.take_add_one,List.map_append,List.getElem?_eq_getElem hlt]
        rfl
       have HBAD:Hid (jeB l ps[k]=false→jg7 F ps l N=.error (asE ps[k].2.1 ps[k].2.2 l)):=fun h=>by
        obtain ⟨h1,h2⟩:=jii hlt HAL.out h;unfold jg7;rw [if_neg (by simp [h2]),h1]
       obtain ⟨p,hp⟩ : ∃ p,p=ps[k]:=⟨_,rfl⟩
       rw [← hp] at a0 a1 a2 HH HT HM HBAD;obtain ⟨⟨ty,⟨da,dn,dc⟩,⟨ta,tn,tc⟩⟩,⟨ds,ts⟩⟩:=p;simp only at a0 a1 a2 HH HBAD;obtain ⟨w2,hw2⟩ : ∃ w2,w2=wr.alloc (.cells #[.int .i64 ty,.slice da dn dc,.slice ta tn tc] 32):=⟨_,rfl⟩
       have g2:Hid (wr.grownBy w2 none):=by show wr.grownBy w2 none;rw [hw2];exact jab _ _
       have B2:=BX.out w2 (jaa (jaa G1.out hg) g2.out);have v2:w2.cell? ⟨w.heap.size+1,2,none⟩=some (.slice dva dvn dvc):=(cell_of_row _ _ 2 _ _ (0,0) B2).trans rfl;rw [hw2] at v2;have AS:=jac (jqs ⟨ty,⟨da,dn,dc⟩,⟨ta,tn,tc⟩⟩ ds ts l ⟨dva,dvn,dvc⟩ w2 ((HH.out.1.more gw.out).more g2.out) ((HH.out.2.more gw.out).more g2.out) ((HD.out.more gw.out).more g2.out));unfold jog at AS;simp only at AS;clear B2 hp hg;go_wp2_with fail;rw [← hw2];clear hw2 a0 a1 a2 v2;refine AS.out.mono ?_;rintro e w3 ⟨⟨sa,sn,sc⟩,rfl,ho3,hg3⟩;have G3:=jac (jaa (jaa HG.out g2.out) hg3);have I3:=jac (jbt.ints (w:=w3) (base:=w2.heap.size) ho3);have hsz:w1.heap.size≤w3.heap.size:=G3.out.size
       by_cases hok:asE ds ts l=0
       ·have bo:(asE ds ts l != 0)=false:=by simp [hok]
        have HOK:=jac hok;have KL:Hid ((cols.map (·.1)).length=k):=by show _=_;rw [List.length_map];exact HCL.out
        have OW:Hid (∀ o,(w3.alloc o).ownsRow w1.heap.size 30 1 (.slice va k vc) k ((cols.map (·.1)).flatMap jb0)):=fun o=>jdg ((HO.out.more (jaa g2.out hg3)).more (jab _ _)) KL.out;have GI:=jac (jaa g2.out hg3)
        have HS:Hid (∀ c∈cols++[((⟨sa,sn,sc⟩ : Sl),asL ds ts l)],jbt (w3.alloc (.cells #[.slice sa sn sc] 30)) w1.heap.size c.1.v c.2):=fun c hc=>by
         rcases List.mem_append.1 hc with hc | hc
         ·exact (HIN.out c hc).more (jaa GI.out (jab _ _)) (by cases c.1.v.ownBlock <;> simp)
         ·obtain rfl:=List.mem_singleton.1 hc;exact jbt.more (w:=w3) ⟨jbg ho3.1 (by have:=HG.out.size;have:=g2.out.size;omega),ho3.2⟩ (jab _ _) (by cases (Sl.v ⟨sa,sn,sc⟩).ownBlock <;> simp)
        clear hok ho3 hg3 AS;go_wp2_with (at_builtin;refine wpList_append_lies _ rfl (.tmp 36) (.tmp 38) 60 rfl w1.heap.size 30 i0 (.slice none 0 0) 1 24 Tryz.underlying60 hi hz0 hz1 hz2 rfl (by decide) (.slice va k vc) k ((cols.map (·.1)).flatMap jb0) rfl (by exact OW.out _) ⟨w3.heap.size,0,none⟩ 1 1 (jb0 ⟨sa,sn,sc⟩) rfl rfl (by exact World.news_of_block (by have h:=heap_alloc_new w3 (.cells #[.slice sa sn sc] 30);simpa using h)) (jgq _) (by omega) (by simp only [maxLen];omega) (by omega) (by simp;omega) (w3.heap.size+1) (by simp) ?_;intro gg cap8 w8 hown8 hgrow hat hlt8)
        have ST:Hid (w1.grownBy w8 none∧jaX 30 1 jb0 w8 w1.heap.size (.slice (some ⟨gg,0,none⟩) (k+1) cap8) ((cols++[((⟨sa,sn,sc⟩ : Sl),asL ds ts l)]).map (fun c=>c.1))∧(ps.take (k+1)).all (jeB l)=true∧(cols++[((⟨sa,sn,sc⟩ : Sl),asL ds ts l)]).map (fun c=>c.2)=(ps.take (k+1)).map (jgp l)∧∀ c∈cols++[((⟨sa,sn,sc⟩ : Sl),asL ds ts l)],jbt w8 w1.heap.size c.1.v c.2):=⟨jao (jaa G3.out (jab _ _)) hgrow (fun r e=>(World.ownsRow.lt HO.out r e).1),by rw [List.map_append];exact jdh KL.out hown8,by rw [HT.out,HAL.out];simp [jeB,HOK.out],by rw [HM.out,List.map_append,HCM.out];rfl,fun c hc=>by
         have h9:=HS.out c hc;exact ⟨h9.1.kept hgrow (jjS h9.1 (OW.out _) (by decide)),h9.2⟩⟩
        clear hown8 hgrow hat hlt8;go_wp2_with fail;go_roundw
        case rel=>exact ⟨ST.out.1,k+1,_,_,_,by omega,by go_num,rfl,by rw [List.length_append,HCL.out];rfl,ST.out.2.2.2.1,ST.out.2.2.1,ST.out.2.1,ST.out.2.2.2.2⟩
        case measure=>simp [intOf];omega
       ·have bo:(asE ds ts l != 0)=true:=by simpa using hok
        have E:Hid (jg7 F ps l N=.error (asE ds ts l)):=HBAD.out (by simpa [jeB] using hok);have GF:=jac (jaa (jaa g0.out G1.out) G3.out);clear hok ho3 hg3 AS;go_wp2;go_ret2;exact jnc E.out GF.out
      ·obtain rfl:k=ps.length:=by omega
       have HOF:=HO.out
       have EQ:Hid (jg7 F ps l N=evE F cols 0 N):=by
        show _=_;have h1:=HAL.out;have h2:=HCM.out;rw [List.take_of_length_le (Nat.le_refl _)] at h1 h2;unfold jg7;rw [if_pos h1,jnL,h2]
       have CI:∀ c∈cols,IsInts wr c.1.v c.2∧c.2.length=N:=fun c hc=>⟨(HIN.out c hc).ints,by
        have h1:=HAL.out;have h2:=HCM.out;rw [List.take_of_length_le (Nat.le_refl _)] at h1 h2;have h3:c.2∈cols.map (·.2):=List.mem_map.2 ⟨c,hc,rfl⟩;rw [h2] at h3;obtain ⟨p,hp,e⟩:=List.mem_map.1 h3;rw [← e];exact HLN.out p hp (List.all_eq_true.1 h1 p hp)⟩
       have EV:=jac (jne ⟨va,ps.length,vc⟩ cols N ps.length F q1 q2 wr (HOF.isL (bytes:=24) jgk (by rw [List.length_map,HCL.out];omega)) CI HCL.out hp0 hp1 hN HF.out (fun wx B xs hgx hxl hxi=>HWC.out wx q1 q2 B xs (jaa gw.out hgx) (BN.out wx (jaa hg hgx)).1 (BN.out wx (jaa hg hgx)).2 hxl hxi));simp only at EV;clear HOF CI hg;go_wp2_with fail;refine EV.out.mono ?_;rintro e w5 ⟨hg5,hq⟩;have G5:=jac (jaa gw.out hg5);have Z5:Hid (w.heap.size≤wr.heap.size):=gw.out.size;obtain ⟨r,hr⟩ : ∃ r,r=evE F cols 0 N:=⟨_,rfl⟩
       rw [← hr] at hq EQ;clear hr hg5 EV
       cases r with
       | error c =>
        obtain rfl:=hq;go_wp2;go_ret2;exact jnc EQ.out G5.out
       | ok zs =>
        obtain ⟨⟨sa,sn,sc⟩,rfl,ho⟩:=hq;have HO5:Hid (jbt w5 w.heap.size (Sl.v ⟨sa,sn,sc⟩) zs):=⟨jbg ho.1 Z5.out,ho.2⟩
        clear ho;go_wp2;go_ret2;exact jsv EQ.out G5.out ⟨⟨sa,sn,sc⟩,rfl,HO5.out⟩
end Go.Proofs.YteigfipgmghgmaaGreatDoor
namespace Go.Proofs.YteigfipgmghgmaaGreatDoor
open Go.RowKit
def doR (r:R (Int×List Int)) (M:List Int→R (List Int)):R (Int×List Int×List Int):=match r with
 | .ok (ty,l)=>(M l).map fun zs=>(ty,l,zs)
 | .error c=>.error c
def DoQ (w:World) (r:R (Int×List Int×List Int)) (e:Ending) (w':World):Prop:=w.grownBy w' none∧match r with
 | .ok (ty,l,zs)=>∃ t:Ten,t.ty=ty∧e=.returned (.tuple #[jog t,.int .i64 0])∧Owns w' w.heap.size t.dv.v l∧jbt w' w.heap.size t.tv.v zs
 | .error c=>e=.returned (.tuple #[.agg #[.int .i64 0,.slice none 0 0,.slice none 0 0],.int .i64 c])
theorem jnM {w w':World} {r:R (Int×List Int×List Int)} {c:Int} (h:r=.error c) (hg:w.grownBy w' none):DoQ w r (.returned (.tuple #[.agg #[.int .i64 0,.slice none 0 0,.slice none 0 0],.int .i64 c])) w':=by rw [h];exact ⟨hg,rfl⟩
theorem jsF {w w':World} {r:R (Int×List Int×List Int)} {ty:Int} {l zs:List Int} {d t:Sl} (h:r=.ok (ty,l,zs)) (hg:w.grownBy w' none) (hd:Owns w' w.heap.size d.v l) (ht:jbt w' w.heap.size t.v zs):DoQ w r (.returned (.tuple #[.agg #[.int .i64 ty,.slice d.a d.n d.c,.slice t.a t.n t.c],.int .i64 0])) w':=by rw [h];exact ⟨hg,⟨ty,d,t⟩,rfl,rfl,hd,ht⟩
theorem jcb {fn : Func} {p u : Tmp} (h : fn.results = #[.cell p 32, .tmp u]) (tmps : Array Value) (w : World) (B : Nat) (hp : tmps.getD p undef = .pointer (some ⟨B, 0, none⟩)) {a0 a1 a2 : Value}
    (hb:w.heap[B]?=some (.cells #[a0,a1,a2] 32 (0,0))):(results fn tmps).run Tryz.prog w=.ok (.tuple #[.agg #[a0,a1,a2],tmps.getD u undef]) w:=by
     have hl:=run_loadVar_row (P:=Tryz.prog) w B _ 32 #[a0,a1,a2] (0,0) _ hb Tryz.underlying32 rfl (by rw [jlt];rfl);rw [results_cell_tmp h,hp];simp [asAddr,hl,Result.andThen]
theorem jdH {w:World} {base te sz n:Nat} {v:Value} {cs:List Value} (h:w.ownsRow base te sz v n cs) {B:Nat} (hB:B<base):v.ownBlock=none∨v.ownBlock≠some B:=by
 rcases h.2 with ⟨e,-⟩ | ⟨g,cap,cur,e,hg,-⟩
 ·exact .inl (by rw [e];rfl)
 ·exact .inr (by rw [e];simp [Value.ownBlock];omega)
theorem jrN (n : Nod) (u : Sl) (R0 : R (Int × List Int)) (M : List Int → R (List Int)) (w : World) (h1 : ∀ c, R0 = .error c → c ≠ 0) (h2 : ∀ l c, M l = .error c → c ≠ 0)
    (NC:∀ wx,w.grownBy wx none→Calls Tryz.prog 20 #[jaz n,.slice u.a u.n u.c] wx (jof n.out wx R0))
    (MC:∀ (wx:World) (ty:Int) (dv:Sl) (l:List Int),w.grownBy wx none→R0=.ok (ty,l)→IsInts wx dv.v l→Calls Tryz.prog 14 #[jaz n,.slice u.a u.n u.c,.agg #[.string n.out,.int .i64 ty,.slice dv.a dv.n dv.c]] wx (EvQ wx (M l))) :
    Calls Tryz.prog 13 #[jaz n,.slice u.a u.n u.c,.func (.func 14) #[] #[]] w (DoQ w (doR R0 M)):=by
     have H1:=jac h1;have H2:=jac h2;have HMC:=jac MC;clear h1 h2 MC;obtain ⟨w0,hw0⟩ : ∃ w0,w0=(w.alloc (.cells #[.string n.op,.string n.name,.slice n.iv.a n.iv.n n.iv.c,.string n.out,.slice n.av.a n.av.n n.av.c] 25)).alloc (.cells #[.int .i64 0,.slice none 0 0,.slice none 0 0] 32):=⟨_,rfl⟩
     have g0:Hid (w.grownBy w0 none):=by show w.grownBy w0 none;rw [hw0];exact jaa (jab _ _) (jab _ _)
     have hbx:=ja1 w (.cells #[.string n.op,.string n.name,.slice n.iv.a n.iv.n n.iv.c,.string n.out,.slice n.av.a n.av.n n.av.c] 25) (.cells #[.int .i64 0,.slice none 0 0,.slice none 0 0] 32);rw [← hw0] at hbx;have BN:Hid (∀ wx,w0.grownBy wx none→wx.heap[w.heap.size]?=some (.cells #[.string n.op,.string n.name,.slice n.iv.a n.iv.n n.iv.c,.string n.out,.slice n.av.a n.av.n n.av.c] 25 (0,0))):=fun wx hg=>jaf hbx.1 hg;have BX:Hid (∀ wx,w0.grownBy wx none→wx.heap[w.heap.size+1]?=some (.cells #[.int .i64 0,.slice none 0 0,.slice none 0 0] 32 (0,0))):=fun wx hg=>jaf hbx.2 hg;have Z0:Hid (w.heap.size+1<w0.heap.size):=(Array.getElem?_eq_some_iff.1 hbx.2).1;have N1:=jac (NC w0 g0.out);clear hbx NC;obtain ⟨op,nam,⟨ia,il,ic⟩,out,⟨ao,al,cap⟩⟩:=n;obtain ⟨ua,un,uc⟩:=u;unfold jaz at HMC N1 ⊢;simp only at HMC N1 BN hw0 ⊢;go_enter Tryz.func13,Tryz.ntmps13;go_wp2_with fail;rw [← hw0];clear hw0;refine N1.out.mono ?_;rintro e w1 ⟨hg1,hq⟩;have G1:=jac hg1
     cases R0 with
     | error c =>
      obtain rfl:=hq;have hc:=H1.out c rfl;have bc:(c != 0)=true:=by simpa using hc
      obtain ⟨w2,hw2⟩ : ∃ w2,w2=w1.alloc (.cells #[.string ⟨#[]⟩,.int .i64 0,.slice none 0 0] 53):=⟨_,rfl⟩
      have g2:w1.grownBy w2 none:=by rw [hw2];exact jab _ _
      have B1:=BX.out w2 (jaa hg1 g2);obtain ⟨f0,f1,f2⟩:=jaZ B1;have c0:w2.cell? ⟨w.heap.size+1,0,none⟩=some (.int .i64 0):=(cell_of_row _ _ 0 _ _ (0,0) B1).trans rfl;have c1:w2.cell? ⟨w.heap.size+1,1,none⟩=some (.slice none 0 0):=(cell_of_row _ _ 1 _ _ (0,0) B1).trans rfl;have c2:w2.cell? ⟨w.heap.size+1,2,none⟩=some (.slice none 0 0):=(cell_of_row _ _ 2 _ _ (0,0) B1).trans rfl;obtain ⟨hX,gX⟩:=jbp (.int .i64 0) (.slice none 0 0) (.slice none 0 0) B1;have HX:=jac hX;have GX:=jac (jaA (jaa g0.out (jaa hg1 g2)) gX (by omega));rw [hw2] at f0 f1 f2 c0 c1 c2 HX GX;clear hX gX B1 hc hg1 g2 hw2;go_wp2;refine bodyPost_ret (jcb rfl _ _ (w.heap.size+1) rfl HX.out) rfl ?_;exact jnM rfl GX.out
     | ok rr =>
      obtain ⟨ty,l⟩:=rr;obtain ⟨⟨s1,s2,s3⟩,rfl,ho⟩:=hq;obtain ⟨w2,hw2⟩ : ∃ w2,w2=w1.alloc (.cells #[.string out,.int .i64 ty,.slice s1 s2 s3] 53):=⟨_,rfl⟩
      have g2:w1.grownBy w2 none:=by rw [hw2];exact jab _ _
      have hB2:=heap_alloc_new w1 (.cells #[.string out,.int .i64 ty,.slice s1 s2 s3] 53);rw [← hw2] at hB2;have BV:Hid (∀ wx,w2.grownBy wx none→wx.heap[w1.heap.size]?=some (.cells #[.string out,.int .i64 ty,.slice s1 s2 s3] 53 (0,0))):=fun wx hg=>jaf hB2 hg;have HO:=jac ho;obtain ⟨n0,n1,n2,n3,n4⟩:=jaj (n:=⟨op,nam,⟨ia,il,ic⟩,out,⟨ao,al,cap⟩⟩) (BN.out w2 (jaa hg1 g2));have M1:=jac (HMC.out w2 ty ⟨s1,s2,s3⟩ l (jaa g0.out (jaa hg1 g2)) rfl (ho.ints.more g2));have G2:=jac (jaa hg1 g2);have G12:=jac g2;simp only at n0 n1 n2 n3 n4 M1;rw [hw2] at n0 n1 n2 n3 n4;clear ho hg1 g2 hB2;go_wp2_with fail;rw [← hw2];clear hw2 n0 n1 n2 n3 n4;refine M1.out.mono ?_;rintro e w3 ⟨hg3,hq⟩;have B3:=BX.out w3 (jaa G2.out hg3);have G3:=jac (jaa g0.out (jaa G2.out hg3));obtain ⟨f0,f1,f2⟩:=jaZ B3;have c0:w3.cell? ⟨w.heap.size+1,0,none⟩=some (.int .i64 0):=(cell_of_row _ _ 0 _ _ (0,0) B3).trans rfl;have c1:w3.cell? ⟨w.heap.size+1,1,none⟩=some (.slice none 0 0):=(cell_of_row _ _ 1 _ _ (0,0) B3).trans rfl;have c2:w3.cell? ⟨w.heap.size+1,2,none⟩=some (.slice none 0 0):=(cell_of_row _ _ 2 _ _ (0,0) B3).trans rfl;obtain ⟨mr,hmr⟩ : ∃ mr,mr=M l:=⟨_,rfl⟩
      rw [← hmr] at hq;have ED:Hid (doR (.ok (ty,l)) M=mr.map fun zs=>(ty,l,zs)):=by rw [hmr];rfl
      cases mr with
      | error c =>
       obtain rfl:=hq;have hc:=H2.out l c hmr.symm;have bc:(c != 0)=true:=by simpa using hc
       obtain ⟨hX,gX⟩:=jbp (.int .i64 0) (.slice none 0 0) (.slice none 0 0) B3;have HX:=jac hX;have GX:=jac (jaA G3.out gX (by omega));clear hX gX B3 hc hg3 hmr;go_wp2;refine bodyPost_ret (jcb rfl _ _ (w.heap.size+1) rfl HX.out) rfl ?_;exact jnM ED.out GX.out
      | ok zs =>
       obtain ⟨⟨t1,t2,t3⟩,rfl,ht⟩:=hq;have bv:=BV.out w3 hg3;have v1:w3.cell? ⟨w1.heap.size,1,none⟩=some (.int .i64 ty):=(cell_of_row _ _ 1 _ _ (0,0) bv).trans rfl;have v2:w3.cell? ⟨w1.heap.size,2,none⟩=some (.slice s1 s2 s3):=(cell_of_row _ _ 2 _ _ (0,0) bv).trans rfl;obtain ⟨hX,gX⟩:=jbp (.int .i64 ty) (.slice s1 s2 s3) (.slice t1 t2 t3) B3;have HX:=jac hX;have GX:=jac (jaA G3.out gX (by omega));have z0:=Z0.out;have z1:=g0.out.size;have z2:=G2.out.size;have OD:=jac (((HO.out.more (jaa G12.out hg3) (by cases (Sl.v ⟨s1,s2,s3⟩).ownBlock <;> simp)).base_le (b':=w0.heap.size) (Nat.le_refl _)).more gX (jdH HO.out.1 (by omega)))
       have OT:Hid (jbt _ w2.heap.size (Sl.v ⟨t1,t2,t3⟩) zs):=ht.more gX (jdH ht.1 (by omega));clear hX gX B3 hg3 hmr bv ht z0 z1 z2;go_wp2;refine bodyPost_ret (jcb rfl _ _ (w.heap.size+1) rfl HX.out) rfl ?_;exact jsF (d:=⟨s1,s2,s3⟩) (t:=⟨t1,t2,t3⟩) ED.out GX.out (OD.out.base_le (by have:=g0.out.size;omega)) ⟨jbg OT.out.1 (by have:=g0.out.size;have:=G2.out.size;omega),OT.out.2⟩
theorem jrO (n:Nod) (u:Sl) (r:R (Int×List Int×List Int)) (w:World) (BC:∀ wx,w.grownBy wx none→Calls Tryz.prog 13 #[jaz n,.slice u.a u.n u.c,.func (.func 14) #[] #[]] wx (DoQ wx r)) :
    Calls Tryz.prog 8 #[jaz n,.slice u.a u.n u.c] w (DoQ w r):=by
     obtain ⟨w0,hw0⟩ : ∃ w0,w0=(w.alloc (.cells #[.string n.op,.string n.name,.slice n.iv.a n.iv.n n.iv.c,.string n.out,.slice n.av.a n.av.n n.av.c] 25)).alloc (.cells #[.int .i64 0,.slice none 0 0,.slice none 0 0] 32):=⟨_,rfl⟩
     have g0:Hid (w.grownBy w0 none):=by show w.grownBy w0 none;rw [hw0];exact jaa (jab _ _) (jab _ _)
     have hbx:=ja1 w (.cells #[.string n.op,.string n.name,.slice n.iv.a n.iv.n n.iv.c,.string n.out,.slice n.av.a n.av.n n.av.c] 25) (.cells #[.int .i64 0,.slice none 0 0,.slice none 0 0] 32);rw [← hw0] at hbx;have BX:Hid (∀ wx,w0.grownBy wx none→wx.heap[w.heap.size+1]?=some (.cells #[.int .i64 0,.slice none 0 0,.slice none 0 0] 32 (0,0))):=fun wx hg=>jaf hbx.2 hg;have Z0:Hid (w.heap.size+1<w0.heap.size):=(Array.getElem?_eq_some_iff.1 hbx.2).1;have N1:=jac (BC w0 g0.out);clear hbx BC;obtain ⟨op,nam,⟨ia,il,ic⟩,out,⟨ao,al,cap⟩⟩:=n;obtain ⟨ua,un,uc⟩:=u;unfold jaz at N1 ⊢;simp only at N1 hw0 ⊢;go_enter Tryz.func8,Tryz.ntmps8;go_wp2_with fail;rw [← hw0];clear hw0;refine N1.out.mono ?_;rintro e w3 ⟨hg3,hq⟩;have B3:=BX.out w3 hg3;have G3:=jac (jaa g0.out hg3);obtain ⟨f0,f1,f2⟩:=jaZ B3;have c0:w3.cell? ⟨w.heap.size+1,0,none⟩=some (.int .i64 0):=(cell_of_row _ _ 0 _ _ (0,0) B3).trans rfl;have c1:w3.cell? ⟨w.heap.size+1,1,none⟩=some (.slice none 0 0):=(cell_of_row _ _ 1 _ _ (0,0) B3).trans rfl;have c2:w3.cell? ⟨w.heap.size+1,2,none⟩=some (.slice none 0 0):=(cell_of_row _ _ 2 _ _ (0,0) B3).trans rfl
     cases r with
     | error c =>
      obtain rfl:=hq;obtain ⟨hX,gX⟩:=jbp (.int .i64 0) (.slice none 0 0) (.slice none 0 0) B3;have HX:=jac hX;have GX:=jac (jaA G3.out gX (by omega));clear hX gX B3 hg3;go_wp2;refine bodyPost_ret (jcb rfl _ _ (w.heap.size+1) rfl HX.out) rfl ?_;exact jnM rfl GX.out
     | ok rr =>
      obtain ⟨ty,l,zs⟩:=rr;obtain ⟨⟨ty',⟨s1,s2,s3⟩,⟨t1,t2,t3⟩⟩,e1,rfl,hd,ht⟩:=hq;simp only at e1;subst e1;obtain ⟨hX,gX⟩:=jbp (.int .i64 ty') (.slice s1 s2 s3) (.slice t1 t2 t3) B3;have HX:=jac hX;have GX:=jac (jaA G3.out gX (by omega));have OD:=jac (hd.more gX (jdH hd.1 Z0.out));have OT:=jac (ht.more gX (jdH ht.1 Z0.out));clear hX gX B3 hg3 hd ht;unfold jog;go_wp2;refine bodyPost_ret (jcb rfl _ _ (w.heap.size+1) rfl HX.out) rfl ?_;exact jsF (d:=⟨s1,s2,s3⟩) (t:=⟨t1,t2,t3⟩) rfl GX.out (OD.out.base_le (by have:=g0.out.size;omega)) ⟨jbg OT.out.1 (by have:=g0.out.size;omega),OT.out.2⟩
end Go.Proofs.YteigfipgmghgmaaGreatDoor
namespace Go.Proofs.YteigfipgmghgmaaGreatDoor
open Go.RowKit
def jrP (P:List Int→Int→Prop) (m:Nat) (w:World) (e:Ending) (w':World):Prop:=∃ (fn:Nat) (cap:Array Value),e=.returned (.func (.func fn) #[] cap)∧w.grownBy w' none∧(∀ (args:Array Value) (wx:World),(callFunc fn args).run Tryz.prog wx=.ok (.enter fn args) wx)∧∀ (wy:World) (B:Nat) (xs:List Int),w'.grownBy wy none→xs.length=m→IsInts wy (.slice (some ⟨B,0,none⟩) m m) xs→Calls Tryz.prog fn (#[.slice (some ⟨B,0,none⟩) m m]++cap) wy (CloQ P xs wy)
def DoS (w:World) (R0:R (Int×List Int)) (K:Int→List Int→R (List Int)→Prop) (e:Ending) (w':World):Prop:=w.grownBy w' none∧((∃ c:Int,c≠0∧e=.returned (.tuple #[.agg #[.int .i64 0,.slice none 0 0,.slice none 0 0],.int .i64 c]))∨∃ (t:Ten) (l zs:List Int),R0=.ok (t.ty,l)∧e=.returned (.tuple #[jog t,.int .i64 0])∧K t.ty l (.ok zs)∧Owns w' w.heap.size t.dv.v l∧jbt w' w.heap.size t.tv.v zs)
theorem jpL (n : Nod) (u : Sl) (ps : List (Ten × Tq)) (nam0 : ByteArray) (vty : Int) (dv : Sl) (l : List Int) (P : List Int → Int → Prop) (N : Nat) (w : World) (hv : TensIn w u.v ps) (hp0 : 0 < ps.length) (hp1 : ps.length ≤ 1000) (hd : IsInts w dv.v l) (hN : N ≤ 65536) (hL : ∀ p ∈ ps, jeB l p = true → (jgp l p).length = N)
    (WO:∀ wx,w.grownBy wx none→Calls Tryz.prog 21 #[jaz n,.slice u.a u.n u.c,.agg #[.string nam0,.int .i64 vty,.slice dv.a dv.n dv.c]] wx (jrP P ps.length wx)) :
    Calls Tryz.prog 14 #[jaz n,.slice u.a u.n u.c,.agg #[.string nam0,.int .i64 vty,.slice dv.a dv.n dv.c]] w (EvS w P (ps.map (jgp l)) N):=by
     obtain ⟨i0,hi,hz0,hz1,hz2⟩:=info_parts jjR;obtain ⟨xa,xc,e1,p1,p2,p3⟩:=hv.vals.form;rw [List.length_map] at e1 p1 p3;obtain ⟨ua,un,uc⟩:=u;simp only [Sl.v,Value.slice.injEq] at e1;obtain ⟨rfl,rfl,rfl⟩:=e1;have HV:=jac hv;have HD:=jac hd;have HLN:=jac hL;have HWO:=jac WO;clear hv hd hL WO;obtain ⟨w0,hw0⟩ : ∃ w0,w0=(w.alloc (.cells #[.string n.op,.string n.name,.slice n.iv.a n.iv.n n.iv.c,.string n.out,.slice n.av.a n.av.n n.av.c] 25)).alloc (.cells #[.string nam0,.int .i64 vty,.slice dv.a dv.n dv.c] 53):=⟨_,rfl⟩
     have g0:Hid (w.grownBy w0 none):=by show w.grownBy w0 none;rw [hw0];exact jaa (jab _ _) (jab _ _)
     have hbx:=ja1 w (.cells #[.string n.op,.string n.name,.slice n.iv.a n.iv.n n.iv.c,.string n.out,.slice n.av.a n.av.n n.av.c] 25) (.cells #[.string nam0,.int .i64 vty,.slice dv.a dv.n dv.c] 53);rw [← hw0] at hbx;have BX:Hid (∀ wx,w0.grownBy wx none→wx.heap[w.heap.size+1]?=some (.cells #[.string nam0,.int .i64 vty,.slice dv.a dv.n dv.c] 53 (0,0))):=fun wx hg=>jaf hbx.2 hg;have WO:=jac (HWO.out w0 g0.out);clear hbx HWO;obtain ⟨dva,dvn,dvc⟩:=dv;obtain ⟨op,nam,⟨ia,il,ic⟩,out,⟨ao,al,cap⟩⟩:=n;unfold jaz at WO ⊢;simp only at WO BX hw0 ⊢;go_enter Tryz.func14,Tryz.ntmps14;go_wp2_with fail;rw [← hw0];clear hw0;refine WO.out.mono ?_;rintro e w1 ⟨fn,cap,rfl,hg1,hcf,hcl0⟩;have HCF:=jac hcf;have G1:=jac hg1;have HCLO:=jac hcl0;clear hg1 hcl0 hcf;have hbo:∀ wx,(binOp .eql 58 (.func (.func fn) #[] cap) .nilFunc).run Tryz.prog wx=.ok (.bool false) wx:=fun wx=>by rfl
     go_wp2_with fail;go_loopw [9,22] (fun v i wr=>w1.grownBy wr none∧∃ (k:Nat) (va:Option Addr) (vc:Nat) (cols:List (Sl×List Int)),k≤ps.length∧i=.int .i64 k∧v=.slice va k vc∧cols.length=k∧cols.map (·.2)=(ps.take k).map (jgp l)∧(ps.take k).all (jeB l)=true∧jaX 30 1 jb0 wr w1.heap.size (.slice va k vc) (cols.map (·.1))∧∀ c∈cols,jbt wr w1.heap.size c.1.v c.2) (fun _ i _=>ps.length - (intOf i).toNat)
     case atStart=>exact ⟨jad _,0,none,0,[],Nat.zero_le _,rfl,rfl,rfl,rfl,rfl,jaX.nil ..,fun c hc=>by simp at hc⟩
     case round =>
      obtain ⟨hg,k,va,vc,cols,hk,rfl,rfl,hcl,hcm,hall,hown,hin⟩:=hrel;have HG:=jac hg;have HO:=jac hown;have HAL:=jac hall;have HCL:=jac hcl;have HCM:=jac hcm;have HIN:=jac hin;clear hown hall hcl hcm hin;have gw:=jac (jaa g0.out (jaa G1.out hg))
      by_cases hlt:k<ps.length
      ·obtain ⟨b,off,rfl⟩:=HV.out.vals.addr (k:=k) (by rw [List.length_map];exact hlt);obtain ⟨a0,a1,a2⟩:=(HV.out.more gw.out).at k hlt;have HH:=jac (HV.out.has ps[k] (List.getElem_mem hlt))
       have HT:Hid ((ps.take (k+1)).all (jeB l)=((ps.take k).all (jeB l)&&jeB l ps[k])):=by
        show _=_;rw [List.take_add_one,List.all_append,List.getElem?_eq_getElem hlt];simp
       have HM:Hid ((ps.take (k+1)).map (jgp l)=(ps.take k).map (jgp l)++[jgp l ps[k]]):=by
        show _=_;rw [List.take_add_one,List.map_append,List.getElem?_eq_getElem hlt]
        rfl
       obtain ⟨p,hp⟩ : ∃ p,p=ps[k]:=⟨_,rfl⟩
       rw [← hp] at a0 a1 a2 HH HT HM;obtain ⟨⟨ty,⟨da,dn,dc⟩,⟨ta,tn,tc⟩⟩,⟨ds,ts⟩⟩:=p;simp only at a0 a1 a2 HH;obtain ⟨w2,hw2⟩ : ∃ w2,w2=wr.alloc (.cells #[.int .i64 ty,.slice da dn dc,.slice ta tn tc] 32):=⟨_,rfl⟩
       have g2:Hid (wr.grownBy w2 none):=by show wr.grownBy w2 none;rw [hw2];exact jab _ _
       have B2:=BX.out w2 (jaa (jaa G1.out hg) g2.out);have v2:w2.cell? ⟨w.heap.size+1,2,none⟩=some (.slice dva dvn dvc):=(cell_of_row _ _ 2 _ _ (0,0) B2).trans rfl;rw [hw2] at v2;have AS:=jac (jqs ⟨ty,⟨da,dn,dc⟩,⟨ta,tn,tc⟩⟩ ds ts l ⟨dva,dvn,dvc⟩ w2 ((HH.out.1.more gw.out).more g2.out) ((HH.out.2.more gw.out).more g2.out) ((HD.out.more gw.out).more g2.out));unfold jog at AS;simp only at AS;clear B2 hp hg;go_wp2_with fail;rw [← hw2];clear hw2 a0 a1 a2 v2;refine AS.out.mono ?_;rintro e w3 ⟨⟨sa,sn,sc⟩,rfl,ho3,hg3⟩;have G3:=jac (jaa (jaa HG.out g2.out) hg3);have I3:=jac (jbt.ints (w:=w3) (base:=w2.heap.size) ho3);have hsz:w1.heap.size≤w3.heap.size:=G3.out.size
       by_cases hok:asE ds ts l=0
       ·have bo:(asE ds ts l != 0)=false:=by simp [hok]
        have HOK:=jac hok;have KL:Hid ((cols.map (·.1)).length=k):=by show _=_;rw [List.length_map];exact HCL.out
        have OW:Hid (∀ o,(w3.alloc o).ownsRow w1.heap.size 30 1 (.slice va k vc) k ((cols.map (·.1)).flatMap jb0)):=fun o=>jdg ((HO.out.more (jaa g2.out hg3)).more (jab _ _)) KL.out;have GI:=jac (jaa g2.out hg3)
        have HS:Hid (∀ c∈cols++[((⟨sa,sn,sc⟩ : Sl),asL ds ts l)],jbt (w3.alloc (.cells #[.slice sa sn sc] 30)) w1.heap.size c.1.v c.2):=fun c hc=>by
         rcases List.mem_append.1 hc with hc | hc
         ·exact (HIN.out c hc).more (jaa GI.out (jab _ _)) (by cases c.1.v.ownBlock <;> simp)
         ·obtain rfl:=List.mem_singleton.1 hc;exact jbt.more (w:=w3) ⟨jbg ho3.1 (by have:=HG.out.size;have:=g2.out.size;omega),ho3.2⟩ (jab _ _) (by cases (Sl.v ⟨sa,sn,sc⟩).ownBlock <;> simp)
        clear hok ho3 hg3 AS;go_wp2_with (at_builtin;refine wpList_append_lies _ rfl (.tmp 36) (.tmp 38) 60 rfl w1.heap.size 30 i0 (.slice none 0 0) 1 24 Tryz.underlying60 hi hz0 hz1 hz2 rfl (by decide) (.slice va k vc) k ((cols.map (·.1)).flatMap jb0) rfl (by exact OW.out _) ⟨w3.heap.size,0,none⟩ 1 1 (jb0 ⟨sa,sn,sc⟩) rfl rfl (by exact World.news_of_block (by have h:=heap_alloc_new w3 (.cells #[.slice sa sn sc] 30);simpa using h)) (jgq _) (by omega) (by simp only [maxLen];omega) (by omega) (by simp;omega) (w3.heap.size+1) (by simp) ?_;intro gg cap8 w8 hown8 hgrow hat hlt8)
        have ST:Hid (w1.grownBy w8 none∧jaX 30 1 jb0 w8 w1.heap.size (.slice (some ⟨gg,0,none⟩) (k+1) cap8) ((cols++[((⟨sa,sn,sc⟩ : Sl),asL ds ts l)]).map (fun c=>c.1))∧(ps.take (k+1)).all (jeB l)=true∧(cols++[((⟨sa,sn,sc⟩ : Sl),asL ds ts l)]).map (fun c=>c.2)=(ps.take (k+1)).map (jgp l)∧∀ c∈cols++[((⟨sa,sn,sc⟩ : Sl),asL ds ts l)],jbt w8 w1.heap.size c.1.v c.2):=⟨jao (jaa G3.out (jab _ _)) hgrow (fun r e=>(World.ownsRow.lt HO.out r e).1),by rw [List.map_append];exact jdh KL.out hown8,by rw [HT.out,HAL.out];simp [jeB,HOK.out],by rw [HM.out,List.map_append,HCM.out];rfl,fun c hc=>by
         have h9:=HS.out c hc;exact ⟨h9.1.kept hgrow (jjS h9.1 (OW.out _) (by decide)),h9.2⟩⟩
        clear hown8 hgrow hat hlt8;go_wp2_with fail;go_roundw
        case rel=>exact ⟨ST.out.1,k+1,_,_,_,by omega,by go_num,rfl,by rw [List.length_append,HCL.out];rfl,ST.out.2.2.2.1,ST.out.2.2.1,ST.out.2.1,ST.out.2.2.2.2⟩
        case measure=>simp [intOf];omega
       ·have bo:(asE ds ts l != 0)=true:=by simpa using hok
        have E:Hid (asE ds ts l≠0):=hok;have GF:=jac (jaa (jaa g0.out G1.out) G3.out);clear hok ho3 hg3 AS;go_wp2;go_ret2;exact ⟨GF.out,.inl ⟨_,E.out,rfl⟩⟩
      ·obtain rfl:k=ps.length:=by omega
       have HOF:=HO.out
       have EQ:Hid (cols.map (·.2)=ps.map (jgp l)):=by
        show _=_;have h2:=HCM.out;rw [List.take_of_length_le (Nat.le_refl _)] at h2;exact h2
       have CI:∀ c∈cols,IsInts wr c.1.v c.2∧c.2.length=N:=fun c hc=>⟨(HIN.out c hc).ints,by
        have h1:=HAL.out;have h2:=HCM.out;rw [List.take_of_length_le (Nat.le_refl _)] at h1 h2;have h3:c.2∈cols.map (·.2):=List.mem_map.2 ⟨c,hc,rfl⟩;rw [h2] at h3;obtain ⟨p,hp,e⟩:=List.mem_map.1 h3;rw [← e];exact HLN.out p hp (List.all_eq_true.1 h1 p hp)⟩
       have EV:=jac (jnf ⟨va,ps.length,vc⟩ cols N ps.length P fn cap wr (HOF.isL (bytes:=24) jgk (by rw [List.length_map,HCL.out];omega)) CI HCL.out hp0 hp1 hN HCF.out (fun wx B xs hgx hxl hxi=>HCLO.out wx B xs (jaa hg hgx) hxl hxi));rw [EQ.out] at EV;simp only at EV;clear HOF CI hg;go_wp2_with fail;refine EV.out.mono ?_;rintro e w5 ⟨hg5,hq⟩;have G5:=jac (jaa gw.out hg5);have Z5:Hid (w.heap.size≤wr.heap.size):=gw.out.size;clear hg5 EV
       rcases hq with ⟨c,hc0,rfl⟩ | ⟨⟨sa,sn,sc⟩,zs,rfl,ho,hzl,hzp⟩
       ·have HC0:=jac hc0;clear hc0;go_wp2;go_ret2;exact ⟨G5.out,.inl ⟨c,HC0.out,rfl⟩⟩
       ·have HO5:Hid (jbt w5 w.heap.size (Sl.v ⟨sa,sn,sc⟩) zs):=⟨jbg ho.1 Z5.out,ho.2⟩
        have HZ:=jac hzl;have HP:=jac hzp;clear ho hzl hzp;go_wp2;go_ret2;exact ⟨G5.out,.inr ⟨⟨sa,sn,sc⟩,zs,rfl,HO5.out,HZ.out,HP.out⟩⟩
theorem jrQ (n : Nod) (u : Sl) (R0 : R (Int × List Int)) (K : Int → List Int → R (List Int) → Prop) (w : World) (h1 : ∀ c, R0 = .error c → c ≠ 0) (h2 : ∀ ty l c, K ty l (.error c) → c ≠ 0)
    (NC:∀ wx,w.grownBy wx none→Calls Tryz.prog 20 #[jaz n,.slice u.a u.n u.c] wx (jof n.out wx R0))
    (MC:∀ (wx:World) (ty:Int) (dv:Sl) (l:List Int),w.grownBy wx none→R0=.ok (ty,l)→IsInts wx dv.v l→Calls Tryz.prog 14 #[jaz n,.slice u.a u.n u.c,.agg #[.string n.out,.int .i64 ty,.slice dv.a dv.n dv.c]] wx fun e w'=>∃ r,K ty l r∧EvQ wx r e w') :
    Calls Tryz.prog 13 #[jaz n,.slice u.a u.n u.c,.func (.func 14) #[] #[]] w (DoS w R0 K):=by
     have H1:=jac h1;have H2:=jac h2;have HMC:=jac MC;clear h1 h2 MC;obtain ⟨w0,hw0⟩ : ∃ w0,w0=(w.alloc (.cells #[.string n.op,.string n.name,.slice n.iv.a n.iv.n n.iv.c,.string n.out,.slice n.av.a n.av.n n.av.c] 25)).alloc (.cells #[.int .i64 0,.slice none 0 0,.slice none 0 0] 32):=⟨_,rfl⟩
     have g0:Hid (w.grownBy w0 none):=by show w.grownBy w0 none;rw [hw0];exact jaa (jab _ _) (jab _ _)
     have hbx:=ja1 w (.cells #[.string n.op,.string n.name,.slice n.iv.a n.iv.n n.iv.c,.string n.out,.slice n.av.a n.av.n n.av.c] 25) (.cells #[.int .i64 0,.slice none 0 0,.slice none 0 0] 32);rw [← hw0] at hbx;have BN:Hid (∀ wx,w0.grownBy wx none→wx.heap[w.heap.size]?=some (.cells #[.string n.op,.string n.name,.slice n.iv.a n.iv.n n.iv.c,.string n.out,.slice n.av.a n.av.n n.av.c] 25 (0,0))):=fun wx hg=>jaf hbx.1 hg;have BX:Hid (∀ wx,w0.grownBy wx none→wx.heap[w.heap.size+1]?=some (.cells #[.int .i64 0,.slice none 0 0,.slice none 0 0] 32 (0,0))):=fun wx hg=>jaf hbx.2 hg;have Z0:Hid (w.heap.size+1<w0.heap.size):=(Array.getElem?_eq_some_iff.1 hbx.2).1;have N1:=jac (NC w0 g0.out);clear hbx NC;obtain ⟨op,nam,⟨ia,il,ic⟩,out,⟨ao,al,cap⟩⟩:=n;obtain ⟨ua,un,uc⟩:=u;unfold jaz at HMC N1 ⊢;simp only at HMC N1 BN hw0 ⊢;go_enter Tryz.func13,Tryz.ntmps13;go_wp2_with fail;rw [← hw0];clear hw0;refine N1.out.mono ?_;rintro e w1 ⟨hg1,hq⟩;have G1:=jac hg1
     cases R0 with
     | error c =>
      obtain rfl:=hq;have hc:=H1.out c rfl;have bc:(c != 0)=true:=by simpa using hc
      obtain ⟨w2,hw2⟩ : ∃ w2,w2=w1.alloc (.cells #[.string ⟨#[]⟩,.int .i64 0,.slice none 0 0] 53):=⟨_,rfl⟩
      have g2:w1.grownBy w2 none:=by rw [hw2];exact jab _ _
      have B1:=BX.out w2 (jaa hg1 g2);obtain ⟨f0,f1,f2⟩:=jaZ B1;have c0:w2.cell? ⟨w.heap.size+1,0,none⟩=some (.int .i64 0):=(cell_of_row _ _ 0 _ _ (0,0) B1).trans rfl;have c1:w2.cell? ⟨w.heap.size+1,1,none⟩=some (.slice none 0 0):=(cell_of_row _ _ 1 _ _ (0,0) B1).trans rfl;have c2:w2.cell? ⟨w.heap.size+1,2,none⟩=some (.slice none 0 0):=(cell_of_row _ _ 2 _ _ (0,0) B1).trans rfl;obtain ⟨hX,gX⟩:=jbp (.int .i64 0) (.slice none 0 0) (.slice none 0 0) B1;have HX:=jac hX;have GX:=jac (jaA (jaa g0.out (jaa hg1 g2)) gX (by omega));rw [hw2] at f0 f1 f2 c0 c1 c2 HX GX;clear hX gX B1 hc hg1 g2 hw2;go_wp2;refine bodyPost_ret (jcb rfl _ _ (w.heap.size+1) rfl HX.out) rfl ?_;exact ⟨GX.out,.inl ⟨c,H1.out c rfl,rfl⟩⟩
     | ok rr =>
      obtain ⟨ty,l⟩:=rr;obtain ⟨⟨s1,s2,s3⟩,rfl,ho⟩:=hq;obtain ⟨w2,hw2⟩ : ∃ w2,w2=w1.alloc (.cells #[.string out,.int .i64 ty,.slice s1 s2 s3] 53):=⟨_,rfl⟩
      have g2:w1.grownBy w2 none:=by rw [hw2];exact jab _ _
      have hB2:=heap_alloc_new w1 (.cells #[.string out,.int .i64 ty,.slice s1 s2 s3] 53);rw [← hw2] at hB2;have BV:Hid (∀ wx,w2.grownBy wx none→wx.heap[w1.heap.size]?=some (.cells #[.string out,.int .i64 ty,.slice s1 s2 s3] 53 (0,0))):=fun wx hg=>jaf hB2 hg;have HO:=jac ho;obtain ⟨n0,n1,n2,n3,n4⟩:=jaj (n:=⟨op,nam,⟨ia,il,ic⟩,out,⟨ao,al,cap⟩⟩) (BN.out w2 (jaa hg1 g2));have M1:=jac (HMC.out w2 ty ⟨s1,s2,s3⟩ l (jaa g0.out (jaa hg1 g2)) rfl (ho.ints.more g2));have G2:=jac (jaa hg1 g2);have G12:=jac g2;simp only at n0 n1 n2 n3 n4 M1;rw [hw2] at n0 n1 n2 n3 n4;clear ho hg1 g2 hB2;go_wp2_with fail;rw [← hw2];clear hw2 n0 n1 n2 n3 n4;refine M1.out.mono ?_;rintro e w3 ⟨mr,hK,hg3,hq⟩;have HK:=jac hK;have B3:=BX.out w3 (jaa G2.out hg3);have G3:=jac (jaa g0.out (jaa G2.out hg3));obtain ⟨f0,f1,f2⟩:=jaZ B3;have c0:w3.cell? ⟨w.heap.size+1,0,none⟩=some (.int .i64 0):=(cell_of_row _ _ 0 _ _ (0,0) B3).trans rfl;have c1:w3.cell? ⟨w.heap.size+1,1,none⟩=some (.slice none 0 0):=(cell_of_row _ _ 1 _ _ (0,0) B3).trans rfl;have c2:w3.cell? ⟨w.heap.size+1,2,none⟩=some (.slice none 0 0):=(cell_of_row _ _ 2 _ _ (0,0) B3).trans rfl;clear hK
      cases mr with
      | error c =>
       obtain rfl:=hq;have hc:=H2.out ty l c HK.out;have HC:=jac hc;have bc:(c != 0)=true:=by simpa using hc
       obtain ⟨hX,gX⟩:=jbp (.int .i64 0) (.slice none 0 0) (.slice none 0 0) B3;have HX:=jac hX;have GX:=jac (jaA G3.out gX (by omega));clear hX gX B3 hc hg3;go_wp2;refine bodyPost_ret (jcb rfl _ _ (w.heap.size+1) rfl HX.out) rfl ?_;exact ⟨GX.out,.inl ⟨c,HC.out,rfl⟩⟩
      | ok zs =>
       obtain ⟨⟨t1,t2,t3⟩,rfl,ht⟩:=hq;have bv:=BV.out w3 hg3;have v1:w3.cell? ⟨w1.heap.size,1,none⟩=some (.int .i64 ty):=(cell_of_row _ _ 1 _ _ (0,0) bv).trans rfl;have v2:w3.cell? ⟨w1.heap.size,2,none⟩=some (.slice s1 s2 s3):=(cell_of_row _ _ 2 _ _ (0,0) bv).trans rfl;obtain ⟨hX,gX⟩:=jbp (.int .i64 ty) (.slice s1 s2 s3) (.slice t1 t2 t3) B3;have HX:=jac hX;have GX:=jac (jaA G3.out gX (by omega));have z0:=Z0.out;have z1:=g0.out.size;have z2:=G2.out.size;have OD:=jac (((HO.out.more (jaa G12.out hg3) (by cases (Sl.v ⟨s1,s2,s3⟩).ownBlock <;> simp)).base_le (b':=w0.heap.size) (Nat.le_refl _)).more gX (jdH HO.out.1 (by omega)))
       have OT:Hid (jbt _ w2.heap.size (Sl.v ⟨t1,t2,t3⟩) zs):=ht.more gX (jdH ht.1 (by omega));clear hX gX B3 hg3 bv ht z0 z1 z2;go_wp2;refine bodyPost_ret (jcb rfl _ _ (w.heap.size+1) rfl HX.out) rfl ?_;exact ⟨GX.out,.inr ⟨⟨ty,⟨s1,s2,s3⟩,⟨t1,t2,t3⟩⟩,l,zs,rfl,rfl,HK.out,OD.out.base_le (by have:=g0.out.size;omega),⟨jbg OT.out.1 (by have:=g0.out.size;have:=G2.out.size;omega),OT.out.2⟩⟩⟩
theorem jrR (n:Nod) (u:Sl) (R0:R (Int×List Int)) (K:Int→List Int→R (List Int)→Prop) (w:World) (BC:∀ wx,w.grownBy wx none→Calls Tryz.prog 13 #[jaz n,.slice u.a u.n u.c,.func (.func 14) #[] #[]] wx (DoS wx R0 K)) :
    Calls Tryz.prog 8 #[jaz n,.slice u.a u.n u.c] w (DoS w R0 K):=by
     obtain ⟨w0,hw0⟩ : ∃ w0,w0=(w.alloc (.cells #[.string n.op,.string n.name,.slice n.iv.a n.iv.n n.iv.c,.string n.out,.slice n.av.a n.av.n n.av.c] 25)).alloc (.cells #[.int .i64 0,.slice none 0 0,.slice none 0 0] 32):=⟨_,rfl⟩
     have g0:Hid (w.grownBy w0 none):=by show w.grownBy w0 none;rw [hw0];exact jaa (jab _ _) (jab _ _)
     have hbx:=ja1 w (.cells #[.string n.op,.string n.name,.slice n.iv.a n.iv.n n.iv.c,.string n.out,.slice n.av.a n.av.n n.av.c] 25) (.cells #[.int .i64 0,.slice none 0 0,.slice none 0 0] 32);rw [← hw0] at hbx;have BX:Hid (∀ wx,w0.grownBy wx none→wx.heap[w.heap.size+1]?=some (.cells #[.int .i64 0,.slice none 0 0,.slice none 0 0] 32 (0,0))):=fun wx hg=>jaf hbx.2 hg;have Z0:Hid (w.heap.size+1<w0.heap.size):=(Array.getElem?_eq_some_iff.1 hbx.2).1;have N1:=jac (BC w0 g0.out);clear hbx BC;obtain ⟨op,nam,⟨ia,il,ic⟩,out,⟨ao,al,cap⟩⟩:=n;obtain ⟨ua,un,uc⟩:=u;unfold jaz at N1 ⊢;simp only at N1 hw0 ⊢;go_enter Tryz.func8,Tryz.ntmps8;go_wp2_with fail;rw [← hw0];clear hw0;refine N1.out.mono ?_;rintro e w3 ⟨hg3,hq⟩;have B3:=BX.out w3 hg3;have G3:=jac (jaa g0.out hg3);obtain ⟨f0,f1,f2⟩:=jaZ B3;have c0:w3.cell? ⟨w.heap.size+1,0,none⟩=some (.int .i64 0):=(cell_of_row _ _ 0 _ _ (0,0) B3).trans rfl;have c1:w3.cell? ⟨w.heap.size+1,1,none⟩=some (.slice none 0 0):=(cell_of_row _ _ 1 _ _ (0,0) B3).trans rfl;have c2:w3.cell? ⟨w.heap.size+1,2,none⟩=some (.slice none 0 0):=(cell_of_row _ _ 2 _ _ (0,0) B3).trans rfl
     rcases hq with ⟨c,hc0,rfl⟩ | ⟨⟨ty',⟨s1,s2,s3⟩,⟨t1,t2,t3⟩⟩,l,zs,hr,rfl,hK,hd,ht⟩
     ·have HC:=jac hc0;obtain ⟨hX,gX⟩:=jbp (.int .i64 0) (.slice none 0 0) (.slice none 0 0) B3;have HX:=jac hX;have GX:=jac (jaA G3.out gX (by omega));clear hX gX B3 hg3 hc0;go_wp2;refine bodyPost_ret (jcb rfl _ _ (w.heap.size+1) rfl HX.out) rfl ?_;exact ⟨GX.out,.inl ⟨c,HC.out,rfl⟩⟩
     ·simp only at hr hK hd ht;have HRR:=jac hr;have HK:=jac hK;obtain ⟨hX,gX⟩:=jbp (.int .i64 ty') (.slice s1 s2 s3) (.slice t1 t2 t3) B3;have HX:=jac hX;have GX:=jac (jaA G3.out gX (by omega));have OD:=jac (hd.more gX (jdH hd.1 Z0.out));have OT:=jac (ht.more gX (jdH ht.1 Z0.out));clear hX gX B3 hg3 hd ht hr hK;unfold jog;go_wp2;refine bodyPost_ret (jcb rfl _ _ (w.heap.size+1) rfl HX.out) rfl ?_;exact ⟨GX.out,.inr ⟨⟨ty',⟨s1,s2,s3⟩,⟨t1,t2,t3⟩⟩,l,zs,HRR.out,rfl,HK.out,OD.out.base_le (by have:=g0.out.size;omega),⟨jbg OT.out.1 (by have:=g0.out.size;omega),OT.out.2⟩⟩⟩
end Go.Proofs.YteigfipgmghgmaaGreatDoor
namespace Go.Proofs.YteigfipgmghgmaaGreatDoor
open Go.RowKit
theorem jfx {α:Type} {w w':World} {r:R α} {Q Q':α→Value→World→Prop} {e:Ending} (h:jaG w r Q e w') (hq:∀ a v,r=.ok a→Q a v w'→Q' a v w'):jaG w r Q' e w':=by
 cases r with
 | error c=>exact h
 | ok a =>
  obtain ⟨hg,v,he,hv⟩:=h;exact ⟨hg,v,he,hq a v rfl hv⟩
theorem jrS (w:World) (op out:ByteArray) (iv:Sl) (ins:List ByteArray) (hi:jdY w iv.v ins):NodeIn w ⟨op,⟨#[]⟩,iv,out,jgV⟩ ins [] [] :=
 ⟨hi,jaX.isL (te:=92) (base:=0) jdm (jaX.nil ..) (by simp),(fun j a h=>by simp at h),by simp,(fun a h=>by cases h)⟩
theorem jnN (w:World) (op out:ByteArray) (iv:Sl):NodeOk w ⟨op,⟨#[]⟩,iv,out,jgV⟩ ⟨op,[],[]⟩ :=
 ⟨rfl,jaX.isL (te:=92) (base:=0) jdm (jaX.nil ..) (by simp),(fun j a h=>by simp at h),(fun a h=>by cases h)⟩
def jjl (op:ByteArray) (t0 t1:Int) (x y:List Int):R (Int×List Int) :=
 (jeE t0).bind fun _=>(jaP x).bind fun _=>(jeE t1).bind fun _=>(jaP y).bind fun _=>(jaK [t0,t1]).bind fun t=>(jal (ja9 op.toList t)).bind fun _=>(jaE x y).bind fun d=>(jaP d).bind fun _=>.ok (t,d)
theorem jjm {α β γ:Type} (r:R α) (f:α→R β) (g:β→R γ):(r.bind f).bind g=r.bind fun a=>(f a).bind g:=by cases r <;> rfl
theorem jsG (op:ByteArray) (v0 v1:Val) (x y:List Int):jbw 0 true [(v0,x),(v1,y)] ((jaK (jaB [(v0,x),(v1,y)])).bind (fun t=>(jal (ja9 op.toList t)).bind (fun _=>.ok t))) (jaE x y) []=jjl op v0.ty v1.ty x y:=by
 unfold jbw jjl;simp only [jfL,jal,if_true,jeg,jaB,List.map_cons,List.map_nil,jdf,jjm]
 rfl
theorem jij {t:Int} (h:jeE t=.ok ()):jan t=true:=by
 unfold jeE at h
 by_cases hb:jan t=true
 ·exact hb
 ·rw [if_neg hb] at h
  cases h
theorem vin2 {v0 v1:Val} {x y:List Int} (h:jeg [(v0,x),(v1,y)]=.ok ()):∀ s∈jaB [(v0,x),(v1,y)],jan s=true:=by
 have h0:jeE v0.ty=.ok ()∧jeE v1.ty=.ok ():=by
  simp only [jeg] at h
  cases h1:jeE v0.ty with
  | error c=>rw [h1] at h;cases h
  | ok a =>
   rw [h1] at h;simp only [Except.bind] at h
   cases h2:jaP x with
   | error c=>rw [h2] at h;cases h
   | ok b =>
    rw [h2] at h;simp only at h
    cases h3:jeE v1.ty with
    | error c=>rw [h3] at h;cases h
    | ok c=>exact ⟨rfl,rfl⟩
 intro s hs;simp only [jaB,List.map_cons,List.map_nil,List.mem_cons,List.not_mem_nil,or_false] at hs
 rcases hs with rfl | rfl
 ·exact jij h0.1
 ·exact jij h0.2
theorem eout2 (op out:ByteArray) (iv:Sl) (i1 i2:ByteArray) (hop:op∈([⟨#[65,100,100]⟩,⟨#[68,105,118]⟩,⟨#[65,110,100]⟩,⟨#[79,114]⟩,⟨#[77,117,108]⟩]:List ByteArray)) (hck:jbx (jcl op) op [i1,i2] out [] []=0) (ho:out.size≤1048576) (u:Sl) (v0 v1:Val) (x y:List Int) (w:World) (hl:Laid w) (hi:jdY w iv.v [i1,i2]) (hv:ValsIn w u.v [(v0,x),(v1,y)]) :
    Calls Tryz.prog 27 #[jaz ⟨op,⟨#[]⟩,iv,out,jgV⟩,.slice u.a u.n u.c] w (jof out w (jjl op v0.ty v1.ty x y)):=by
     have hop9:op∈([⟨#[65,100,100]⟩,⟨#[83,117,98]⟩,⟨#[77,117,108]⟩,⟨#[68,105,118]⟩,⟨#[77,97,120]⟩,⟨#[77,105,110]⟩,⟨#[65,110,100]⟩,⟨#[79,114]⟩,⟨#[88,111,114]⟩]:List ByteArray):=by
      simp only [List.mem_cons,List.not_mem_nil,or_false] at hop ⊢
      rcases hop with h | h | h | h | h <;> simp [h]
     have hop12:op∈([⟨#[65,100,100]⟩,⟨#[83,117,98]⟩,⟨#[77,117,108]⟩,⟨#[68,105,118]⟩,⟨#[77,97,120]⟩,⟨#[77,105,110]⟩,⟨#[65,110,100]⟩,⟨#[79,114]⟩,⟨#[88,111,114]⟩,⟨#[69,113,117,97,108]⟩,⟨#[76,101,115,115]⟩,⟨#[71,114,101,97,116,101,114]⟩]:List ByteArray):=by
      simp only [List.mem_cons,List.not_mem_nil,or_false] at hop ⊢
      rcases hop with h | h | h | h | h <;> simp [h]
     refine jna ⟨op,⟨#[]⟩,iv,out,jgV⟩ u _ w fun wx hx=>?_
     have key:=jfg ⟨op,⟨#[]⟩,iv,out,jgV⟩ ⟨op,[],[]⟩ [i1,i2] u [(v0,x),(v1,y)] wx (hl.more hx) (jrS wx op out iv _ (hi.more hx)) (hv.more hx) (by show out.size≤_;omega) _ _ (fun hc hll hin wy hy=>((jjO ⟨op,⟨#[]⟩,iv,out,jgV⟩ ⟨op,[],[]⟩ u [(v0,x),(v1,y)] wy hop9 (jnN wy op out iv) (hv.more (jaa hx hy)) rfl (by simp) (vin2 hin)).mono fun e w' he=>jfx he fun t v e1 e2=>⟨e2,by
      simp only [jaB,List.map_cons,List.map_nil,jaK] at e1;have ht:=vin2 hin v0.ty (by simp [jaB])
      by_cases hb:([v1.ty].all fun s=>s==v0.ty)=true
      ·rw [if_pos hb] at e1;simp only [Except.bind,jal] at e1
       split at e1
       ·cases e1
       ·rename_i a h1;have:v0.ty=t:=by simpa using e1
        rw [← this];exact ht
      ·rw [if_neg hb] at e1
       cases e1⟩)) (fun hc hll hin wy hy=>jjP ⟨op,⟨#[]⟩,iv,out,jgV⟩ ⟨op,[],[]⟩ u v0 v1 x y wy hop12 (jnN wy op out iv) (hv.more (jaa hx hy)))
     rw [show jbx (jcl (Nod.op ⟨op,⟨#[]⟩,iv,out,jgV⟩)) (Nod.op ⟨op,⟨#[]⟩,iv,out,jgV⟩) [i1,i2] (Nod.out ⟨op,⟨#[]⟩,iv,out,jgV⟩) (At.xs ⟨op,[],[]⟩) (At.cs ⟨op,[],[]⟩)=0 from hck] at key;have e:=jsG op v0 v1 x y;refine key.mono fun e' w' he=>?_;rw [← e];exact jfx he fun r v _ e2=>e2
end Go.Proofs.YteigfipgmghgmaaGreatDoor
namespace Go.Proofs.YteigfipgmghgmaaGreatDoor
open Go.RowKit
theorem jnO {ds ts l:List Int} (h:asE ds ts l=0):(asL ds ts l).length=(jaR l).toNat∧(jaR l).toNat≤65536:=by
 have h0:=h;unfold asE at h
 by_cases h1:ja7 ds≠0
 ·rw [if_pos h1] at h;exact absurd h h1
 rw [if_neg h1] at h
 by_cases h2:bcE ds l≠0
 ·rw [if_pos h2] at h;exact absurd h h2
 rw [if_neg h2] at h
 by_cases h3:bcR ds l=l
 ·rw [if_pos h3] at h;unfold asL;rw [if_pos h0];unfold Vw.rdE at h
  by_cases h4:Vw.rdOk 0 l (Vw.spr ds (jdz ds) l) ts=true
  ·have hm : Vw.mayB 0 l (Vw.spr ds (jdz ds) l) = true := by
     unfold Vw.rdOk at h4;exact (Bool.and_eq_true_iff.1 h4).1
   have hm:=Vw.mayB_iff.1 hm;unfold Vw.rdL;rw [if_pos h4];unfold Vw.shows;rw [List.length_map,Vw.plc_length _ _ _ hm.len hm.fine.pos];exact ⟨rfl,by have:=hm.fine.le;omega⟩
  ·rw [if_neg h4] at h;omega
 ·rw [if_neg h3] at h;omega
def Nz {α:Type} (r:R α):Prop:=∀ c,r=.error c→c≠0
theorem Nz.bind {α β:Type} {r:R α} {f:α→R β} (h:Nz r) (k:∀ a,r=.ok a→Nz (f a)):Nz (r.bind f):=by
 cases r with
 | error c=>intro d hd;exact h d (by cases hd;rfl)
 | ok a=>exact k a rfl
theorem jaI {α β:Type} {r:R α} {f:α→R β} {b:β} (h:r.bind f=.ok b):∃ a,r=.ok a∧f a=.ok b:=by
 cases r with
 | error c=>cases h
 | ok a=>exact ⟨a,rfl,h⟩
theorem jg2 {b:Bool} {a:Unit} (h:jal b=.ok a):b=true:=by
 unfold jal at h
 split at h
 ·assumption
 ·cases h
theorem jg8 {x:List Int} {n:Int} (h:jaP x=.ok n):ja7 x=0:=by
 unfold jaP at h
 split at h
 ·assumption
 ·cases h
theorem jrT {t0 t1 t:Int} (h:jaK [t0,t1]=.ok t):t1=t0∧t=t0:=by
 simp only [jaK,List.all_cons,List.all_nil,Bool.and_true,beq_iff_eq] at h
 split at h
 ·rename_i h1;cases h;exact ⟨h1,rfl⟩
 ·cases h
theorem jpM {op:ByteArray} {t0 t1 t:Int} {x y d:List Int} (h:jjl op t0 t1 x y=.ok (t,d)):t=t0∧t1=t0∧ja9 op.toList t0=true∧ja7 x=0∧ja7 y=0∧jaE x y=.ok d∧ja7 d=0:=by
 unfold jjl at h;obtain ⟨_,-,h⟩:=jaI h;obtain ⟨_,hx,h⟩:=jaI h;obtain ⟨_,-,h⟩:=jaI h;obtain ⟨_,hy,h⟩:=jaI h;obtain ⟨t',ht,h⟩:=jaI h;obtain ⟨_,hm,h⟩:=jaI h;obtain ⟨d',hd,h⟩:=jaI h;obtain ⟨_,hc,h⟩:=jaI h
 cases h
 obtain ⟨e1,e2⟩:=jrT ht;subst e2;exact ⟨rfl,e1,jg2 hm,jg8 hx,jg8 hy,hd,jg8 hc⟩
theorem jjT {ps:List (Ten×Tq)} {r:R (Int×List Int)} {a:Int×List Int} (h:jd6 ps r=.ok a):ps.all okT=true∧r=.ok a:=by
 unfold jd6 at h
 split at h
 ·rename_i h1;exact ⟨h1,h⟩
 ·cases h
theorem jsH {α:Type} (a:α):Nz (Except.ok a:R α):=fun c h=>by cases h
theorem jqt (t:Int):Nz (jeE t):=by
 intro c h;unfold jeE at h
 split at h
 ·cases h
 ·cases h;omega
theorem jrU (b:Bool):Nz (jal b):=by
 intro c h;unfold jal at h
 split at h
 ·cases h
 ·cases h;omega
theorem jg9 (x:List Int):Nz (jaP x):=by
 intro c h;unfold jaP at h
 split at h
 ·cases h
 ·rename_i h1;cases h;exact h1
theorem jnP (x y:List Int):Nz (jaE x y):=by
 intro c h;unfold jaE at h
 split at h
 ·cases h
 ·rename_i h1;cases h;exact h1
theorem jrV (t0 t1:Int):Nz (jaK [t0,t1]):=by
 intro c h;simp only [jaK] at h
 split at h
 ·cases h
 ·cases h;omega
theorem jrW (op:ByteArray) (t0 t1:Int) (x y:List Int):Nz (jjl op t0 t1 x y) :=
 (jqt _).bind fun _ _=>(jg9 _).bind fun _ _=>(jqt _).bind fun _ _=>(jg9 _).bind fun _ _=>(jrV _ _).bind fun _ _=>(jrU _).bind fun _ _=>(jnP _ _).bind fun _ _=>(jg9 _).bind fun _ _=>jsH _
theorem jnQ {ps:List (Ten×Tq)} {r:R (Int×List Int)} (h:Nz r):Nz (jd6 ps r):=by
 unfold jd6
 split
 ·exact h
 ·intro c hc;cases hc;omega
theorem jsI (F:List Int→Int×Int) (cs:List (List Int)):∀ (m k:Nat),Nz (evL F cs k m)
 | 0,_=>jsH _
 | m+1,k=>by
  intro c h;simp only [evL] at h
  split at h
  ·cases he:evL F cs (k+1) m with
   | error d=>rw [he] at h;cases h;exact jsI F cs m (k+1) _ he
   | ok a=>rw [he] at h;cases h
  ·rename_i h1;cases h;exact h1
theorem jik {l:List Int} : ∀ {ps:List (Ten×Tq)},ps.all (jeB l)=false→jfw l ps≠0
 | [],h=>by simp at h
 | p::ps,h=>by
  unfold jfw
  by_cases hp:jeB l p=true
  ·rw [if_pos hp];exact jik (by simpa [hp] using h)
  ·rw [if_neg hp];simpa [jeB] using hp
theorem jrX (F:List Int→Int×Int) (ps:List (Ten×Tq)) (l:List Int) (N:Nat):Nz (jg7 F ps l N):=by
 unfold jg7
 split
 ·exact jsI _ _ _ _
 ·rename_i h;intro c hc
  cases hc
  exact jik (by simpa using h)
def F2 (k:Nat) (t:Int) (xs:List Int):Int×Int:=Nu.bin k t (xs.getD 0 0) (xs.getD 1 0)
def F1 (k:Nat) (t:Int) (xs:List Int):Int×Int:=Nu.un k t (xs.getD 0 0)
def tq (t:Int) (x xs:List Int):Ten×Tq:=(⟨t,jgV,jgV⟩,(x,xs))
def el2 (op:ByteArray) (k:Nat) (t0 t1:Int) (x y xs ys:List Int):R (Int×List Int×List Int) :=
 doR (jd6 [tq t0 x xs,tq t1 y ys] (jjl op t0 t1 x y)) fun l=>jg7 (F2 k t0) [tq t0 x xs,tq t1 y ys] l (jaR l).toNat
def jnR (op:ByteArray) (k:Nat):Prop:=∀ (n:Nod) (_:n.op=op) (p1 p2 B:Nat) (ub uo un uc:Nat) (ty x y:Int) (w:World) (_:BoxN w p1 n) (_:BoxT w p2 ⟨some ⟨ub,uo,none⟩,un,uc⟩) (_:0<un) (_:w.cell? ⟨ub,uo,none⟩=some (.int .i64 ty)) (_:w.cell? ⟨B,0,none⟩=some (.int .i64 x)) (_:w.cell? ⟨B,1,none⟩=some (.int .i64 y)),
    Calls Tryz.prog 30 #[.slice (some ⟨B,0,none⟩) 2 2,.pointer (some ⟨p1,0,none⟩),.pointer (some ⟨p2,0,none⟩)] w fun e w'=>e=.returned (.tuple #[.int .i64 (Nu.bin k ty x y).1,.int .i64 (Nu.bin k ty x y).2])∧∃ q,w'=w.drewN q
theorem jpN {vs:List (Val×List Int)} {t0 t1:Int} {x y:List Int} (h1:vs.map (·.1.ty)=[t0,t1]) (h2:vs.map (·.2)=[x,y]):∃ v0 v1:Val,vs=[(v0,x),(v1,y)]∧v0.ty=t0∧v1.ty=t1:=by
 match vs,h1,h2 with
 | [(v0,a),(v1,b)],h1,h2 =>
  simp only [List.map_cons,List.map_nil,List.cons.injEq,and_true] at h1 h2;obtain ⟨rfl,rfl⟩:=h1;obtain ⟨rfl,rfl⟩:=h2;exact ⟨v0,v1,rfl,rfl,rfl⟩
theorem jsJ (op out:ByteArray) (iv:Sl) (i1 i2:ByteArray) (k:Nat) (hop:op∈([⟨#[65,100,100]⟩,⟨#[68,105,118]⟩,⟨#[65,110,100]⟩,⟨#[79,114]⟩,⟨#[77,117,108]⟩]:List ByteArray)) (WK:jnR op k) (hck:jbx (jcl op) op [i1,i2] out [] []=0) (ho:out.size≤1048576) (u:Sl) (T0 T1:Ten) (x y xs ys:List Int) (w:World) (hl:Laid w) (hi:jdY w iv.v [i1,i2]) (hv:TensIn w u.v [(T0,(x,xs)),(T1,(y,ys))]) (hF:∀ a b,-9223372036854775808≤(Nu.bin k T0.ty a b).1∧(Nu.bin k T0.ty a b).1≤9223372036854775807) :
    Calls Tryz.prog 8 #[jaz ⟨op,⟨#[]⟩,iv,out,jgV⟩,.slice u.a u.n u.c] w (DoQ w (el2 op k T0.ty T1.ty x y xs ys)):=by
     refine jrO _ u _ w fun wx hx=>jrN _ u _ _ wx (jnQ (jrW _ _ _ _ _)) (fun l=>jrX _ _ _ _) (fun wy hy=>?_) (fun wy ty dv l hy hr hd=>?_)
     ·refine jhX ⟨op,⟨#[]⟩,iv,out,jgV⟩ u [(T0,(x,xs)),(T1,(y,ys))] _ wy (hv.more (jaa hx hy)) (by simp) fun wz s vs hz hvs h1 h2=>?_;obtain ⟨v0,v1,rfl,e0,e1⟩:=jpN h1 h2;have key:=eout2 op out iv i1 i2 hop hck ho s v0 v1 x y wz (hl.more (jaa (jaa hx hy) hz)) (hi.more (jaa (jaa hx hy) hz)) hvs;rw [e0,e1] at key;exact key
     ·have hvy:=hv.more (jaa hx hy);refine jpK ⟨op,⟨#[]⟩,iv,out,jgV⟩ (sub12 hop) u [(T0,(x,xs)),(T1,(y,ys))] _ ty dv l (F2 k T0.ty) (jaR l).toNat wy hvy (by simp) (by simp) hd ?_ (fun p hp ha=>(jnO (by simpa [jeB] using ha)).1) (fun zs=>hF _ _) fun wz p1 p2 B zs hz hb1 hb2 hzl hzi=>?_
      ·have:=(jcx (jpM (jjT hr).2).2.2.2.2.2.2).le;omega
      ·obtain ⟨ua,un,uc⟩:=u;obtain ⟨ub,uo,rfl⟩:=hvy.vals.addr (k:=0) (by simp);obtain ⟨xa,xc,e1,-⟩:=hvy.vals.form;simp only [Sl.v,List.map_cons,List.map_nil,List.length_cons,List.length_nil,Value.slice.injEq] at e1;obtain ⟨-,rfl,-⟩:=e1;obtain ⟨c0,-,-⟩:=(hvy.more hz).at 0 (by simp);obtain ⟨zb,zo,ez,hc⟩:=hzi.get (k:=0) (by simp at hzl;omega)
       cases ez
       have d0:=hc 0 (by simp at hzl;omega);have d1:=hc 1 (by simp at hzl;omega);exact WK ⟨op,⟨#[]⟩,iv,out,jgV⟩ rfl p1 p2 B ub uo _ uc T0.ty (zs.getD 0 0) (zs.getD 1 0) wz hb1 hb2 (by omega) (by simpa using c0) (by simpa using d0) (by simpa using d1)
def Work1 (op:ByteArray) (k:Nat):Prop:=∀ (n:Nod) (_:n.op=op) (p1 p2 B:Nat) (ub uo un uc:Nat) (ty x:Int) (w:World) (_:BoxN w p1 n) (_:BoxT w p2 ⟨some ⟨ub,uo,none⟩,un,uc⟩) (_:0<un) (_:w.cell? ⟨ub,uo,none⟩=some (.int .i64 ty)) (_:w.cell? ⟨B,0,none⟩=some (.int .i64 x)),
    Calls Tryz.prog 28 #[.slice (some ⟨B,0,none⟩) 1 1,.pointer (some ⟨p1,0,none⟩),.pointer (some ⟨p2,0,none⟩)] w fun e w'=>e=.returned (.tuple #[.int .i64 (Nu.un k ty x).1,.int .i64 (Nu.un k ty x).2])∧∃ q,w'=w.drewN q
end Go.Proofs.YteigfipgmghgmaaGreatDoor
namespace Go.Proofs.YteigfipgmghgmaaGreatDoor
open Go.RowKit
def bit (z:Int):Prop:=z=0∨z=1
theorem jo0 {z:Int} : chk 9 z=true↔bit z:=by
 unfold chk bit;simp
end Go.Proofs.YteigfipgmghgmaaGreatDoor
namespace Go.Proofs.YteigfipgmghgmaaGreatDoor
open Go.RowKit
theorem jqu (n:Int) : -9223372036854775808≤wrap64 n∧wrap64 n≤9223372036854775807:=by
 unfold wrap64;omega
theorem add6 (a b:Int) : -9223372036854775808≤(Nu.bin 0 6 a b).1∧(Nu.bin 0 6 a b).1≤9223372036854775807:=by
 unfold Nu.bin
 split
 ·exact jqu _
 ·simp
theorem div6 (a b:Int) : -9223372036854775808≤(Nu.bin 3 6 a b).1∧(Nu.bin 3 6 a b).1≤9223372036854775807:=by
 unfold Nu.bin
 split
 ·show _∧_
  by_cases hb:b=0
  ·simp [Nu.binIn,hb]
  ·simp only [Nu.binIn,hb,if_false];exact jqu _
 ·simp
theorem wAdd:jnR ⟨#[65,100,100]⟩ 0:=fun n hop p1 p2 B ub uo un uc ty x y w hn hi hun ht hx hy=>jnH n hop p1 p2 B ub uo un uc ty x y w hn hi hun ht hx hy
theorem wDiv:jnR ⟨#[68,105,118]⟩ 3:=fun n hop p1 p2 B ub uo un uc ty x y w hn hi hun ht hx hy=>jnI n hop p1 p2 B ub uo un uc ty x y w hn hi hun ht hx hy
theorem wAnd:jnR ⟨#[65,110,100]⟩ 6:=fun n hop p1 p2 B ub uo un uc ty x y w hn hi hun ht hx hy=>jnJ n hop p1 p2 B ub uo un uc ty x y w hn hi hun ht hx hy
theorem wOr:jnR ⟨#[79,114]⟩ 7:=fun n hop p1 p2 B ub uo un uc ty x y w hn hi hun ht hx hy=>jpJ n hop p1 p2 B ub uo un uc ty x y w hn hi hun ht hx hy
theorem wNot:Work1 ⟨#[78,111,116]⟩ 3:=fun n hop p1 p2 B ub uo un uc ty x w hn hi hun ht hx=>jnK n hop p1 p2 B ub uo un uc ty x w hn hi hun ht hx
theorem jpO:el2 ⟨#[65,100,100]⟩ 0 6 6 [1,3] [2,1] [1,2,3] [10,0]=.ok (6,[2,3],[11,12,13,1,2,3]):=by kernel_rfl
theorem jpP:el2 ⟨#[68,105,118]⟩ 3 6 6 [1,3] [2,1] [1,2,3] [10,0]=.error 7:=by kernel_rfl
theorem jdu {w:World} {B te:Nat} {zs:List Int} (h:w.heap[B]?=some (.cells (zs.map (Value.int .i64)).toArray te (0,0))) (hl:zs.length≤1000) (hz:∀ z∈zs,-1000≤z∧z≤1000):IsInts w (.slice (some ⟨B,0,none⟩) zs.length zs.length) zs:=by
 refine ⟨_,_,rfl,Nat.le_refl _,by omega,by omega,(fun h=>by cases h),fun _=>⟨B,0,rfl,fun t ht=>?_⟩,fun z h=>by have:=hz z h;omega⟩;rw [Nat.zero_add,cell_of_row _ _ t _ _ (0,0) h];simp [List.getD,ht]
theorem jpQ {w:World} {B:Nat} {cur:Array Value} {ps:List (Ten×Tq)} (h:w.heap[B]?=some (.cells cur 32 (0,0))) (hc:cur.toList=(ps.map (·.1)).flatMap jhW) (hs:cur.size=ps.length*3) (hl:ps.length≤1000) (hh:∀ p∈ps,IsInts w p.1.dv.v p.2.1∧IsInts w p.1.tv.v p.2.2):TensIn w (.slice (some ⟨B,0,none⟩) ps.length ps.length) ps:=by
 refine ⟨?_,hh⟩;have e:ps.length=(ps.map (·.1)).length:=by rw [List.length_map]
 rw [e];exact jgW (te:=32) (bytes:=56) jgj h hc (by rw [hs,e]) (by rw [← e];omega) (by rw [← e];omega)
end Go.Proofs.YteigfipgmghgmaaGreatDoor
