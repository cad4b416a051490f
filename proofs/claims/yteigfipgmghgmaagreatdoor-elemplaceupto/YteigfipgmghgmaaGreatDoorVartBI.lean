/- A part. -/
import Derived.Test.YteigfipgmghgmaaGreatDoorVartBG
import Derived.Test.YteigfipgmghgmaaGreatDoorVartBH
import Derived.Test.YteigfipgmghgmaaGreatDoorVartAV
import Derived.Test.YteigfipgmghgmaaGreatDoorVartAU
import Derived.Test.YteigfipgmghgmaaGreatDoorVartAW
import Derived.Test.YteigfipgmghgmaaGreatDoorVartAT
import Derived.Test.YteigfipgmghgmaaGreatDoorVartBC
import Derived.Test.YteigfipgmghgmaaGreatDoorVartAB
set_option maxHeartbeats 8000000
set_option maxRecDepth 100000
namespace Go.Proofs.YteigfipgmghgmaaGreatDoor
open Go.RowKit
def evL (F:List Int→Int×Int) (cs:List (List Int)):Nat→Nat→R (List Int)
 | _,0=>.ok []
 | k,m+1=>if (F (cs.map (·.getD k 0))).2=0 then (evL F cs (k+1) m).map ((F (cs.map (·.getD k 0))).1::·) else .error (F (cs.map (·.getD k 0))).2
theorem jpn (F:List Int→Int×Int) (cols:List (Sl×List Int)):∀ (m k:Nat),evE F cols k m=evL F (cols.map (·.2)) k m
 | 0,_=>rfl
 | m+1,k=>by
  have h:jc0 cols k=(cols.map (·.2)).map (·.getD k 0):=by unfold jc0;rw [List.map_map];rfl
  simp only [evE,evL,h,jpn F cols m (k+1)]
def jjr (l:List Int) (p:Ten×Tq):List Int:=asL p.2.1 p.2.2 l
def jgl (l:List Int) (p:Ten×Tq):Bool:=asE p.2.1 p.2.2 l==0
def jgf (l:List Int):List (Ten×Tq)→Int
 | []=>0
 | p::ps=>if jgl l p=true then jgf l ps else asE p.2.1 p.2.2 l
def jcz (F:List Int→Int×Int) (ps:List (Ten×Tq)) (l:List Int) (N:Nat):R (List Int):=if ps.all (jgl l)=true then evL F (ps.map (jjr l)) 0 N else .error (jgf l ps)
theorem jjs {l:List Int} : ∀ {ps:List (Ten×Tq)} {k:Nat} (hk:k<ps.length),(ps.take k).all (jgl l)=true→jgl l ps[k]=false→jgf l ps=asE ps[k].2.1 ps[k].2.2 l∧ps.all (jgl l)=false
 | [],k,hk,_,_=>by simp at hk
 | p::ps,0,_,_,h=>by
  simp only [List.getElem_cons_zero] at h ⊢;simp [jgf,h]
 | p::ps,k+1,hk,ha,h=>by
  simp only [List.take_succ_cons,List.all_cons,Bool.and_eq_true] at ha;simp only [List.getElem_cons_succ] at h ⊢;obtain ⟨h1,h2⟩:=jjs (by simpa using hk) ha.2 h;simp [jgf,ha.1,h1,h2]
theorem jmJ (s:Sl):∀ u∈jdL s,u.oneCell'=true:=by
 intro u hu;simp only [jdL,List.mem_cons,List.not_mem_nil,or_false] at hu
 rcases hu with rfl
 rfl
theorem jry:(Tryz.prog.info? 30).map (fun i=>(i.zero,i.size,i.bytes))=some (some (.slice none 0 0),1,24):=by kernel_rfl
theorem jlo {w:World} {b1 b2 t1 t2 s1 s2 n1 n2:Nat} {v1 v2:Value} {c1 c2:List Value} (h1:w.ownsRow b1 t1 s1 v1 n1 c1) (h2:w.ownsRow b2 t2 s2 v2 n2 c2) (ht:t1≠t2):v1.ownBlock=none∨v1.ownBlock≠v2.ownBlock:=by
 rcases h1.2 with ⟨e,-⟩ | ⟨g,cap,cur,e,-,hg,-⟩
 ·exact .inl (by rw [e];rfl)
 ·rcases h2.2 with ⟨e',-⟩ | ⟨g',cap',cur',e',-,hg',-⟩
  ·exact .inr (by rw [e,e'];simp [Value.ownBlock])
  ·refine .inr ?_;rw [e,e'];simp only [Value.ownBlock,ne_eq,Option.some.injEq];rintro rfl;rw [hg] at hg';simp only [Option.some.injEq,Obj.cells.injEq] at hg';exact ht hg'.2.1
end Go.Proofs.YteigfipgmghgmaaGreatDoor
namespace Go.Proofs.YteigfipgmghgmaaGreatDoor
open Go.RowKit
def jtK (F:List Int→Int×Int) (m:Nat) (w:World) (e:Ending) (w':World):Prop:=∃ (fn:Nat) (cap:Array Value),e=.returned (.func (.func fn) #[] cap)∧w.grownBy w' none∧(∀ (args:Array Value) (wx:World),(callFunc fn args).run Tryz.prog wx=.ok (.enter fn args) wx)∧∀ (wy:World) (B:Nat) (xs:List Int),w'.grownBy wy none→xs.length=m→IsInts wy (.slice (some ⟨B,0,none⟩) m m) xs→Calls Tryz.prog fn (#[.slice (some ⟨B,0,none⟩) m m]++cap) wy (CloX F xs wy)
theorem jrz (n : Nod) (u : Sl) (ps : List (Ten × Tq)) (nam0 : ByteArray) (vty : Int) (dv : Sl) (l : List Int) (F : List Int → Int × Int) (N : Nat) (w : World) (hv : TensIn w u.v ps) (hp0 : 0 < ps.length) (hp1 : ps.length ≤ 1000) (hd : IsInts w dv.v l) (hN : N ≤ 65536) (hL : ∀ p ∈ ps, jgl l p = true → (jjr l p).length = N)
    (WO:∀ wx,w.grownBy wx none→Calls Tryz.prog 21 #[jaz n,.slice u.a u.n u.c,.agg #[.string nam0,.int .i64 vty,.slice dv.a dv.n dv.c]] wx (jtK F ps.length wx)) :
    Calls Tryz.prog 14 #[jaz n,.slice u.a u.n u.c,.agg #[.string nam0,.int .i64 vty,.slice dv.a dv.n dv.c]] w (EvQ w (jcz F ps l N)):=by
     obtain ⟨i0,hi,hz0,hz1,hz2⟩:=info_parts jry;obtain ⟨xa,xc,e1,p1,p2,p3⟩:=hv.vals.form;rw [List.length_map] at e1 p1 p3;obtain ⟨ua,un,uc⟩:=u;simp only [Sl.v,Value.slice.injEq] at e1;obtain ⟨rfl,rfl,rfl⟩:=e1;have HV:=jac hv;have HD:=jac hd;have HLN:=jac hL;have HWO:=jac WO;clear hv hd hL WO;obtain ⟨w0,hw0⟩ : ∃ w0,w0=(w.alloc (.cells #[.string n.op,.string n.name,.slice n.iv.a n.iv.n n.iv.c,.string n.out,.slice n.av.a n.av.n n.av.c] 25)).alloc (.cells #[.string nam0,.int .i64 vty,.slice dv.a dv.n dv.c] 53):=⟨_,rfl⟩
     have g0:Hid (w.grownBy w0 none):=by show w.grownBy w0 none;rw [hw0];exact jaa (jab _ _) (jab _ _)
     have hbx:=jbi w (.cells #[.string n.op,.string n.name,.slice n.iv.a n.iv.n n.iv.c,.string n.out,.slice n.av.a n.av.n n.av.c] 25) (.cells #[.string nam0,.int .i64 vty,.slice dv.a dv.n dv.c] 53);rw [← hw0] at hbx;have BX:Hid (∀ wx,w0.grownBy wx none→wx.heap[w.heap.size+1]?=some (.cells #[.string nam0,.int .i64 vty,.slice dv.a dv.n dv.c] 53 (0,0))):=fun wx hg=>jag hbx.2 hg;have WO:=jac (HWO.out w0 g0.out);clear hbx HWO;obtain ⟨dva,dvn,dvc⟩:=dv;obtain ⟨op,nam,⟨ia,il,ic⟩,out,⟨ao,al,cap⟩⟩:=n;unfold jaz at WO ⊢;simp only at WO BX hw0 ⊢;go_enter Tryz.func14,Tryz.ntmps14;go_wp2_with fail;rw [← hw0];clear hw0;refine WO.out.mono ?_;rintro e w1 ⟨fn,cap,rfl,hg1,hcf,hcl0⟩;have HCF:=jac hcf;have G1:=jac hg1;have HCLO:=jac hcl0;clear hg1 hcl0 hcf;have hbo:∀ wx,(binOp .eql 58 (.func (.func fn) #[] cap) .nilFunc).run Tryz.prog wx=.ok (.bool false) wx:=fun wx=>by rfl
     go_wp2_with fail;go_loopw [9,22] (fun v i wr=>w1.grownBy wr none∧∃ (k:Nat) (va:Option Addr) (vc:Nat) (cols:List (Sl×List Int)),k≤ps.length∧i=.int .i64 k∧v=.slice va k vc∧cols.length=k∧cols.map (·.2)=(ps.take k).map (jjr l)∧(ps.take k).all (jgl l)=true∧jaW 30 1 jdL wr w1.heap.size (.slice va k vc) (cols.map (·.1))∧∀ c∈cols,jbW wr w1.heap.size c.1.v c.2) (fun _ i _=>ps.length - (intOf i).toNat)
     case atStart=>exact ⟨jad _,0,none,0,[],Nat.zero_le _,rfl,rfl,rfl,rfl,rfl,jaW.nil ..,fun c hc=>by simp at hc⟩
     case round =>
      obtain ⟨hg,k,va,vc,cols,hk,rfl,rfl,hcl,hcm,hall,hown,hin⟩:=hrel;have HG:=jac hg;have HO:=jac hown;have HAL:=jac hall;have HCL:=jac hcl;have HCM:=jac hcm;have HIN:=jac hin;clear hown hall hcl hcm hin;have gw:=jac (jaa g0.out (jaa G1.out hg))
      by_cases hlt:k<ps.length
      ·obtain ⟨b,off,rfl⟩:=HV.out.vals.addr (k:=k) (by rw [List.length_map];exact hlt);obtain ⟨a0,a1,a2⟩:=(HV.out.more gw.out).at k hlt;have HH:=jac (HV.out.has ps[k] (List.getElem_mem hlt))
       have HT:Hid ((ps.take (k+1)).all (jgl l)=((ps.take k).all (jgl l)&&jgl l ps[k])):=by
        show _=_;rw [List.take_add_one,List.all_append,List.getElem?_eq_getElem hlt];simp
       have HM:Hid ((ps.take (k+1)).map (jjr l)=(ps.take k).map (jjr l)++[jjr l ps[k]]):=by
        show _=_;rw [List.take_add_one,List.map_append,List.getElem?_eq_getElem hlt]
        rfl
       have HBAD:Hid (jgl l ps[k]=false→jcz F ps l N=.error (asE ps[k].2.1 ps[k].2.2 l)):=fun h=>by
        obtain ⟨h1,h2⟩:=jjs hlt HAL.out h;unfold jcz;rw [if_neg (by simp [h2]),h1]
       obtain ⟨p,hp⟩ : ∃ p,p=ps[k]:=⟨_,rfl⟩
       rw [← hp] at a0 a1 a2 HH HT HM HBAD;obtain ⟨⟨ty,⟨da,dn,dc⟩,⟨ta,tn,tc⟩⟩,⟨ds,ts⟩⟩:=p;simp only at a0 a1 a2 HH HBAD;obtain ⟨w2,hw2⟩ : ∃ w2,w2=wr.alloc (.cells #[.int .i64 ty,.slice da dn dc,.slice ta tn tc] 32):=⟨_,rfl⟩
       have g2:Hid (wr.grownBy w2 none):=by show wr.grownBy w2 none;rw [hw2];exact jab _ _
       have B2:=BX.out w2 (jaa (jaa G1.out hg) g2.out);have v2:w2.cell? ⟨w.heap.size+1,2,none⟩=some (.slice dva dvn dvc):=(cell_of_row _ _ 2 _ _ (0,0) B2).trans rfl;rw [hw2] at v2;have AS:=jac (juW ⟨ty,⟨da,dn,dc⟩,⟨ta,tn,tc⟩⟩ ds ts l ⟨dva,dvn,dvc⟩ w2 ((HH.out.1.more gw.out).more g2.out) ((HH.out.2.more gw.out).more g2.out) ((HD.out.more gw.out).more g2.out));unfold jpY at AS;simp only at AS;clear B2 hp hg;go_wp2_with fail;rw [← hw2];clear hw2 a0 a1 a2 v2;refine AS.out.mono ?_;rintro e w3 ⟨⟨sa,sn,sc⟩,rfl,ho3,hg3⟩;have G3:=jac (jaa (jaa HG.out g2.out) hg3);have I3:=jac (jbW.ints (w:=w3) (base:=w2.heap.size) ho3);have hsz:w1.heap.size≤w3.heap.size:=G3.out.size
       by_cases hok:asE ds ts l=0
       ·have bo:(asE ds ts l != 0)=false:=by simp [hok]
        have HOK:=jac hok;have KL:Hid ((cols.map (·.1)).length=k):=by show _=_;rw [List.length_map];exact HCL.out
        have OW:Hid (∀ o,(w3.alloc o).ownsRow w1.heap.size 30 1 (.slice va k vc) k ((cols.map (·.1)).flatMap jdL)):=fun o=>jdJ ((HO.out.more (jaa g2.out hg3)).more (jab _ _)) KL.out;have GI:=jac (jaa g2.out hg3)
        have HS:Hid (∀ c∈cols++[((⟨sa,sn,sc⟩ : Sl),asL ds ts l)],jbW (w3.alloc (.cells #[.slice sa sn sc] 30)) w1.heap.size c.1.v c.2):=fun c hc=>by
         rcases List.mem_append.1 hc with hc | hc
         ·exact (HIN.out c hc).more (jaa GI.out (jab _ _)) (by cases c.1.v.ownBlock <;> simp)
         ·obtain rfl:=List.mem_singleton.1 hc;exact jbW.more (w:=w3) ⟨jcr ho3.1 (by have:=HG.out.size;have:=g2.out.size;omega),ho3.2⟩ (jab _ _) (by cases (Sl.v ⟨sa,sn,sc⟩).ownBlock <;> simp)
        clear hok ho3 hg3 AS;go_wp2_with (at_builtin;refine wpList_append_lies _ rfl (.tmp 36) (.tmp 38) 60 rfl w1.heap.size 30 i0 (.slice none 0 0) 1 24 Tryz.underlying60 hi hz0 hz1 hz2 rfl (by decide) (.slice va k vc) k ((cols.map (·.1)).flatMap jdL) rfl (by exact OW.out _) ⟨w3.heap.size,0,none⟩ 1 1 (jdL ⟨sa,sn,sc⟩) rfl rfl (by exact World.news_of_block (by have h:=heap_alloc_new w3 (.cells #[.slice sa sn sc] 30);simpa using h)) (jmJ _) (by omega) (by simp only [maxLen];omega) (by omega) (by simp;omega) (w3.heap.size+1) (by simp) ?_;intro gg cap8 w8 hown8 hgrow hat hlt8)
        have ST:Hid (w1.grownBy w8 none∧jaW 30 1 jdL w8 w1.heap.size (.slice (some ⟨gg,0,none⟩) (k+1) cap8) ((cols++[((⟨sa,sn,sc⟩ : Sl),asL ds ts l)]).map (fun c=>c.1))∧(ps.take (k+1)).all (jgl l)=true∧(cols++[((⟨sa,sn,sc⟩ : Sl),asL ds ts l)]).map (fun c=>c.2)=(ps.take (k+1)).map (jjr l)∧∀ c∈cols++[((⟨sa,sn,sc⟩ : Sl),asL ds ts l)],jbW w8 w1.heap.size c.1.v c.2):=⟨jan (jaa G3.out (jab _ _)) hgrow (fun r e=>(World.ownsRow.lt HO.out r e).1),by rw [List.map_append];exact jdK KL.out hown8,by rw [HT.out,HAL.out];simp [jgl,HOK.out],by rw [HM.out,List.map_append,HCM.out];rfl,fun c hc=>by
         have h9:=HS.out c hc;exact ⟨h9.1.kept hgrow (jlo h9.1 (OW.out _) (by decide)),h9.2⟩⟩
        clear hown8 hgrow hat hlt8;go_wp2_with fail;go_roundw
        case rel=>exact ⟨ST.out.1,k+1,_,_,_,by omega,by go_num,rfl,by rw [List.length_append,HCL.out];rfl,ST.out.2.2.2.1,ST.out.2.2.1,ST.out.2.1,ST.out.2.2.2.2⟩
        case measure=>simp [intOf];omega
       ·have bo:(asE ds ts l != 0)=true:=by simpa using hok
        have E:Hid (jcz F ps l N=.error (asE ds ts l)):=HBAD.out (by simpa [jgl] using hok);have GF:=jac (jaa (jaa g0.out G1.out) G3.out);clear hok ho3 hg3 AS;go_wp2;go_ret2;exact joT E.out GF.out
      ·obtain rfl:k=ps.length:=by omega
       have HOF:=HO.out
       have EQ:Hid (jcz F ps l N=evE F cols 0 N):=by
        show _=_;have h1:=HAL.out;have h2:=HCM.out;rw [List.take_of_length_le (Nat.le_refl _)] at h1 h2;unfold jcz;rw [if_pos h1,jpn,h2]
       have CI:∀ c∈cols,IsInts wr c.1.v c.2∧c.2.length=N:=fun c hc=>⟨(HIN.out c hc).ints,by
        have h1:=HAL.out;have h2:=HCM.out;rw [List.take_of_length_le (Nat.le_refl _)] at h1 h2;have h3:c.2∈cols.map (·.2):=List.mem_map.2 ⟨c,hc,rfl⟩;rw [h2] at h3;obtain ⟨p,hp,e⟩:=List.mem_map.1 h3;rw [← e];exact HLN.out p hp (List.all_eq_true.1 h1 p hp)⟩
       have EV:=jac (joU ⟨va,ps.length,vc⟩ cols N ps.length F fn cap wr (HOF.isL (bytes:=24) jmo (by rw [List.length_map,HCL.out];omega)) CI HCL.out hp0 hp1 hN HCF.out (fun wx B xs hgx hxl hxi=>HCLO.out wx B xs (jaa hg hgx) hxl hxi));simp only at EV;clear HOF CI hg;go_wp2_with fail;refine EV.out.mono ?_;rintro e w5 ⟨hg5,hq⟩;have G5:=jac (jaa gw.out hg5);have Z5:Hid (w.heap.size≤wr.heap.size):=gw.out.size;obtain ⟨r,hr⟩ : ∃ r,r=evE F cols 0 N:=⟨_,rfl⟩
       rw [← hr] at hq EQ;clear hr hg5 EV
       cases r with
       | error c =>
        obtain rfl:=hq;go_wp2;go_ret2;exact joT EQ.out G5.out
       | ok zs =>
        obtain ⟨⟨sa,sn,sc⟩,rfl,ho⟩:=hq;have HO5:Hid (jbW w5 w.heap.size (Sl.v ⟨sa,sn,sc⟩) zs):=⟨jcr ho.1 Z5.out,ho.2⟩
        clear ho;go_wp2;go_ret2;exact juN EQ.out G5.out ⟨⟨sa,sn,sc⟩,rfl,HO5.out⟩
end Go.Proofs.YteigfipgmghgmaaGreatDoor
namespace Go.Proofs.YteigfipgmghgmaaGreatDoor
open Go.RowKit
def doR (r:R (Int×List Int)) (M:List Int→R (List Int)):R (Int×List Int×List Int):=match r with
 | .ok (ty,l)=>(M l).map fun zs=>(ty,l,zs)
 | .error c=>.error c
def DoQ (w:World) (r:R (Int×List Int×List Int)) (e:Ending) (w':World):Prop:=w.grownBy w' none∧match r with
 | .ok (ty,l,zs)=>∃ t:Ten,t.ty=ty∧e=.returned (.tuple #[jpY t,.int .i64 0])∧Owns w' w.heap.size t.dv.v l∧jbW w' w.heap.size t.tv.v zs
 | .error c=>e=.returned (.tuple #[.agg #[.int .i64 0,.slice none 0 0,.slice none 0 0],.int .i64 c])
theorem jpo {w w':World} {r:R (Int×List Int×List Int)} {c:Int} (h:r=.error c) (hg:w.grownBy w' none):DoQ w r (.returned (.tuple #[.agg #[.int .i64 0,.slice none 0 0,.slice none 0 0],.int .i64 c])) w':=by rw [h];exact ⟨hg,rfl⟩
theorem juX {w w':World} {r:R (Int×List Int×List Int)} {ty:Int} {l zs:List Int} {d t:Sl} (h:r=.ok (ty,l,zs)) (hg:w.grownBy w' none) (hd:Owns w' w.heap.size d.v l) (ht:jbW w' w.heap.size t.v zs):DoQ w r (.returned (.tuple #[.agg #[.int .i64 ty,.slice d.a d.n d.c,.slice t.a t.n t.c],.int .i64 0])) w':=by rw [h];exact ⟨hg,⟨ty,d,t⟩,rfl,rfl,hd,ht⟩
theorem jeS {fn : Func} {p u : Tmp} (h : fn.results = #[.cell p 32, .tmp u]) (tmps : Array Value) (w : World) (B : Nat) (hp : tmps.getD p undef = .pointer (some ⟨B, 0, none⟩)) {a0 a1 a2 : Value}
    (hb:w.heap[B]?=some (.cells #[a0,a1,a2] 32 (0,0))):(results fn tmps).run Tryz.prog w=.ok (.tuple #[.agg #[a0,a1,a2],tmps.getD u undef]) w:=by
     have hl:=run_loadVar_row (P:=Tryz.prog) w B _ 32 #[a0,a1,a2] (0,0) _ hb Tryz.underlying32 rfl (by rw [jm7];rfl);rw [results_cell_tmp h,hp];simp [asAddr,hl,Result.andThen]
theorem jhf {w:World} {base te sz n:Nat} {v:Value} {cs:List Value} (h:w.ownsRow base te sz v n cs) {B:Nat} (hB:B<base):v.ownBlock=none∨v.ownBlock≠some B:=by
 rcases h.2 with ⟨e,-⟩ | ⟨g,cap,cur,e,hg,-⟩
 ·exact .inl (by rw [e];rfl)
 ·exact .inr (by rw [e];simp [Value.ownBlock];omega)
theorem jkH (n : Nod) (u : Sl) (R0 : R (Int × List Int)) (M : List Int → R (List Int)) (w : World) (h1 : ∀ c, R0 = .error c → c ≠ 0) (h2 : ∀ l c, M l = .error c → c ≠ 0)
    (NC:∀ wx,w.grownBy wx none→Calls Tryz.prog 20 #[jaz n,.slice u.a u.n u.c] wx (jsk n.out wx R0))
    (MC:∀ (wx:World) (ty:Int) (dv:Sl) (l:List Int),w.grownBy wx none→R0=.ok (ty,l)→IsInts wx dv.v l→Calls Tryz.prog 14 #[jaz n,.slice u.a u.n u.c,.agg #[.string n.out,.int .i64 ty,.slice dv.a dv.n dv.c]] wx (EvQ wx (M l))) :
    Calls Tryz.prog 13 #[jaz n,.slice u.a u.n u.c,.func (.func 14) #[] #[]] w (DoQ w (doR R0 M)):=by
     have H1:=jac h1;have H2:=jac h2;have HMC:=jac MC;clear h1 h2 MC;obtain ⟨w0,hw0⟩ : ∃ w0,w0=(w.alloc (.cells #[.string n.op,.string n.name,.slice n.iv.a n.iv.n n.iv.c,.string n.out,.slice n.av.a n.av.n n.av.c] 25)).alloc (.cells #[.int .i64 0,.slice none 0 0,.slice none 0 0] 32):=⟨_,rfl⟩
     have g0:Hid (w.grownBy w0 none):=by show w.grownBy w0 none;rw [hw0];exact jaa (jab _ _) (jab _ _)
     have hbx:=jbi w (.cells #[.string n.op,.string n.name,.slice n.iv.a n.iv.n n.iv.c,.string n.out,.slice n.av.a n.av.n n.av.c] 25) (.cells #[.int .i64 0,.slice none 0 0,.slice none 0 0] 32);rw [← hw0] at hbx;have BN:Hid (∀ wx,w0.grownBy wx none→wx.heap[w.heap.size]?=some (.cells #[.string n.op,.string n.name,.slice n.iv.a n.iv.n n.iv.c,.string n.out,.slice n.av.a n.av.n n.av.c] 25 (0,0))):=fun wx hg=>jag hbx.1 hg;have BX:Hid (∀ wx,w0.grownBy wx none→wx.heap[w.heap.size+1]?=some (.cells #[.int .i64 0,.slice none 0 0,.slice none 0 0] 32 (0,0))):=fun wx hg=>jag hbx.2 hg;have Z0:Hid (w.heap.size+1<w0.heap.size):=(Array.getElem?_eq_some_iff.1 hbx.2).1;have N1:=jac (NC w0 g0.out);clear hbx NC;obtain ⟨op,nam,⟨ia,il,ic⟩,out,⟨ao,al,cap⟩⟩:=n;obtain ⟨ua,un,uc⟩:=u;unfold jaz at HMC N1 ⊢;simp only at HMC N1 BN hw0 ⊢;go_enter Tryz.func13,Tryz.ntmps13;go_wp2_with fail;rw [← hw0];clear hw0;refine N1.out.mono ?_;rintro e w1 ⟨hg1,hq⟩;have G1:=jac hg1
     cases R0 with
     | error c =>
      obtain rfl:=hq;have hc:=H1.out c rfl;have bc:(c != 0)=true:=by simpa using hc
      obtain ⟨w2,hw2⟩ : ∃ w2,w2=w1.alloc (.cells #[.string ⟨#[]⟩,.int .i64 0,.slice none 0 0] 53):=⟨_,rfl⟩
      have g2:w1.grownBy w2 none:=by rw [hw2];exact jab _ _
      have B1:=BX.out w2 (jaa hg1 g2);obtain ⟨f0,f1,f2⟩:=jbf B1;have c0:w2.cell? ⟨w.heap.size+1,0,none⟩=some (.int .i64 0):=(cell_of_row _ _ 0 _ _ (0,0) B1).trans rfl;have c1:w2.cell? ⟨w.heap.size+1,1,none⟩=some (.slice none 0 0):=(cell_of_row _ _ 1 _ _ (0,0) B1).trans rfl;have c2:w2.cell? ⟨w.heap.size+1,2,none⟩=some (.slice none 0 0):=(cell_of_row _ _ 2 _ _ (0,0) B1).trans rfl;obtain ⟨hX,gX⟩:=jb0 (.int .i64 0) (.slice none 0 0) (.slice none 0 0) B1;have HX:=jac hX;have GX:=jac (jaG (jaa g0.out (jaa hg1 g2)) gX (by omega));rw [hw2] at f0 f1 f2 c0 c1 c2 HX GX;clear hX gX B1 hc hg1 g2 hw2;go_wp2;refine bodyPost_ret (jeS rfl _ _ (w.heap.size+1) rfl HX.out) rfl ?_;exact jpo rfl GX.out
     | ok rr =>
      obtain ⟨ty,l⟩:=rr;obtain ⟨⟨s1,s2,s3⟩,rfl,ho⟩:=hq;obtain ⟨w2,hw2⟩ : ∃ w2,w2=w1.alloc (.cells #[.string out,.int .i64 ty,.slice s1 s2 s3] 53):=⟨_,rfl⟩
      have g2:w1.grownBy w2 none:=by rw [hw2];exact jab _ _
      have hB2:=heap_alloc_new w1 (.cells #[.string out,.int .i64 ty,.slice s1 s2 s3] 53);rw [← hw2] at hB2;have BV:Hid (∀ wx,w2.grownBy wx none→wx.heap[w1.heap.size]?=some (.cells #[.string out,.int .i64 ty,.slice s1 s2 s3] 53 (0,0))):=fun wx hg=>jag hB2 hg;have HO:=jac ho;obtain ⟨n0,n1,n2,n3,n4⟩:=jak (n:=⟨op,nam,⟨ia,il,ic⟩,out,⟨ao,al,cap⟩⟩) (BN.out w2 (jaa hg1 g2));have M1:=jac (HMC.out w2 ty ⟨s1,s2,s3⟩ l (jaa g0.out (jaa hg1 g2)) rfl (ho.ints.more g2));have G2:=jac (jaa hg1 g2);have G12:=jac g2;simp only at n0 n1 n2 n3 n4 M1;rw [hw2] at n0 n1 n2 n3 n4;clear ho hg1 g2 hB2;go_wp2_with fail;rw [← hw2];clear hw2 n0 n1 n2 n3 n4;refine M1.out.mono ?_;rintro e w3 ⟨hg3,hq⟩;have B3:=BX.out w3 (jaa G2.out hg3);have G3:=jac (jaa g0.out (jaa G2.out hg3));obtain ⟨f0,f1,f2⟩:=jbf B3;have c0:w3.cell? ⟨w.heap.size+1,0,none⟩=some (.int .i64 0):=(cell_of_row _ _ 0 _ _ (0,0) B3).trans rfl;have c1:w3.cell? ⟨w.heap.size+1,1,none⟩=some (.slice none 0 0):=(cell_of_row _ _ 1 _ _ (0,0) B3).trans rfl;have c2:w3.cell? ⟨w.heap.size+1,2,none⟩=some (.slice none 0 0):=(cell_of_row _ _ 2 _ _ (0,0) B3).trans rfl;obtain ⟨mr,hmr⟩ : ∃ mr,mr=M l:=⟨_,rfl⟩
      rw [← hmr] at hq;have ED:Hid (doR (.ok (ty,l)) M=mr.map fun zs=>(ty,l,zs)):=by rw [hmr];rfl
      cases mr with
      | error c =>
       obtain rfl:=hq;have hc:=H2.out l c hmr.symm;have bc:(c != 0)=true:=by simpa using hc
       obtain ⟨hX,gX⟩:=jb0 (.int .i64 0) (.slice none 0 0) (.slice none 0 0) B3;have HX:=jac hX;have GX:=jac (jaG G3.out gX (by omega));clear hX gX B3 hc hg3 hmr;go_wp2;refine bodyPost_ret (jeS rfl _ _ (w.heap.size+1) rfl HX.out) rfl ?_;exact jpo ED.out GX.out
      | ok zs =>
       obtain ⟨⟨t1,t2,t3⟩,rfl,ht⟩:=hq;have bv:=BV.out w3 hg3;have v1:w3.cell? ⟨w1.heap.size,1,none⟩=some (.int .i64 ty):=(cell_of_row _ _ 1 _ _ (0,0) bv).trans rfl;have v2:w3.cell? ⟨w1.heap.size,2,none⟩=some (.slice s1 s2 s3):=(cell_of_row _ _ 2 _ _ (0,0) bv).trans rfl;obtain ⟨hX,gX⟩:=jb0 (.int .i64 ty) (.slice s1 s2 s3) (.slice t1 t2 t3) B3;have HX:=jac hX;have GX:=jac (jaG G3.out gX (by omega));have z0:=Z0.out;have z1:=g0.out.size;have z2:=G2.out.size;have OD:=jac (((HO.out.more (jaa G12.out hg3) (by cases (Sl.v ⟨s1,s2,s3⟩).ownBlock <;> simp)).base_le (b':=w0.heap.size) (Nat.le_refl _)).more gX (jhf HO.out.1 (by omega)))
       have OT:Hid (jbW _ w2.heap.size (Sl.v ⟨t1,t2,t3⟩) zs):=ht.more gX (jhf ht.1 (by omega));clear hX gX B3 hg3 hmr bv ht z0 z1 z2;go_wp2;refine bodyPost_ret (jeS rfl _ _ (w.heap.size+1) rfl HX.out) rfl ?_;exact juX (d:=⟨s1,s2,s3⟩) (t:=⟨t1,t2,t3⟩) ED.out GX.out (OD.out.base_le (by have:=g0.out.size;omega)) ⟨jcr OT.out.1 (by have:=g0.out.size;have:=G2.out.size;omega),OT.out.2⟩
theorem jkI (n:Nod) (u:Sl) (r:R (Int×List Int×List Int)) (w:World) (BC:∀ wx,w.grownBy wx none→Calls Tryz.prog 13 #[jaz n,.slice u.a u.n u.c,.func (.func 14) #[] #[]] wx (DoQ wx r)) :
    Calls Tryz.prog 8 #[jaz n,.slice u.a u.n u.c] w (DoQ w r):=by
     obtain ⟨w0,hw0⟩ : ∃ w0,w0=(w.alloc (.cells #[.string n.op,.string n.name,.slice n.iv.a n.iv.n n.iv.c,.string n.out,.slice n.av.a n.av.n n.av.c] 25)).alloc (.cells #[.int .i64 0,.slice none 0 0,.slice none 0 0] 32):=⟨_,rfl⟩
     have g0:Hid (w.grownBy w0 none):=by show w.grownBy w0 none;rw [hw0];exact jaa (jab _ _) (jab _ _)
     have hbx:=jbi w (.cells #[.string n.op,.string n.name,.slice n.iv.a n.iv.n n.iv.c,.string n.out,.slice n.av.a n.av.n n.av.c] 25) (.cells #[.int .i64 0,.slice none 0 0,.slice none 0 0] 32);rw [← hw0] at hbx;have BX:Hid (∀ wx,w0.grownBy wx none→wx.heap[w.heap.size+1]?=some (.cells #[.int .i64 0,.slice none 0 0,.slice none 0 0] 32 (0,0))):=fun wx hg=>jag hbx.2 hg;have Z0:Hid (w.heap.size+1<w0.heap.size):=(Array.getElem?_eq_some_iff.1 hbx.2).1;have N1:=jac (BC w0 g0.out);clear hbx BC;obtain ⟨op,nam,⟨ia,il,ic⟩,out,⟨ao,al,cap⟩⟩:=n;obtain ⟨ua,un,uc⟩:=u;unfold jaz at N1 ⊢;simp only at N1 hw0 ⊢;go_enter Tryz.func8,Tryz.ntmps8;go_wp2_with fail;rw [← hw0];clear hw0;refine N1.out.mono ?_;rintro e w3 ⟨hg3,hq⟩;have B3:=BX.out w3 hg3;have G3:=jac (jaa g0.out hg3);obtain ⟨f0,f1,f2⟩:=jbf B3;have c0:w3.cell? ⟨w.heap.size+1,0,none⟩=some (.int .i64 0):=(cell_of_row _ _ 0 _ _ (0,0) B3).trans rfl;have c1:w3.cell? ⟨w.heap.size+1,1,none⟩=some (.slice none 0 0):=(cell_of_row _ _ 1 _ _ (0,0) B3).trans rfl;have c2:w3.cell? ⟨w.heap.size+1,2,none⟩=some (.slice none 0 0):=(cell_of_row _ _ 2 _ _ (0,0) B3).trans rfl
     cases r with
     | error c =>
      obtain rfl:=hq;obtain ⟨hX,gX⟩:=jb0 (.int .i64 0) (.slice none 0 0) (.slice none 0 0) B3;have HX:=jac hX;have GX:=jac (jaG G3.out gX (by omega));clear hX gX B3 hg3;go_wp2;refine bodyPost_ret (jeS rfl _ _ (w.heap.size+1) rfl HX.out) rfl ?_;exact jpo rfl GX.out
     | ok rr =>
      obtain ⟨ty,l,zs⟩:=rr;obtain ⟨⟨ty',⟨s1,s2,s3⟩,⟨t1,t2,t3⟩⟩,e1,rfl,hd,ht⟩:=hq;simp only at e1;subst e1;obtain ⟨hX,gX⟩:=jb0 (.int .i64 ty') (.slice s1 s2 s3) (.slice t1 t2 t3) B3;have HX:=jac hX;have GX:=jac (jaG G3.out gX (by omega));have OD:=jac (hd.more gX (jhf hd.1 Z0.out));have OT:=jac (ht.more gX (jhf ht.1 Z0.out));clear hX gX B3 hg3 hd ht;unfold jpY;go_wp2;refine bodyPost_ret (jeS rfl _ _ (w.heap.size+1) rfl HX.out) rfl ?_;exact juX (d:=⟨s1,s2,s3⟩) (t:=⟨t1,t2,t3⟩) rfl GX.out (OD.out.base_le (by have:=g0.out.size;omega)) ⟨jcr OT.out.1 (by have:=g0.out.size;omega),OT.out.2⟩
end Go.Proofs.YteigfipgmghgmaaGreatDoor
namespace Go.Proofs.YteigfipgmghgmaaGreatDoor
open Go.RowKit
theorem jtL {ds ts l:List Int} (h:asE ds ts l=0):(asL ds ts l).length=(jaA l).toNat∧(jaA l).toNat≤65536:=by
 have h0:=h;unfold asE at h
 by_cases h1:ja2 ds≠0
 ·rw [if_pos h1] at h;exact absurd h h1
 rw [if_neg h1] at h
 by_cases h2:bcE ds l≠0
 ·rw [if_pos h2] at h;exact absurd h h2
 rw [if_neg h2] at h
 by_cases h3:bcR ds l=l
 ·rw [if_pos h3] at h;unfold asL;rw [if_pos h0];unfold Vw.rdE at h
  by_cases h4:Vw.rdOk 0 l (Vw.spr ds (jcj ds) l) ts=true
  ·have hm : Vw.mayB 0 l (Vw.spr ds (jcj ds) l) = true := by
     unfold Vw.rdOk at h4;exact (Bool.and_eq_true_iff.1 h4).1
   have hm:=Vw.mayB_iff.1 hm;unfold Vw.rdL;rw [if_pos h4];unfold Vw.shows;rw [List.length_map,Vw.plc_length _ _ _ hm.len hm.fine.pos];exact ⟨rfl,by have:=hm.fine.le;omega⟩
  ·rw [if_neg h4] at h;omega
 ·rw [if_neg h3] at h;omega
def Nz {α:Type} (r:R α):Prop:=∀ c,r=.error c→c≠0
theorem Nz.bind {α β:Type} {r:R α} {f:α→R β} (h:Nz r) (k:∀ a,r=.ok a→Nz (f a)):Nz (r.bind f):=by
 cases r with
 | error c=>intro d hd;exact h d (by cases hd;rfl)
 | ok a=>exact k a rfl
theorem jaZ {α β:Type} {r:R α} {f:α→R β} {b:β} (h:r.bind f=.ok b):∃ a,r=.ok a∧f a=.ok b:=by
 cases r with
 | error c=>cases h
 | ok a=>exact ⟨a,rfl,h⟩
theorem jky {b:Bool} {a:Unit} (h:jal b=.ok a):b=true:=by
 unfold jal at h
 split at h
 ·assumption
 ·cases h
theorem jii {ps:List (Ten×Tq)} {r:R (Int×List Int)} {a:Int×List Int} (h:jde ps r=.ok a):ps.all okT=true∧r=.ok a:=by
 unfold jde at h
 split at h
 ·rename_i h1;exact ⟨h1,h⟩
 ·cases h
theorem nz_ok {α:Type} (a:α):Nz (Except.ok a:R α):=fun c h=>by cases h
theorem nz_typ (t:Int):Nz (jiJ t):=by
 intro c h;unfold jiJ at h
 split at h
 ·cases h
 ·cases h;omega
theorem nz_must (b:Bool):Nz (jal b):=by
 intro c h;unfold jal at h
 split at h
 ·cases h
 ·cases h;omega
theorem nz_count (x:List Int):Nz (jaX x):=by
 intro c h;unfold jaX at h
 split at h
 ·cases h
 ·rename_i h1;cases h;exact h1
theorem juY (x y:List Int):Nz (jaE x y):=by
 intro c h;unfold jaE at h
 split at h
 ·cases h
 ·rename_i h1;cases h;exact h1
theorem nz_same (t0 t1:Int):Nz (jaO [t0,t1]):=by
 intro c h;simp only [jaO] at h
 split at h
 ·cases h
 ·cases h;omega
theorem jij {ps:List (Ten×Tq)} {r:R (Int×List Int)} (h:Nz r):Nz (jde ps r):=by
 unfold jde
 split
 ·exact h
 ·intro c hc;cases hc;omega
theorem juZ (F:List Int→Int×Int) (cs:List (List Int)):∀ (m k:Nat),Nz (evL F cs k m)
 | 0,_=>nz_ok _
 | m+1,k=>by
  intro c h;simp only [evL] at h
  split at h
  ·cases he:evL F cs (k+1) m with
   | error d=>rw [he] at h;cases h;exact juZ F cs m (k+1) _ he
   | ok a=>rw [he] at h;cases h
  ·rename_i h1;cases h;exact h1
theorem jjt {l:List Int} : ∀ {ps:List (Ten×Tq)},ps.all (jgl l)=false→jgf l ps≠0
 | [],h=>by simp at h
 | p::ps,h=>by
  unfold jgf
  by_cases hp:jgl l p=true
  ·rw [if_pos hp];exact jjt (by simpa [hp] using h)
  ·rw [if_neg hp];simpa [jgl] using hp
theorem jkJ (F:List Int→Int×Int) (ps:List (Ten×Tq)) (l:List Int) (N:Nat):Nz (jcz F ps l N):=by
 unfold jcz
 split
 ·exact juZ _ _ _ _
 ·rename_i h;intro c hc
  cases hc
  exact jjt (by simpa using h)
def F2 (k:Nat) (t:Int) (xs:List Int):Int×Int:=Nu.bin k t (xs.getD 0 0) (xs.getD 1 0)
def F1 (k:Nat) (t:Int) (xs:List Int):Int×Int:=Nu.un k t (xs.getD 0 0)
def tq (t:Int) (x xs:List Int):Ten×Tq:=(⟨t,joK,joK⟩,(x,xs))
end Go.Proofs.YteigfipgmghgmaaGreatDoor
namespace Go.Proofs.YteigfipgmghgmaaGreatDoor
open Go.RowKit
theorem jlp (l:List Int):∀ k,k≤l.length→bcL l l k=l.drop (l.length - k)
 | 0,_=>by simp [bcL]
 | k+1,h=>by
  have ih:=jlp l k (by omega);rw [bcL,ih]
  have e:bh l k=l[l.length - (k+1)]:=by
   simp only [bh];rw [List.getD,List.getElem?_eq_getElem (by omega)];simp [show l.length - 1 - k=l.length - (k+1) by omega];intro h';omega
  rw [e,List.drop_eq_getElem_cons (by omega:l.length - (k+1)<l.length),show l.length - (k+1)+1=l.length - k by omega];simp
theorem jlq (l:List Int):∀ k,jcG l l k=false
 | 0=>rfl
 | k+1=>by simp [jcG,jbC,jlq l k]
theorem jtM {l:List Int} (h:ja2 l=0):bcE l l=0∧bcR l l=l:=by
 have e:bcL l l (jaL l l)=l:=by
  rw [jaL,Nat.max_self,jlp l _ (Nat.le_refl _)];simp
 have h1:bcE l l=0:=by
  unfold bcE;rw [if_neg (by simp [h]),if_neg (by simp [h]),jlq,if_neg (by simp),e,h]
 exact ⟨h1,by rw [bcR,if_pos h1,e]⟩
theorem jtN {l zs:List Int} (h:ja2 l=0) (hl:(zs.length:Int)=jaA l):asE l zs l=0∧asL l zs l=zs:=by
 obtain ⟨b1,b2⟩:=jtM h;obtain ⟨r1,r2⟩:=Vw.rd_all (jbb h) hl;have e:Vw.spr l (jcj l) l=jcj l:=Vw.spr_same (jcF l)
 have h1:asE l zs l=0:=by
  unfold asE;rw [if_neg (by simp [h]),if_neg (by simp [b1]),if_pos b2,e,r1]
 exact ⟨h1,by rw [asL,if_pos h1,e,r2]⟩
theorem jtO {ds ts l:List Int} (h:asE ds ts l=0):Vw.rdOk 0 l (Vw.spr ds (jcj ds) l) ts=true∧asL ds ts l=Vw.shows 0 l (Vw.spr ds (jcj ds) l) ts:=by
 have h0:=h;unfold asE at h
 by_cases h1:ja2 ds≠0
 ·rw [if_pos h1] at h;exact absurd h h1
 rw [if_neg h1] at h
 by_cases h2:bcE ds l≠0
 ·rw [if_pos h2] at h;exact absurd h h2
 rw [if_neg h2] at h
 by_cases h3:bcR ds l=l
 ·rw [if_pos h3] at h;unfold Vw.rdE at h
  by_cases h4:Vw.rdOk 0 l (Vw.spr ds (jcj ds) l) ts=true
  ·refine ⟨h4,?_⟩;rw [asL,if_pos h0,Vw.rdL,if_pos h4]
  ·rw [if_neg h4] at h;omega
 ·rw [if_neg h3] at h;omega
theorem jkK (F:List Int→Int×Int) (cs:List (List Int)):∀ (m k:Nat) (zs:List Int),evL F cs k m=.ok zs→zs=(List.range' k m).map (fun j=>(F (cs.map (·.getD j 0))).1)∧∀ j∈List.range' k m,(F (cs.map (·.getD j 0))).2=0
 | 0,_,zs,h=>by cases h;simp
 | m+1,k,zs,h=>by
  simp only [evL] at h
  split at h
  ·rename_i h0
   cases he:evL F cs (k+1) m with
   | error d=>rw [he] at h;cases h
   | ok us =>
    rw [he] at h
    cases h
    obtain ⟨h1,h2⟩:=jkK F cs m (k+1) us he;refine ⟨by rw [h1];simp [List.range'_succ],fun j hj=>?_⟩;rw [List.range'_succ] at hj
    rcases List.mem_cons.1 hj with rfl | hj
    ·exact h0
    ·exact h2 j hj
  ·cases h
def bit (z:Int):Prop:=z=0∨z=1
theorem jsi {z:Int} : chk 9 z=true↔bit z:=by
 unfold chk bit;simp
end Go.Proofs.YteigfipgmghgmaaGreatDoor
namespace Go.Proofs.YteigfipgmghgmaaGreatDoor
open Go.RowKit
theorem jgg:∀ (ds ls cs:List Int),ds.length=ls.length→jaQ ls cs=true→(∀ j,j<ds.length→ds.getD j 0=ls.getD j 0∨ds.getD j 0=1)→jaQ ds (Vw.msk ds cs)=true
 | [],[],cs,_,hi,_=>by cases cs <;> simp_all [jaQ,Vw.msk]
 | d::ds,l::ls,[],_,hi,_=>by simp [jaQ] at hi
 | d::ds,l::ls,c::cs,hl,hi,h=>by
  have h0:=h 0 (by simp);simp only [List.getD_cons_zero] at h0;simp only [jaQ,Bool.and_eq_true,decide_eq_true_eq] at hi;have ih:=jgg ds ls cs (by simpa using hl) hi.2 fun j hj=>by simpa using h (j+1) (by simpa using hj)
  simp only [Vw.msk,jaQ,Bool.and_eq_true,decide_eq_true_eq];refine ⟨?_,ih⟩
  split <;> omega
theorem jlr:∀ (ds cs:List Int),(Vw.msk ds cs).length=cs.length
 | [],cs=>by simp [Vw.msk]
 | _::_,[]=>by simp [Vw.msk]
 | d::ds,c::cs=>by simp [Vw.msk,jlr ds cs]
theorem jpp:∀ (ds cs:List Int) (t:Nat),cs.length=ds.length→t<ds.length→(Vw.msk ds cs).getD t 0=if ds.getD t 0=1 then 0 else cs.getD t 0
 | [],_,t,_,h=>by simp at h
 | d::ds,[],t,h,_=>by simp at h
 | d::ds,c::cs,0,_,_=>by simp [Vw.msk]
 | d::ds,c::cs,t+1,h1,h2=>by
  have ih:=jpp ds cs t (by simpa using h1) (by simpa using h2);simpa [Vw.msk] using ih
theorem jgh:∀ {zs cs:List Int},jaQ zs cs=true→∀ c∈cs,0≤c∧∃ z∈zs,c<z
 | [],[],_,c,hc=>by simp at hc
 | z::zs,x::cs,h,c,hc=>by
  simp only [jaQ,Bool.and_eq_true,decide_eq_true_eq] at h
  rcases List.mem_cons.1 hc with rfl | hc
  ·exact ⟨h.1.1,z,by simp,h.1.2⟩
  ·obtain ⟨h1,y,hy,h2⟩:=jgh h.2 c hc;exact ⟨h1,y,by simp [hy],h2⟩
 | [],_::_,h,_,_=>by simp [jaQ] at h
 | _::_,[],h,_,_=>by simp [jaQ] at h
theorem jls:∀ {zs:List Int},(∀ z∈zs,1≤z)→∀ z∈zs,z≤jaA zs
 | y::zs,h,z,hz=>by
  have h1:=h y (by simp);have h2:=prod_pos zs (fun x hx=>h x (by simp [hx]))
  rcases List.mem_cons.1 hz with rfl | hz
  ·have:=jcP h2 (show 0≤z by omega);simpa [jaA] using this
  ·have h3:=jls (fun x hx=>h x (by simp [hx])) z hz;have h4:=jcD h1 (show 0≤jaA zs by omega);simp only [jaA];omega
theorem jpq {ds cs:List Int} (hd:Fine ds) (h:jaQ ds cs=true):jjD ds cs=0∧jmV ds cs=jey ds cs:=by
 have h1:jjD ds cs=0:=by simp [jjD,hd.ok,h]
 exact ⟨h1,by simp [jmV,h1]⟩
def jtP (ds l:List Int) (j:Nat):List Int:=Vw.msk ds ((jdn l j).drop (l.length - ds.length))
theorem as_at {ds ts l:List Int} (h:asE ds ts l=0) (j:Nat) (hj:(j:Int)<jaA l):(asL ds ts l).getD j 0=ts.getD (jey ds (jtP ds l j)).toNat 0∧jaQ ds (jtP ds l j)=true∧ja2 ds=0∧ds.length≤l.length∧(jey ds (jtP ds l j)).toNat<ts.length:=by
 have h0:=h;obtain ⟨hok,hl⟩:=jtO h;unfold asE at h
 by_cases h1:ja2 ds≠0
 ·rw [if_pos h1] at h;exact absurd h h1
 rw [if_neg h1] at h
 by_cases h2:bcE ds l≠0
 ·rw [if_pos h2] at h;exact absurd h h2
 rw [if_neg h2] at h
 by_cases h3:bcR ds l=l
 ·have hc:ja2 ds=0:=by omega
  have hE:bcE ds l=0:=by omega
  have hd:=jbb hc;obtain ⟨hroom,hcl⟩:=Vw.bc_room hE h3;have hF:=jbb hcl;have hdl:(l.drop (l.length - ds.length)).length=ds.length:=by simp;omega
  have hin:jaQ ds (jtP ds l j)=true:=by
   refine jgg ds (l.drop (l.length - ds.length)) _ hdl.symm (by rw [Vw.crds_drop];exact jek _ _ fun z hz=>hF.pos z (List.mem_of_mem_drop hz)) fun i hi=>?_;have h3:=Vw.bc_fits hd hE h3 i hi;rw [show (l.drop (l.length - ds.length)).getD i 0=l.getD (l.length - ds.length+i) 0 by simp only [List.getD,List.getElem?_drop]];exact h3
  have hat:=Vw.spread_at hd hE h3 j hj;have hpl:=Vw.plc_length l (Vw.spr ds (jcj ds) l) 0 (Vw.spr_length _ _ _) hF.pos;have hn2:j<(Vw.plc l (Vw.spr ds (jcj ds) l) 0).length:=by rw [hpl];omega
  refine ⟨?_,hin,hc,hroom,?_⟩
  ·rw [hl];unfold Vw.shows;rw [List.getD,List.getElem?_map,List.getElem?_eq_getElem hn2];rw [List.getD,List.getElem?_eq_getElem hn2] at hat;simp only [Option.map_some,Option.getD_some] at hat ⊢;rw [hat]
   rfl
  ·have hlt:=jhn hin;simp only [Vw.rdOk,Bool.and_eq_true,decide_eq_true_eq] at hok;have hm:=Vw.mayB_iff.1 hok.1;obtain ⟨-,hx⟩:=Vw.plc_mem l (Vw.spr ds (jcj ds) l) 0 (fun y hy=>(hm.str y hy).1) hm.fine.pos _ (List.getElem_mem hn2);rw [List.getD,List.getElem?_eq_getElem hn2] at hat;simp only [Option.getD_some] at hat;rw [hat] at hx;unfold jtP at hlt ⊢;omega
 ·rw [if_neg h3] at h;exact absurd h (by decide)
end Go.Proofs.YteigfipgmghgmaaGreatDoor
namespace Go.Proofs.YteigfipgmghgmaaGreatDoor
open Go.RowKit
theorem jpr (t:Ten) (ds ts cs:List Int) (c:Sl) (w:World) (hd:IsInts w t.dv.v ds) (ht:IsInts w t.tv.v ts) (hc:IsInts w c.v cs) (hF:ja2 ds=0) (hl:ds.length≤cs.length) (hi:jaQ ds (Vw.msk ds (cs.drop (cs.length - ds.length)))=true) (hn:(jey ds (Vw.msk ds (cs.drop (cs.length - ds.length)))).toNat<ts.length) (hcl:cs.length≤1000) :
    Calls Tryz.prog 12 #[jpY t,.slice c.a c.n c.c] w fun e w'=>e=.returned (.int .i64 (ts.getD (jey ds (Vw.msk ds (cs.drop (cs.length - ds.length)))).toNat 0))∧w.grownBy w' none:=by
     obtain ⟨i0,hi0,hz0,hz1,hz2⟩:=info_parts jdx;obtain ⟨ty,⟨da,dn,dc⟩,⟨ta,tn,tc⟩⟩:=t;obtain ⟨ca,cn,cc⟩:=c;obtain ⟨_,_,e1,-⟩:=hd.sl;obtain ⟨_,_,e2,-⟩:=ht.sl;obtain ⟨_,_,e3,-⟩:=hc.sl;simp only [Sl.v,Value.slice.injEq] at e1 e2 e3;obtain ⟨-,rfl,rfl⟩:=e1;obtain ⟨-,rfl,rfl⟩:=e2;obtain ⟨-,rfl,rfl⟩:=e3;simp only [Sl.v] at hd ht hc;unfold jpY;simp only;obtain ⟨CS,hCS⟩ : ∃ z,z=cs.drop (cs.length - ds.length):=⟨_,rfl⟩
     have lCS:CS.length=ds.length:=by rw [hCS,List.length_drop];omega
     have aCS:Hid (∀ k,k<ds.length→CS.getD k 0=cs.getD (cs.length - ds.length+k) 0):=fun k hk=>by rw [hCS];simp only [List.getD,List.getElem?_drop]
     rw [← hCS] at hi hn ⊢;obtain ⟨M,hM⟩ : ∃ z,z=Vw.msk ds CS:=⟨_,rfl⟩
     have lM:M.length=ds.length:=by rw [hM,jlr,lCS]
     have aM:Hid (∀ k,k<ds.length→M.getD k 0=if ds.getD k 0=1 then 0 else CS.getD k 0):=fun k hk=>by rw [hM];exact jpp ds CS k lCS hk
     rw [← hM] at hi hn ⊢;have HD:=jac hd;have HT:=jac ht;have HC:=jac hc;have HI:=jac hi;obtain ⟨AH,hAH⟩ : ∃ z,z=cs.length - ds.length:=⟨_,rfl⟩
     have aC2:Hid (∀ k,k<ds.length→CS.getD k 0=cs.getD (AH+k) 0):=by rw [hAH];exact aCS.out
     obtain ⟨NC,hNC⟩ : ∃ z,z=cs.length:=⟨_,rfl⟩
     have LA:Hid (NC=AH+ds.length):=by show _=_;omega
     rw [← hNC] at HC ⊢;have LC:=jac hNC;have LM:=jac lM;have LCS:=jac lCS;rw [← hNC] at hcl;obtain ⟨w0,hw0⟩ : ∃ w0,w0=w.alloc (.cells #[.int .i64 ty,.slice da ds.length dc,.slice ta ts.length tc] 32):=⟨_,rfl⟩
     have g0:Hid (w.grownBy w0 none):=by show w.grownBy w0 none;rw [hw0];exact jab _ _
     have B0:=heap_alloc_new w (.cells #[.int .i64 ty,.slice da ds.length dc,.slice ta ts.length tc] 32);obtain ⟨x0,x1,x2⟩:=ja3 B0;rw [← hw0] at B0;have BX:Hid (∀ wx,w0.grownBy wx none→wx.heap[w.heap.size]?=some (.cells #[.int .i64 ty,.slice da ds.length dc,.slice ta ts.length tc] 32 (0,0))):=fun wx hg=>jag B0 hg;clear B0 hd ht hc hi hCS hM aCS hl lM lCS hAH hNC
     have wA:Hid ((NC:Int) - (ds.length:Int)=(AH:Int)):=by
      show _=_;have:=LA.out;omega
     have hfew:=(jbb hF).few
     have RM:Hid (∀ z∈M,-9223372036854775808≤z∧z≤9223372036854775807):=fun z hz=>by
      obtain ⟨h1,y,hy,h2⟩:=jgh HI.out z hz;have h3:=jls (jbb hF).pos y hy;have h4:=(jbb hF).le;omega
     obtain ⟨K,hK⟩ : ∃ K:Nat,jey ds M=K:=⟨(jey ds M).toNat,by have:=(jhn HI.out).1;omega⟩
     have KK:=jac hK;rw [hK,Int.toNat_natCast] at hn ⊢;obtain ⟨Z,hZ⟩ : ∃ z,z=ts.getD K 0:=⟨_,rfl⟩
     rw [← hZ];have ZZ:=jac hZ;clear hK hZ;go_enter Tryz.func12,Tryz.ntmps12;go_wp2_with fail;rw [wA.out];rw [← hw0];clear hw0 x0 x1 x2;go_loopw [5,7] (fun v i wr=>w0.grownBy wr none∧∃ k:Nat,k≤ds.length∧i=.int .i64 k∧wr.ownsRow w0.heap.size 3 1 v k ((M.take k).map (Value.int .i64))) (fun _ i _=>ds.length - (intOf i).toNat)
     case atStart=>exact ⟨jad _,0,Nat.zero_le _,rfl,by simpa using World.ownsRow_nil _ _ _ _⟩
     case round =>
      obtain ⟨hg,k,hk,rfl,hown⟩:=hrel;have HG:=jac hg;have HO:=jac hown;have hsz:=hg.size;obtain ⟨x0,x1,x2⟩:=ja3 (BX.out wr hg);clear hown
      by_cases hlt:k<ds.length
      ·obtain ⟨db,df,rfl,hcd⟩:=HD.out.get (k:=k) hlt;have dk:=jae (hcd k hlt) (jaa g0.out hg)
       have TS:Hid (M.take (k+1)=M.take k++[M.getD k 0]):=by
        show _=_;have lm:=LM.out;rw [List.take_add_one,List.getElem?_eq_getElem (by omega),List.getD,List.getElem?_eq_getElem (by omega)]
        rfl
       have mk:=jac (aM.out k hlt);have hlt':(k:Int)<(ds.length:Int):=by omega
       obtain ⟨d,hdd⟩ : ∃ d,d=ds.getD k 0:=⟨_,rfl⟩
       rw [← hdd] at dk mk;clear hcd hdd hg
       by_cases h1:d=1
       ·have E0:Hid (M.getD k 0=0):=by show _=_;rw [mk.out,if_pos h1]
        subst h1;go_wp2_with (at_builtin;refine wpList_append_own _ rfl (.tmp 29) (.tmp 30) 29 rfl w0.heap.size 3 i0 (.int .i64 0) 1 8 Tryz.underlying29 hi0 hz0 hz1 hz2 rfl (by decide) _ _ _ rfl (HO.out.alloc _) ⟨wr.heap.size,0,none⟩ 1 1 [.int .i64 0] rfl rfl (cell_one_new _ _ _) (by simp [Value.oneCell']) (by simp only [maxLen];omega) (by omega) (by simp;omega) ?_;intro v' w1 hown' hgrow _);have HO':=jac hown';have HG':=jac (jan (jaa HG.out (jab _ _)) hgrow (fun g hg=>(HO.out.lt g hg).1));clear hown' hgrow;go_wp2;go_roundw
        case rel=>exact ⟨HG'.out,k+1,by omega,by go_num,by rw [TS.out,List.map_append,E0.out];simpa using HO'.out⟩
        case measure=>simp [intOf];omega
       ·have h1':(d==1)=false:=by simpa using h1
        have E0:Hid (M.getD k 0=cs.getD (AH+k) 0):=by show _=_;rw [mk.out,if_neg h1,aC2.out k hlt]
        have kc:AH+k<cs.length:=by have:=LA.out;have:=LC.out;omega
        obtain ⟨cb,cf,rfl,hcc⟩:=HC.out.get (k:=AH+k) kc;have ck:=jae (hcc (AH+k) kc) (jaa g0.out HG.out);rw [← E0.out] at ck;obtain ⟨mv,hmv⟩ : ∃ d,d=M.getD k 0:=⟨_,rfl⟩
        rw [← hmv] at ck;have HMV:=jac hmv;have kn:((AH+k:Nat):Int)<(NC:Int):=by have:=LA.out;omega
        have ah5:AH≤1000:=by have:=LA.out;omega
        clear h1 hcc hmv E0;go_wp2_with (at_builtin;refine wpList_append_own _ rfl (.tmp 32) (.tmp 39) 29 rfl w0.heap.size 3 i0 (.int .i64 0) 1 8 Tryz.underlying29 hi0 hz0 hz1 hz2 rfl (by decide) _ _ _ rfl (HO.out.alloc _) ⟨wr.heap.size,0,none⟩ 1 1 [.int .i64 mv] rfl rfl (cell_one_new _ _ _) (by simp [Value.oneCell']) (by simp only [maxLen];omega) (by omega) (by simp;omega) ?_;intro v' w1 hown' hgrow _);have HO':=jac hown';have HG':=jac (jan (jaa HG.out (jab _ _)) hgrow (fun g hg=>(HO.out.lt g hg).1));clear hown' hgrow;go_wp2;go_roundw
        case rel=>exact ⟨HG'.out,k+1,by omega,by go_num,by rw [TS.out,List.map_append,← HMV.out];simpa using HO'.out⟩
        case measure=>simp [intOf];omega
      ·obtain rfl:k=ds.length:=by omega
       have h:=HO.out;rw [List.take_of_length_le (by have:=LM.out;omega)] at h;have OW:=jac (show Owns wr w0.heap.size _ M from ⟨by rw [LM.out];exact h,by have:=LM.out;omega,RM.out⟩);clear h;have OF:=jac (jhp _ _ ds M wr (HD.out.more (jaa g0.out hg)) OW.out.ints);rw [(jpq (jbb hF) HI.out).1,(jpq (jbb hF) HI.out).2,KK.out] at OF;obtain ⟨tb,tf,rfl,hct⟩:=HT.out.get (k:=K) hn;have CT:Hid (∀ wx,wr.grownBy wx none→wx.cell? ⟨tb,tf+K,none⟩=some (.int .i64 Z)):=fun wx hx=>by rw [ZZ.out];exact jae (hct K hn) (jaa (jaa g0.out hg) hx)
       have hn':(K:Int)<(ts.length:Int):=by omega
       clear hct hg;go_wp2_with fail;refine OF.out.mono ?_;rintro e w2 ⟨rfl,hg2⟩;have GF:=jac (jaa g0.out (jaa HG.out hg2));obtain ⟨x0,x1,x2⟩:=ja3 (BX.out w2 (jaa HG.out hg2));have ct:=CT.out w2 hg2;clear hg2;go_wp2;go_ret;exact ⟨rfl,GF.out⟩
end Go.Proofs.YteigfipgmghgmaaGreatDoor
