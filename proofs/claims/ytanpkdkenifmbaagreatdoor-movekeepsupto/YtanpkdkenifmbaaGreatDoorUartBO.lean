/- A part. -/
import Derived.Test.YtanpkdkenifmbaaGreatDoorMUart
import Derived.Test.YtanpkdkenifmbaaGreatDoorUartBL
import Derived.Test.YtanpkdkenifmbaaGreatDoorUartBN
import Derived.Test.YtanpkdkenifmbaaGreatDoorUartBM
import Derived.Test.YtanpkdkenifmbaaGreatDoorUartAP
import Derived.Deep.RegionHeld3
import Derived.Test.YtanpkdkenifmbaaGreatDoorUartBH
import Derived.Test.YtanpkdkenifmbaaGreatDoorUartAX
import Derived.Test.YtanpkdkenifmbaaGreatDoorUartAW
import Derived.Test.YtanpkdkenifmbaaGreatDoorUartBE
import Derived.Test.YtanpkdkenifmbaaGreatDoorUartAV
set_option maxHeartbeats 8000000
set_option maxRecDepth 100000
namespace Go.Proofs.YtanpkdkenifmbaaGreatDoor
open Go.RowKit
def AstQ (w:World) (ds ts p:List Int) (e:Ending) (w':World):Prop:=∃ u:Sl,e=.returned (.tuple #[.slice u.a u.n u.c,.int .i64 (Vw.rdE 0 (Vw.pickL ds p) (Vw.pickL (jbo ds) p) ts)])∧Vw.Owns64 w' w.heap.size u.v (Vw.rdL 0 (Vw.pickL ds p) (Vw.pickL (jbo ds) p) ts)∧w.grownBy w' none
theorem jnS {ds p:List Int} {E off':Int} {ds' ss':List Int} (h:Vw.Turned 0 ds (jbo ds) p E off' ds' ss') (hc:ja7 ds=0) (hp:Vw.IsPerm p ds.length):E=0∧off'=0∧ds'=Vw.pickL ds p∧ss'=Vw.pickL (jbo ds) p:=by
 rcases h with ⟨h,-⟩ | ⟨-,h,-⟩ | ⟨-,-,h1,h2,h3,h4⟩
 ·exact absurd (Vw.may_whole (jaX hc)) h
 ·exact absurd hp h
 ·exact ⟨h1,h2,h3,h4⟩
theorem jrA (t:Ten) (ds ts l:List Int) (lv:Sl) (w:World) (hcd:ja7 ds=0) (hpm:Vw.IsPerm l ds.length) (hd:IsInts w t.dv.v ds) (ht:IsInts w t.tv.v ts) (hl:IsInts w lv.v l) :
    Calls Tryz.prog 12 #[jjQ t,.func (.func 16) #[] #[],.slice lv.a lv.n lv.c] w (AstQ w ds ts l):=by
     have HD:=jac hd;have HT:=jac ht;have HL:=jac hl;clear hd ht hl;obtain ⟨ty,⟨da,dn,dc⟩,⟨ta,tn,tc⟩⟩:=t;obtain ⟨la,ln,lc⟩:=lv;unfold jjQ;simp only [Sl.v] at HD HT HL ⊢;obtain ⟨w0,hw0⟩ : ∃ w0,w0=w.alloc (.cells #[.int .i64 ty,.slice da dn dc,.slice ta tn tc] 32):=⟨_,rfl⟩
     have g0:Hid (w.grownBy w0 none):=by show w.grownBy w0 none;rw [hw0];exact jab _ _
     have B0:=heap_alloc_new w (.cells #[.int .i64 ty,.slice da dn dc,.slice ta tn tc] 32);have c0:=(cell_of_row _ _ 0 _ _ (0,0) B0).trans rfl;have c1:=(cell_of_row _ _ 1 _ _ (0,0) B0).trans rfl;have c2:=(cell_of_row _ _ 2 _ _ (0,0) B0).trans rfl;rw [← hw0] at B0;have BX:Hid (∀ wx,w0.grownBy wx none→wx.heap[w.heap.size]?=some (.cells #[.int .i64 ty,.slice da dn dc,.slice ta tn tc] 32 (0,0))):=fun wx hg=>jag B0 hg;have WH:=jac (Vw.whole_any (.slice da dn dc) ds w0 (HD.out.more g0.out));clear B0;go_enter Tryz.func12,Tryz.ntmps12;go_wp2_with fail;rw [← hw0];clear hw0 c0 c1 c2;refine WH.out.mono ?_;rintro e w1 ⟨v,rfl,hov,hg1⟩;obtain ⟨vd,vs,rfl,od,os,-⟩:=hov;obtain ⟨vda,vdc,rfl,-⟩:=od.ints.sl;obtain ⟨vsa,vsc,rfl,-⟩:=os.ints.sl;have VD:=jac od;have VS:=jac os;clear od os;obtain ⟨wA,hwA⟩ : ∃ wA,wA=w1.alloc (.cells #[.int .i64 0,.slice vda (Vw.rowDs ds).length vdc,.slice vsa (jbM ds).length vsc] 63):=⟨_,rfl⟩
     have hX:=heap_alloc_new w1 (.cells #[.int .i64 0,.slice vda (Vw.rowDs ds).length vdc,.slice vsa (jbM ds).length vsc] 63);rw [← hwA] at hX;have gX:w1.grownBy wA none:=by rw [hwA];exact jab _ _
     have hs1:w1.heap.size<wA.heap.size:=by rw [hwA];simp
     have g1:=jac (jaa g0.out hg1);have GX:=jac gX;have HX:=jac hX;have hE:=hcd;have HPM:=jac hpm;clear hcd hpm;have hE':(ja7 ds != 0)=false:=by simp [hE]
     have VI:Vw.IsView w1 (.agg #[.int .i64 0,.slice vda (Vw.rowDs ds).length vdc,.slice vsa (jbM ds).length vsc]) 0 ds (jbo ds):=by
      have h1:=VD.out.ints;have h2:=VS.out.ints;rw [show Vw.rowDs ds=ds from if_pos hE] at h1;rw [show jbM ds=jbo ds from if_pos hE] at h2;rw [show Vw.rowDs ds=ds from if_pos hE,show jbM ds=jbo ds from if_pos hE];exact ⟨_,_,rfl,h1,h2,by omega,by omega⟩
     have SP:=jac (Vw.transpose_any _ _ 0 ds (jbo ds) l _ (VI.more GX.out) (HL.out.more (jaa g1.out GX.out)));have HE:=jac hE;clear VI hE hX gX;go_wp2_with fail;rw [← hwA];clear hwA;refine SP.out.mono ?_;rintro e w2 ⟨u,E,off',ds',ss',rfl,hsp,hou,hg2⟩;obtain ⟨ud,us,rfl,od,os,ho1,ho2,-⟩:=hou;obtain ⟨uda,udc,rfl,-⟩:=od.ints.sl;obtain ⟨usa,usc,rfl,-⟩:=os.ints.sl;have hb:=jag HX.out hg2;obtain ⟨k0,k1,k2,f0,f1,f2⟩:=Vw.box_cells hb;obtain ⟨hY,gY,gB⟩:=Vw.store3 (.int .i64 off') (.slice uda ds'.length udc) (.slice usa ss'.length usc) (jaa GX.out hg2) (Nat.le_refl _) hb;have OD:=jac (od.box gB (by omega));have OS:=jac (os.box gB (by omega));have GY:=jac (jaa g1.out gY);have HSP:=jac hsp;obtain ⟨y0,y1,y2,-,-,-⟩:=Vw.box_cells hY;clear od os hb hY gB hsp hg2;obtain ⟨rfl,rfl,e3,e4⟩:=jnS HSP.out HE.out HPM.out;have E3:=jac e3;have E4:=jac e4;clear e3 e4 HSP;obtain ⟨w3,hw3⟩ : ∃ w3,w3=((w2.setCell ⟨w1.heap.size,0,none⟩ (.int .i64 0)).setCell ⟨w1.heap.size,1,none⟩ (.slice uda ds'.length udc)).setCell ⟨w1.heap.size,2,none⟩ (.slice usa ss'.length usc):=⟨_,rfl⟩
     rw [← hw3] at OD OS GY gY;have BT:=BX.out _ (jaa hg1 gY);have t2:w3.cell? ⟨w.heap.size,2,none⟩=some (.slice ta tn tc):=(cell_of_row _ _ 2 _ _ (0,0) BT).trans rfl;rw [hw3] at t2;have RD:=jac (Vw.read_any 0 ds' ss' ts _ _ w3 ⟨_,_,rfl,OD.out.ints,OS.out.ints,by omega,by omega⟩ (HT.out.more GY.out));have LT:Hid (w.heap.size≤w3.heap.size):=GY.out.size;clear BT gY;go_wp2_with fail;rw [← hw3];clear hw3 t2 y0 y1 y2;refine RD.out.mono ?_;rintro e w4 ⟨u,rfl,ou,hg4⟩;obtain ⟨ua,un,uc,rfl⟩:=jfE ou;have OU:=jac (jd0 ou LT.out);have G4:=jac (jaa GY.out hg4);clear ou hg4;go_wp2;go_ret2;have e3:=E3.out;have e4:=E4.out;subst e3 e4;exact ⟨⟨ua,un,uc⟩,rfl,OU.out,G4.out⟩
end Go.Proofs.YtanpkdkenifmbaaGreatDoor
namespace Go.Proofs.YtanpkdkenifmbaaGreatDoor
open Go.RowKit
theorem jgD {w:World} {base n:Nat} {v:Value} (hn:n≤1000) (h:w.ownsRow base 3 1 v n ((List.replicate n (0:Int)).map (Value.int .i64))):Owns w base v (List.replicate n 0):=by
 refine ⟨by rw [List.length_replicate];exact h,by rw [List.length_replicate];omega,fun z hz=>?_⟩;rw [(List.mem_replicate.1 hz).2];omega
theorem jeW {w:World} {base g n c:Nat} {zs:List Int} (h:Owns w base (.slice (some ⟨g,0,none⟩) n c) zs) (hn:zs.length=n) {k:Nat} (hk:k<n) (z:Int) (hz : -9223372036854775808≤z∧z≤9223372036854775807) :
    w.cell? ⟨g,k,none⟩=some (.int .i64 (zs.getD k 0))∧w.frozen? ⟨g,k,none⟩=false∧Owns (w.setCell ⟨g,k,none⟩ (.int .i64 z)) base (.slice (some ⟨g,0,none⟩) n c) (zs.set k z)∧w.grownBy (w.setCell ⟨g,k,none⟩ (.int .i64 z)) (some g):=by
     subst hn;have hr:=h.1;obtain ⟨s1,s2⟩:=hr.stored k (.int .i64 z);refine ⟨?_,hr.frozenAt k,⟨?_,by rw [List.length_set];exact h.2.1,fun y hy=>?_⟩,s2⟩
     ·rw [hr.cellAt k (by omega)];simp [List.getD,hk]
     ·rw [List.length_set,List.map_set];exact s1
     ·rcases List.mem_or_eq_of_mem_set hy with hy | rfl
      ·exact h.2.2 y hy
      ·exact hz
end Go.Proofs.YtanpkdkenifmbaaGreatDoor
namespace Go.Proofs.YtanpkdkenifmbaaGreatDoor
open Go.RowKit
theorem jpN (l:List Int) (k:Nat) (hk:k<l.length):(l.take k++List.replicate (l.length - k) (0:Int)).set k (l.getD k 0)=l.take (k+1)++List.replicate (l.length - (k+1)) 0:=by
 rw [List.set_append_right _ _ (by rw [List.length_take];omega),List.length_take,Nat.min_eq_left (by omega),Nat.sub_self,show l.length - k=(l.length - (k+1))+1 from by omega,List.replicate_succ,List.set_cons_zero,List.take_add_one,List.getElem?_eq_getElem (by omega),Option.toList_some,List.append_assoc];have e:l.getD k 0=l[k]:=by simp [List.getD,hk]
 rw [e]
 rfl
theorem jlk (u:Sl) (l:List Int) (w:World) (hv:IsInts w u.v l) (hl:l.length≤1000):Calls Tryz.prog 17 #[.slice u.a u.n u.c] w fun e w'=>∃ v:Sl,e=.returned v.v∧IsInts w' v.v l∧w.grownBy w' none:=by
 obtain ⟨i0,hi0,hz0,hz1,hz2⟩:=info_parts jcE;obtain ⟨ua,un,uc⟩:=u;obtain ⟨ux,c,eu,c1,c2,c3⟩:=hv.sl;simp only [Sl.v,Value.slice.injEq] at eu;obtain ⟨rfl,rfl,rfl⟩:=eu;have HV:=jac hv;have hb4:i0.bytes*l.length≤281474976710656:=by rw [hz2];omega
 have hb5:l.length≤maxLen:=by simp only [maxLen];omega
 clear hv;go_enter Tryz.func17,Tryz.ntmps17;go_wp2_with (first | (refine wpList_make_full _ rfl (.tmp 7) (.tmp 7) 29 rfl w.heap.size 3 i0 (.int .i64 0) 1 Tryz.underlying29 hi0 hz0 hz1 .i64 .i64 _ _ l.length rfl rfl (by omega) (by omega) hb4 hb5 (Nat.le_refl _) ?_;intro w1 hown1 hg1));rw [jby] at hown1;have O1:=jac (jgD (by omega) hown1);have G1:=jac hg1;clear hown1 hg1 hb4 hb5;go_wp2;go_loopw [11] (fun x wr=>w.grownBy wr none∧∃ k:Nat,k≤l.length∧x=.int .i64 k∧Owns wr w.heap.size (.slice (some ⟨w.heap.size,0,none⟩) l.length l.length) (l.take k++List.replicate (l.length - k) 0)) (fun x _=>l.length - (intOf x).toNat)
 case atStart=>exact ⟨G1.out,0,Nat.zero_le _,rfl,by simpa using O1.out⟩
 case round =>
  obtain ⟨hg,k,hk,rfl,o1⟩:=hrel;have HG:=jac hg;have P1:=jac o1;clear o1
  by_cases hlt:k<l.length
  ·obtain ⟨b,off,rfl,hc⟩:=HV.out.get hlt;have hcell:=jad (hc k hlt) hg;obtain ⟨a1,a2,a3,a4⟩:=jeW P1.out (by rw [List.length_append,List.length_take,List.length_replicate];omega) hlt (l.getD k 0) (HV.out.wf _ (by rw [List.getD,List.getElem?_eq_getElem hlt];simp));rw [jpN l k hlt] at a3;have N1:=jac a3;have NG:=jac (jay hg a4 (Nat.le_refl _));obtain ⟨ov,hov⟩ : ∃ q,q=(l.take k++List.replicate (l.length - k) (0:Int)).getD k 0:=⟨_,rfl⟩
   rw [← hov] at a1;obtain ⟨z,hz⟩ : ∃ z,z=l.getD k 0:=⟨_,rfl⟩
   rw [← hz] at hcell N1 NG;have l1:(k:Int)<(l.length:Int):=by omega
   clear a3 a4 hg hov hz hc;go_wp2_with fail;go_roundw
   case rel=>exact ⟨NG.out,k+1,hlt,by go_num,N1.out⟩
   case measure=>simp [intOf];omega
  ·obtain rfl:k=l.length:=by omega
   have E1:l.take l.length++List.replicate (l.length - l.length) (0:Int)=l:=by simp
   have P1':=P1.out;rw [E1] at P1';have F:=jac P1'.ints;clear P1' E1 P1 hg;go_wp2;go_ret;exact ⟨⟨some ⟨w.heap.size,0,none⟩,l.length,l.length⟩,rfl,F.out,HG.out⟩
end Go.Proofs.YtanpkdkenifmbaaGreatDoor
namespace Go.Proofs.YtanpkdkenifmbaaGreatDoor
open Go.RowKit
def doR (r:R (Int×List Int)) (M:List Int→R (List Int)):R (Int×List Int×List Int):=match r with
 | .ok (ty,l)=>(M l).map fun zs=>(ty,l,zs)
 | .error c=>.error c
def DoQ (w:World) (r:R (Int×List Int×List Int)) (e:Ending) (w':World):Prop:=w.grownBy w' none∧match r with
 | .ok (ty,l,zs)=>∃ t:Ten,t.ty=ty∧e=.returned (.tuple #[jjQ t,.int .i64 0])∧Owns w' w.heap.size t.dv.v l∧jbC w' w.heap.size t.tv.v zs
 | .error c=>e=.returned (.tuple #[.agg #[.int .i64 0,.slice none 0 0,.slice none 0 0],.int .i64 c])
theorem jnT {w w':World} {r:R (Int×List Int×List Int)} {c:Int} (h:r=.error c) (hg:w.grownBy w' none):DoQ w r (.returned (.tuple #[.agg #[.int .i64 0,.slice none 0 0,.slice none 0 0],.int .i64 c])) w':=by rw [h];exact ⟨hg,rfl⟩
theorem jsi {w w':World} {r:R (Int×List Int×List Int)} {ty:Int} {l zs:List Int} {d t:Sl} (h:r=.ok (ty,l,zs)) (hg:w.grownBy w' none) (hd:Owns w' w.heap.size d.v l) (ht:jbC w' w.heap.size t.v zs):DoQ w r (.returned (.tuple #[.agg #[.int .i64 ty,.slice d.a d.n d.c,.slice t.a t.n t.c],.int .i64 0])) w':=by rw [h];exact ⟨hg,⟨ty,d,t⟩,rfl,rfl,hd,ht⟩
theorem jb7 {fn : Func} {p u : Tmp} (h : fn.results = #[.cell p 32, .tmp u]) (tmps : Array Value) (w : World) (B : Nat) (hp : tmps.getD p undef = .pointer (some ⟨B, 0, none⟩)) {a0 a1 a2 : Value}
    (hb:w.heap[B]?=some (.cells #[a0,a1,a2] 32 (0,0))):(results fn tmps).run Tryz.prog w=.ok (.tuple #[.agg #[a0,a1,a2],tmps.getD u undef]) w:=by
     have hl:=run_loadVar_row (P:=Tryz.prog) w B _ 32 #[a0,a1,a2] (0,0) _ hb Tryz.underlying32 rfl (by rw [jlO];rfl);rw [results_cell_tmp h,hp];simp [asAddr,hl,Result.andThen]
theorem jeE {w:World} {base te sz n:Nat} {v:Value} {cs:List Value} (h:w.ownsRow base te sz v n cs) {B:Nat} (hB:B<base):v.ownBlock=none∨v.ownBlock≠some B:=by
 rcases h.2 with ⟨e,-⟩ | ⟨g,cap,cur,e,hg,-⟩
 ·exact .inl (by rw [e];rfl)
 ·exact .inr (by rw [e];simp [Value.ownBlock];omega)
end Go.Proofs.YtanpkdkenifmbaaGreatDoor
namespace Go.Proofs.YtanpkdkenifmbaaGreatDoor
open Go.RowKit
theorem jpO (n : Nod) (u : Sl) (R0 : R (Int × List Int)) (M : List Int → R (List Int)) (w : World) (h1 : ∀ c, R0 = .error c → c ≠ 0) (h2 : ∀ l c, M l = .error c → c ≠ 0)
    (NC:∀ wx,w.grownBy wx none→Calls Tryz.prog 11 #[jaA n,.slice u.a u.n u.c] wx (joj n.out wx R0))
    (MC:∀ (wx:World) (ty:Int) (dv:Sl) (l:List Int),w.grownBy wx none→R0=.ok (ty,l)→IsInts wx dv.v l→Calls Tryz.prog 9 #[jaA n,.slice u.a u.n u.c,.agg #[.string n.out,.int .i64 ty,.slice dv.a dv.n dv.c]] wx (EvQ wx (M l))) :
    Calls Tryz.prog 8 #[jaA n,.slice u.a u.n u.c,.func (.func 9) #[] #[]] w (DoQ w (doR R0 M)):=by
     have H1:=jac h1;have H2:=jac h2;have HMC:=jac MC;clear h1 h2 MC;obtain ⟨w0,hw0⟩ : ∃ w0,w0=(w.alloc (.cells #[.string n.op,.string n.name,.slice n.iv.a n.iv.n n.iv.c,.string n.out,.slice n.av.a n.av.n n.av.c] 25)).alloc (.cells #[.int .i64 0,.slice none 0 0,.slice none 0 0] 32):=⟨_,rfl⟩
     have g0:Hid (w.grownBy w0 none):=by show w.grownBy w0 none;rw [hw0];exact jaa (jab _ _) (jab _ _)
     have hbx:=jaJ w (.cells #[.string n.op,.string n.name,.slice n.iv.a n.iv.n n.iv.c,.string n.out,.slice n.av.a n.av.n n.av.c] 25) (.cells #[.int .i64 0,.slice none 0 0,.slice none 0 0] 32);rw [← hw0] at hbx;have BN:Hid (∀ wx,w0.grownBy wx none→wx.heap[w.heap.size]?=some (.cells #[.string n.op,.string n.name,.slice n.iv.a n.iv.n n.iv.c,.string n.out,.slice n.av.a n.av.n n.av.c] 25 (0,0))):=fun wx hg=>jag hbx.1 hg;have BX:Hid (∀ wx,w0.grownBy wx none→wx.heap[w.heap.size+1]?=some (.cells #[.int .i64 0,.slice none 0 0,.slice none 0 0] 32 (0,0))):=fun wx hg=>jag hbx.2 hg;have Z0:Hid (w.heap.size+1<w0.heap.size):=(Array.getElem?_eq_some_iff.1 hbx.2).1;have N1:=jac (NC w0 g0.out);clear hbx NC;obtain ⟨op,nam,⟨ia,il,ic⟩,out,⟨ao,al,cap⟩⟩:=n;obtain ⟨ua,un,uc⟩:=u;unfold jaA at HMC N1 ⊢;simp only at HMC N1 BN hw0 ⊢;go_enter Tryz.func8,Tryz.ntmps8;go_wp2_with fail;rw [← hw0];clear hw0;refine N1.out.mono ?_;rintro e w1 ⟨hg1,hq⟩;have G1:=jac hg1
     cases R0 with
     | error c =>
      obtain rfl:=hq;have hc:=H1.out c rfl;have bc:(c != 0)=true:=by simpa using hc
      obtain ⟨w2,hw2⟩ : ∃ w2,w2=w1.alloc (.cells #[.string ⟨#[]⟩,.int .i64 0,.slice none 0 0] 43):=⟨_,rfl⟩
      have g2:w1.grownBy w2 none:=by rw [hw2];exact jab _ _
      have B1:=BX.out w2 (jaa hg1 g2);obtain ⟨f0,f1,f2⟩:=ja3 B1;have c0:w2.cell? ⟨w.heap.size+1,0,none⟩=some (.int .i64 0):=(cell_of_row _ _ 0 _ _ (0,0) B1).trans rfl;have c1:w2.cell? ⟨w.heap.size+1,1,none⟩=some (.slice none 0 0):=(cell_of_row _ _ 1 _ _ (0,0) B1).trans rfl;have c2:w2.cell? ⟨w.heap.size+1,2,none⟩=some (.slice none 0 0):=(cell_of_row _ _ 2 _ _ (0,0) B1).trans rfl;obtain ⟨hX,gX⟩:=jbu (.int .i64 0) (.slice none 0 0) (.slice none 0 0) B1;have HX:=jac hX;have GX:=jac (jay (jaa g0.out (jaa hg1 g2)) gX (by omega));rw [hw2] at f0 f1 f2 c0 c1 c2 HX GX;clear hX gX B1 hc hg1 g2 hw2;go_wp2;refine bodyPost_ret (jb7 rfl _ _ (w.heap.size+1) rfl HX.out) rfl ?_;exact jnT rfl GX.out
     | ok rr =>
      obtain ⟨ty,l⟩:=rr;obtain ⟨⟨s1,s2,s3⟩,rfl,ho⟩:=hq;obtain ⟨w2,hw2⟩ : ∃ w2,w2=w1.alloc (.cells #[.string out,.int .i64 ty,.slice s1 s2 s3] 43):=⟨_,rfl⟩
      have g2:w1.grownBy w2 none:=by rw [hw2];exact jab _ _
      have hB2:=heap_alloc_new w1 (.cells #[.string out,.int .i64 ty,.slice s1 s2 s3] 43);rw [← hw2] at hB2;have BV:Hid (∀ wx,w2.grownBy wx none→wx.heap[w1.heap.size]?=some (.cells #[.string out,.int .i64 ty,.slice s1 s2 s3] 43 (0,0))):=fun wx hg=>jag hB2 hg;have HO:=jac ho;obtain ⟨n0,n1,n2,n3,n4⟩:=jai (n:=⟨op,nam,⟨ia,il,ic⟩,out,⟨ao,al,cap⟩⟩) (BN.out w2 (jaa hg1 g2));have M1:=jac (HMC.out w2 ty ⟨s1,s2,s3⟩ l (jaa g0.out (jaa hg1 g2)) rfl (ho.ints.more g2));have G2:=jac (jaa hg1 g2);have G12:=jac g2;simp only at n0 n1 n2 n3 n4 M1;rw [hw2] at n0 n1 n2 n3 n4;clear ho hg1 g2 hB2;go_wp2_with fail;rw [← hw2];clear hw2 n0 n1 n2 n3 n4;refine M1.out.mono ?_;rintro e w3 ⟨hg3,hq⟩;have B3:=BX.out w3 (jaa G2.out hg3);have G3:=jac (jaa g0.out (jaa G2.out hg3));obtain ⟨f0,f1,f2⟩:=ja3 B3;have c0:w3.cell? ⟨w.heap.size+1,0,none⟩=some (.int .i64 0):=(cell_of_row _ _ 0 _ _ (0,0) B3).trans rfl;have c1:w3.cell? ⟨w.heap.size+1,1,none⟩=some (.slice none 0 0):=(cell_of_row _ _ 1 _ _ (0,0) B3).trans rfl;have c2:w3.cell? ⟨w.heap.size+1,2,none⟩=some (.slice none 0 0):=(cell_of_row _ _ 2 _ _ (0,0) B3).trans rfl;obtain ⟨mr,hmr⟩ : ∃ mr,mr=M l:=⟨_,rfl⟩
      rw [← hmr] at hq;have ED:Hid (doR (.ok (ty,l)) M=mr.map fun zs=>(ty,l,zs)):=by rw [hmr];rfl
      cases mr with
      | error c =>
       obtain rfl:=hq;have hc:=H2.out l c hmr.symm;have bc:(c != 0)=true:=by simpa using hc
       obtain ⟨hX,gX⟩:=jbu (.int .i64 0) (.slice none 0 0) (.slice none 0 0) B3;have HX:=jac hX;have GX:=jac (jay G3.out gX (by omega));clear hX gX B3 hc hg3 hmr;go_wp2;refine bodyPost_ret (jb7 rfl _ _ (w.heap.size+1) rfl HX.out) rfl ?_;exact jnT ED.out GX.out
      | ok zs =>
       obtain ⟨⟨t1,t2,t3⟩,rfl,ht⟩:=hq;have bv:=BV.out w3 hg3;have v1:w3.cell? ⟨w1.heap.size,1,none⟩=some (.int .i64 ty):=(cell_of_row _ _ 1 _ _ (0,0) bv).trans rfl;have v2:w3.cell? ⟨w1.heap.size,2,none⟩=some (.slice s1 s2 s3):=(cell_of_row _ _ 2 _ _ (0,0) bv).trans rfl;obtain ⟨hX,gX⟩:=jbu (.int .i64 ty) (.slice s1 s2 s3) (.slice t1 t2 t3) B3;have HX:=jac hX;have GX:=jac (jay G3.out gX (by omega));have z0:=Z0.out;have z1:=g0.out.size;have z2:=G2.out.size;have OD:=jac (((HO.out.more (jaa G12.out hg3) (by cases (Sl.v ⟨s1,s2,s3⟩).ownBlock <;> simp)).base_le (b':=w0.heap.size) (Nat.le_refl _)).more gX (jeE HO.out.1 (by omega)))
       have OT:Hid (jbC _ w2.heap.size (Sl.v ⟨t1,t2,t3⟩) zs):=ht.more gX (jeE ht.1 (by omega));clear hX gX B3 hg3 hmr bv ht z0 z1 z2;go_wp2;refine bodyPost_ret (jb7 rfl _ _ (w.heap.size+1) rfl HX.out) rfl ?_;exact jsi (d:=⟨s1,s2,s3⟩) (t:=⟨t1,t2,t3⟩) ED.out GX.out (OD.out.base_le (by have:=g0.out.size;omega)) ⟨jaT OT.out.1 (by have:=g0.out.size;have:=G2.out.size;omega),OT.out.2⟩
theorem jrB (n:Nod) (u:Sl) (r:R (Int×List Int×List Int)) (w:World) (BC:∀ wx,w.grownBy wx none→Calls Tryz.prog 8 #[jaA n,.slice u.a u.n u.c,.func (.func 9) #[] #[]] wx (DoQ wx r)) :
    Calls Tryz.prog 6 #[jaA n,.slice u.a u.n u.c] w (DoQ w r):=by
     obtain ⟨w0,hw0⟩ : ∃ w0,w0=(w.alloc (.cells #[.string n.op,.string n.name,.slice n.iv.a n.iv.n n.iv.c,.string n.out,.slice n.av.a n.av.n n.av.c] 25)).alloc (.cells #[.int .i64 0,.slice none 0 0,.slice none 0 0] 32):=⟨_,rfl⟩
     have g0:Hid (w.grownBy w0 none):=by show w.grownBy w0 none;rw [hw0];exact jaa (jab _ _) (jab _ _)
     have hbx:=jaJ w (.cells #[.string n.op,.string n.name,.slice n.iv.a n.iv.n n.iv.c,.string n.out,.slice n.av.a n.av.n n.av.c] 25) (.cells #[.int .i64 0,.slice none 0 0,.slice none 0 0] 32);rw [← hw0] at hbx;have BX:Hid (∀ wx,w0.grownBy wx none→wx.heap[w.heap.size+1]?=some (.cells #[.int .i64 0,.slice none 0 0,.slice none 0 0] 32 (0,0))):=fun wx hg=>jag hbx.2 hg;have Z0:Hid (w.heap.size+1<w0.heap.size):=(Array.getElem?_eq_some_iff.1 hbx.2).1;have N1:=jac (BC w0 g0.out);clear hbx BC;obtain ⟨op,nam,⟨ia,il,ic⟩,out,⟨ao,al,cap⟩⟩:=n;obtain ⟨ua,un,uc⟩:=u;unfold jaA at N1 ⊢;simp only at N1 hw0 ⊢;go_enter Tryz.func6,Tryz.ntmps6;go_wp2_with fail;rw [← hw0];clear hw0;refine N1.out.mono ?_;rintro e w3 ⟨hg3,hq⟩;have B3:=BX.out w3 hg3;have G3:=jac (jaa g0.out hg3);obtain ⟨f0,f1,f2⟩:=ja3 B3;have c0:w3.cell? ⟨w.heap.size+1,0,none⟩=some (.int .i64 0):=(cell_of_row _ _ 0 _ _ (0,0) B3).trans rfl;have c1:w3.cell? ⟨w.heap.size+1,1,none⟩=some (.slice none 0 0):=(cell_of_row _ _ 1 _ _ (0,0) B3).trans rfl;have c2:w3.cell? ⟨w.heap.size+1,2,none⟩=some (.slice none 0 0):=(cell_of_row _ _ 2 _ _ (0,0) B3).trans rfl
     cases r with
     | error c =>
      obtain rfl:=hq;obtain ⟨hX,gX⟩:=jbu (.int .i64 0) (.slice none 0 0) (.slice none 0 0) B3;have HX:=jac hX;have GX:=jac (jay G3.out gX (by omega));clear hX gX B3 hg3;go_wp2;refine bodyPost_ret (jb7 rfl _ _ (w.heap.size+1) rfl HX.out) rfl ?_;exact jnT rfl GX.out
     | ok rr =>
      obtain ⟨ty,l,zs⟩:=rr;obtain ⟨⟨ty',⟨s1,s2,s3⟩,⟨t1,t2,t3⟩⟩,e1,rfl,hd,ht⟩:=hq;simp only at e1;subst e1;obtain ⟨hX,gX⟩:=jbu (.int .i64 ty') (.slice s1 s2 s3) (.slice t1 t2 t3) B3;have HX:=jac hX;have GX:=jac (jay G3.out gX (by omega));have OD:=jac (hd.more gX (jeE hd.1 Z0.out));have OT:=jac (ht.more gX (jeE ht.1 Z0.out));clear hX gX B3 hg3 hd ht;unfold jjQ;go_wp2;refine bodyPost_ret (jb7 rfl _ _ (w.heap.size+1) rfl HX.out) rfl ?_;exact jsi (d:=⟨s1,s2,s3⟩) (t:=⟨t1,t2,t3⟩) rfl GX.out (OD.out.base_le (by have:=g0.out.size;omega)) ⟨jaT OT.out.1 (by have:=g0.out.size;omega),OT.out.2⟩
end Go.Proofs.YtanpkdkenifmbaaGreatDoor
namespace Go.Proofs.YtanpkdkenifmbaaGreatDoor
open Go.RowKit
theorem jjn (n:Nod) (A:At) (hop:n.op=⟨#[84,114,97,110,115,112,111,115,101]⟩) (u:Sl) (T0:Ten) (x xs:List Int) (nam0:ByteArray) (vty:Int) (dv:Sl) (l:List Int) (w:World) (hno:NodeOk w n A) (hv:TensIn w u.v [(T0,(x,xs))]) (hd:IsInts w dv.v l) (hl:l.length=x.length) (hc:ja7 x=0) (hp:Vw.IsPerm (jd7 A x.length) x.length) (hr:Vw.rdOk 0 (Vw.pickL x (jd7 A x.length)) (Vw.pickL (jbo x) (jd7 A x.length)) xs=true) :
    Calls Tryz.prog 9 #[jaA n,.slice u.a u.n u.c,.agg #[.string nam0,.int .i64 vty,.slice dv.a dv.n dv.c]] w (EvQ w (.ok (Vw.rdL 0 (Vw.pickL x (jd7 A x.length)) (Vw.pickL (jbo x) (jd7 A x.length)) xs))):=by
     have hfew:=(jaX hc).few;obtain ⟨P,hP⟩ : ∃ P,P=jd7 A x.length:=⟨_,rfl⟩
     rw [← hP] at hp hr ⊢;have hPl:P.length=x.length:=hp.1;have PM:Hid (∀ wx,w.grownBy wx none→Calls Tryz.prog 18 #[jaA n,.int .i64 x.length] wx fun e w'=>∃ u:Sl,e=.returned u.v∧IsInts w' u.v P∧wx.grownBy w' none):=fun wx hx=>by rw [hP];exact jjK n A x.length wx (hno.more hx) (by omega)
     obtain ⟨za,zn,zc⟩:=dv;obtain ⟨zx,zc',ez,-⟩:=hd.sl;simp only [Sl.v,Value.slice.injEq] at ez;obtain ⟨rfl,rfl,rfl⟩:=ez;rw [hl];obtain ⟨xa,xc,e1,p1,p2,p3⟩:=hv.vals.form;obtain ⟨ua,un,uc⟩:=u;simp only [Sl.v,List.map_cons,List.map_nil,List.length_cons,List.length_nil,Value.slice.injEq] at e1;obtain ⟨rfl,rfl,rfl⟩:=e1;obtain ⟨ub,uo,rfl⟩:=hv.vals.addr (k:=0) (by simp);obtain ⟨t0,t1,t2⟩:=hv.at 0 (by simp);have HH0:=jac (hv.has (T0,(x,xs)) (by simp));obtain ⟨tx,⟨xda,xdn,xdc⟩,⟨xta,xtn,xtc⟩⟩:=T0;simp only [List.getElem_cons_zero,Nat.zero_mul,Nat.add_zero] at t0 t1 t2 HH0;have AS:Hid (∀ (wx:World) (lv:Sl),w.grownBy wx none→IsInts wx lv.v P→Calls Tryz.prog 12 #[.agg #[.int .i64 tx,.slice xda xdn xdc,.slice xta xtn xtc],.func (.func 16) #[] #[],.slice lv.a lv.n lv.c] wx (AstQ wx x xs P)):=fun wx lv hx hlv=>jrA ⟨tx,⟨xda,xdn,xdc⟩,⟨xta,xtn,xtc⟩⟩ x xs P lv wx hc hp (HH0.out.1.more hx) (HH0.out.2.more hx) hlv;have RE:Hid (Vw.rdE 0 (Vw.pickL x P) (Vw.pickL (jbo x) P) xs=0):=if_pos hr;obtain ⟨op,nam,⟨ia,il,ic⟩,out,⟨ao,al,cap⟩⟩:=n;simp only at hop;subst hop;unfold jaA at PM ⊢;simp only at PM ⊢;obtain ⟨w0,hw0⟩ : ∃ w0,w0=(w.alloc (.cells #[.string ⟨#[84,114,97,110,115,112,111,115,101]⟩,.string nam,.slice ia il ic,.string out,.slice ao al cap] 25)).alloc (.cells #[.string nam0,.int .i64 vty,.slice za x.length zc] 43):=⟨_,rfl⟩
     have g0:w.grownBy w0 none:=by rw [hw0];exact jaa (jab _ _) (jab _ _)
     have hbx:=jaJ w (.cells #[.string ⟨#[84,114,97,110,115,112,111,115,101]⟩,.string nam,.slice ia il ic,.string out,.slice ao al cap] 25) (.cells #[.string nam0,.int .i64 vty,.slice za x.length zc] 43);rw [← hw0] at hbx;obtain ⟨n0,n1,n2,n3,n4⟩:=jai (n:=⟨⟨#[84,114,97,110,115,112,111,115,101]⟩,nam,⟨ia,il,ic⟩,out,⟨ao,al,cap⟩⟩) hbx.1;obtain ⟨v0,v1,v2⟩:=jaK hbx.2;have t0:=jad t0 g0;have t1:=jad t1 g0;have t2:=jad t2 g0;have G0:=jac g0;have i0':(0:Int)<1:=by decide
     have HPL:Hid (P.length≤1000):=by show P.length≤1000;omega
     clear hbx hv hd hno hc hp hr hfew hP hPl g0 p1 p2 p3;rw [hw0] at n0;go_enter Tryz.func9,Tryz.ntmps9;go_wp2_with fail;rw [← hw0];rw [← hw0] at n0;clear hw0;refine wp_region_held_drew (S:=fun w'=>w0.grownBy w' none) (by kernel_rfl) (jaf (jae _)) (fun hHeld=>?_);refine tkC 0 ?_ (hv:=by intro wS hSw;go_simp;(try with_reducible rfl))
     try simp only [Act.put]
     refine tkC 1 ?_ (hv:=by intro wS hSw;go_simp;(try with_reducible rfl))
     try simp only [Act.put]
     refine tkC 2 ?_ (hv:=by intro wS hSw;have c0:=jad t0 hSw;have c1:=jad t1 hSw;have c2:=jad t2 hSw;go_simp;(try with_reducible rfl))
     try simp only [Act.put]
     refine tkC 3 ?_ (hv:=by intro wS hSw;have c0:=jad n0 hSw;have c1:=jad n1 hSw;have c2:=jad n2 hSw;have c3:=jad n3 hSw;have c4:=jad n4 hSw;go_simp;(try with_reducible rfl))
     try simp only [Act.put]
     refine tkC 4 ?_ (hv:=by intro wS hSw;go_simp;(try with_reducible rfl))
     try simp only [Act.put]
     refine tkC 5 ?_ (hv:=by intro wS hSw;have c0:=jad v2 hSw;go_simp;(try with_reducible rfl))
     try simp only [Act.put]
     refine tkC 6 ?_ (hv:=by intro wS hSw;go_simp;(try with_reducible rfl))
     try simp only [Act.put]
     refine rdA 7 fun K hK=>?_;go_simp;refine (PM.out w0.drew (jaf G0.out)).mono ?_;rintro e w1 ⟨⟨pa,pn,pc⟩,rfl,ip,hg1⟩;have g1:w0.grownBy w1 none:=jaa (jaf (jae _)) hg1;refine hK.out _ _ g1 (fun hHeld=>?_);clear hK K
     try simp only [Act.put]
     refine rdA 8 fun K hK=>?_;go_simp;refine (jlk ⟨pa,pn,pc⟩ P w1 ip HPL.out).mono ?_;rintro e w2 ⟨⟨qa,qn,qc⟩,rfl,iq,hg2⟩;have g2:w0.grownBy w2 none:=jaa g1 hg2;refine hK.out _ _ g2 (fun hHeld=>?_);clear hK K
     try simp only [Act.put]
     refine rdA 9 fun K hK=>?_;go_simp;refine (AS.out w2 ⟨qa,qn,qc⟩ (jaa G0.out g2) iq).mono ?_;rintro e w3 ⟨⟨ra,rn,rc⟩,rfl,ho3,hg3⟩;have g3:w0.grownBy w3 none:=jaa g2 hg3;rw [RE.out];refine hK.out _ _ g3 (fun hHeld=>?_);clear hK K;refine tkC 10 ?_ (hv:=by intro wS hSw;go_simp;(try with_reducible rfl))
     try simp only [Act.put]
     refine tkC 11 ?_ (hv:=by intro wS hSw;go_simp;(try with_reducible rfl))
     try simp only [Act.put]
     refine tkC 12 ?_ (hv:=by intro wS hSw;go_simp;(try with_reducible rfl))
     try simp only [Act.put]
     refine tkC 13 ?_ (hv:=by intro wS hSw;go_simp;(try with_reducible rfl))
     try simp only [Act.put]
     refine wpAnyH_done (by kernel_rfl) ?_ _;have HO:Hid (jbC w3 w.heap.size (.slice ra rn rc) (Vw.rdL 0 (Vw.pickL x P) (Vw.pickL (jbo x) P) xs)):=⟨jaT ho3.1 (Nat.le_trans G0.out.size g2.size),ho3.2⟩
     have HG:=jac (jaa G0.out g3);clear ho3 hg3 g3 hg2 g2 hg1 g1 ip iq t0 t1 t2 n0 n1 n2 n3 n4 v0 v1 v2 hHeld;go_simp;go_wp2;go_ret2;exact jnh rfl HG.out ⟨⟨ra,rn,rc⟩,rfl,HO.out⟩
end Go.Proofs.YtanpkdkenifmbaaGreatDoor
namespace Go.Proofs.YtanpkdkenifmbaaGreatDoor
open Go.RowKit
theorem jjX {w w':World} {K:List Int→Prop} {e:Ending} (h:EvU w.drew K e w'):EvU w K e w':=by
 obtain ⟨hg,u,c,rfl,hq⟩:=h;refine ⟨jaa (jaf (jae _)) hg,u,c,rfl,fun hc=>?_⟩;obtain ⟨zs,h1,h2⟩:=hq hc;exact ⟨zs,h1,h2⟩
theorem jhk (n:Nod) (hop:n.op∈([⟨#[82,101,115,104,97,112,101]⟩,⟨#[83,113,117,101,101,122,101]⟩,⟨#[85,110,115,113,117,101,101,122,101]⟩,⟨#[70,108,97,116,116,101,110]⟩]:List ByteArray)) (u:Sl) (T0:Ten) (x xs:List Int) (nam0:ByteArray) (vty:Int) (dv:Sl) (l:List Int) (w:World) (hv:TensIn w u.v [(T0,(x,xs))]) (hd:IsInts w dv.v l) :
    Calls Tryz.prog 9 #[jaA n,.slice u.a u.n u.c,.agg #[.string nam0,.int .i64 vty,.slice dv.a dv.n dv.c]] w (EvU w fun zs=>∀ z∈zs,z∈xs):=by
     have HDV:=jac hd;obtain ⟨xa,xc,e1,p1,p2,p3⟩:=hv.vals.form;obtain ⟨ua,un,uc⟩:=u;simp only [Sl.v,List.map_cons,List.map_nil,List.length_cons,List.length_nil,Value.slice.injEq] at e1;obtain ⟨rfl,rfl,rfl⟩:=e1;obtain ⟨ub,uo,rfl⟩:=hv.vals.addr (k:=0) (by simp);obtain ⟨t0,t1,t2⟩:=hv.at 0 (by simp);have HH0:=jac (hv.has (T0,(x,xs)) (by simp));obtain ⟨tx,⟨xda,xdn,xdc⟩,⟨xta,xtn,xtc⟩⟩:=T0;obtain ⟨za,zn,zc⟩:=dv;simp only [List.getElem_cons_zero,Nat.zero_mul,Nat.add_zero] at t0 t1 t2 HH0 HDV
     have AS:Hid (∀ (wx:World),w.grownBy wx none→Calls Tryz.prog 12 #[.agg #[.int .i64 tx,.slice xda xdn xdc,.slice xta xtn xtc],.func (.func 14) #[] #[],.slice za zn zc] wx (EvU wx fun zs=>∀ z∈zs,z∈xs)):=fun wx hx=>jnQ ⟨tx,⟨xda,xdn,xdc⟩,⟨xta,xtn,xtc⟩⟩ x xs ⟨za,zn,zc⟩ 14 wx (HH0.out.1.more hx) (HH0.out.2.more hx) (fun _ _=>by kernel_rfl) (fun v wy hy hv=>(Vw.reshape_any v _ 0 x (jbo x) l wy hv (HDV.out.more (jaa hx hy))).mono fun e w' h=>by
      obtain ⟨u,E,off',ds',ss',he,-,ho,hg⟩:=h;exact ⟨u,E,off',ds',ss',he,ho,hg⟩)
     obtain ⟨op,nam,⟨ia,il,ic⟩,out,⟨ao,al,cap⟩⟩:=n;simp only [List.mem_cons,List.not_mem_nil,or_false] at hop;unfold jaA;simp only;obtain ⟨w0,hw0⟩ : ∃ w0,w0=(w.alloc (.cells #[.string op,.string nam,.slice ia il ic,.string out,.slice ao al cap] 25)).alloc (.cells #[.string nam0,.int .i64 vty,.slice za zn zc] 43):=⟨_,rfl⟩
     have g0:w.grownBy w0 none:=by rw [hw0];exact jaa (jab _ _) (jab _ _)
     have hbx:=jaJ w (.cells #[.string op,.string nam,.slice ia il ic,.string out,.slice ao al cap] 25) (.cells #[.string nam0,.int .i64 vty,.slice za zn zc] 43);rw [← hw0] at hbx;obtain ⟨n0,n1,n2,n3,n4⟩:=jai (n:=⟨op,nam,⟨ia,il,ic⟩,out,⟨ao,al,cap⟩⟩) hbx.1;obtain ⟨v0,v1,v2⟩:=jaK hbx.2;have t0:=jad t0 g0;have t1:=jad t1 g0;have t2:=jad t2 g0;have G0:=jac g0;have i0':(0:Int)<1:=by decide
     clear hbx hv hd g0 p1 p2 p3;rw [hw0] at n0 v2 t0 t1 t2
     have done:∀ (w2:World) (e:Ending),EvU w0 (fun zs=>∀ z∈zs,z∈xs) e w2→EvU w (fun zs=>∀ z∈zs,z∈xs) e w2:=fun w2 e h=>by
      obtain ⟨hg,u,c,rfl,hq⟩:=h;refine ⟨jaa G0.out hg,u,c,rfl,fun hc=>?_⟩;obtain ⟨zs,h1,h2⟩:=hq hc;exact ⟨zs,h1,⟨jaT h2.1 G0.out.size,h2.2⟩⟩
     rcases hop with rfl | rfl | rfl | rfl
     all_goals (
      go_enter Tryz.func9,Tryz.ntmps9;go_wp2_with fail;rw [← hw0];rw [← hw0] at v2 t0 t1 t2;clear hw0;refine wp_region_held_drew (S:=fun w'=>w0.grownBy w' none) (by kernel_rfl) (jaf (jae _)) (fun hHeld=>?_);refine tkC 0 ?_ (hv:=by intro wS hSw;go_simp;(try with_reducible rfl))
      try simp only [Act.put]
      refine tkC 1 ?_ (hv:=by intro wS hSw;go_simp;(try with_reducible rfl))
      try simp only [Act.put]
      refine tkC 2 ?_ (hv:=by intro wS hSw;have c0:=jad t0 hSw;have c1:=jad t1 hSw;have c2:=jad t2 hSw;go_simp;(try with_reducible rfl))
      try simp only [Act.put]
      refine tkC 3 ?_ (hv:=by intro wS hSw;go_simp;(try with_reducible rfl))
      try simp only [Act.put]
      refine tkC 4 ?_ (hv:=by intro wS hSw;have c0:=jad v2 hSw;go_simp;(try with_reducible rfl))
      try simp only [Act.put]
      refine rdA 5 fun K hK=>?_;go_simp;refine (AS.out w0.drew (jaf G0.out)).mono ?_;rintro e w2 hq;have HQ:=jac (done w2 e (jjX hq));obtain ⟨hg2,⟨s1,s2,s3⟩,c,rfl,hq⟩:=hq;have g2:w0.grownBy w2 none:=jaa (jaf (jae _)) hg2;refine hK.out _ _ g2 (fun hHeld=>?_);clear hK K hq;refine tkC 6 ?_ (hv:=by intro wS hSw;go_simp;(try with_reducible rfl))
      try simp only [Act.put]
      refine tkC 7 ?_ (hv:=by intro wS hSw;go_simp;(try with_reducible rfl))
      try simp only [Act.put]
      refine tkC 8 ?_ (hv:=by intro wS hSw;go_simp;(try with_reducible rfl))
      try simp only [Act.put]
      refine tkC 9 ?_ (hv:=by intro wS hSw;go_simp;(try with_reducible rfl))
      try simp only [Act.put]
      refine wpAnyH_done (by kernel_rfl) ?_ _;clear g2 hg2 t0 t1 t2 n0 n1 n2 n3 n4 v0 v1 v2 hHeld;go_simp;go_wp2;go_ret2;exact HQ.out)
theorem jim (n:Nod) (hop:n.op∈([⟨#[69,120,112,97,110,100]⟩]:List ByteArray)) (u:Sl) (T0:Ten) (x xs:List Int) (nam0:ByteArray) (vty:Int) (dv:Sl) (l:List Int) (w:World) (hv:TensIn w u.v [(T0,(x,xs))]) (hd:IsInts w dv.v l) :
    Calls Tryz.prog 9 #[jaA n,.slice u.a u.n u.c,.agg #[.string nam0,.int .i64 vty,.slice dv.a dv.n dv.c]] w (EvU w fun zs=>∀ z∈zs,z∈xs):=by
     have HDV:=jac hd;obtain ⟨xa,xc,e1,p1,p2,p3⟩:=hv.vals.form;obtain ⟨ua,un,uc⟩:=u;simp only [Sl.v,List.map_cons,List.map_nil,List.length_cons,List.length_nil,Value.slice.injEq] at e1;obtain ⟨rfl,rfl,rfl⟩:=e1;obtain ⟨ub,uo,rfl⟩:=hv.vals.addr (k:=0) (by simp);obtain ⟨t0,t1,t2⟩:=hv.at 0 (by simp);have HH0:=jac (hv.has (T0,(x,xs)) (by simp));obtain ⟨tx,⟨xda,xdn,xdc⟩,⟨xta,xtn,xtc⟩⟩:=T0;obtain ⟨za,zn,zc⟩:=dv;simp only [List.getElem_cons_zero,Nat.zero_mul,Nat.add_zero] at t0 t1 t2 HH0 HDV
     have AS:Hid (∀ (wx:World),w.grownBy wx none→Calls Tryz.prog 12 #[.agg #[.int .i64 tx,.slice xda xdn xdc,.slice xta xtn xtc],.func (.func 15) #[] #[],.slice za zn zc] wx (EvU wx fun zs=>∀ z∈zs,z∈xs)):=fun wx hx=>jnQ ⟨tx,⟨xda,xdn,xdc⟩,⟨xta,xtn,xtc⟩⟩ x xs ⟨za,zn,zc⟩ 15 wx (HH0.out.1.more hx) (HH0.out.2.more hx) (fun _ _=>by kernel_rfl) (fun v wy hy hv=>(Vw.spread_any v _ 0 x (jbo x) l wy hv (HDV.out.more (jaa hx hy))).mono fun e w' h=>by
      obtain ⟨u,E,off',ds',ss',he,-,ho,hg⟩:=h;exact ⟨u,E,off',ds',ss',he,ho,hg⟩)
     obtain ⟨op,nam,⟨ia,il,ic⟩,out,⟨ao,al,cap⟩⟩:=n;simp only [List.mem_cons,List.not_mem_nil,or_false] at hop;unfold jaA;simp only;obtain ⟨w0,hw0⟩ : ∃ w0,w0=(w.alloc (.cells #[.string op,.string nam,.slice ia il ic,.string out,.slice ao al cap] 25)).alloc (.cells #[.string nam0,.int .i64 vty,.slice za zn zc] 43):=⟨_,rfl⟩
     have g0:w.grownBy w0 none:=by rw [hw0];exact jaa (jab _ _) (jab _ _)
     have hbx:=jaJ w (.cells #[.string op,.string nam,.slice ia il ic,.string out,.slice ao al cap] 25) (.cells #[.string nam0,.int .i64 vty,.slice za zn zc] 43);rw [← hw0] at hbx;obtain ⟨n0,n1,n2,n3,n4⟩:=jai (n:=⟨op,nam,⟨ia,il,ic⟩,out,⟨ao,al,cap⟩⟩) hbx.1;obtain ⟨v0,v1,v2⟩:=jaK hbx.2;have t0:=jad t0 g0;have t1:=jad t1 g0;have t2:=jad t2 g0;have G0:=jac g0;have i0':(0:Int)<1:=by decide
     clear hbx hv hd g0 p1 p2 p3;rw [hw0] at n0 v2 t0 t1 t2
     have done:∀ (w2:World) (e:Ending),EvU w0 (fun zs=>∀ z∈zs,z∈xs) e w2→EvU w (fun zs=>∀ z∈zs,z∈xs) e w2:=fun w2 e h=>by
      obtain ⟨hg,u,c,rfl,hq⟩:=h;refine ⟨jaa G0.out hg,u,c,rfl,fun hc=>?_⟩;obtain ⟨zs,h1,h2⟩:=hq hc;exact ⟨zs,h1,⟨jaT h2.1 G0.out.size,h2.2⟩⟩
     subst hop
     all_goals (
      go_enter Tryz.func9,Tryz.ntmps9;go_wp2_with fail;rw [← hw0];rw [← hw0] at v2 t0 t1 t2;clear hw0;refine wp_region_held_drew (S:=fun w'=>w0.grownBy w' none) (by kernel_rfl) (jaf (jae _)) (fun hHeld=>?_);refine tkC 0 ?_ (hv:=by intro wS hSw;go_simp;(try with_reducible rfl))
      try simp only [Act.put]
      refine tkC 1 ?_ (hv:=by intro wS hSw;go_simp;(try with_reducible rfl))
      try simp only [Act.put]
      refine tkC 2 ?_ (hv:=by intro wS hSw;have c0:=jad t0 hSw;have c1:=jad t1 hSw;have c2:=jad t2 hSw;go_simp;(try with_reducible rfl))
      try simp only [Act.put]
      refine tkC 3 ?_ (hv:=by intro wS hSw;go_simp;(try with_reducible rfl))
      try simp only [Act.put]
      refine tkC 4 ?_ (hv:=by intro wS hSw;have c0:=jad v2 hSw;go_simp;(try with_reducible rfl))
      try simp only [Act.put]
      refine rdA 5 fun K hK=>?_;go_simp;refine (AS.out w0.drew (jaf G0.out)).mono ?_;rintro e w2 hq;have HQ:=jac (done w2 e (jjX hq));obtain ⟨hg2,⟨s1,s2,s3⟩,c,rfl,hq⟩:=hq;have g2:w0.grownBy w2 none:=jaa (jaf (jae _)) hg2;refine hK.out _ _ g2 (fun hHeld=>?_);clear hK K hq;refine tkC 6 ?_ (hv:=by intro wS hSw;go_simp;(try with_reducible rfl))
      try simp only [Act.put]
      refine tkC 7 ?_ (hv:=by intro wS hSw;go_simp;(try with_reducible rfl))
      try simp only [Act.put]
      refine tkC 8 ?_ (hv:=by intro wS hSw;go_simp;(try with_reducible rfl))
      try simp only [Act.put]
      refine tkC 9 ?_ (hv:=by intro wS hSw;go_simp;(try with_reducible rfl))
      try simp only [Act.put]
      refine wpAnyH_done (by kernel_rfl) ?_ _;clear g2 hg2 t0 t1 t2 n0 n1 n2 n3 n4 v0 v1 v2 hHeld;go_simp;go_wp2;go_ret2;exact HQ.out)
end Go.Proofs.YtanpkdkenifmbaaGreatDoor
namespace Go.Proofs.YtanpkdkenifmbaaGreatDoor
open Go.RowKit
def DoM (w:World) (R0:R (Int×List Int)) (K:List Int→Prop) (e:Ending) (w':World):Prop:=w.grownBy w' none∧((∃ c:Int,c≠0∧e=.returned (.tuple #[.agg #[.int .i64 0,.slice none 0 0,.slice none 0 0],.int .i64 c]))∨∃ (t:Ten) (l zs:List Int),R0=.ok (t.ty,l)∧e=.returned (.tuple #[jjQ t,.int .i64 0])∧K zs∧Owns w' w.heap.size t.dv.v l∧jbC w' w.heap.size t.tv.v zs)
theorem jpP (n : Nod) (u : Sl) (R0 : R (Int × List Int)) (K : List Int → Prop) (w : World) (h1 : ∀ c, R0 = .error c → c ≠ 0)
    (NC:∀ wx,w.grownBy wx none→Calls Tryz.prog 11 #[jaA n,.slice u.a u.n u.c] wx (joj n.out wx R0))
    (MC:∀ (wx:World) (ty:Int) (dv:Sl) (l:List Int),w.grownBy wx none→R0=.ok (ty,l)→IsInts wx dv.v l→Calls Tryz.prog 9 #[jaA n,.slice u.a u.n u.c,.agg #[.string n.out,.int .i64 ty,.slice dv.a dv.n dv.c]] wx (EvU wx K)) :
    Calls Tryz.prog 8 #[jaA n,.slice u.a u.n u.c,.func (.func 9) #[] #[]] w (DoM w R0 K):=by
     have H1:=jac h1;have HMC:=jac MC;clear h1 MC;obtain ⟨w0,hw0⟩ : ∃ w0,w0=(w.alloc (.cells #[.string n.op,.string n.name,.slice n.iv.a n.iv.n n.iv.c,.string n.out,.slice n.av.a n.av.n n.av.c] 25)).alloc (.cells #[.int .i64 0,.slice none 0 0,.slice none 0 0] 32):=⟨_,rfl⟩
     have g0:Hid (w.grownBy w0 none):=by show w.grownBy w0 none;rw [hw0];exact jaa (jab _ _) (jab _ _)
     have hbx:=jaJ w (.cells #[.string n.op,.string n.name,.slice n.iv.a n.iv.n n.iv.c,.string n.out,.slice n.av.a n.av.n n.av.c] 25) (.cells #[.int .i64 0,.slice none 0 0,.slice none 0 0] 32);rw [← hw0] at hbx;have BN:Hid (∀ wx,w0.grownBy wx none→wx.heap[w.heap.size]?=some (.cells #[.string n.op,.string n.name,.slice n.iv.a n.iv.n n.iv.c,.string n.out,.slice n.av.a n.av.n n.av.c] 25 (0,0))):=fun wx hg=>jag hbx.1 hg;have BX:Hid (∀ wx,w0.grownBy wx none→wx.heap[w.heap.size+1]?=some (.cells #[.int .i64 0,.slice none 0 0,.slice none 0 0] 32 (0,0))):=fun wx hg=>jag hbx.2 hg;have Z0:Hid (w.heap.size+1<w0.heap.size):=(Array.getElem?_eq_some_iff.1 hbx.2).1;have N1:=jac (NC w0 g0.out);clear hbx NC;obtain ⟨op,nam,⟨ia,il,ic⟩,out,⟨ao,al,cap⟩⟩:=n;obtain ⟨ua,un,uc⟩:=u;unfold jaA at HMC N1 ⊢;simp only at HMC N1 BN hw0 ⊢;go_enter Tryz.func8,Tryz.ntmps8;go_wp2_with fail;rw [← hw0];clear hw0;refine N1.out.mono ?_;rintro e w1 ⟨hg1,hq⟩;have G1:=jac hg1
     cases R0 with
     | error c =>
      obtain rfl:=hq;have hc:=H1.out c rfl;have bc:(c != 0)=true:=by simpa using hc
      obtain ⟨w2,hw2⟩ : ∃ w2,w2=w1.alloc (.cells #[.string ⟨#[]⟩,.int .i64 0,.slice none 0 0] 43):=⟨_,rfl⟩
      have g2:w1.grownBy w2 none:=by rw [hw2];exact jab _ _
      have B1:=BX.out w2 (jaa hg1 g2);obtain ⟨f0,f1,f2⟩:=ja3 B1;have c0:w2.cell? ⟨w.heap.size+1,0,none⟩=some (.int .i64 0):=(cell_of_row _ _ 0 _ _ (0,0) B1).trans rfl;have c1:w2.cell? ⟨w.heap.size+1,1,none⟩=some (.slice none 0 0):=(cell_of_row _ _ 1 _ _ (0,0) B1).trans rfl;have c2:w2.cell? ⟨w.heap.size+1,2,none⟩=some (.slice none 0 0):=(cell_of_row _ _ 2 _ _ (0,0) B1).trans rfl;obtain ⟨hX,gX⟩:=jbu (.int .i64 0) (.slice none 0 0) (.slice none 0 0) B1;have HX:=jac hX;have GX:=jac (jay (jaa g0.out (jaa hg1 g2)) gX (by omega));rw [hw2] at f0 f1 f2 c0 c1 c2 HX GX;clear hX gX B1 hc hg1 g2 hw2;go_wp2;refine bodyPost_ret (jb7 rfl _ _ (w.heap.size+1) rfl HX.out) rfl ?_;exact ⟨GX.out,.inl ⟨c,H1.out c rfl,rfl⟩⟩
     | ok rr =>
      obtain ⟨ty,l⟩:=rr;obtain ⟨⟨s1,s2,s3⟩,rfl,ho⟩:=hq;obtain ⟨w2,hw2⟩ : ∃ w2,w2=w1.alloc (.cells #[.string out,.int .i64 ty,.slice s1 s2 s3] 43):=⟨_,rfl⟩
      have g2:w1.grownBy w2 none:=by rw [hw2];exact jab _ _
      have hB2:=heap_alloc_new w1 (.cells #[.string out,.int .i64 ty,.slice s1 s2 s3] 43);rw [← hw2] at hB2;have BV:Hid (∀ wx,w2.grownBy wx none→wx.heap[w1.heap.size]?=some (.cells #[.string out,.int .i64 ty,.slice s1 s2 s3] 43 (0,0))):=fun wx hg=>jag hB2 hg;have HO:=jac ho;obtain ⟨n0,n1,n2,n3,n4⟩:=jai (n:=⟨op,nam,⟨ia,il,ic⟩,out,⟨ao,al,cap⟩⟩) (BN.out w2 (jaa hg1 g2));have M1:=jac (HMC.out w2 ty ⟨s1,s2,s3⟩ l (jaa g0.out (jaa hg1 g2)) rfl (ho.ints.more g2));have G2:=jac (jaa hg1 g2);have G12:=jac g2;simp only at n0 n1 n2 n3 n4 M1;rw [hw2] at n0 n1 n2 n3 n4;clear ho hg1 g2 hB2;go_wp2_with fail;rw [← hw2];clear hw2 n0 n1 n2 n3 n4;refine M1.out.mono ?_;rintro e w3 ⟨hg3,⟨t1,t2,t3⟩,c,rfl,hq⟩;have HQ:=jac hq;have B3:=BX.out w3 (jaa G2.out hg3);have G3:=jac (jaa g0.out (jaa G2.out hg3));obtain ⟨f0,f1,f2⟩:=ja3 B3;have c0:w3.cell? ⟨w.heap.size+1,0,none⟩=some (.int .i64 0):=(cell_of_row _ _ 0 _ _ (0,0) B3).trans rfl;have c1:w3.cell? ⟨w.heap.size+1,1,none⟩=some (.slice none 0 0):=(cell_of_row _ _ 1 _ _ (0,0) B3).trans rfl;have c2:w3.cell? ⟨w.heap.size+1,2,none⟩=some (.slice none 0 0):=(cell_of_row _ _ 2 _ _ (0,0) B3).trans rfl;clear hq
      by_cases hc:c=0
      rotate_left 1
      ·have HC:Hid (c≠0):=hc;have bc:(c != 0)=true:=by simpa using hc
       obtain ⟨hX,gX⟩:=jbu (.int .i64 0) (.slice none 0 0) (.slice none 0 0) B3;have HX:=jac hX;have GX:=jac (jay G3.out gX (by omega));clear hX gX B3 hc hg3;go_wp2;refine bodyPost_ret (jb7 rfl _ _ (w.heap.size+1) rfl HX.out) rfl ?_;exact ⟨GX.out,.inl ⟨c,HC.out,rfl⟩⟩
      ·subst hc;obtain ⟨zs,hK,ht⟩:=HQ.out rfl;have HK:=jac hK;have bc:((0:Int) != 0)=false:=rfl;clear hK;have bv:=BV.out w3 hg3;have v1:w3.cell? ⟨w1.heap.size,1,none⟩=some (.int .i64 ty):=(cell_of_row _ _ 1 _ _ (0,0) bv).trans rfl;have v2:w3.cell? ⟨w1.heap.size,2,none⟩=some (.slice s1 s2 s3):=(cell_of_row _ _ 2 _ _ (0,0) bv).trans rfl;obtain ⟨hX,gX⟩:=jbu (.int .i64 ty) (.slice s1 s2 s3) (.slice t1 t2 t3) B3;have HX:=jac hX;have GX:=jac (jay G3.out gX (by omega));have z0:=Z0.out;have z1:=g0.out.size;have z2:=G2.out.size;have OD:=jac (((HO.out.more (jaa G12.out hg3) (by cases (Sl.v ⟨s1,s2,s3⟩).ownBlock <;> simp)).base_le (b':=w0.heap.size) (Nat.le_refl _)).more gX (jeE HO.out.1 (by omega)))
       have OT:Hid (jbC _ w2.heap.size (Sl.v ⟨t1,t2,t3⟩) zs):=ht.more gX (jeE ht.1 (by omega));clear hX gX B3 hg3 bv ht z0 z1 z2;go_wp2;refine bodyPost_ret (jb7 rfl _ _ (w.heap.size+1) rfl HX.out) rfl ?_;exact ⟨GX.out,.inr ⟨⟨ty,⟨s1,s2,s3⟩,⟨t1,t2,t3⟩⟩,l,zs,rfl,rfl,HK.out,OD.out.base_le (by have:=g0.out.size;omega),⟨jaT OT.out.1 (by have:=g0.out.size;have:=G2.out.size;omega),OT.out.2⟩⟩⟩
theorem jrC (n:Nod) (u:Sl) (R0:R (Int×List Int)) (K:List Int→Prop) (w:World) (BC:∀ wx,w.grownBy wx none→Calls Tryz.prog 8 #[jaA n,.slice u.a u.n u.c,.func (.func 9) #[] #[]] wx (DoM wx R0 K)) :
    Calls Tryz.prog 6 #[jaA n,.slice u.a u.n u.c] w (DoM w R0 K):=by
     obtain ⟨w0,hw0⟩ : ∃ w0,w0=(w.alloc (.cells #[.string n.op,.string n.name,.slice n.iv.a n.iv.n n.iv.c,.string n.out,.slice n.av.a n.av.n n.av.c] 25)).alloc (.cells #[.int .i64 0,.slice none 0 0,.slice none 0 0] 32):=⟨_,rfl⟩
     have g0:Hid (w.grownBy w0 none):=by show w.grownBy w0 none;rw [hw0];exact jaa (jab _ _) (jab _ _)
     have hbx:=jaJ w (.cells #[.string n.op,.string n.name,.slice n.iv.a n.iv.n n.iv.c,.string n.out,.slice n.av.a n.av.n n.av.c] 25) (.cells #[.int .i64 0,.slice none 0 0,.slice none 0 0] 32);rw [← hw0] at hbx;have BX:Hid (∀ wx,w0.grownBy wx none→wx.heap[w.heap.size+1]?=some (.cells #[.int .i64 0,.slice none 0 0,.slice none 0 0] 32 (0,0))):=fun wx hg=>jag hbx.2 hg;have Z0:Hid (w.heap.size+1<w0.heap.size):=(Array.getElem?_eq_some_iff.1 hbx.2).1;have N1:=jac (BC w0 g0.out);clear hbx BC;obtain ⟨op,nam,⟨ia,il,ic⟩,out,⟨ao,al,cap⟩⟩:=n;obtain ⟨ua,un,uc⟩:=u;unfold jaA at N1 ⊢;simp only at N1 hw0 ⊢;go_enter Tryz.func6,Tryz.ntmps6;go_wp2_with fail;rw [← hw0];clear hw0;refine N1.out.mono ?_;rintro e w3 ⟨hg3,hq⟩;have B3:=BX.out w3 hg3;have G3:=jac (jaa g0.out hg3);obtain ⟨f0,f1,f2⟩:=ja3 B3;have c0:w3.cell? ⟨w.heap.size+1,0,none⟩=some (.int .i64 0):=(cell_of_row _ _ 0 _ _ (0,0) B3).trans rfl;have c1:w3.cell? ⟨w.heap.size+1,1,none⟩=some (.slice none 0 0):=(cell_of_row _ _ 1 _ _ (0,0) B3).trans rfl;have c2:w3.cell? ⟨w.heap.size+1,2,none⟩=some (.slice none 0 0):=(cell_of_row _ _ 2 _ _ (0,0) B3).trans rfl
     rcases hq with ⟨c,hc0,rfl⟩ | ⟨⟨ty',⟨s1,s2,s3⟩,⟨t1,t2,t3⟩⟩,l,zs,hr,rfl,hK,hd,ht⟩
     ·have HC:=jac hc0;obtain ⟨hX,gX⟩:=jbu (.int .i64 0) (.slice none 0 0) (.slice none 0 0) B3;have HX:=jac hX;have GX:=jac (jay G3.out gX (by omega));clear hX gX B3 hg3 hc0;go_wp2;refine bodyPost_ret (jb7 rfl _ _ (w.heap.size+1) rfl HX.out) rfl ?_;exact ⟨GX.out,.inl ⟨c,HC.out,rfl⟩⟩
     ·simp only at hr hK hd ht;have HRR:=jac hr;have HK:=jac hK;obtain ⟨hX,gX⟩:=jbu (.int .i64 ty') (.slice s1 s2 s3) (.slice t1 t2 t3) B3;have HX:=jac hX;have GX:=jac (jay G3.out gX (by omega));have OD:=jac (hd.more gX (jeE hd.1 Z0.out));have OT:=jac (ht.more gX (jeE ht.1 Z0.out));clear hX gX B3 hg3 hd ht hr hK;unfold jjQ;go_wp2;refine bodyPost_ret (jb7 rfl _ _ (w.heap.size+1) rfl HX.out) rfl ?_;exact ⟨GX.out,.inr ⟨⟨ty',⟨s1,s2,s3⟩,⟨t1,t2,t3⟩⟩,l,zs,HRR.out,rfl,HK.out,OD.out.base_le (by have:=g0.out.size;omega),⟨jaT OT.out.1 (by have:=g0.out.size;omega),OT.out.2⟩⟩⟩
end Go.Proofs.YtanpkdkenifmbaaGreatDoor
namespace Go.Proofs.YtanpkdkenifmbaaGreatDoor
open Go.RowKit
structure ShpM (x y:List Int) (A:List Int) (a k b:Nat):Prop where
 ex:x=A++[(a:Int),(k:Int)]
 ey:y=A++[(k:Int),(b:Int)]
 few:A.length≤1
 cx:ja7 x=0
 cy:ja7 y=0
 cz:ja7 (A++[(a:Int),(b:Int)])=0
theorem ShpM.len {x y A:List Int} {a k b:Nat} (h:ShpM x y A a k b):x.length=A.length+2∧y.length=A.length+2:=by
 rw [h.ex,h.ey];simp
end Go.Proofs.YtanpkdkenifmbaaGreatDoor
namespace Go.Proofs.YtanpkdkenifmbaaGreatDoor
open Go.RowKit
theorem jfF {α:Type} {w w':World} {r:R α} {Q Q':α→Value→World→Prop} {e:Ending} (h:jaH w r Q e w') (hq:∀ a v,r=.ok a→Q a v w'→Q' a v w'):jaH w r Q' e w':=by
 cases r with
 | error c=>exact h
 | ok a =>
  obtain ⟨hg,v,he,hv⟩:=h;exact ⟨hg,v,he,hq a v rfl hv⟩
theorem jnU (w:World) (op out:ByteArray) (iv:Sl) (ins:List ByteArray) (hi:jeC w iv.v ins):NodeIn w ⟨op,⟨#[]⟩,iv,out,jqs⟩ ins [] [] :=
 ⟨hi,ja6.isL (te:=68) (base:=0) jdz (ja6.nil ..) (by simp),(fun j a h=>by simp at h),by simp,(fun a h=>by cases h)⟩
theorem jnV (w:World) (op out:ByteArray) (iv:Sl):NodeOk w ⟨op,⟨#[]⟩,iv,out,jqs⟩ ⟨op,[],[]⟩ :=
 ⟨rfl,ja6.isL (te:=68) (base:=0) jdz (ja6.nil ..) (by simp),(fun j a h=>by simp at h),(fun a h=>by cases h)⟩
theorem jjo {α β γ:Type} (r:R α) (f:α→R β) (g:β→R γ):(r.bind f).bind g=r.bind fun a=>(f a).bind g:=by cases r <;> rfl
theorem jin {t:Int} (h:jfX t=.ok ()):jan t=true:=by
 unfold jfX at h
 by_cases hb:jan t=true
 ·exact hb
 ·rw [if_neg hb] at h
  cases h
theorem jaF {α β:Type} {r:R α} {f:α→R β} {b:β} (h:r.bind f=.ok b):∃ a,r=.ok a∧f a=.ok b:=by
 cases r with
 | error c=>cases h
 | ok a=>exact ⟨a,rfl,h⟩
theorem jen {x:List Int} {n:Int} (h:jaR x=.ok n):ja7 x=0:=by
 unfold jaR at h
 split at h
 ·assumption
 ·cases h
theorem vin2 {v0 v1:Val} {x y:List Int} (h:jeN [(v0,x),(v1,y)]=.ok ()):(∀ s∈jaE [(v0,x),(v1,y)],jan s=true)∧ja7 x=0∧ja7 y=0:=by
 simp only [jeN] at h;obtain ⟨_,h1,h⟩:=jaF h;obtain ⟨_,h2,h⟩:=jaF h;obtain ⟨_,h3,h⟩:=jaF h;obtain ⟨_,h4,h⟩:=jaF h;refine ⟨fun s hs=>?_,jen h2,jen h4⟩;simp only [jaE,List.map_cons,List.map_nil,List.mem_cons,List.not_mem_nil,or_false] at hs
 rcases hs with rfl | rfl
 ·exact jin h1
 ·exact jin h3
end Go.Proofs.YtanpkdkenifmbaaGreatDoor
namespace Go.Proofs.YtanpkdkenifmbaaGreatDoor
open Go.RowKit
def Nz {α:Type} (r:R α):Prop:=∀ c,r=.error c→c≠0
theorem Nz.bind {α β:Type} {r:R α} {f:α→R β} (h:Nz r) (k:∀ a,r=.ok a→Nz (f a)):Nz (r.bind f):=by
 cases r with
 | error c=>intro d hd;exact h d (by cases hd;rfl)
 | ok a=>exact k a rfl
theorem jrD {ps:List (Ten×Tq)} {r:R (Int×List Int)} (h:Nz r):Nz (jdJ ps r):=by
 unfold jdJ
 split
 ·exact h
 ·intro c hc;cases hc;omega
theorem jjY {ps:List (Ten×Tq)} {r:R (Int×List Int)} {a:Int×List Int} (h:jdJ ps r=.ok a):ps.all okT=true∧r=.ok a:=by
 unfold jdJ at h
 split at h
 ·rename_i h1;exact ⟨h1,h⟩
 ·cases h
theorem jhf {b:Bool} {a:Unit} (h:jal b=.ok a):b=true:=by
 unfold jal at h
 split at h
 ·assumption
 ·cases h
theorem jnW {ty:Int} {x xs:List Int} (h:pbE ty x xs=0):ja7 x=0∧(xs.length:Int)=jaB x:=by
 unfold pbE at h
 split at h
 ·omega
 ·split at h
  ·rename_i h1;exact absurd h h1
  ·rename_i h1;have h1':ja7 x=0:=by omega
   split at h
   ·omega
   ·rename_i h2;refine ⟨h1',?_⟩;have:(xs.length:Int)=cnt x:=by omega
    rw [this,cnt,if_pos h1']
def tq (t:Int) (x xs:List Int):Ten×Tq:=(⟨t,jqs,jqs⟩,(x,xs))
theorem jnX {vs:List (Val×List Int)} {t0 t1:Int} {x y:List Int} (h1:vs.map (·.1.ty)=[t0,t1]) (h2:vs.map (·.2)=[x,y]):∃ v0 v1,vs=[(v0,x),(v1,y)]∧v0.ty=t0∧v1.ty=t1:=by
 match vs,h1,h2 with
 | [(v0,a),(v1,b)],h1,h2 =>
  simp only [List.map_cons,List.map_nil,List.cons.injEq,and_true] at h1 h2;obtain ⟨e1,e2⟩:=h1;obtain ⟨rfl,rfl⟩:=h2;exact ⟨v0,v1,rfl,e1,e2⟩
end Go.Proofs.YtanpkdkenifmbaaGreatDoor
namespace Go.Proofs.YtanpkdkenifmbaaGreatDoor
open Go.RowKit
theorem jnY {t c:Int} (h:jfX t=.error c):c≠0:=by
 unfold jfX at h
 split at h
 ·cases h
 ·cases h;decide
theorem jjp {x:List Int} {c:Int} (h:jaR x=.error c):c≠0:=by
 unfold jaR at h
 split at h
 ·cases h
 ·rename_i h1
  cases h
  exact h1
end Go.Proofs.YtanpkdkenifmbaaGreatDoor
