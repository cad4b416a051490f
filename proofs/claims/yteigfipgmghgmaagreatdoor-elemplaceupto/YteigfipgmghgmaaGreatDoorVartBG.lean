/- A part. -/
import Derived.Test.YteigfipgmghgmaaGreatDoorVartAV
import Derived.Test.YteigfipgmghgmaaGreatDoorVartBF
set_option maxHeartbeats 4000000
set_option maxRecDepth 100000
namespace Go.Proofs.YteigfipgmghgmaaGreatDoor
open Go.RowKit
def asE (ds ts l:List Int):Int:=if ja2 ds≠0 then ja2 ds else if bcE ds l≠0 then bcE ds l else if bcR ds l=l then Vw.rdE 0 l (Vw.spr ds (jcj ds) l) ts else 4
def asL (ds ts l:List Int):List Int:=if asE ds ts l=0 then Vw.rdL 0 l (Vw.spr ds (jcj ds) l) ts else []
theorem jpl {w:World} {base:Nat} {v:Value} {zs:List Int} (h:Vw.Owns64 w base v zs):∃ a n c,v=.slice a n c:=by
 obtain ⟨a,c,e,-⟩:=(jbW.ints (w:=w) (base:=base) h).sl;exact ⟨_,_,_,e⟩
theorem jcr {w:World} {base base' te sz n:Nat} {v:Value} {cs:List Value} (h:w.ownsRow base te sz v n cs) (hb:base'≤base):w.ownsRow base' te sz v n cs:=by
 obtain ⟨h1,h2 | ⟨g,cap,cur,e1,e2,e3⟩⟩:=h
 ·exact ⟨h1,.inl h2⟩
 ·exact ⟨h1,.inr ⟨g,cap,cur,e1,Nat.le_trans hb e2,e3⟩⟩
theorem jkF {w:World} {base base':Nat} {v:Value} {zs:List Int} (h:Vw.Owns64 w base v zs) (hb:base'≤base):Vw.Owns64 w base' v zs:=⟨jcr h.1 hb,h.2⟩
def AsQ (w:World) (ds ts l:List Int) (e:Ending) (w':World):Prop:=∃ u:Sl,e=.returned (.tuple #[.slice u.a u.n u.c,.int .i64 (asE ds ts l)])∧Vw.Owns64 w' w.heap.size u.v (asL ds ts l)∧w.grownBy w' none
theorem jsm {w w':World} {ds ts l:List Int} {c:Int} (h:asE ds ts l=c) (hc:c≠0) (hg:w.grownBy w' none):AsQ w ds ts l (.returned (.tuple #[.slice none 0 0,.int .i64 c])) w':=by
 subst h;refine ⟨⟨none,0,0⟩,rfl,?_,hg⟩;rw [show asL ds ts l=[] from if_neg hc];exact Vw.owns64_nil _ _
theorem jmI {ds ts l:List Int} {E off':Int} {ds' ss':List Int} (h:Vw.Spreaded 0 ds (jcj ds) l E off' ds' ss') (hc:ja2 ds=0) (hE:E≠0):asE ds ts l=E:=by
 unfold asE;rw [if_neg (by simp [hc])]
 rcases h with ⟨h,-⟩ | ⟨-,h1,h2,-⟩ | ⟨-,h1,h2,h3,-⟩ | ⟨-,-,-,h,-⟩
 ·exact absurd (Vw.may_whole (jbb hc)) h
 ·rw [if_pos h1,h2]
 ·rw [if_neg (by simp [h1]),if_neg h2,h3]
 ·exact absurd h hE
theorem jpm {ds ts l:List Int} {E off':Int} {ds' ss':List Int} (h:Vw.Spreaded 0 ds (jcj ds) l E off' ds' ss') (hc:ja2 ds=0) (hE:E=0):off'=0∧ds'=l∧ss'=Vw.spr ds (jcj ds) l∧asE ds ts l=Vw.rdE 0 l (Vw.spr ds (jcj ds) l) ts∧asL ds ts l=Vw.rdL 0 l (Vw.spr ds (jcj ds) l) ts:=by
 have key:bcE ds l=0∧bcR ds l=l∧off'=0∧ds'=l∧ss'=Vw.spr ds (jcj ds) l:=by
  rcases h with ⟨-,h,-⟩ | ⟨-,h1,h2,-⟩ | ⟨-,h1,h2,h3,-⟩ | ⟨-,h1,h2,-,h4,h5,h6⟩
  ·omega
  ·exact absurd (h2.symm.trans hE) h1
  ·omega
  ·exact ⟨h1,h2,h4,h5,h6⟩
 obtain ⟨h1,h2,h3,h4,h5⟩:=key
 have e:asE ds ts l=Vw.rdE 0 l (Vw.spr ds (jcj ds) l) ts:=by
  unfold asE;rw [if_neg (by simp [hc]),if_neg (by simp [h1]),if_pos h2]
 refine ⟨h3,h4,h5,e,?_⟩;unfold asL;rw [e];unfold Vw.rdE Vw.rdL
 by_cases hr:Vw.rdOk 0 l (Vw.spr ds (jcj ds) l) ts=true <;> simp [hr]
theorem juW (t:Ten) (ds ts l:List Int) (lv:Sl) (w:World) (hd:IsInts w t.dv.v ds) (ht:IsInts w t.tv.v ts) (hl:IsInts w lv.v l) :
    Calls Tryz.prog 22 #[jpY t,.func (.func 23) #[] #[],.slice lv.a lv.n lv.c] w (AsQ w ds ts l):=by
     have HD:=jac hd;have HT:=jac ht;have HL:=jac hl;clear hd ht hl;obtain ⟨ty,⟨da,dn,dc⟩,⟨ta,tn,tc⟩⟩:=t;obtain ⟨la,ln,lc⟩:=lv;unfold jpY;simp only [Sl.v] at HD HT HL ⊢;obtain ⟨w0,hw0⟩ : ∃ w0,w0=w.alloc (.cells #[.int .i64 ty,.slice da dn dc,.slice ta tn tc] 32):=⟨_,rfl⟩
     have g0:Hid (w.grownBy w0 none):=by show w.grownBy w0 none;rw [hw0];exact jab _ _
     have B0:=heap_alloc_new w (.cells #[.int .i64 ty,.slice da dn dc,.slice ta tn tc] 32);have c0:=(cell_of_row _ _ 0 _ _ (0,0) B0).trans rfl;have c1:=(cell_of_row _ _ 1 _ _ (0,0) B0).trans rfl;have c2:=(cell_of_row _ _ 2 _ _ (0,0) B0).trans rfl;rw [← hw0] at B0;have BX:Hid (∀ wx,w0.grownBy wx none→wx.heap[w.heap.size]?=some (.cells #[.int .i64 ty,.slice da dn dc,.slice ta tn tc] 32 (0,0))):=fun wx hg=>jag B0 hg;have WH:=jac (Vw.whole_any (.slice da dn dc) ds w0 (HD.out.more g0.out));clear B0;go_enter Tryz.func22,Tryz.ntmps22;go_wp2_with fail;rw [← hw0];clear hw0 c0 c1 c2;refine WH.out.mono ?_;rintro e w1 ⟨v,rfl,hov,hg1⟩;obtain ⟨vd,vs,rfl,od,os,-⟩:=hov;obtain ⟨vda,vdc,rfl,-⟩:=od.ints.sl;obtain ⟨vsa,vsc,rfl,-⟩:=os.ints.sl;have VD:=jac od;have VS:=jac os;clear od os;obtain ⟨wA,hwA⟩ : ∃ wA,wA=w1.alloc (.cells #[.int .i64 0,.slice vda (Vw.rowDs ds).length vdc,.slice vsa (jez ds).length vsc] 76):=⟨_,rfl⟩
     have hX:=heap_alloc_new w1 (.cells #[.int .i64 0,.slice vda (Vw.rowDs ds).length vdc,.slice vsa (jez ds).length vsc] 76);rw [← hwA] at hX;have gX:w1.grownBy wA none:=by rw [hwA];exact jab _ _
     have hs1:w1.heap.size<wA.heap.size:=by rw [hwA];simp
     have g1:=jac (jaa g0.out hg1);have GX:=jac gX;have HX:=jac hX
     by_cases hE:ja2 ds=0
     ·have hE':(ja2 ds != 0)=false:=by simp [hE]
      have VI:Vw.IsView w1 (.agg #[.int .i64 0,.slice vda (Vw.rowDs ds).length vdc,.slice vsa (jez ds).length vsc]) 0 ds (jcj ds):=by
       have h1:=VD.out.ints;have h2:=VS.out.ints;rw [show Vw.rowDs ds=ds from if_pos hE] at h1;rw [show jez ds=jcj ds from if_pos hE] at h2;rw [show Vw.rowDs ds=ds from if_pos hE,show jez ds=jcj ds from if_pos hE];exact ⟨_,_,rfl,h1,h2,by omega,by omega⟩
      have SP:=jac (Vw.spread_any _ _ 0 ds (jcj ds) l _ (VI.more GX.out) (HL.out.more (jaa g1.out GX.out)));have HE:=jac hE;clear VI hE hX gX;go_wp2_with fail;rw [← hwA];clear hwA;refine SP.out.mono ?_;rintro e w2 ⟨u,E,off',ds',ss',rfl,hsp,hou,hg2⟩;obtain ⟨ud,us,rfl,od,os,ho1,ho2,-⟩:=hou;obtain ⟨uda,udc,rfl,-⟩:=od.ints.sl;obtain ⟨usa,usc,rfl,-⟩:=os.ints.sl;have hb:=jag HX.out hg2;obtain ⟨k0,k1,k2,f0,f1,f2⟩:=Vw.box_cells hb;obtain ⟨hY,gY,gB⟩:=Vw.store3 (.int .i64 off') (.slice uda ds'.length udc) (.slice usa ss'.length usc) (jaa GX.out hg2) (Nat.le_refl _) hb;have OD:=jac (od.box gB (by omega));have OS:=jac (os.box gB (by omega));have GY:=jac (jaa g1.out gY);have HSP:=jac hsp;obtain ⟨y0,y1,y2,-,-,-⟩:=Vw.box_cells hY;clear od os hb hY gB hsp hg2
      by_cases hE2:E=0
      ·have hE2':(E != 0)=false:=by simp [hE2]
       obtain ⟨rfl,rfl,rfl,ea,el⟩:=jpm (ts:=ts) HSP.out HE.out hE2;obtain ⟨w3,hw3⟩ : ∃ w3,w3=((w2.setCell ⟨w1.heap.size,0,none⟩ (.int .i64 0)).setCell ⟨w1.heap.size,1,none⟩ (.slice uda ds'.length udc)).setCell ⟨w1.heap.size,2,none⟩ (.slice usa (Vw.spr ds (jcj ds) ds').length usc):=⟨_,rfl⟩
       rw [← hw3] at OD OS GY gY;have BT:=BX.out _ (jaa hg1 gY);have t2:w3.cell? ⟨w.heap.size,2,none⟩=some (.slice ta tn tc):=(cell_of_row _ _ 2 _ _ (0,0) BT).trans rfl;rw [hw3] at t2;have RD:=jac (Vw.read_any 0 ds' (Vw.spr ds (jcj ds) ds') ts _ _ w3 ⟨_,_,rfl,OD.out.ints,OS.out.ints,by omega,by omega⟩ (HT.out.more GY.out));rw [← ea,← el] at RD;have LT:Hid (w.heap.size≤w3.heap.size):=GY.out.size;clear ea el BT hE2 gY;go_wp2_with fail;rw [← hw3];clear hw3 t2 y0 y1 y2;refine RD.out.mono ?_;rintro e w4 ⟨u,rfl,ou,hg4⟩;obtain ⟨ua,un,uc,rfl⟩:=jpl ou;have OU:=jac (jkF ou LT.out);have G4:=jac (jaa GY.out hg4);clear ou hg4;go_wp2;go_ret2;exact ⟨⟨ua,un,uc⟩,rfl,OU.out,G4.out⟩
      ·have hE2':(E != 0)=true:=by simpa using hE2
       have HE2:=jac hE2;clear hE2 y0 y1 y2;go_wp2;go_ret2;exact jsm (jmI HSP.out HE.out HE2.out) HE2.out GY.out
     ·have hE':(ja2 ds != 0)=true:=by simpa using hE
      have HE:=jac hE;clear hE hX gX;go_wp2;rw [← hwA];go_ret2;exact jsm (if_pos HE.out) HE.out (jaa g1.out GX.out)
end Go.Proofs.YteigfipgmghgmaaGreatDoor
