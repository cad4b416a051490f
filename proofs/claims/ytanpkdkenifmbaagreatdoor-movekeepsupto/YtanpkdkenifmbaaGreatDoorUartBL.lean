/- A part. -/
import Derived.Test.YtanpkdkenifmbaaGreatDoorUartAX
import Derived.Test.YtanpkdkenifmbaaGreatDoorUartBK
set_option maxHeartbeats 4000000
set_option maxRecDepth 100000
namespace Go.Proofs.YtanpkdkenifmbaaGreatDoor
open Go.RowKit
theorem jfE {w:World} {base:Nat} {v:Value} {zs:List Int} (h:Vw.Owns64 w base v zs):∃ a n c,v=.slice a n c:=by
 obtain ⟨a,c,e,-⟩:=(jbC.ints (w:=w) (base:=base) h).sl;exact ⟨_,_,_,e⟩
theorem jaT {w:World} {base base' te sz n:Nat} {v:Value} {cs:List Value} (h:w.ownsRow base te sz v n cs) (hb:base'≤base):w.ownsRow base' te sz v n cs:=by
 obtain ⟨h1,h2 | ⟨g,cap,cur,e1,e2,e3⟩⟩:=h
 ·exact ⟨h1,.inl h2⟩
 ·exact ⟨h1,.inr ⟨g,cap,cur,e1,Nat.le_trans hb e2,e3⟩⟩
theorem jd0 {w:World} {base base':Nat} {v:Value} {zs:List Int} (h:Vw.Owns64 w base v zs) (hb:base'≤base):Vw.Owns64 w base' v zs:=⟨jaT h.1 hb,h.2⟩
end Go.Proofs.YtanpkdkenifmbaaGreatDoor
namespace Go.Proofs.YtanpkdkenifmbaaGreatDoor
open Go.RowKit
def TurnM (w:World) (e:Ending) (w':World):Prop:=∃ u E off' ds' ss',e=.returned (.tuple #[u,.int .i64 E])∧Vw.OwnView w' w.heap.size u off' ds' ss'∧w.grownBy w' none
def EvU (w:World) (K:List Int→Prop) (e:Ending) (w':World):Prop:=w.grownBy w' none∧∃ (u:Sl) (c:Int),e=.returned (.tuple #[.slice u.a u.n u.c,.int .i64 c])∧(c=0→∃ zs,K zs∧jbC w' w.heap.size u.v zs)
theorem jik {w w':World} {r:R (List Int)} {K:List Int→Prop} {e:Ending} (h:EvQ w r e w') (h0:∀ c,r=.error c→c≠0) (h1:∀ zs,r=.ok zs→K zs):EvU w K e w':=by
 obtain ⟨hg,h⟩:=h;refine ⟨hg,?_⟩
 cases r with
 | error c=>exact ⟨⟨none,0,0⟩,c,h,fun hc=>absurd hc (h0 c rfl)⟩
 | ok zs =>
  obtain ⟨u,rfl,ho⟩:=h;exact ⟨u,0,rfl,fun _=>⟨zs,h1 zs rfl,ho⟩⟩
theorem jnP {off:Int} {ds ss ts:List Int} : ∀ z∈Vw.rdL off ds ss ts,z∈ts:=by
 intro z hz;unfold Vw.rdL at hz
 split at hz
 ·rename_i h;unfold Vw.rdOk at h;simp only [Bool.and_eq_true,decide_eq_true_eq] at h;obtain ⟨hm,hl⟩:=h;have hm:=Vw.mayB_iff.1 hm;unfold Vw.shows at hz;obtain ⟨x,hx,rfl⟩:=List.mem_map.1 hz;obtain ⟨h1,h2⟩:=Vw.plc_mem ds ss off (fun y hy=>(hm.str y hy).1) hm.fine.pos x hx;have h3:=hm.lo;have h4:x.toNat<ts.length:=by omega
  rw [List.getD,List.getElem?_eq_getElem h4];exact List.getElem_mem h4
 ·cases hz
theorem jnQ (t : Ten) (ds ts : List Int) (lv : Sl) (fn : Nat) (w : World) (hd : IsInts w t.dv.v ds) (ht : IsInts w t.tv.v ts)
    (CF:∀ (args:Array Value) (wx:World),(callFunc fn args).run Tryz.prog wx=.ok (.enter fn args) wx)
    (TC:∀ (v:Value) (wx:World),w.grownBy wx none→Vw.IsView wx v 0 ds (jbo ds)→Calls Tryz.prog fn #[v,.slice lv.a lv.n lv.c] wx (TurnM wx)) :
    Calls Tryz.prog 12 #[jjQ t,.func (.func fn) #[] #[],.slice lv.a lv.n lv.c] w (EvU w fun zs=>∀ z∈zs,z∈ts):=by
     have HD:=jac hd;have HT:=jac ht;have HTC:=jac TC;have HCF:=jac CF;clear hd ht TC CF;obtain ⟨ty,⟨da,dn,dc⟩,⟨ta,tn,tc⟩⟩:=t;obtain ⟨la,ln,lc⟩:=lv;unfold jjQ;simp only [Sl.v] at HD HT ⊢;obtain ⟨w0,hw0⟩ : ∃ w0,w0=w.alloc (.cells #[.int .i64 ty,.slice da dn dc,.slice ta tn tc] 32):=⟨_,rfl⟩
     have g0:Hid (w.grownBy w0 none):=by show w.grownBy w0 none;rw [hw0];exact jab _ _
     have B0:=heap_alloc_new w (.cells #[.int .i64 ty,.slice da dn dc,.slice ta tn tc] 32);have c0:=(cell_of_row _ _ 0 _ _ (0,0) B0).trans rfl;have c1:=(cell_of_row _ _ 1 _ _ (0,0) B0).trans rfl;have c2:=(cell_of_row _ _ 2 _ _ (0,0) B0).trans rfl;rw [← hw0] at B0;have BX:Hid (∀ wx,w0.grownBy wx none→wx.heap[w.heap.size]?=some (.cells #[.int .i64 ty,.slice da dn dc,.slice ta tn tc] 32 (0,0))):=fun wx hg=>jag B0 hg;have WH:=jac (Vw.whole_any (.slice da dn dc) ds w0 (HD.out.more g0.out));clear B0;go_enter Tryz.func12,Tryz.ntmps12;go_wp2_with fail;rw [← hw0];clear hw0 c0 c1 c2;refine WH.out.mono ?_;rintro e w1 ⟨v,rfl,hov,hg1⟩;obtain ⟨vd,vs,rfl,od,os,-⟩:=hov;obtain ⟨vda,vdc,rfl,-⟩:=od.ints.sl;obtain ⟨vsa,vsc,rfl,-⟩:=os.ints.sl;have VD:=jac od;have VS:=jac os;clear od os;obtain ⟨wA,hwA⟩ : ∃ wA,wA=w1.alloc (.cells #[.int .i64 0,.slice vda (Vw.rowDs ds).length vdc,.slice vsa (jbM ds).length vsc] 63):=⟨_,rfl⟩
     have hX:=heap_alloc_new w1 (.cells #[.int .i64 0,.slice vda (Vw.rowDs ds).length vdc,.slice vsa (jbM ds).length vsc] 63);rw [← hwA] at hX;have gX:w1.grownBy wA none:=by rw [hwA];exact jab _ _
     have hs1:w1.heap.size<wA.heap.size:=by rw [hwA];simp
     have g1:=jac (jaa g0.out hg1);have GX:=jac gX;have HX:=jac hX
     by_cases hE:ja7 ds=0
     ·have hE':(ja7 ds != 0)=false:=by simp [hE]
      have VI:Vw.IsView w1 (.agg #[.int .i64 0,.slice vda (Vw.rowDs ds).length vdc,.slice vsa (jbM ds).length vsc]) 0 ds (jbo ds):=by
       have h1:=VD.out.ints;have h2:=VS.out.ints;rw [show Vw.rowDs ds=ds from if_pos hE] at h1;rw [show jbM ds=jbo ds from if_pos hE] at h2;rw [show Vw.rowDs ds=ds from if_pos hE,show jbM ds=jbo ds from if_pos hE];exact ⟨_,_,rfl,h1,h2,by omega,by omega⟩
      have SP:=jac (HTC.out _ _ (jaa g1.out GX.out) (VI.more GX.out));have HE:=jac hE;clear VI hE hX gX;go_wp2_with fail;rw [← hwA];clear hwA;rw [HCF.out];refine SP.out.mono ?_;rintro e w2 ⟨u,E,off',ds',ss',rfl,hou,hg2⟩;obtain ⟨ud,us,rfl,od,os,ho1,ho2,-⟩:=hou;obtain ⟨uda,udc,rfl,-⟩:=od.ints.sl;obtain ⟨usa,usc,rfl,-⟩:=os.ints.sl;have hb:=jag HX.out hg2;obtain ⟨k0,k1,k2,f0,f1,f2⟩:=Vw.box_cells hb;obtain ⟨hY,gY,gB⟩:=Vw.store3 (.int .i64 off') (.slice uda ds'.length udc) (.slice usa ss'.length usc) (jaa GX.out hg2) (Nat.le_refl _) hb;have OD:=jac (od.box gB (by omega));have OS:=jac (os.box gB (by omega));have GY:=jac (jaa g1.out gY);have HO1:=jac ho1;have HO2:=jac ho2;obtain ⟨y0,y1,y2,-,-,-⟩:=Vw.box_cells hY;clear od os hb hY gB hg2 ho1 ho2
      by_cases hE2:E=0
      ·have hE2':(E != 0)=false:=by simp [hE2]
       obtain rfl:=hE2;obtain ⟨w3,hw3⟩ : ∃ w3,w3=((w2.setCell ⟨w1.heap.size,0,none⟩ (.int .i64 off')).setCell ⟨w1.heap.size,1,none⟩ (.slice uda ds'.length udc)).setCell ⟨w1.heap.size,2,none⟩ (.slice usa ss'.length usc):=⟨_,rfl⟩
       rw [← hw3] at OD OS GY gY;have BT:=BX.out _ (jaa hg1 gY);have t2:w3.cell? ⟨w.heap.size,2,none⟩=some (.slice ta tn tc):=(cell_of_row _ _ 2 _ _ (0,0) BT).trans rfl;rw [hw3] at t2;have RD:=jac (Vw.read_any off' ds' ss' ts _ _ w3 ⟨_,_,rfl,OD.out.ints,OS.out.ints,HO1.out,HO2.out⟩ (HT.out.more GY.out));have LT:Hid (w.heap.size≤w3.heap.size):=GY.out.size;clear BT gY;go_wp2_with fail;rw [← hw3];clear hw3 t2 y0 y1 y2;refine RD.out.mono ?_;rintro e w4 ⟨u,rfl,ou,hg4⟩;obtain ⟨ua,un,uc,rfl⟩:=jfE ou;have OU:=jac (jd0 ou LT.out);have G4:=jac (jaa GY.out hg4);clear ou hg4;go_wp2;go_ret2;exact ⟨G4.out,⟨ua,un,uc⟩,_,rfl,fun _=>⟨_,jnP,OU.out⟩⟩
      ·have hE2':(E != 0)=true:=by simpa using hE2
       have HE2:=jac hE2;clear hE2 y0 y1 y2;go_wp2;go_ret2;exact ⟨GY.out,⟨none,0,0⟩,_,rfl,fun h=>absurd h HE2.out⟩
     ·have hE':(ja7 ds != 0)=true:=by simpa using hE
      have HE:=jac hE;clear hE hX gX;go_wp2;rw [← hwA];go_ret2;exact ⟨jaa g1.out GX.out,⟨none,0,0⟩,_,rfl,fun h=>absurd h HE.out⟩
end Go.Proofs.YtanpkdkenifmbaaGreatDoor
