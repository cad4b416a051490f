/- A part. -/
import Derived.Test.YtanpkdkenifmbaaGreatDoorMUart
import Derived.Test.YtanpkdkenifmbaaGreatDoorUartBP
import Derived.Test.YtanpkdkenifmbaaGreatDoorUartBO
import Derived.Deep.RegionHeld3
import Derived.Test.YtanpkdkenifmbaaGreatDoorUartAQ
import Derived.Test.YtanpkdkenifmbaaGreatDoorUartBA
import Derived.Test.YtanpkdkenifmbaaGreatDoorUartBM
import Derived.Test.YtanpkdkenifmbaaGreatDoorUartAN
import Derived.Test.YtanpkdkenifmbaaGreatDoorUartAV
set_option maxHeartbeats 16000000
set_option maxRecDepth 100000
namespace Go.Proofs.YtanpkdkenifmbaaGreatDoor
open Go.RowKit
def VB (B C:Nat) (wr:World) (off:Int) (ds ss:List Int):Prop :=
 ∃ d s:Sl,wr.heap[B]?=some (.cells #[.int .i64 off,.slice d.a d.n d.c,.slice s.a s.n s.c] 63 (0,0))∧∀ wm wx wy,wr.grownBy wm (some B)→wm.grownBy wx (some (B+1))→wx.grownBy wy (some C)→IsInts wy d.v ds∧IsInts wy s.v ss
theorem jbY {a b:World} {B:Nat} (h:a.grownBy b none):a.grownBy b (some B):=⟨h.1,h.2,h.3,h.4,fun i hi _=>h.5 i hi (by simp)⟩
theorem jpR (vda vsa:Option Addr) (vdn vdc vsn vsc:Nat) (off:Int) (ds ss dims st:List Int) (dv sv:Sl) (p C:Nat) (w:World) (hC:C<w.heap.size) (hV1:∀ wx,w.grownBy wx (some C)→IsInts wx (.slice vda vdn vdc) ds) (hV2:∀ wx,w.grownBy wx (some C)→IsInts wx (.slice vsa vsn vsc) ss) (hm:Vw.MayV off ds ss) (hd:IsInts w dv.v dims) (hs:IsInts w sv.v st) (hp:w.heap[p]?=some (.cells #[.slice sv.a sv.n sv.c] 29 (0,0))) (hP:Parts ds st dims) (hmax:off+Vw.lst ds ss≤65535) :
    Calls Tryz.prog 40 #[.agg #[.int .i64 off,.slice vda vdn vdc,.slice vsa vsn vsc],.slice dv.a dv.n dv.c,.pointer (some ⟨p,0,none⟩)] w fun e w'=>∃ u:Value,e=.returned (.tuple #[u,.int .i64 0])∧(∀ wy,w'.grownBy wy (some C)→Vw.IsView wy u (jeO off ss st ds.length) dims ss)∧w.grownBy w' none:=by
     have HP:=jac hP;have HM:=jac hm;have HMX:=jac hmax;have HV1:=jac hV1;have HV2:=jac hV2;have HD:=jac hd;have HS:=jac hs;obtain ⟨da,dn,dc⟩:=dv;obtain ⟨sa,sn,sc⟩:=sv;obtain ⟨_,_,ed,-⟩:=hd.sl;obtain ⟨_,_,es,-⟩:=hs.sl;simp only [Sl.v,Value.slice.injEq] at ed es HD HS;obtain ⟨-,rfl,-⟩:=ed;obtain ⟨-,rfl,-⟩:=es;simp only at hp ⊢;have hfew:=hm.fine.few;have l1:st.length=ds.length:=hP.l1;have l2:dims.length=ds.length:=hP.l2;obtain ⟨n,hn⟩ : ∃ n,n=ds.length:=⟨_,rfl⟩
     rw [← hn] at l1 l2 hfew ⊢;have HN:=jac hn;have L1:=jac l1;have L2:=jac l2;rw [l1] at hp HS;rw [l2] at HD ⊢;clear hn l1 l2 hV1 hV2 hm hd hs hP hmax;obtain ⟨w0,hw0⟩ : ∃ w0,w0=(w.alloc (.cells #[.int .i64 off,.slice vda vdn vdc,.slice vsa vsn vsc] 63)).alloc (.cells #[.int .i64 0,.slice none 0 0,.slice none 0 0] 63):=⟨_,rfl⟩
     have hbx:=jaJ w (.cells #[.int .i64 off,.slice vda vdn vdc,.slice vsa vsn vsc] 63) (.cells #[.int .i64 0,.slice none 0 0,.slice none 0 0] 63);rw [← hw0] at hbx;have g0:w.grownBy w0 none:=by rw [hw0];exact jaa (jab _ _) (jab _ _)
     have G0:=jac g0;have BX:=jac hbx.1;have BZ:=jac hbx.2;have pl:p<w.heap.size:=(Array.getElem?_eq_some_iff.1 hp).1;have q0:w0.cell? ⟨p,0,none⟩=some (.slice sa n sc):=(cell_of_row _ _ 0 _ _ (0,0) (jag hp g0)).trans rfl;rw [hw0] at q0;clear hbx hp;go_enter Tryz.func40,Tryz.ntmps40;go_wp2_with fail;rw [← hw0];clear hw0 q0;go_loopw [12] (fun x wr=>w.grownBy wr none∧∃ k:Nat,k≤n∧x=.int .i64 k∧VB w.heap.size C wr (jeO off ss st k) (jeX ds dims k) ss∧wr.heap[w.heap.size+1]?=some (.cells #[.int .i64 0,.slice none 0 0,.slice none 0 0] 63 (0,0))) (fun x _=>n - (intOf x).toNat)
     case atStart =>
      refine ⟨G0.out,0,Nat.zero_le _,rfl,⟨⟨vda,vdn,vdc⟩,⟨vsa,vsn,vsc⟩,?_,fun wm wx wy hm hx hy=>?_⟩,BZ.out⟩
      ·rw [show jeO off ss st 0=off from by simp [jeO,Vw.dot]];exact BX.out
      ·rw [show jeX ds dims 0=ds from by simp [jeX]];have g:=jay (jay G0.out hm (Nat.le_refl _)) hx (by omega);exact ⟨HV1.out wy (jaN (jbY g) hy),HV2.out wy (jaN (jbY g) hy)⟩
     case round =>
      obtain ⟨hg,k,hk,rfl,⟨⟨ea,en,ec⟩,⟨fa,fn,fc⟩,hb,hI⟩,hz⟩:=hrel;simp only at hb hI;have HG:=jac hg;have HB:=jac hb;have HI:=jac hI;have HZ:=jac hz;clear hI hz
      by_cases hlt:k<n
      ·obtain ⟨sb,so,rfl,hcs⟩:=HS.out.get (k:=k) (by rw [L1.out];exact hlt);obtain ⟨db,dof,rfl,hcd⟩:=HD.out.get (k:=k) (by rw [L2.out];exact hlt);have q1:=jad (hcs k (by rw [L1.out];exact hlt)) hg;have q2:=hcd k (by rw [L2.out];exact hlt);have hok:=HP.out.ok k (by rw [← HN.out];exact hlt);have hdk:=HM.out.fine.at k (by rw [← HN.out];exact hlt);have hdk2:ds.getD k 0≤65536:=HM.out.fine.le_each (by rw [List.getD,List.getElem?_eq_getElem (by rw [← HN.out];exact hlt)];exact List.getElem_mem _);have STEP:=jac (fun (E off':Int) (ds' ss':List Int)=>jn1 HM.out HP.out HMX.out k (by rw [← HN.out];exact hlt) (E:=E) (off':=off') (ds':=ds') (ss':=ss'));obtain ⟨sk,hsk⟩ : ∃ z,z=st.getD k 0:=⟨_,rfl⟩
       obtain ⟨dk,hdk'⟩ : ∃ z,z=dims.getD k 0:=⟨_,rfl⟩
       rw [← hsk] at q1 hok STEP;rw [← hdk'] at q2 hok STEP;have hw:IntKind.i64.wrap (sk+dk)=sk+dk:=by rw [jba];unfold wrap64;omega
       have MV:=jeZ HM.out HP.out HMX.out k;have mlo:=MV.lo;have mhi:=MV.hi;obtain ⟨O,hO⟩ : ∃ z,z=jeO off ss st k:=⟨_,rfl⟩
       rw [← hO] at HB STEP mlo mhi
       have SL:Hid (∀ wx,wr.grownBy wx none→Calls Tryz.prog 41 #[.agg #[.int .i64 O,.slice ea en ec,.slice fa fn fc],.int .i64 k,.int .i64 sk,.int .i64 (sk+dk)] wx fun e w'=>∃ u off' ds' ss',e=.returned (.tuple #[u,.int .i64 0])∧(off'=jeO off ss st (k+1)∧ds'=jeX ds dims (k+1)∧ss'=ss)∧Vw.OwnView w' wx.heap.size u off' ds' ss'∧wx.grownBy w' none):=fun wx hx=>by
        obtain ⟨i1,i2⟩:=HI.out wx wx wx (jbY hx) (World.grownBy.refl _ _) (World.grownBy.refl _ _);refine (Vw.slice_any (.agg #[.int .i64 O,.slice ea en ec,.slice fa fn fc]) k sk (sk+dk) O (jeX ds dims k) ss wx ⟨_,_,rfl,i1,i2,by omega,by omega⟩ (by omega) (by omega) (by omega) (by omega) (by omega) (by omega)).mono ?_;rintro e w' ⟨u,E,off',ds',ss',rfl,hsl,hov,hg'⟩;obtain ⟨rfl,e1,e2,e3⟩:=STEP.out E off' ds' ss' hsl;exact ⟨u,off',ds',ss',rfl,⟨e1,e2,e3⟩,hov,hg'⟩
       have l1':(k:Int)<(n:Int):=by omega
       have BL:w.heap.size<wr.heap.size:=(Array.getElem?_eq_some_iff.1 hb).1;clear hok hdk hdk2 hsk hdk' MV mlo mhi hO STEP hcs hcd hb;have Q2:Hid (∀ wx,w.grownBy wx none→wx.cell? ⟨db,dof+k,none⟩=some (.int .i64 dk)):=fun wx hx=>jad q2 hx;clear q2;go_wp2_with fail;refine wp_region_held_drew (S:=fun w'=>wr.grownBy w' (some w.heap.size)) (by kernel_rfl) (by first | exact World.grownBy.refl _ _ | exact jbY (jaf (jae _))) (fun hHeld=>?_);refine tkC 1 ?_ (hv:=by intro wS hSw;go_simp;(try with_reducible rfl))
       try simp only [Act.put]
       refine tkC 2 ?_ (hv:=by intro wS hSw;go_simp;(try with_reducible rfl))
       try simp only [Act.put]
       refine tkC 3 ?_ (hv:=by intro wS hSw;go_simp;(try with_reducible rfl))
       try simp only [Act.put]
       refine tkC 4 ?_ (hv:=by intro wS hSw;go_simp;(try with_reducible rfl))
       try simp only [Act.put]
       refine tkC 5 ?_ (hv:=by intro wS hSw;go_simp;(try with_reducible rfl))
       try simp only [Act.put]
       refine tkC 6 ?_ (hv:=by intro wS hSw;go_simp;(try with_reducible rfl))
       try simp only [Act.put]
       refine tkC 7 ?_ (hv:=by intro wS hSw;have c0:=Q2.out _ (jay HG.out hSw (Nat.le_refl _));go_simp;(try with_reducible rfl))
       try simp only [Act.put]
       refine wpAnyH_take (i:=8) (v:=.int .i64 (sk+dk)) rfl (by kernel_rfl) (by kernel_rfl) (by kernel_rfl) (fun _ _ _ h=>h) (Or.inl ⟨by kernel_rfl,?_⟩) (by assumption) ?_
       ·(intro wS hSw;go_simp;(try simp only [hw]))
       try simp only [Act.put]
       obtain ⟨k0,k1,k2,f0,f1,f2⟩:=Vw.box_cells HB.out;refine rdA 0 fun K hK=>?_;go_simp;refine hK.out _ _ (by first | assumption | exact World.grownBy.refl _ _ | exact jbY (jaf (jae _))) (fun hHeld=>?_);clear hK K
       try simp only [Act.put]
       refine rdA 9 fun K hK=>?_;go_simp;refine (SL.out _ (by repeat (first | exact jae _ | refine jaf ?_))).mono ?_;rintro e v2 ⟨u,off',ds',ss',rfl,hE,⟨ud,us,rfl,od,os,ho1,ho2,-⟩,hg2⟩;refine hK.out _ _ (jbY (by first | exact hg2 | exact jaa (jaf (jae _)) hg2)) (fun hHeld=>?_);clear hK K
       try simp only [Act.put]
       have G2:wr.grownBy v2 none:=by first | exact hg2 | exact jaa (jaf (jae _)) hg2
       obtain ⟨rfl,rfl,rfl⟩:=hE;obtain ⟨uda,udc,rfl,-⟩:=od.ints.sl;obtain ⟨usa,usc,rfl,-⟩:=os.ints.sl;have hb2:=jag HB.out G2;have hz2:=jag HZ.out G2;obtain ⟨n1,hn1⟩ : ∃ z,z=(jeX ds dims (k+1)).length:=⟨_,rfl⟩
       obtain ⟨n2,hn2⟩ : ∃ z,z=ss'.length:=⟨_,rfl⟩
       obtain ⟨O1,hO1⟩ : ∃ z,z=jeO off ss' st (k+1):=⟨_,rfl⟩
       rw [← hn1] at od;rw [← hn2] at os;rw [← hO1] at ho1 ho2;rw [← hn1,← hn2,← hO1];obtain ⟨k0,k1,k2,f0,f1,f2⟩:=Vw.box_cells hb2;obtain ⟨hY,gY,gB⟩:=Vw.store3 (.int .i64 O1) (.slice uda n1 udc) (.slice usa n2 usc) (jaa HG.out G2) (Nat.le_refl _) hb2;have BS:w.heap.size<wr.drew.heap.size:=BL;have BS3:C<wr.drew.heap.size:=Nat.lt_of_lt_of_le hC HG.out.size;have BS2:w.heap.size+1<wr.drew.heap.size:=(Array.getElem?_eq_some_iff.1 HZ.out).1;have VBn:Hid (VB w.heap.size C (((v2.setCell ⟨w.heap.size,0,none⟩ (.int .i64 O1)).setCell ⟨w.heap.size,1,none⟩ (.slice uda n1 udc)).setCell ⟨w.heap.size,2,none⟩ (.slice usa n2 usc)) (jeO off ss' st (k+1)) (jeX ds dims (k+1)) ss'):=by rw [← hO1];exact ⟨⟨uda,n1,udc⟩,⟨usa,n2,usc⟩,hY,fun wm wx wy hm hx hy=>⟨(((od.box (jaN gB hm) BS).box hx BS2).box hy BS3).ints,(((os.box (jaN gB hm) BS).box hx BS2).box hy BS3).ints⟩⟩
       have ZN:Hid ((((v2.setCell ⟨w.heap.size,0,none⟩ (.int .i64 O1)).setCell ⟨w.heap.size,1,none⟩ (.slice uda n1 udc)).setCell ⟨w.heap.size,2,none⟩ (.slice usa n2 usc)).heap[w.heap.size+1]?=some (.cells #[.int .i64 0,.slice none 0 0,.slice none 0 0] 63 (0,0))):=(gB.block _ (Array.getElem?_eq_some_iff.1 hz2).1 (by simp)).trans hz2;have GY:=jac gY;have GB:Hid (wr.grownBy (((v2.setCell ⟨w.heap.size,0,none⟩ (.int .i64 O1)).setCell ⟨w.heap.size,1,none⟩ (.slice uda n1 udc)).setCell ⟨w.heap.size,2,none⟩ (.slice usa n2 usc)) (some w.heap.size)):=jaN (jbY G2) gB;clear od os hb2 hz2 hY gY gB hg2 G2 hn1 hn2 hO1 ho1 ho2 BS BS2 BS3;refine tkC 10 ?_ (hv:=by intro wS hSw;go_simp;(try with_reducible rfl))
       try simp only [Act.put]
       refine tkC 11 ?_ (hv:=by intro wS hSw;go_simp;(try with_reducible rfl))
       try simp only [Act.put]
       refine tkC 12 ?_ (hv:=by intro wS hSw;go_simp;(try with_reducible rfl))
       try simp only [Act.put]
       refine rdA 13 fun K hK=>?_;go_simp;refine hK.out _ _ (by first | exact GB.out | assumption) (fun hHeld=>?_);clear hK K
       try simp only [Act.put]
       refine tkC 14 ?_ (hv:=by intro wS hSw;go_simp;(try with_reducible rfl))
       try simp only [Act.put]
       refine wpAnyH_done (by kernel_rfl) ?_ _;go_simp;go_wp2_with fail;go_roundw
       case rel=>exact ⟨GY.out,k+1,hlt,by go_num,VBn.out,ZN.out⟩
       case measure=>simp [intOf];omega
      ·obtain rfl:n=k:=by omega
       obtain ⟨k0,k1,k2,f0,f1,f2⟩:=Vw.box_cells HB.out;obtain ⟨z0,z1,z2,e0,e1,e2⟩:=Vw.box_cells HZ.out;obtain ⟨hY,gY,gB⟩:=Vw.store3 (.int .i64 (jeO off ss st n)) (.slice ea en ec) (.slice fa fn fc) HG.out (Nat.le_succ _) HZ.out;obtain ⟨y0,y1,y2,-,-,-⟩:=Vw.box_cells hY;have mv:=jeZ HM.out HP.out HMX.out n
       have FIN:Hid (∀ wy,World.grownBy (((wr.setCell ⟨w.heap.size+1,0,none⟩ (.int .i64 (jeO off ss st n))).setCell ⟨w.heap.size+1,1,none⟩ (.slice ea en ec)).setCell ⟨w.heap.size+1,2,none⟩ (.slice fa fn fc)) wy (some C)→Vw.IsView wy (.agg #[.int .i64 (jeO off ss st n),.slice ea en ec,.slice fa fn fc]) (jeO off ss st n) (jeX ds dims n) ss):=fun wy hy=>by
        have h1:=HI.out wr _ wy (World.grownBy.refl _ _) gB hy;exact ⟨_,_,rfl,h1.1,h1.2,by have:=mv.lo;omega,by have:=mv.hi;omega⟩
       have GY:=jac gY;have HY:=jac hY;clear hb hY gY gB mv;go_wp2;refine bodyPost_ret (Vw.ret_view rfl _ _ (w.heap.size+1) rfl HY.out) rfl ?_;rw [show jeX ds dims n=dims from by rw [HN.out];exact jj1 HP.out.l2] at FIN;exact ⟨_,rfl,FIN.out,GY.out⟩
def AspQ (w:World) (ds ts st l:List Int) (e:Ending) (w':World):Prop:=∃ u:Sl,e=.returned (.tuple #[.slice u.a u.n u.c,.int .i64 (Vw.rdE (Vw.dot st (jbo ds)) l (jbo ds) ts)])∧Vw.Owns64 w' w.heap.size u.v (Vw.rdL (Vw.dot st (jbo ds)) l (jbo ds) ts)∧w.grownBy w' none
theorem jj2 {a b c:World} {base:Nat} {v:Value} {zs:List Int} (h:Owns a base v zs) (hb:a.grownBy b none) (hc:b.grownBy c (some a.heap.size)):IsInts c v zs:=by
 refine Owns.ints ⟨(h.1.kept hb (by cases v.ownBlock <;> simp)).kept hc ?_,h.2⟩
 cases e:v.ownBlock with
 | none=>exact .inl rfl
 | some k=>exact .inr (fun e2=>by have:=(h.1.lt k e).2;cases e2;omega)
theorem jrF (t:Ten) (ds ts l st:List Int) (lv sv:Sl) (p:Nat) (w:World) (hcd:ja7 ds=0) (hpm:Parts ds st l) (hd:IsInts w t.dv.v ds) (ht:IsInts w t.tv.v ts) (hl:IsInts w lv.v l) (hs:IsInts w sv.v st) (hp:w.heap[p]?=some (.cells #[.slice sv.a sv.n sv.c] 29 (0,0))) :
    Calls Tryz.prog 12 #[jjQ t,.func (.func 40) #[] #[.pointer (some ⟨p,0,none⟩)],.slice lv.a lv.n lv.c] w (AspQ w ds ts st l):=by
     have HD:=jac hd;have HT:=jac ht;have HL:=jac hl;have HS:=jac hs;have HPB:=jac hp;clear hd ht hl hs hp;obtain ⟨ty,⟨da,dn,dc⟩,⟨ta,tn,tc⟩⟩:=t;obtain ⟨la,ln,lc⟩:=lv;unfold jjQ;simp only [Sl.v] at HD HT HL ⊢;obtain ⟨w0,hw0⟩ : ∃ w0,w0=w.alloc (.cells #[.int .i64 ty,.slice da dn dc,.slice ta tn tc] 32):=⟨_,rfl⟩
     have g0:Hid (w.grownBy w0 none):=by show w.grownBy w0 none;rw [hw0];exact jab _ _
     have B0:=heap_alloc_new w (.cells #[.int .i64 ty,.slice da dn dc,.slice ta tn tc] 32);have c0:=(cell_of_row _ _ 0 _ _ (0,0) B0).trans rfl;have c1:=(cell_of_row _ _ 1 _ _ (0,0) B0).trans rfl;have c2:=(cell_of_row _ _ 2 _ _ (0,0) B0).trans rfl;rw [← hw0] at B0;have BX:Hid (∀ wx,w0.grownBy wx none→wx.heap[w.heap.size]?=some (.cells #[.int .i64 ty,.slice da dn dc,.slice ta tn tc] 32 (0,0))):=fun wx hg=>jag B0 hg;have WH:=jac (Vw.whole_any (.slice da dn dc) ds w0 (HD.out.more g0.out));clear B0;go_enter Tryz.func12,Tryz.ntmps12;go_wp2_with fail;rw [← hw0];clear hw0 c0 c1 c2;refine WH.out.mono ?_;rintro e w1 ⟨v,rfl,hov,hg1⟩;obtain ⟨vd,vs,rfl,od,os,-⟩:=hov;obtain ⟨vda,vdc,rfl,-⟩:=od.ints.sl;obtain ⟨vsa,vsc,rfl,-⟩:=os.ints.sl;have VD:=jac od;have VS:=jac os;clear od os;obtain ⟨wA,hwA⟩ : ∃ wA,wA=w1.alloc (.cells #[.int .i64 0,.slice vda (Vw.rowDs ds).length vdc,.slice vsa (jbM ds).length vsc] 63):=⟨_,rfl⟩
     have hX:=heap_alloc_new w1 (.cells #[.int .i64 0,.slice vda (Vw.rowDs ds).length vdc,.slice vsa (jbM ds).length vsc] 63);rw [← hwA] at hX;have gX:w1.grownBy wA none:=by rw [hwA];exact jab _ _
     have hs1:w1.heap.size<wA.heap.size:=by rw [hwA];simp
     have g1:=jac (jaa g0.out hg1);have GX:=jac gX;have HX:=jac hX;have hE:=hcd;have HPM:=jac hpm;clear hcd hpm;have hE':(ja7 ds != 0)=false:=by simp [hE]
     have VI:Vw.IsView w1 (.agg #[.int .i64 0,.slice vda (Vw.rowDs ds).length vdc,.slice vsa (jbM ds).length vsc]) 0 ds (jbo ds):=by
      have h1:=VD.out.ints;have h2:=VS.out.ints;rw [show Vw.rowDs ds=ds from if_pos hE] at h1;rw [show jbM ds=jbo ds from if_pos hE] at h2;rw [show Vw.rowDs ds=ds from if_pos hE,show jbM ds=jbo ds from if_pos hE];exact ⟨_,_,rfl,h1,h2,by omega,by omega⟩
     have SP:=jac (jpR vda vsa ds.length vdc ds.length vsc 0 ds (jbo ds) l st ⟨la,ln,lc⟩ sv p w1.heap.size wA hs1 (fun wx hx=>by have h1:=(jj2 VD.out GX.out hx);rw [show Vw.rowDs ds=ds from if_pos hE] at h1;exact h1) (fun wx hx=>by have h2:=(jj2 VS.out GX.out hx);rw [show jbM ds=jbo ds from if_pos hE,jbs] at h2;exact h2) (Vw.may_whole (jaX hE)) (HL.out.more (jaa g1.out GX.out)) (HS.out.more (jaa g1.out GX.out)) (jag HPB.out (jaa g1.out GX.out)) HPM.out (by rw [Vw.lst_whole ds (jaX hE).pos];have:=(jaX hE).le;omega));simp only at SP;rw [show (Vw.rowDs ds).length=ds.length from by rw [Vw.rowDs,if_pos hE]] at HX hwA ⊢;rw [show (jbM ds).length=ds.length from by rw [jbM,if_pos hE,jbs]] at HX hwA ⊢;have HE:=jac hE;clear VI hE hX gX;go_wp2_with fail;rw [← hwA];clear hwA;refine SP.out.mono ?_;rintro e w2 ⟨u,rfl,hvw,hg2⟩;obtain ⟨ud,us,rfl,i1,i2,ho1,ho2⟩:=hvw w2 (World.grownBy.refl _ _);obtain ⟨uda,udc,rfl,-⟩:=i1.sl;obtain ⟨usa,usc,rfl,-⟩:=i2.sl;have hb:=jag HX.out hg2;obtain ⟨OF,hOF⟩ : ∃ z,z=jeO 0 (jbo ds) st ds.length:=⟨_,rfl⟩
     rw [← hOF] at hvw ho1 ho2 ⊢;obtain ⟨k0,k1,k2,f0,f1,f2⟩:=Vw.box_cells hb;obtain ⟨hY,gY,gB⟩:=Vw.store3 (.int .i64 OF) (.slice uda l.length udc) (.slice usa (jbo ds).length usc) (jaa GX.out hg2) (Nat.le_refl _) hb;have VW:=jac (hvw _ gB);have GY:=jac (jaa g1.out gY);obtain ⟨y0,y1,y2,-,-,-⟩:=Vw.box_cells hY;have HOF:=jac hOF;clear i1 i2 hb hY gB hvw hg2 hOF;obtain ⟨w3,hw3⟩ : ∃ w3,w3=((w2.setCell ⟨w1.heap.size,0,none⟩ (.int .i64 OF)).setCell ⟨w1.heap.size,1,none⟩ (.slice uda l.length udc)).setCell ⟨w1.heap.size,2,none⟩ (.slice usa (jbo ds).length usc):=⟨_,rfl⟩
     rw [← hw3] at VW GY gY;have BT:=BX.out _ (jaa hg1 gY);have t2:w3.cell? ⟨w.heap.size,2,none⟩=some (.slice ta tn tc):=(cell_of_row _ _ 2 _ _ (0,0) BT).trans rfl;rw [hw3] at t2;have RD:=jac (Vw.read_any OF l (jbo ds) ts _ _ w3 VW.out (HT.out.more GY.out));have LT:Hid (w.heap.size≤w3.heap.size):=GY.out.size;clear BT gY;go_wp2_with fail;rw [← hw3];clear hw3 t2 y0 y1 y2;refine RD.out.mono ?_;rintro e w4 ⟨u,rfl,ou,hg4⟩;obtain ⟨ua,un,uc,rfl⟩:=jfE ou;have OU:=jac (jd0 ou LT.out);have G4:=jac (jaa GY.out hg4);clear ou hg4;go_wp2;go_ret2;have e3:=HOF.out
     have e4:OF=Vw.dot st (jbo ds):=by
      rw [e3];unfold jeO;rw [← HPM.out.l1,List.take_length,Int.zero_add]
     subst e4;exact ⟨⟨ua,un,uc⟩,rfl,OU.out,G4.out⟩
end Go.Proofs.YtanpkdkenifmbaaGreatDoor
namespace Go.Proofs.YtanpkdkenifmbaaGreatDoor
open Go.RowKit
def stL (x:List Int):List Int→List Int→List Int→List Int
 | a::al,s::ss,acc=>stL x al ss (acc.set ((ja4 a x.length).getD 0) (jaM s (x.getD ((ja4 a x.length).getD 0) 0).toNat))
 | _,_,acc=>acc
def jfG (A:At) (x:List Int):List Int:=stL x (A.ints ⟨#[97,120,101,115]⟩ (jb1 (A.ints ⟨#[115,116,97,114,116,115]⟩ []).length)) (A.ints ⟨#[115,116,97,114,116,115]⟩ []) (List.replicate x.length 0)
theorem jpS {x L S acc:List Int} {k:Nat} (h1:k<L.length) (h2:k<S.length):stL x (L.drop k) (S.drop k) acc=stL x (L.drop (k+1)) (S.drop (k+1)) (acc.set ((ja4 (L.getD k 0) x.length).getD 0) (jaM (S.getD k 0) (x.getD ((ja4 (L.getD k 0) x.length).getD 0) 0).toNat)):=by
 rw [jbc L k h1,jbc S k h2]
 rfl
theorem jjq (s:Int) (d:Nat) (hd:d≤65536):0≤jaM s d∧jaM s d≤65536:=by
 unfold jaM
 split <;> (split <;> omega)
theorem jep {l:List Int} {k:Nat} (hk:k<l.length):l.getD k 0∈l:=by
 rw [List.getD,List.getElem?_eq_getElem hk];exact List.getElem_mem hk
theorem jll (n:Nod) (A:At) (nm:ByteArray) (other:Sl) (zs:List Int) (w:World) (hn:NodeOk w n A) (ho:IsInts w other.v zs) :
    Calls Tryz.prog 39 #[jaA n,.string nm,.slice other.a other.n other.c] w fun e w'=>∃ u:Sl,e=.returned u.v∧(∀ C wy,C<w.heap.size→w'.grownBy wy (some C)→IsInts wy u.v (A.ints nm zs))∧w.grownBy w' none:=by
     refine (jhH n A.xs A.cs nm other zs w hn.attrs hn.has ho).mono ?_;rintro e w' ⟨u,rfl,hu,hg⟩;refine ⟨u,rfl,fun C wy hC hy=>?_,hg⟩
     have hb:∃ v,IsInts w v (A.ints nm zs):=by
      unfold At.ints jfa
      rcases jcY (P:=isA nm 7) hn.has with ⟨e1,e2⟩ | ⟨a,c,e1,e2,e3⟩
      ·rw [e2];exact ⟨_,ho⟩
      ·rw [e2];exact ⟨_,e3.i⟩
     obtain ⟨v,hb⟩:=hb;exact jgd (hu.kept hy (fun g e=>by cases e;exact hC)) hb.le hb.wf
theorem jlm (n:Nod) (A:At) (u:Sl) (x:List Int) (w:World) (hn:NodeOk w n A) (hx:IsInts w u.v x) (hf:Fine x) (hLS:(A.ints ⟨#[97,120,101,115]⟩ (jb1 (A.ints ⟨#[115,116,97,114,116,115]⟩ []).length)).length=(A.ints ⟨#[115,116,97,114,116,115]⟩ []).length) (hax0:∀ a∈A.ints ⟨#[97,120,101,115]⟩ (jb1 (A.ints ⟨#[115,116,97,114,116,115]⟩ []).length),∃ i,ja4 a x.length=some i):Calls Tryz.prog 20 #[jaA n,.slice u.a u.n u.c] w fun e w'=>∃ v:Sl,e=.returned v.v∧IsInts w' v.v (jfG A x)∧w.grownBy w' none:=by
 obtain ⟨i0,hi0,hz0,hz1,hz2⟩:=info_parts jcE;obtain ⟨ux,uc,eu,c1,c2,c3⟩:=hx.sl;obtain ⟨ua,un,uu⟩:=u;simp only [Sl.v,Value.slice.injEq] at eu;obtain ⟨rfl,rfl,rfl⟩:=eu;have HX:=jac hx;have FEW:=hf.few;have PB:Hid (∀ z∈x,1≤z∧z≤65536):=fun z hz=>⟨hf.pos z hz,hf.le_each hz⟩
 obtain ⟨S,hS⟩ : ∃ S,S=A.ints ⟨#[115,116,97,114,116,115]⟩ []:=⟨_,rfl⟩
 obtain ⟨L,hL⟩ : ∃ L,L=A.ints ⟨#[97,120,101,115]⟩ (jb1 S.length):=⟨_,rfl⟩
 have hres:jfG A x=stL x L S (List.replicate x.length 0):=by rw [hL,hS];rfl
 rw [hres];rw [← hS,← hL] at hLS hax0;have HSx:=jac hS;have HLx:=jac hL;have LS:=jac hLS;have AX:=jac hax0;clear hx hf hres hS hL hLS hax0;have NK:=jac hn;obtain ⟨op,nam,⟨ia,il,ic⟩,out,⟨ao,al,cap⟩⟩:=n;unfold jaA;simp only;obtain ⟨w0,hw0⟩ : ∃ w0,w0=w.alloc (.cells #[.string op,.string nam,.slice ia il ic,.string out,.slice ao al cap] 25):=⟨_,rfl⟩
 have g0:Hid (w.grownBy w0 none):=by show w.grownBy w0 none;rw [hw0];exact jab _ _
 have hb0:=heap_alloc_new w (.cells #[.string op,.string nam,.slice ia il ic,.string out,.slice ao al cap] 25);rw [← hw0] at hb0;have BX:Hid (∀ wx,w0.grownBy wx none→wx.heap[w.heap.size]?=some (.cells #[.string op,.string nam,.slice ia il ic,.string out,.slice ao al cap] 25 (0,0))):=fun wx hg=>jag hb0 hg;clear hb0 hn;have NI:=jac (fun (wx:World) (hg:w.grownBy wx none)=>jbj ⟨op,nam,⟨ia,il,ic⟩,out,⟨ao,al,cap⟩⟩ A ⟨#[115,116,97,114,116,115]⟩ ⟨none,0,0⟩ [] wx (NK.out.more hg) (jjP wx));have NU:=jac (fun (wx:World) (B r:Nat) (hg:w.grownBy wx none) (hB:IsInts wx (.slice (some ⟨B,0,none⟩) r r) (jb1 r))=>jll ⟨op,nam,⟨ia,il,ic⟩,out,⟨ao,al,cap⟩⟩ A ⟨#[97,120,101,115]⟩ ⟨some ⟨B,0,none⟩,r,r⟩ _ wx (NK.out.more hg) hB);unfold jaA at NI NU;simp only at NI NU;rw [← HSx.out] at NI;have hb4:i0.bytes*x.length≤281474976710656:=by rw [hz2];omega
 have hb5:x.length≤maxLen:=by simp only [maxLen];omega
 obtain ⟨n0,n1,n2,n3,n4⟩:=jai (n:=⟨op,nam,⟨ia,il,ic⟩,out,⟨ao,al,cap⟩⟩) (BX.out w0 (jae _));have N0:=jac (NI.out w0 g0.out);rw [hw0] at n0 n1 n2 n3 n4;go_enter Tryz.func20,Tryz.ntmps20;go_wp2_with fail;rw [← hw0];clear hw0 n0 n1 n2 n3 n4;refine N0.out.mono ?_;rintro e w2 ⟨⟨sa,sn,sv⟩,rfl,hss,hg2⟩;obtain ⟨sx,sc,es1,s1,s2,s3⟩:=hss.sl;simp only [Sl.v,Value.slice.injEq] at es1;obtain ⟨rfl,rfl,rfl⟩:=es1;simp only [Sl.v] at hss ⊢;have HSS:=jac hss;have G2:=jac hg2;clear hss hg2 N0 NI;go_wp2_with (first | (refine wpList_make_full _ rfl (.tmp 14) (.tmp 14) 29 rfl w2.heap.size 3 i0 (.int .i64 0) 1 Tryz.underlying29 hi0 hz0 hz1 .i64 .i64 _ _ x.length rfl rfl rfl rfl hb4 hb5 (Nat.le_refl _) ?_;intro w3 hown3 hg3) | fail);rw [jby] at hown3;have O3:=jac (jgD (by omega) hown3);have G3:=jac hg3;have G03:=jac (jaa G2.out hg3);clear hown3 hg3 hb4 hb5;obtain ⟨n0,n1,n2,n3,n4⟩:=jai (n:=⟨op,nam,⟨ia,il,ic⟩,out,⟨ao,al,cap⟩⟩) (BX.out w3 (G03.out));go_region_held3 (fun w'=>w'.cell? ⟨w.heap.size,0,none⟩=some (.string op)∧w'.cell? ⟨w.heap.size,1,none⟩=some (.string nam)∧w'.cell? ⟨w.heap.size,2,none⟩=some (.slice ia il ic)∧w'.cell? ⟨w.heap.size,3,none⟩=some (.string out)∧w'.cell? ⟨w.heap.size,4,none⟩=some (.slice ao al cap)) (go_keep) (first | (go_at_call 37;refine (jeS S.length _ s3).mono ?_;rintro e w4 ⟨rfl,ho4,hg4⟩;have g4:w0.grownBy w4 none:=jaa (jaf G03.out) hg4;obtain ⟨n0,n1,n2,n3,n4⟩:=jai (n:=⟨op,nam,⟨ia,il,ic⟩,out,⟨ao,al,cap⟩⟩) (BX.out w4 (g4))) | (go_at_call 39;refine (NU.out _ _ S.length (jaa g0.out g4) (by have h:=ho4.ints (by rw [jbq];omega) (fun z hz=>by have:=jd9 hz;omega);rw [jbq] at h;exact h)).mono ?_;rintro e w5 ⟨axl,rfl,hax,hg5⟩;have g5:w0.grownBy w5 none:=jaa g4 hg5;obtain ⟨n0,n1,n2,n3,n4⟩:=jai (n:=⟨op,nam,⟨ia,il,ic⟩,out,⟨ao,al,cap⟩⟩) (BX.out w5 (g5))) | fail);rw [← HLx.out] at hax
 have HG3:w2.heap.size<w4.heap.size:=by
  have h1:=(World.ownsRow.lt O3.out.1 w2.heap.size rfl).2;have h2:=hg4.size;have h3:w3.heap.size=w3.drew.heap.size:=rfl;omega
 have hax5:=hax _ w5 HG3 (World.grownBy.refl _ _);obtain ⟨ax,ac,ae1,a1,a2,a3⟩:=hax5.sl;obtain ⟨aa,an,av⟩:=axl;simp only [Sl.v,Value.slice.injEq] at ae1;obtain ⟨rfl,rfl,rfl⟩:=ae1;simp only [Sl.v] at hax ⊢;have HAX:Hid (∀ wy,w5.grownBy wy (some w2.heap.size)→IsInts wy (.slice aa L.length av) L):=fun wy hy=>hax _ wy HG3 hy;have G35:Hid (w3.grownBy w5 none):=jaa (jaf (jae _)) (jaa hg4 hg5);have G25:=jac (jaa G3.out G35.out);have G5:=jac (jaa (jaa g0.out G2.out) G25.out);have O5:=jac (O3.out.new G35.out);clear hax hax5 HG3 ho4 hg4 hg5 g4 g5 n0 n1 n2 n3 n4 NU;go_wp2_with fail;go_loopw [22] (fun i wr=>w5.grownBy wr (some w2.heap.size)∧∃ (k:Nat) (acc:List Int),k≤L.length∧i=.int .i64 k∧Owns wr w2.heap.size (.slice (some ⟨w2.heap.size,0,none⟩) x.length x.length) acc∧acc.length=x.length∧stL x (L.drop k) (S.drop k) acc=stL x L S (List.replicate x.length 0)) (fun i _=>L.length - (intOf i).toNat)
 case atStart=>exact ⟨World.grownBy.refl _ _,0,_,Nat.zero_le _,rfl,O5.out,by simp,by simp⟩
 case round =>
  obtain ⟨hg,k,acc,hk,rfl,ho,hal,hst⟩:=hrel;have HG:=jac hg;have HO:=jac ho;have HAL:=jac hal;have HST:=jac hst;have g2r:=jay G25.out hg (Nat.le_refl _);clear ho hal hst
  by_cases hlt:k<L.length
  ·obtain ⟨ab,aof,rfl,hca⟩:=(HAX.out wr hg).get hlt;have q1:=hca k hlt;have hwa:=(HAX.out wr hg).wf (L.getD k 0) (jep hlt);have hsl:k<S.length:=by rw [← LS.out];exact hlt
   obtain ⟨sb,so,rfl,hcs⟩:=HSS.out.get hsl;have q2:=hcs k hsl;have hws:=HSS.out.wf (S.getD k 0) (jep hsl);obtain ⟨i,hi⟩:=AX.out (L.getD k 0) (jep hlt);have hil:=jbw hi;obtain ⟨xb,xo,rfl,hcx⟩:=HX.out.get hil;have q3:=hcx i hil;have hbx:=PB.out (x.getD i 0) (jep hil);obtain ⟨d,hd0⟩ : ∃ d:Nat,x.getD i 0=d:=⟨(x.getD i 0).toNat,by omega⟩
   have hst2:=HST.out;rw [jpS hlt hsl,hi] at hst2;simp only [Option.getD_some] at hst2;rw [hd0] at q3 hbx hst2;rw [Int.toNat_natCast] at hst2;obtain ⟨s,hs0⟩ : ∃ s,s=S.getD k 0:=⟨_,rfl⟩
   obtain ⟨a,ha0⟩ : ∃ a,a=L.getD k 0:=⟨_,rfl⟩
   rw [← hs0] at q2 hws hst2;rw [← ha0] at q1 hwa hi;have AO:=jac (fun wx=>jd8 a x.length wx (by omega) hwa.1);rw [hi] at AO;simp only [Option.getD_some,Option.isSome_some] at AO;have bd:=jjq s d (by omega);obtain ⟨b,hb0⟩ : ∃ b,b=jaM s d:=⟨_,rfl⟩
   rw [← hb0] at bd hst2;have BO:=jac (fun wx=>jfc s d wx (by omega) hws.1);rw [← hb0] at BO;obtain ⟨a1',a2',a3',a4'⟩:=jeW HO.out HAL.out hil b ⟨by omega,by omega⟩;have Q2:Hid (∀ wx,w2.grownBy wx none→wx.cell? ⟨sb,so+k,none⟩=some (.int .i64 s)):=fun wx hx=>jad q2 hx;have Q3:Hid (∀ wx,w2.grownBy wx none→wx.cell? ⟨xb,xo+i,none⟩=some (.int .i64 d)):=fun wx hx=>jad q3 (jaa (jaa g0.out G2.out) hx);have G2R:=jac g2r;have HS2:=jac hst2;have OP:Hid (∀ wx,wr.grownBy wx none→wx.cell? ⟨w2.heap.size,i,none⟩=some (.int .i64 (acc.getD i 0))∧wx.frozen? ⟨w2.heap.size,i,none⟩=false∧Owns (wx.setCell ⟨w2.heap.size,i,none⟩ (.int .i64 b)) w2.heap.size (.slice (some ⟨w2.heap.size,0,none⟩) x.length x.length) (acc.set i b)∧wx.grownBy (wx.setCell ⟨w2.heap.size,i,none⟩ (.int .i64 b)) (some w2.heap.size)):=fun wx hx=>jeW (HO.out.new hx) HAL.out hil b ⟨by omega,by omega⟩;have l1:(k:Int)<(L.length:Int):=by omega
   have l2:(k:Int)<(S.length:Int):=by omega
   have l3:(i:Int)<(x.length:Int):=by omega
   clear a1' a2' a3' a4' q2 q3 hca hcs hcx hs0 ha0 hb0 hi hd0 hst2 hwa hws bd hbx g2r hg;go_wp2_with (first | (go_at_call 42;refine (AO.out _).mono ?_;rintro e w' ⟨rfl,rfl⟩) | fail);refine wp_region_held_drew (S:=fun w'=>wr.grownBy w' (some w2.heap.size)) (by kernel_rfl) (by first | exact World.grownBy.refl _ _ | exact jbY (jaf (jae _))) (fun hHeld=>?_);refine tkC 0 ?_ (hv:=by intro wS hSw;go_simp;(try with_reducible rfl))
   try simp only [Act.put]
   refine tkC 1 ?_ (hv:=by intro wS hSw;go_simp;(try with_reducible rfl))
   try simp only [Act.put]
   refine tkC 2 ?_ (hv:=by intro wS hSw;go_simp;(try with_reducible rfl))
   try simp only [Act.put]
   refine tkC 3 ?_ (hv:=by intro wS hSw;go_simp;(try with_reducible rfl))
   try simp only [Act.put]
   refine tkC 4 ?_ (hv:=by intro wS hSw;go_simp;(try with_reducible rfl))
   try simp only [Act.put]
   refine tkC 5 ?_ (hv:=by intro wS hSw;have c0:=Q2.out _ (jay G2R.out hSw (Nat.le_refl _));go_simp;(try with_reducible rfl))
   try simp only [Act.put]
   refine tkC 6 ?_ (hv:=by intro wS hSw;go_simp;(try with_reducible rfl))
   try simp only [Act.put]
   refine tkC 7 ?_ (hv:=by intro wS hSw;go_simp;(try with_reducible rfl))
   try simp only [Act.put]
   refine tkC 8 ?_ (hv:=by intro wS hSw;go_simp;(try with_reducible rfl))
   try simp only [Act.put]
   refine tkC 9 ?_ (hv:=by intro wS hSw;have c0:=Q3.out _ (jay G2R.out hSw (Nat.le_refl _));go_simp;(try with_reducible rfl))
   try simp only [Act.put]
   refine rdA 10 fun K hK=>?_;go_simp;refine (BO.out _).mono ?_;rintro e v2 ⟨rfl,rfl⟩;refine hK.out _ _ (by first | assumption | exact World.grownBy.refl _ _ | exact jbY (jaf (jae _))) (fun hHeld=>?_);clear hK K
   try simp only [Act.put]
   obtain ⟨m1,m2,m3,m4⟩:=OP.out wr.drew (jaf (jae _));have NO:=jac m3;have NG:Hid (w5.grownBy (wr.drew.setCell ⟨w2.heap.size,i,none⟩ (.int .i64 b)) (some w2.heap.size)):=jaN HG.out (jaN (jbY (jaf (jae _))) m4);have NS:Hid (wr.grownBy (wr.drew.setCell ⟨w2.heap.size,i,none⟩ (.int .i64 b)) (some w2.heap.size)):=jaN (jbY (jaf (jae _))) m4;clear m3 m4;refine tkC 11 ?_ (hv:=by intro wS hSw;go_simp;(try with_reducible rfl))
   try simp only [Act.put]
   refine rdA 12 fun K hK=>?_;go_simp;refine hK.out _ _ (by first | exact NS.out | assumption) (fun hHeld=>?_);clear hK K
   try simp only [Act.put]
   refine wpAnyH_done (by kernel_rfl) ?_ _;go_simp;clear m1 m2;go_wp2_with fail;go_roundw
   case rel=>exact ⟨NG.out,k+1,_,hlt,by go_num,NO.out,by rw [List.length_set];exact HAL.out,HS2.out⟩
   case measure=>simp [intOf];omega
  ·obtain rfl:L.length=k:=by omega
   have FIN:Hid (IsInts wr (.slice (some ⟨w2.heap.size,0,none⟩) x.length x.length) (stL x L S (List.replicate x.length 0))):=by
    have h1:=HST.out;rw [List.drop_length] at h1;show IsInts _ _ _;rw [← h1];have h2:=HO.out.ints
    cases S.drop L.length <;> exact h2
   have GF:=jac (jaa (jaa g0.out G2.out) g2r);clear g2r hg;go_wp2;go_ret;exact ⟨⟨_,_,_⟩,rfl,FIN.out,GF.out⟩
end Go.Proofs.YtanpkdkenifmbaaGreatDoor
namespace Go.Proofs.YtanpkdkenifmbaaGreatDoor
open Go.RowKit
theorem jeF (s:Int) (d:Nat):0≤jaM s d∧jaM s d≤d:=by
 unfold jaM
 split <;> (split <;> omega)
theorem jfH {x:List Int} (F:Fine x):∀ {L S E dims acc l:List Int},L.length=S.length→S.length=E.length→Parts x acc dims→jbR x L S E dims=.ok l→Parts x (stL x L S acc) l
 | [],[],[],dims,acc,l,_,_,hp,h=>by cases h;exact hp
 | a::L,s::S,e::E,dims,acc,l,h1,h2,hp,h=>by
  simp only [jbR] at h;obtain ⟨ax,ha,h⟩:=jaF h;obtain ⟨_,hm,h⟩:=jaF h
  have hi:ja4 a x.length=some ax:=by
   unfold jcl at ha
   split at ha
   ·rename_i i hi;cases ha;exact hi
   ·cases ha
  have hlt:=jbw hi
  have hse:jaM s (x.getD ax 0).toNat<jaM e (x.getD ax 0).toNat:=by
   unfold jal at hm
   split at hm
   ·rename_i q;simpa using q
   ·cases hm
  have b1:=jeF s (x.getD ax 0).toNat;have b2:=jeF e (x.getD ax 0).toNat;have hx:=F.at ax hlt;unfold stL;rw [hi];simp only [Option.getD_some];refine jfH F (by simpa using h1) (by simpa using h2) ⟨by rw [List.length_set];exact hp.l1,by rw [List.length_set];exact hp.l2,fun i hi=>?_⟩ h;have ho:=hp.ok i hi
  have ga:∀ (L:List Int) (z:Int),ax<L.length→(L.set ax z).getD i 0=if ax=i then z else L.getD i 0:=fun L z hL=>by
   simp only [List.getD]
   by_cases e:ax=i
   ·subst e;rw [if_pos rfl,List.getElem?_set_self hL]
    rfl
   ·rw [if_neg e,List.getElem?_set_ne e]
  rw [ga acc _ (by rw [hp.l1];exact hlt),ga dims _ (by rw [hp.l2];exact hlt)]
  by_cases e:ax=i
  ·subst e;rw [if_pos rfl,if_pos rfl];omega
  ·rw [if_neg e,if_neg e];exact ho
 | [],_::_,_,_,_,_,h,_,_,_=>by simp at h
 | _::_,[],_,_,_,_,h,_,_,_=>by simp at h
 | _,[],_::_,_,_,_,_,h,_,_=>by simp at h
 | _,_::_,[],_,_,_,_,h,_,_=>by simp at h
theorem jn2 {A:At} {x l:List Int} (F:Fine x) (h:jbN A x=.ok l):Parts x (jfG A x) l∧(A.ints ⟨#[97,120,101,115]⟩ (jb1 (A.ints ⟨#[115,116,97,114,116,115]⟩ []).length)).length=(A.ints ⟨#[115,116,97,114,116,115]⟩ []).length∧∀ a∈A.ints ⟨#[97,120,101,115]⟩ (jb1 (A.ints ⟨#[115,116,97,114,116,115]⟩ []).length),∃ i,ja4 a x.length=some i:=by
 unfold jbN at h;simp only at h;obtain ⟨_,hm,h⟩:=jaF h;obtain ⟨r,ha,h⟩:=jaF h
 have hl:(A.ints ⟨#[115,116,97,114,116,115]⟩ []).length=(A.ints ⟨#[101,110,100,115]⟩ []).length∧(A.ints ⟨#[115,116,97,114,116,115]⟩ []).length=(A.ints ⟨#[97,120,101,115]⟩ (jb1 (A.ints ⟨#[115,116,97,114,116,115]⟩ []).length)).length:=by
  unfold jal at hm
  split at hm
  ·rename_i q;simpa using q
  ·cases hm
 refine ⟨?_,hl.2.symm,?_⟩
 ·refine jfH F hl.2.symm hl.1 ⟨by simp,rfl,fun i hi=>?_⟩ h;have:=F.at i hi;have e:(List.replicate x.length (0:Int)).getD i 0=0:=by simp [List.getD,hi]
  rw [e];omega
 ·unfold jbT at ha
  split at ha
  ·rename_i is his;exact jfd his
  ·cases ha
theorem jn3:∀ {ds ss st dims:List Int},st.length=ds.length→dims.length=ds.length→ss.length=ds.length→(∀ i,i<ds.length→st.getD i 0+dims.getD i 0≤ds.getD i 0)→(∀ s∈ss,0≤s)→Vw.dot st ss+Vw.lst dims ss≤Vw.lst ds ss
 | [],[],[],[],_,_,_,_,_=>by simp [Vw.dot,Vw.lst]
 | d::ds,s::ss,c::st,e::dims,h1,h2,h3,h,hs=>by
  have ih:=@jn3 ds ss st dims (by simpa using h1) (by simpa using h2) (by simpa using h3) (fun i hi=>by simpa using h (i+1) (by simpa using hi)) (fun z hz=>hs z (by simp [hz]));have h0:=h 0 (by simp);simp only [List.getD_cons_zero] at h0;have hs0:=hs s (by simp);simp only [Vw.dot,Vw.lst];have k:(c+(e - 1))*s≤(d - 1)*s:=Int.mul_le_mul_of_nonneg_right (by omega) hs0;rw [Int.add_mul] at k;omega
 | [],_,_::_,_,h,_,_,_,_=>by simp at h
 | [],_,_,_::_,_,h,_,_,_=>by simp at h
 | [],_::_,_,_,_,_,h,_,_=>by simp at h
 | _::_,_,[],_,h,_,_,_,_=>by simp at h
 | _::_,_,_,[],_,h,_,_,_=>by simp at h
 | _::_,[],_,_,_,_,h,_,_=>by simp at h
theorem jpT {x st l:List Int} (F:Fine x) (hp:Parts x st l):Vw.MayV (Vw.dot st (jbo x)) l (jbo x)∧Vw.dot st (jbo x)+Vw.lst l (jbo x)<jaB x:=by
 have hm:=Vw.may_whole F;have h1:=jeZ hm hp (by rw [Vw.lst_whole x F.pos];have:=F.le;omega) x.length;rw [jj1 hp.l2] at h1
 have e:jeO 0 (jbo x) st x.length=Vw.dot st (jbo x):=by
  unfold jeO;rw [← hp.l1,List.take_length,Int.zero_add]
 rw [e] at h1;refine ⟨h1,?_⟩;have h2:=jn3 (ss:=jbo x) hp.l1 hp.l2 (jbs x) (fun i hi=>(hp.ok i hi).2.2) (fun s hs=>by have:=jgH F s hs;omega);rw [Vw.lst_whole x F.pos] at h2;omega
theorem jrG {x st l xs:List Int} (F:Fine x) (hp:Parts x st l) (hl:(xs.length:Int)=jaB x):Vw.rdOk (Vw.dot st (jbo x)) l (jbo x) xs=true:=by
 obtain ⟨h1,h2⟩:=jpT F hp;unfold Vw.rdOk;rw [Vw.mayB_iff.2 h1,Bool.true_and,decide_eq_true_eq,hl];exact h2
theorem jio (s:Sl) (w:World):Calls Tryz.prog 19 #[.slice s.a s.n s.c] w fun e w'=>e=.returned (.func (.func 40) #[] #[.pointer (some ⟨w.heap.size,0,none⟩)])∧w'=w.alloc (.cells #[.slice s.a s.n s.c] 29):=by
 obtain ⟨sa,sn,sc⟩:=s;go_enter Tryz.func19,Tryz.ntmps19;go_wp2;go_ret;exact ⟨rfl,rfl⟩
theorem jjr (n:Nod) (A:At) (hop:n.op=⟨#[83,108,105,99,101]⟩) (u:Sl) (T0:Ten) (x xs:List Int) (nam0:ByteArray) (vty:Int) (dv:Sl) (l:List Int) (w:World) (hno:NodeOk w n A) (hv:TensIn w u.v [(T0,(x,xs))]) (hd:IsInts w dv.v l) (hc:ja7 x=0) (hxl:(xs.length:Int)=jaB x) (hsl:jbN A x=.ok l) :
    Calls Tryz.prog 9 #[jaA n,.slice u.a u.n u.c,.agg #[.string nam0,.int .i64 vty,.slice dv.a dv.n dv.c]] w (EvQ w (.ok (Vw.rdL (Vw.dot (jfG A x) (jbo x)) l (jbo x) xs))):=by
     have F:=jaX hc;obtain ⟨hP,hLS,hAX⟩:=jn2 F hsl;have hr:=jrG F hP hxl;obtain ⟨P,hPe⟩ : ∃ P,P=jfG A x:=⟨_,rfl⟩
     rw [← hPe] at hP hr ⊢;have ST:Hid (∀ wx (dx:Sl),w.grownBy wx none→IsInts wx dx.v x→Calls Tryz.prog 20 #[jaA n,.slice dx.a dx.n dx.c] wx fun e w'=>∃ v:Sl,e=.returned v.v∧IsInts w' v.v P∧wx.grownBy w' none):=fun wx dx hx hdx=>by rw [hPe];exact jlm n A dx x wx (hno.more hx) hdx F hLS hAX
     obtain ⟨za,zn,zc⟩:=dv;have HZ:=jac hd;obtain ⟨xa,xc,e1,p1,p2,p3⟩:=hv.vals.form;obtain ⟨ua,un,uc⟩:=u;simp only [Sl.v,List.map_cons,List.map_nil,List.length_cons,List.length_nil,Value.slice.injEq] at e1;obtain ⟨rfl,rfl,rfl⟩:=e1;obtain ⟨ub,uo,rfl⟩:=hv.vals.addr (k:=0) (by simp);obtain ⟨t0,t1,t2⟩:=hv.at 0 (by simp);have HH0:=jac (hv.has (T0,(x,xs)) (by simp));obtain ⟨tx,⟨xda,xdn,xdc⟩,⟨xta,xtn,xtc⟩⟩:=T0;simp only [List.getElem_cons_zero,Nat.zero_mul,Nat.add_zero] at t0 t1 t2 HH0;have AS:Hid (∀ (wx:World) (sv:Sl) (p:Nat),w.grownBy wx none→IsInts wx sv.v P→wx.heap[p]?=some (.cells #[.slice sv.a sv.n sv.c] 29 (0,0))→Calls Tryz.prog 12 #[.agg #[.int .i64 tx,.slice xda xdn xdc,.slice xta xtn xtc],.func (.func 40) #[] #[.pointer (some ⟨p,0,none⟩)],.slice za zn zc] wx (AspQ wx x xs P l)):=fun wx sv p hx hsv hbp=>jrF ⟨tx,⟨xda,xdn,xdc⟩,⟨xta,xtn,xtc⟩⟩ x xs l P ⟨za,zn,zc⟩ sv p wx hc hP (HH0.out.1.more hx) (HH0.out.2.more hx) (HZ.out.more hx) hsv hbp;have RE:Hid (Vw.rdE (Vw.dot P (jbo x)) l (jbo x) xs=0):=if_pos hr;obtain ⟨op,nam,⟨ia,il,ic⟩,out,⟨ao,al,cap⟩⟩:=n;simp only at hop;subst hop;unfold jaA at ST ⊢;simp only at ST ⊢;obtain ⟨w0,hw0⟩ : ∃ w0,w0=(w.alloc (.cells #[.string ⟨#[83,108,105,99,101]⟩,.string nam,.slice ia il ic,.string out,.slice ao al cap] 25)).alloc (.cells #[.string nam0,.int .i64 vty,.slice za zn zc] 43):=⟨_,rfl⟩
     have g0:w.grownBy w0 none:=by rw [hw0];exact jaa (jab _ _) (jab _ _)
     have hbx:=jaJ w (.cells #[.string ⟨#[83,108,105,99,101]⟩,.string nam,.slice ia il ic,.string out,.slice ao al cap] 25) (.cells #[.string nam0,.int .i64 vty,.slice za zn zc] 43);rw [← hw0] at hbx;obtain ⟨n0,n1,n2,n3,n4⟩:=jai (n:=⟨⟨#[83,108,105,99,101]⟩,nam,⟨ia,il,ic⟩,out,⟨ao,al,cap⟩⟩) hbx.1;obtain ⟨v0,v1,v2⟩:=jaK hbx.2;have t0:=jad t0 g0;have t1:=jad t1 g0;have t2:=jad t2 g0;have G0:=jac g0;have i0':(0:Int)<1:=by decide
     clear hbx hv hd hno hc hP hr hPe g0 p1 p2 p3 hLS hAX hsl hxl F;rw [hw0] at n0;go_enter Tryz.func9,Tryz.ntmps9;go_wp2_with fail;rw [← hw0];rw [← hw0] at n0;clear hw0;refine wp_region_held_drew (S:=fun w'=>w0.grownBy w' none) (by kernel_rfl) (jaf (jae _)) (fun hHeld=>?_);refine tkC 0 ?_ (hv:=by intro wS hSw;go_simp;(try with_reducible rfl))
     try simp only [Act.put]
     refine tkC 1 ?_ (hv:=by intro wS hSw;go_simp;(try with_reducible rfl))
     try simp only [Act.put]
     refine tkC 2 ?_ (hv:=by intro wS hSw;have c0:=jad t0 hSw;have c1:=jad t1 hSw;have c2:=jad t2 hSw;go_simp;(try with_reducible rfl))
     try simp only [Act.put]
     refine tkC 3 ?_ (hv:=by intro wS hSw;have c0:=jad n0 hSw;have c1:=jad n1 hSw;have c2:=jad n2 hSw;have c3:=jad n3 hSw;have c4:=jad n4 hSw;go_simp;(try with_reducible rfl))
     try simp only [Act.put]
     refine tkC 4 ?_ (hv:=by intro wS hSw;go_simp;(try with_reducible rfl))
     try simp only [Act.put]
     refine tkC 5 ?_ (hv:=by intro wS hSw;go_simp;(try with_reducible rfl))
     try simp only [Act.put]
     refine tkC 6 ?_ (hv:=by intro wS hSw;go_simp;(try with_reducible rfl))
     try simp only [Act.put]
     refine tkC 7 ?_ (hv:=by intro wS hSw;have c0:=jad t1 hSw;go_simp;(try with_reducible rfl))
     try simp only [Act.put]
     refine tkC 10 ?_ (hv:=by intro wS hSw;go_simp;(try with_reducible rfl))
     try simp only [Act.put]
     refine tkC 11 ?_ (hv:=by intro wS hSw;have c0:=jad v2 hSw;go_simp;(try with_reducible rfl))
     try simp only [Act.put]
     refine rdA 8 fun K hK=>?_;go_simp;refine (ST.out w0.drew ⟨xda,xdn,xdc⟩ (jaf G0.out) (HH0.out.1.more (jaf G0.out))).mono ?_;rintro e w1 ⟨⟨pa,pn,pc⟩,rfl,ip,hg1⟩;have g1:w0.grownBy w1 none:=jaa (jaf (jae _)) hg1;refine hK.out _ _ g1 (fun hHeld=>?_);clear hK K
     try simp only [Act.put]
     refine rdA 9 fun K hK=>?_;go_simp;refine (jio ⟨pa,pn,pc⟩ w1).mono ?_;rintro e w2 ⟨rfl,hw2⟩;have b2:=heap_alloc_new w1 (.cells #[.slice pa pn pc] 29);simp only at hw2;rw [← hw2] at b2;have g12:w1.grownBy w2 none:=by rw [hw2];exact jab _ _
     clear hw2;have g2:w0.grownBy w2 none:=jaa g1 g12;refine hK.out _ _ g2 (fun hHeld=>?_);clear hK K
     try simp only [Act.put]
     refine rdA 12 fun K hK=>?_;go_simp;refine (AS.out w2 ⟨pa,pn,pc⟩ w1.heap.size (jaa G0.out g2) (ip.more g12) b2).mono ?_;rintro e w3 ⟨⟨ra,rn,rc⟩,rfl,ho3,hg3⟩;have g3:w0.grownBy w3 none:=jaa g2 hg3;rw [RE.out];refine hK.out _ _ g3 (fun hHeld=>?_);clear hK K;refine tkC 13 ?_ (hv:=by intro wS hSw;go_simp;(try with_reducible rfl))
     try simp only [Act.put]
     refine tkC 14 ?_ (hv:=by intro wS hSw;go_simp;(try with_reducible rfl))
     try simp only [Act.put]
     refine tkC 15 ?_ (hv:=by intro wS hSw;go_simp;(try with_reducible rfl))
     try simp only [Act.put]
     refine tkC 16 ?_ (hv:=by intro wS hSw;go_simp;(try with_reducible rfl))
     try simp only [Act.put]
     refine wpAnyH_done (by kernel_rfl) ?_ _;have HO:Hid (jbC w3 w.heap.size (.slice ra rn rc) (Vw.rdL (Vw.dot P (jbo x)) l (jbo x) xs)):=⟨jaT ho3.1 (Nat.le_trans G0.out.size g2.size),ho3.2⟩
     have HG:=jac (jaa G0.out g3);clear ho3 hg3 g3 g2 hg1 g1 ip b2 g12 t0 t1 t2 n0 n1 n2 n3 n4 v0 v1 v2 hHeld;go_simp;go_wp2;go_ret2;exact jnh rfl HG.out ⟨⟨ra,rn,rc⟩,rfl,HO.out⟩
end Go.Proofs.YtanpkdkenifmbaaGreatDoor
namespace Go.Proofs.YtanpkdkenifmbaaGreatDoor
open Go.RowKit
theorem jfI {rank:Nat} : ∀ {l:List Int} {is r:List Bool},is.length=rank→jdh rank l is=some r→(∀ a∈l,0≤a)→l.Nodup∧∀ a∈l,a<rank∧is.getD a.toNat false=false
 | [],_,_,_,_,_=>⟨List.nodup_nil,fun a ha=>by simp at ha⟩
 | a::l,is,r,hl,h,h0=>by
  have ha:=h0 a (by simp);unfold jdh at h
  have e:ja4 a rank=if (rank:Int)≤a then none else some a.toNat:=by
   have hf:jaQ a rank=a:=by unfold jaQ;rw [if_neg (by omega)]
   unfold ja4;rw [hf,if_neg (by omega)]
  rw [e] at h
  by_cases hr:(rank:Int)≤a
  ·rw [if_pos hr] at h
   cases h
  ·rw [if_neg hr] at h;simp only at h
   split at h
   ·cases h
   ·rename_i hi;have hi:is.getD a.toNat false=false:=by simpa using hi
    obtain ⟨n1,n2⟩:=jfI (by rw [List.length_set];exact hl) h (fun b hb=>h0 b (by simp [hb]));have ai:a.toNat<is.length:=by omega
    have hne:∀ b∈l,b.toNat≠a.toNat:=fun b hb e=>by
     have h1:=(n2 b hb).2;rw [e] at h1;simp [List.getD,ai] at h1
    refine ⟨List.nodup_cons.2 ⟨fun hm=>hne a hm rfl,n1⟩,fun b hb=>?_⟩
    rcases List.mem_cons.1 hb with rfl | hb
    ·exact ⟨by omega,hi⟩
    ·refine ⟨(n2 b hb).1,?_⟩;have h1:=(n2 b hb).2;simp only [List.getD] at h1 ⊢;rw [List.getElem?_set_ne (fun e=>hne b hb e.symm)] at h1;exact h1
theorem jj3 {x:List Int} : ∀ {P l:List Int},jdi x P=.ok l→(∀ p∈P,0≤p)∧l=Vw.pickL x P
 | [],l,h=>by cases h;exact ⟨fun p hp=>by simp at hp,rfl⟩
 | p::P,l,h=>by
  unfold jdi at h
  split at h
  ·rename_i hp;unfold Except.map at h
   split at h
   ·cases h
   ·rename_i l' hl
    cases h
    obtain ⟨h1,h2⟩:=jj3 hl;exact ⟨fun q hq=>by rcases List.mem_cons.1 hq with rfl | hq;exact hp;exact h1 q hq,by rw [h2];rfl⟩
  ·cases h
theorem jhm {A:At} {x l:List Int} (h:jaY A x=.ok l):Vw.IsPerm (jd7 A x.length) x.length∧l=Vw.pickL x (jd7 A x.length):=by
 unfold jaY at h;obtain ⟨_,h1,h⟩:=jaF h;obtain ⟨r,h2,h⟩:=jaF h;obtain ⟨h3,h4⟩:=jj3 h
 have hl:(jd7 A x.length).length=x.length:=by
  unfold jal at h1
  split at h1
  ·rename_i e;simpa using e
  ·cases h1
 unfold jbT at h2
 split at h2
 ·rename_i is his;obtain ⟨n1,n2⟩:=jfI (by simp) his h3;exact ⟨⟨hl,fun p hp=>⟨h3 p hp,(n2 p hp).1⟩,n1⟩,h4⟩
 ·cases h2
end Go.Proofs.YtanpkdkenifmbaaGreatDoor
namespace Go.Proofs.YtanpkdkenifmbaaGreatDoor
open Go.RowKit
theorem jcp (v:Value) (zs:List Int) (w:World) (h:IsInts w v zs):Calls Tryz.prog 44 #[v] w fun e w'=>e=.returned (.int .i64 (cnt zs))∧w=w':=by
 have CN:=jac (jbe v zs w h);obtain ⟨a,c,rfl,-⟩:=h.sl;clear h;go_enter Tryz.func44,Tryz.ntmps44;go_wp2_with fail;refine CN.out.mono ?_;rintro e w' ⟨rfl,rfl⟩;go_wp2;go_ret;exact ⟨rfl,rfl⟩
theorem jn4 {w:World} {b off n c:Nat} {zs:List Int} (h:IsInts w (.slice (some ⟨b,off,none⟩) n c) zs) (p m c':Nat) (hp:p+m=zs.length) (hc:p+c'=c):IsInts w (.slice (some ⟨b,off+p,none⟩) m c') (zs.drop p):=by
 have hl:=h.sl;obtain ⟨_,_,e,h1,-⟩:=hl;simp only [Value.slice.injEq] at e;obtain ⟨-,-,rfl⟩:=e;have k:=jem h p m c' (by omega) (by omega) (by omega);rw [List.take_of_length_le (by rw [List.length_drop];omega)] at k;exact k
theorem jn5 {w:World} {a:Addr} : IsInts w (.slice (some a) 0 0) []:=⟨some a,0,rfl,by simp,by simp,by simp,(fun h=>by cases h),(fun h=>by simp at h),fun z hz=>by simp at hz⟩
theorem jj4 (t:Ten) (ds ts:List Int) (ax M i W:Nat) (w:World) (hd:IsInts w t.dv.v ds) (ht:IsInts w t.tv.v ts) (h1:1≤ds.length) (ha:ax+M=ds.length) (hW:cnt (ds.drop ax)=(W:Int)) (hW1:1≤W) (hb:i*W+W≤ts.length) (hs:ts.length≤65536) :
    Calls Tryz.prog 46 #[jjQ t,.int .i64 ax,.int .i64 i] w fun e w'=>∃ u:Sl,e=.returned u.v∧IsInts w' u.v ((ts.drop (i*W)).take W)∧w.grownBy w' none:=by
     obtain ⟨ty,⟨da,dn,dc⟩,⟨ta,tn,tc⟩⟩:=t;obtain ⟨_,_,e1,c1,c2,-⟩:=hd.sl;obtain ⟨_,_,e2,c3,c4,-⟩:=ht.sl;simp only [Sl.v,Value.slice.injEq] at e1 e2;obtain ⟨-,rfl,rfl⟩:=e1;obtain ⟨-,rfl,rfl⟩:=e2;obtain ⟨b,off,rfl,-⟩:=hd.get (k:=0) (by omega);obtain ⟨tb,tt,rfl,-⟩:=ht.get (k:=0) (by omega);simp only [Sl.v] at hd ht;obtain ⟨P,hP⟩ : ∃ P,P=i*W:=⟨_,rfl⟩
     rw [← hP] at hb ⊢;obtain ⟨C,hC⟩ : ∃ C,dc=ax+C:=⟨dc - ax,by omega⟩
     obtain ⟨D,hD⟩ : ∃ D,tc=P+D:=⟨tc - P,by omega⟩
     have hi:i<ts.length:=by
      have:i≤i*W:=Nat.le_mul_of_pos_right _ hW1;omega
     subst hC hD;obtain ⟨w0,hw0⟩ : ∃ w0,w0=w.alloc (.cells #[.int .i64 ty,.slice (some ⟨b,off,none⟩) ds.length (ax+C),.slice (some ⟨tb,tt,none⟩) ts.length (P+D)] 32):=⟨_,rfl⟩
     have g0:w.grownBy w0 none:=by rw [hw0];exact jab _ _
     have hb0:=heap_alloc_new w (.cells #[.int .i64 ty,.slice (some ⟨b,off,none⟩) ds.length (ax+C),.slice (some ⟨tb,tt,none⟩) ts.length (P+D)] 32);obtain ⟨x0,x1,x2⟩:=jaK hb0;have IT:=jac (jem ht P W D (by omega) (by omega) (by omega));have s1:(P:Int)≤(P:Int)+(W:Int):=by omega
     have s2:(0:Int)≤(P:Int)+(W:Int):=by omega
     have s3:((P:Int)+(W:Int)).toNat=P+W:=by omega
     have s4:(W:Int)≤(D:Int):=by omega
     have s5:¬ D=0:=by omega
     have s6:ax≤ds.length:=by omega
     have s7:(ax:Int)≤(ds.length:Int):=by omega
     have WI:Hid (wrap64 ((i:Int)*(W:Int))=(P:Int)):=by
      show _=_;rw [← Int.natCast_mul,← hP];exact jcb (Int.natCast_nonneg _) (Int.ofNat_le.2 (show P≤1000000 by omega))
     have WJ:Hid (wrap64 (((i:Int)+1)*(W:Int))=(P:Int)+(W:Int)):=by
      show _=_;rw [Int.add_mul,Int.one_mul,← Int.natCast_mul,← hP,← Int.natCast_add];exact jcb (Int.natCast_nonneg _) (Int.ofNat_le.2 (show P+W≤1000000 by omega))
     have WK:Hid (wrap64 ((i:Int)+1)=(i:Int)+1):=by
      show _=_;rw [show (i:Int)+1=((i+1:Nat):Int) from by omega];exact jcb (Int.natCast_nonneg _) (Int.ofNat_le.2 (show i+1≤1000000 by omega))
     have G0:=jac g0;unfold jjQ;simp only [Sl.v]
     by_cases hC0:C=0
     ·subst hC0;obtain rfl:M=0:=by omega
      have e3:ds.length=ax:=by omega
      have CN:=jac (jcp (.slice (some ⟨b,off,none⟩) 0 0) [] w0 jn5);rw [show ds.drop ax=[] from List.drop_of_length_le (by omega)] at hW;rw [hW] at CN;rw [e3] at hw0 x0 x1 x2 ⊢;simp only [Nat.add_zero] at hw0 x0 x1 x2 ⊢;clear hd ht hb hs hi c1 c2 c3 c4 h1 ha hb0 g0 e3 hP;have wi:=WI.out;have wj:=WJ.out;have wk:=WK.out;go_enter Tryz.func46,Tryz.ntmps46;go_wp2_with fail;rw [← hw0];refine CN.out.mono ?_;rintro e w1 ⟨rfl,rfl⟩;rw [hw0];go_wp2;go_ret;exact ⟨⟨_,_,_⟩,rfl,IT.out.more (by rw [← hw0];exact G0.out),by rw [← hw0];exact G0.out⟩
     ·have CN:=jac (jcp (.slice (some ⟨b,off+ax,none⟩) M C) (ds.drop ax) w0 ((jn4 hd ax M C ha rfl).more g0));rw [hW] at CN;rw [← ha] at hw0 x0 x1 x2 ⊢;clear hd ht hb hs hi c1 c2 c3 c4 h1 ha hb0 g0 hP s6 s7;have wi:=WI.out;have wj:=WJ.out;have wk:=WK.out;go_enter Tryz.func46,Tryz.ntmps46;go_wp2_with fail;rw [← hw0];refine CN.out.mono ?_;rintro e w1 ⟨rfl,rfl⟩;rw [hw0];go_wp2;go_ret;exact ⟨⟨_,_,_⟩,rfl,IT.out.more (by rw [← hw0];exact G0.out),by rw [← hw0];exact G0.out⟩
end Go.Proofs.YtanpkdkenifmbaaGreatDoor
namespace Go.Proofs.YtanpkdkenifmbaaGreatDoor
open Go.RowKit
def jfL (dim:Nat) (a:Int):Int:=(((ja4 a dim).getD 0:Nat):Int)
def jcj (dim:Nat) (l:List Int):Bool:=l.all fun a=>(ja4 a dim).isSome
theorem jpU (dim:Nat) (hd:dim≤100000000000000) (a:Int):0≤jfL dim a∧jfL dim a≤100000000000000:=by
 unfold jfL
 cases h:ja4 a dim with
 | none=>simp
 | some i =>
  have:=jbw h;simp only [Option.getD_some];omega
theorem jrH (f:Int→Int) (l:List Int) (k:Nat) (hk:k<l.length):((l.take k).map f++List.replicate (l.length - k) (0:Int)).set k (f (l.getD k 0))=(l.take (k+1)).map f++List.replicate (l.length - (k+1)) 0:=by
 rw [List.set_append_right _ _ (by rw [List.length_map,List.length_take];omega),List.length_map,List.length_take,Nat.min_eq_left (by omega),Nat.sub_self,show l.length - k=(l.length - (k+1))+1 from by omega,List.replicate_succ,List.set_cons_zero,List.take_add_one,List.getElem?_eq_getElem (by omega),Option.toList_some,List.map_append,List.append_assoc];have e:l.getD k 0=l[k]:=by simp [List.getD,hk]
 rw [e]
 rfl
def PlcQ (w:World) (dim:Nat) (l:List Int) (e:Ending) (w':World):Prop:=w.grownBy w' none∧((jcj dim l=true∧∃ v:Sl,e=.returned (.tuple #[.slice v.a v.n v.c,.bool true])∧IsInts w' v.v (l.map (jfL dim)))∨(jcj dim l=false∧e=.returned (.tuple #[.slice none 0 0,.bool false])))
theorem jfJ (u:Sl) (l:List Int) (dim:Nat) (w:World) (hv:IsInts w u.v l) (hl:l.length≤70000) (hdim:dim≤100000000000000):Calls Tryz.prog 48 #[.slice u.a u.n u.c,.int .i64 dim] w (PlcQ w dim l):=by
 obtain ⟨i0,hi0,hz0,hz1,hz2⟩:=info_parts jcE;obtain ⟨ua,un,uc⟩:=u;obtain ⟨ux,c,eu,c1,c2,c3⟩:=hv.sl;simp only [Sl.v,Value.slice.injEq] at eu;obtain ⟨rfl,rfl,rfl⟩:=eu;have HV:=jac hv;have hb4:i0.bytes*l.length≤281474976710656:=by rw [hz2];omega
 have hb5:l.length≤maxLen:=by simp only [maxLen];omega
 clear hv;go_enter Tryz.func48,Tryz.ntmps48;go_wp2_with (first | (refine wpList_make_full _ rfl (.tmp 12) (.tmp 12) 29 rfl w.heap.size 3 i0 (.int .i64 0) 1 Tryz.underlying29 hi0 hz0 hz1 .i64 .i64 _ _ l.length rfl rfl (by omega) (by omega) hb4 hb5 (Nat.le_refl _) ?_;intro w1 hown1 hg1));rw [jby] at hown1
 have O1:Hid (Owns w1 w.heap.size (.slice (some ⟨w.heap.size,0,none⟩) l.length l.length) (List.replicate l.length 0)):=by
  refine ⟨by rw [List.length_replicate];exact hown1,by rw [List.length_replicate];omega,fun z hz=>?_⟩;rw [(List.mem_replicate.1 hz).2];omega
 have G1:=jac hg1;clear hown1 hg1 hb4 hb5;go_wp2;go_loopw [16] (fun x wr=>w.grownBy wr none∧∃ k:Nat,k≤l.length∧x=.int .i64 k∧jcj dim (l.take k)=true∧Owns wr w.heap.size (.slice (some ⟨w.heap.size,0,none⟩) l.length l.length) ((l.take k).map (jfL dim)++List.replicate (l.length - k) 0)) (fun x _=>l.length - (intOf x).toNat)
 case atStart=>exact ⟨G1.out,0,Nat.zero_le _,rfl,rfl,by simpa using O1.out⟩
 case round =>
  obtain ⟨hg,k,hk,rfl,hall,o1⟩:=hrel;have HG:=jac hg;have P1:=jac o1;have HA:=jac hall;clear o1 hall
  by_cases hlt:k<l.length
  ·obtain ⟨b,off,rfl,hc⟩:=HV.out.get hlt;have hcell:=jad (hc k hlt) hg;have hrz:=HV.out.wf (l.getD k 0) (by rw [List.getD,List.getElem?_eq_getElem hlt];simp);have hpr:=jpU dim hdim (l.getD k 0);obtain ⟨a1,a2,a3,a4⟩:=jeW P1.out (by rw [List.length_append,List.length_map,List.length_take,List.length_replicate];omega) hlt (jfL dim (l.getD k 0)) (by omega);rw [jrH _ l k hlt] at a3;have N1:=jac a3;have NG:=jac (jay hg a4 (Nat.le_refl _))
   have TS:Hid (jcj dim (l.take (k+1))=(ja4 (l.getD k 0) dim).isSome):=by
    show _=_;have h:=HA.out;unfold jcj at h ⊢;rw [jcJ l k hlt,List.all_append,h,Bool.true_and];simp only [List.all_cons,List.all_nil,Bool.and_true]
   have FN:Hid ((ja4 (l.getD k 0) dim).isSome=false→jcj dim l=false):=fun h=>by
    unfold jcj;rw [List.all_eq_false];exact ⟨l.getD k 0,by rw [List.getD,List.getElem?_eq_getElem hlt];simp,by rw [h];exact Bool.false_ne_true⟩
   obtain ⟨ov,hov⟩ : ∃ q,q=((l.take k).map (jfL dim)++List.replicate (l.length - k) (0:Int)).getD k 0:=⟨_,rfl⟩
   rw [← hov] at a1;obtain ⟨z,hz⟩ : ∃ z,z=l.getD k 0:=⟨_,rfl⟩
   rw [← hz] at hcell N1 NG TS FN hrz;have AX:=jac (jd8 z dim wr hdim hrz.1);have l1:(k:Int)<(l.length:Int):=by omega
   obtain ⟨y,hy⟩ : ∃ y,y=jfL dim z:=⟨_,rfl⟩
   rw [← hy] at N1 NG;rw [show (((ja4 z dim).getD 0:Nat):Int)=y from hy.symm] at AX;obtain ⟨ok,hok⟩ : ∃ ok,ok=(ja4 z dim).isSome:=⟨_,rfl⟩
   rw [← hok] at AX TS FN;clear a3 a4 hg hov hz hc hrz hpr hy hok
   cases ok with
   | true =>
    go_wp2_with (go_at_call 42;refine AX.out.mono ?_;rintro e w' ⟨rfl,rfl⟩);go_roundw
    case rel=>exact ⟨NG.out,k+1,hlt,by go_num,TS.out,N1.out⟩
    case measure=>simp [intOf];omega
   | false =>
    go_wp2_with (go_at_call 42;refine AX.out.mono ?_;rintro e w' ⟨rfl,rfl⟩);go_ret2;exact ⟨HG.out,.inr ⟨FN.out (by first | exact rfl | exact trivial),rfl⟩⟩
  ·obtain rfl:k=l.length:=by omega
   have E1:(l.take l.length).map (jfL dim)++List.replicate (l.length - l.length) (0:Int)=l.map (jfL dim):=by simp
   have P1':=P1.out;rw [E1] at P1';have F:=jac P1'.ints;have HF:Hid (jcj dim l=true):=by have h:=HA.out;rwa [List.take_of_length_le (Nat.le_refl _)] at h
   clear P1' E1 P1 hg;go_wp2;go_ret2;exact ⟨HG.out,.inl ⟨HF.out,⟨some ⟨w.heap.size,0,none⟩,l.length,l.length⟩,rfl,F.out⟩⟩
end Go.Proofs.YtanpkdkenifmbaaGreatDoor
namespace Go.Proofs.YtanpkdkenifmbaaGreatDoor
open Go.RowKit
theorem jb8 {x:World} {i:Nat} {o:Obj} (p:Obj) (h:x.heap[i]?=some o):(x.alloc p).heap[i]?=some o:=((jab x p).block i (Array.getElem?_eq_some_iff.1 h).1 (by simp)).trans h
theorem jcQ {x:World} {i:Nat} (p:Obj) (h:x.heap.size=i):(x.alloc p).heap[i]?=some p∧(x.alloc p).heap.size=i+1:=by
 subst h;exact ⟨heap_alloc_new x p,by simp⟩
theorem jcm {w:World} {B te:Nat} {zs:List Int} (h:w.heap[B]?=some (.cells (zs.map (Value.int .i64)).toArray te (0,0))) (hl:zs.length≤1000) (hz:∀ z∈zs,-9223372036854775808≤z∧z≤9223372036854775807):IsInts w (.slice (some ⟨B,0,none⟩) zs.length zs.length) zs:=by
 refine ⟨_,_,rfl,Nat.le_refl _,by omega,by omega,(fun h=>by cases h),fun _=>⟨B,0,rfl,fun t ht=>?_⟩,hz⟩;rw [Nat.zero_add,cell_of_row _ _ t _ _ (0,0) h];simp [List.getD,ht]
theorem jpV {w:World} {B:Nat} {cur:Array Value} {ps:List (Ten×Tq)} (h:w.heap[B]?=some (.cells cur 32 (0,0))) (hc:cur.toList=(ps.map (·.1)).flatMap jhT) (hs:cur.size=ps.length*3) (hl:ps.length≤1000) (hh:∀ p∈ps,IsInts w p.1.dv.v p.2.1∧IsInts w p.1.tv.v p.2.2):TensIn w (.slice (some ⟨B,0,none⟩) ps.length ps.length) ps:=by
 refine ⟨?_,hh⟩;have e:ps.length=(ps.map (·.1)).length:=by rw [List.length_map]
 rw [e];exact jjO (te:=32) (bytes:=56) jgw h hc (by rw [hs,e]) (by rw [← e];omega) (by rw [← e];omega)
theorem jj5 {w:World} {B:Nat} (X Y:Ten) {x y xs ys:List Int} (h:w.heap[B]?=some (.cells #[.int .i64 X.ty,.slice X.dv.a X.dv.n X.dv.c,.slice X.tv.a X.tv.n X.tv.c,.int .i64 Y.ty,.slice Y.dv.a Y.dv.n Y.dv.c,.slice Y.tv.a Y.tv.n Y.tv.c] 32 (0,0))) (h1:IsInts w X.dv.v x) (h2:IsInts w X.tv.v xs) (h3:IsInts w Y.dv.v y) (h4:IsInts w Y.tv.v ys):TensIn w (.slice (some ⟨B,0,none⟩) 2 2) [(X,(x,xs)),(Y,(y,ys))]:=by
 refine jpV (ps:=[(X,(x,xs)),(Y,(y,ys))]) h rfl rfl (by simp) fun p hp=>?_;simp only [List.mem_cons,List.not_mem_nil,or_false] at hp
 rcases hp with rfl | rfl
 ·exact ⟨h1,h2⟩
 ·exact ⟨h3,h4⟩
theorem jn6 {w:World} {B:Nat} (h:w.heap[B]?=some (.cells #[.string ⟨#[120]⟩,.string ⟨#[121]⟩] 9 (0,0))):jeC w (.slice (some ⟨B,0,none⟩) 2 2) [⟨#[120]⟩,⟨#[121]⟩]:=jjO (te:=9) (bytes:=16) (xs:=[⟨#[120]⟩,⟨#[121]⟩]) jhG h rfl rfl (Nat.le_of_ble_eq_true rfl) (Nat.le_of_ble_eq_true rfl)
def Told (w:World) (e:Ending) (w':World):Prop:=∃ b,e=.returned (.bool b)∧w.grownBy w' none
end Go.Proofs.YtanpkdkenifmbaaGreatDoor
