/- A part. -/
import Derived.Test.YtanpkdkenifmbaaGreatDoorUartBH
import Derived.Deep.RegionWith
import Derived.Test.YtanpkdkenifmbaaGreatDoorUartAB
set_option maxHeartbeats 16000000
namespace Go.Proofs.YtanpkdkenifmbaaGreatDoor.Vw
open Go.RowKit
def Turned (off:Int) (ds ss perm:List Int) (E:Int) (off':Int) (ds' ss':List Int):Prop :=
 (¬ MayV off ds ss∧E=1∧off'=0∧ds'=[]∧ss'=[])∨(MayV off ds ss∧¬ IsPerm perm ds.length∧E=4∧off'=0∧ds'=[]∧ss'=[]) ∨
 (MayV off ds ss∧IsPerm perm ds.length∧E=0∧off'=off∧ds'=pickL ds perm∧ss'=pickL ss perm)
theorem transpose_any (v pv:Value) (off:Int) (ds ss perm:List Int) (w:World) (h:IsView w v off ds ss) (hp:IsInts w pv perm) :
    Calls Tryz.prog 16 #[v,pv] w fun e w'=>∃ u E off' ds' ss',e=.returned (.tuple #[u,.int .i64 E])∧Turned off ds ss perm E off' ds' ss'∧OwnView w' w.heap.size u off' ds' ss'∧w.grownBy w' none:=by
     have hv:=h;obtain ⟨dv,sv,rfl,hd,hs,ho1,ho2⟩:=h;obtain ⟨w0,hw0⟩ : ∃ w0,w0=(w.alloc (.cells #[.int .i64 off,dv,sv] 63)).alloc (.cells #[.int .i64 0,.slice none 0 0,.slice none 0 0] 63):=⟨_,rfl⟩
     have g0:w.grownBy w0 none:=by rw [hw0];exact jaa (jab _ _) (jab _ _)
     have hs0:w0.heap.size=w.heap.size+2:=by rw [hw0];simp
     have hbx:=jaJ w (.cells #[.int .i64 off,dv,sv] 63) (.cells #[.int .i64 0,.slice none 0 0,.slice none 0 0] 63);rw [← hw0] at hbx
     have BX:Hid (∀ wx,w0.grownBy wx none→wx.heap[w.heap.size]?=some (.cells #[.int .i64 off,dv,sv] 63 (0,0))∧wx.heap[w.heap.size+1]?=some (.cells #[.int .i64 0,.slice none 0 0,.slice none 0 0] 63 (0,0))∧w.heap.size+2≤wx.heap.size) :=
      fun wx hg=>⟨jag hbx.1 hg,jag hbx.2 hg,by have:=hg.size;omega⟩
     have MB:=jac (jde _ off ds ss w0 (hv.more g0));have HD:=jac hd;have HS:=jac hs;have HP:=jac hp;obtain ⟨da,dc,rfl,hd1,hd2,hd3,-,-,-⟩:=hd;obtain ⟨x0,x1,x2,-,-,-⟩:=box_cells hbx.1;clear hv hbx hs hp
     by_cases hM:jfN off ds ss=true
     ·rw [hM] at MB;have HMV:=jac (mayB_iff.1 hM);have hf6:=HMV.out.fine.few;have HLEN:=jac HMV.out.len;clear hM;go_enter Tryz.func16,Tryz.ntmps16;go_wp2_with fail;rw [← hw0];clear hw0;refine MB.out.mono ?_;rintro e w1 ⟨rfl,hg1⟩;obtain ⟨y0,y1,y2,-,-,-⟩:=box_cells (BX.out w1 hg1).1;have OR:=jac (jnE pv perm ds.length w1 (HP.out.more (jaa g0 hg1)) hf6);go_wp2_with fail;refine OR.out.mono ?_;rintro e w2 ⟨b,rfl,hb,hg2⟩;have g2:=jaa hg1 hg2;obtain ⟨z0,z1,z2,-,-,-⟩:=box_cells (BX.out w2 g2).1;obtain ⟨k0,k1,k2,f0,f1,f2⟩:=box_cells (BX.out w2 g2).2.1;have hsz:=(BX.out w2 g2).2.2
      cases b with
      | true =>
       have PM:=jac (hb.1 rfl);have hpl:perm.length≤6:=by have:=PM.out.len;omega
       have PD:Hid (∀ wx,w2.grownBy wx none→Calls Tryz.prog 36 #[.slice da ds.length dc,pv] wx fun e w'=>∃ r,e=.returned r∧Owns w' wx.heap.size r (pickL ds perm)∧wx.grownBy w' none) :=
        fun wx hx=>jjS _ _ ds perm wx (HD.out.more (jaa g0 (jaa g2 hx))) (HP.out.more (jaa g0 (jaa g2 hx))) PM.out.rng hpl
       have PS:Hid (∀ wx,w2.grownBy wx none→Calls Tryz.prog 36 #[sv,pv] wx fun e w'=>∃ r,e=.returned r∧Owns w' wx.heap.size r (pickL ss perm)∧wx.grownBy w' none) :=
        fun wx hx=>jjS _ _ ss perm wx (HS.out.more (jaa g0 (jaa g2 hx))) (HP.out.more (jaa g0 (jaa g2 hx))) (by rw [HLEN.out];exact PM.out.rng) hpl
       have gd:=jaf (jae w2);clear hb x0 x1 x2 y0 y1 y2;go_wp2
       go_region_with (first
        | (go_at_call_of 36 sv;refine (PS.out _ (by first | exact gD | exact gd)).mono ?_;rintro e ws ⟨rs,rfl,os,hgs⟩;have gS:w2.grownBy ws none:=(by first | exact jaa gD hgs | exact jaa gd hgs);obtain ⟨sa,sc,rfl,-,-,-,-,-,-⟩:=os.ints;obtain ⟨z0,z1,z2,-,-,-⟩:=box_cells (BX.out ws (jaa g2 gS)).1;obtain ⟨k0,k1,k2,f0,f1,f2⟩:=box_cells (BX.out ws (jaa g2 gS)).2.1)
        | (go_at_call 36;refine (PD.out _ (by first | exact gS | exact gd)).mono ?_;rintro e wd ⟨rd,rfl,od,hgd⟩;have gD:w2.grownBy wd none:=(by first | exact jaa gS hgd | exact jaa gd hgd);obtain ⟨ra,rc,rfl,-,-,-,-,-,-⟩:=od.ints;obtain ⟨z0,z1,z2,-,-,-⟩:=box_cells (BX.out wd (jaa g2 gD)).1;obtain ⟨k0,k1,k2,f0,f1,f2⟩:=box_cells (BX.out wd (jaa g2 gD)).2.1))
       all_goals first
        | (obtain ⟨HX, OV, GX⟩ := jek (off := off) (base := w.heap.size + 2) (jaa g0 (jaa g2 gS)) (show w.heap.size ≤ w.heap.size + 1 by omega) (BX.out ws (jaa g2 gS)).2.1 ((od.new hgs).base_le hsz) (os.base_le (Nat.le_trans hsz gD.size)) (by omega) ho1 ho2 (jd2 (fun k hk => (od.lt k hk).2) (fun k hk => (os.lt k hk).1) (Nat.le_refl _))
           have HXX:=jac HX;have HOV:=jac OV;have HGX:=jac GX;clear HX OV GX;go_wp2;refine bodyPost_ret (ret_view rfl _ _ (w.heap.size+1) rfl HXX.out) rfl ?_;exact ⟨_,0,off,_,_,rfl,Or.inr (Or.inr ⟨HMV.out,PM.out,rfl,rfl,rfl,rfl⟩),HOV.out,HGX.out⟩)
        | (obtain ⟨HX, OV, GX⟩ := jek (off := off) (base := w.heap.size + 2) (jaa g0 (jaa g2 gD)) (show w.heap.size ≤ w.heap.size + 1 by omega) (BX.out wd (jaa g2 gD)).2.1 (od.base_le (Nat.le_trans hsz gS.size)) ((os.new hgd).base_le hsz) (by omega) ho1 ho2 (jlg (jd2 (fun k hk => (os.lt k hk).2) (fun k hk => (od.lt k hk).1) (Nat.le_refl _)))
           have HXX:=jac HX;have HOV:=jac OV;have HGX:=jac GX;clear HX OV GX;go_wp2;refine bodyPost_ret (ret_view rfl _ _ (w.heap.size+1) rfl HXX.out) rfl ?_;exact ⟨_,0,off,_,_,rfl,Or.inr (Or.inr ⟨HMV.out,PM.out,rfl,rfl,rfl,rfl⟩),HOV.out,HGX.out⟩)
      | false =>
       have PM:Hid (¬ IsPerm perm ds.length):=fun h=>by have:=hb.2 h;cases this
       obtain ⟨hX,gX,gB⟩:=store3 (.int .i64 0) (.slice none 0 0) (.slice none 0 0) (jaa g0 g2) (show w.heap.size≤w.heap.size+1 by omega) (BX.out w2 g2).2.1;have HX:=jac hX;have GX:=jac gX;clear hb hX gX gB x0 x1 x2 y0 y1 y2;go_wp2;refine bodyPost_ret (ret_view rfl _ _ (w.heap.size+1) rfl HX.out) rfl ?_;exact ⟨_,4,0,[],[],rfl,Or.inr (Or.inl ⟨HMV.out,PM.out,rfl,rfl,rfl,rfl⟩),OwnView.nil _ _,GX.out⟩
     ·have hM':jfN off ds ss=false:=by simpa using hM
      have HNM:Hid (¬ MayV off ds ss):=fun h=>hM (mayB_iff.2 h);rw [hM'] at MB;clear hM hM';go_enter Tryz.func16,Tryz.ntmps16;go_wp2_with fail;rw [← hw0];clear hw0;refine MB.out.mono ?_;rintro e w1 ⟨rfl,hg1⟩;obtain ⟨k0,k1,k2,f0,f1,f2⟩:=box_cells (BX.out w1 hg1).2.1;obtain ⟨hX,gX,gB⟩:=store3 (.int .i64 0) (.slice none 0 0) (.slice none 0 0) (jaa g0 hg1) (show w.heap.size≤w.heap.size+1 by omega) (BX.out w1 hg1).2.1;have HX:=jac hX;have GX:=jac gX;clear hX gX gB;go_wp2;refine bodyPost_ret (ret_view rfl _ _ (w.heap.size+1) rfl HX.out) rfl ?_;exact ⟨_,1,0,[],[],rfl,Or.inl ⟨HNM.out,rfl,rfl,rfl,rfl⟩,OwnView.nil _ _,GX.out⟩
end Go.Proofs.YtanpkdkenifmbaaGreatDoor.Vw
namespace Go.Proofs.YtanpkdkenifmbaaGreatDoor.Vw
open Go.RowKit
def jgC (ds:List Int) (axis fr to:Int):Prop:=0≤axis∧axis<ds.length∧0≤fr∧to≤ds.getD axis.toNat 0∧fr<to
def jil (off:Int) (ds ss:List Int) (axis fr to:Int) (E:Int) (off':Int) (ds' ss':List Int):Prop :=
 (¬ MayV off ds ss∧E=1∧off'=0∧ds'=[]∧ss'=[])∨(MayV off ds ss∧¬ jgC ds axis fr to∧E=4∧off'=0∧ds'=[]∧ss'=[]) ∨
 (MayV off ds ss∧jgC ds axis fr to∧65535<off+fr*ss.getD axis.toNat 0∧E=6∧off'=0∧ds'=[]∧ss'=[]) ∨
 (MayV off ds ss∧jgC ds axis fr to∧off+fr*ss.getD axis.toNat 0≤65535∧E=0∧off'=off+fr*ss.getD axis.toNat 0∧ds'=ds.set axis.toNat (to - fr)∧ss'=ss)
theorem jnR {w:World} {base:Nat} {v:Value} {zs:List Int} (h:Owns w base v zs) (hl:0<zs.length):∃ g cap,v=.slice (some ⟨g,0,none⟩) zs.length cap∧base≤g:=by
 rcases h.1.2 with ⟨_,h0⟩ | ⟨g,cap,cur,e,hb,_⟩
 ·omega
 ·exact ⟨g,cap,e,hb⟩
theorem slice_any (v:Value) (axis fr to off:Int) (ds ss:List Int) (w:World) (h:IsView w v off ds ss) (ha1 : -9223372036854775808≤axis) (ha2:axis≤9223372036854775807) (hf1 : -9223372036854775808≤fr) (hf2:fr≤9223372036854775807) (ht1 : -9223372036854775808≤to) (ht2:to≤9223372036854775807) :
    Calls Tryz.prog 41 #[v,.int .i64 axis,.int .i64 fr,.int .i64 to] w fun e w'=>∃ u E off' ds' ss',e=.returned (.tuple #[u,.int .i64 E])∧jil off ds ss axis fr to E off' ds' ss'∧OwnView w' w.heap.size u off' ds' ss'∧w.grownBy w' none:=by
     have hv:=h;obtain ⟨dv,sv,rfl,hd,hs,ho1,ho2⟩:=h;obtain ⟨w0,hw0⟩ : ∃ w0,w0=(w.alloc (.cells #[.int .i64 off,dv,sv] 63)).alloc (.cells #[.int .i64 0,.slice none 0 0,.slice none 0 0] 63):=⟨_,rfl⟩
     have g0:w.grownBy w0 none:=by rw [hw0];exact jaa (jab _ _) (jab _ _)
     have hs0:w0.heap.size=w.heap.size+2:=by rw [hw0];simp
     have hbx:=jaJ w (.cells #[.int .i64 off,dv,sv] 63) (.cells #[.int .i64 0,.slice none 0 0,.slice none 0 0] 63);rw [← hw0] at hbx
     have BX:Hid (∀ wx,w0.grownBy wx none→wx.heap[w.heap.size]?=some (.cells #[.int .i64 off,dv,sv] 63 (0,0))∧wx.heap[w.heap.size+1]?=some (.cells #[.int .i64 0,.slice none 0 0,.slice none 0 0] 63 (0,0))∧w.heap.size+2≤wx.heap.size) :=
      fun wx hg=>⟨jag hbx.1 hg,jag hbx.2 hg,by have:=hg.size;omega⟩
     have MB:=jac (jde _ off ds ss w0 (hv.more g0));have HD:=jac hd;have HS:=jac hs;obtain ⟨x0,x1,x2,-,-,-⟩:=box_cells hbx.1
     have FAIL:Hid (∀ wx,w0.grownBy wx none→(((wx.setCell ⟨w.heap.size+1,0,none⟩ (.int .i64 0)).setCell ⟨w.heap.size+1,1,none⟩ (.slice none 0 0)).setCell ⟨w.heap.size+1,2,none⟩ (.slice none 0 0)).heap[w.heap.size+1]?=some (.cells #[.int .i64 0,.slice none 0 0,.slice none 0 0] 63 (0,0))∧w.grownBy (((wx.setCell ⟨w.heap.size+1,0,none⟩ (.int .i64 0)).setCell ⟨w.heap.size+1,1,none⟩ (.slice none 0 0)).setCell ⟨w.heap.size+1,2,none⟩ (.slice none 0 0)) none):=fun wx hg=>by
      obtain ⟨hX,gX,_⟩:=store3 (.int .i64 0) (.slice none 0 0) (.slice none 0 0) (jaa g0 hg) (show w.heap.size≤w.heap.size+1 by omega) (BX.out wx hg).2.1;exact ⟨hX,gX⟩
     obtain ⟨da,dc,rfl,hd1,hd2,hd3,-,-,-⟩:=hd;obtain ⟨sa,sc,rfl,hs1,hs2,hs3,-,-,-⟩:=hs;clear hv hbx
     by_cases hM:jfN off ds ss=true
     ·rw [hM] at MB;have HMV:=jac (mayB_iff.1 hM);have hlo:=HMV.out.lo;have hhi:=HMV.out.hi;have hll:ds.length≤ss.length:=by have:=HMV.out.len;omega
      clear hM;go_enter Tryz.func41,Tryz.ntmps41;go_wp2_with fail;rw [← hw0];clear hw0 x0 x1 x2;refine MB.out.mono ?_;rintro e w1 ⟨rfl,hg1⟩;obtain ⟨y0,y1,y2,-,-,-⟩:=box_cells (BX.out w1 hg1).1;obtain ⟨k0,k1,k2,f0,f1,f2⟩:=box_cells (BX.out w1 hg1).2.1;have g01:=jaa g0 hg1
      have BAD:Hid (¬ jgC ds axis fr to→∃ u E off' ds' ss',Ending.returned (.tuple #[.agg #[.int .i64 0,.slice none 0 0,.slice none 0 0],.int .i64 4])=.returned (.tuple #[u,.int .i64 E])∧jil off ds ss axis fr to E off' ds' ss'∧OwnView (((w1.setCell ⟨w.heap.size+1,0,none⟩ (.int .i64 0)).setCell ⟨w.heap.size+1,1,none⟩ (.slice none 0 0)).setCell ⟨w.heap.size+1,2,none⟩ (.slice none 0 0)) w.heap.size u off' ds' ss'∧w.grownBy (((w1.setCell ⟨w.heap.size+1,0,none⟩ (.int .i64 0)).setCell ⟨w.heap.size+1,1,none⟩ (.slice none 0 0)).setCell ⟨w.heap.size+1,2,none⟩ (.slice none 0 0)) none) :=
       fun hn=>⟨_,4,0,[],[],rfl,Or.inr (Or.inl ⟨HMV.out,hn,rfl,rfl,rfl,rfl⟩),OwnView.nil _ _,(FAIL.out w1 hg1).2⟩
      by_cases ha0:axis<0
      ·have HB:=jac (BAD.out (fun h=>by have:=h.1;omega));go_wp2;refine bodyPost_ret (ret_view rfl _ _ (w.heap.size+1) rfl (FAIL.out w1 hg1).1) rfl ?_;exact HB.out
      ·by_cases ha3:(ds.length:Int)≤axis
       ·have HB:=jac (BAD.out (fun h=>by have:=h.2.1;omega));go_wp2;refine bodyPost_ret (ret_view rfl _ _ (w.heap.size+1) rfl (FAIL.out w1 hg1).1) rfl ?_;exact HB.out
       ·obtain ⟨an,rfl⟩ : ∃ an:Nat,axis=an:=⟨axis.toNat,by omega⟩
        have han:an<ds.length:=by omega
        have hans:an<ss.length:=by omega
        by_cases hf0:fr<0
        ·have HB:=jac (BAD.out (fun h=>by have:=h.2.2.1;omega));go_wp2;refine bodyPost_ret (ret_view rfl _ _ (w.heap.size+1) rfl (FAIL.out w1 hg1).1) rfl ?_;exact HB.out
        ·obtain ⟨bd,od,rfl⟩:=jbp HD.out (by omega);obtain ⟨bs,os,rfl⟩:=jbp HS.out (by omega);have cd:=jbk (HD.out.more g01) han;have cs:=jbk (HS.out.more g01) hans;have hat1:=HMV.out.fine.at an han;have hat2:=jgJ HMV.out.fine.pos (ds.getD an 0) (by rw [List.getD,List.getElem?_eq_getElem han];simp);have hat3:=HMV.out.fine.le;have hst:=HMV.out.str (ss.getD an 0) (by rw [List.getD,List.getElem?_eq_getElem hans];simp);obtain ⟨D,hD⟩ : ∃ D,D=ds.getD an 0:=⟨_,rfl⟩
         obtain ⟨S,hS⟩ : ∃ S,S=ss.getD an 0:=⟨_,rfl⟩
         rw [← hD] at cd hat1 hat2;rw [← hS] at cs hst;have HDD:=jac hD;have HSS:=jac hS;obtain ⟨hst1,hst2⟩:=hst;clear hD hS
         by_cases ht0:D<to
         ·have HB:=jac (BAD.out (fun h=>by have:=h.2.2.2.1;rw [Int.toNat_natCast,← HDD.out] at this;omega));go_wp2;refine bodyPost_ret (ret_view rfl _ _ (w.heap.size+1) rfl (FAIL.out w1 hg1).1) rfl ?_;exact HB.out
         ·by_cases hft:to≤fr
          ·have HB:=jac (BAD.out (fun h=>by have:=h.2.2.2.2;omega));go_wp2;refine bodyPost_ret (ret_view rfl _ _ (w.heap.size+1) rfl (FAIL.out w1 hg1).1) rfl ?_;exact HB.out
          ·have POK:Hid (jgC ds an fr to):=⟨by omega,by omega,by omega,by rw [Int.toNat_natCast,← HDD.out];omega,by omega⟩
           have hm0:0≤fr*S:=Int.mul_nonneg (by omega) hst1;have hm1:fr*S≤65536*65536:=Int.mul_le_mul (by omega) hst2 hst1 (by omega)
           have FU:Hid (∀ wx,Calls Tryz.prog 62 #[.int .i64 off,.int .i64 fr,.int .i64 S] wx fun e w'=>e=.returned (.int .i64 (off+fr*S))∧wx=w') :=
            fun wx=>jdT off fr S wx (by omega) (by omega) (by omega) (by omega)
           have gd:=jaf (jae w1);clear BAD;go_wp2;go_region_with (go_at_call 62;refine (FU.out _).mono ?_;rintro e w' ⟨rfl,rfl⟩)
           all_goals
            by_cases hbig:65535<off+fr*S
            ·have HR:Hid (jil off ds ss an fr to 6 0 [] []):=Or.inr (Or.inr (Or.inl ⟨HMV.out,POK.out,by rw [Int.toNat_natCast,← HSS.out];exact hbig,rfl,rfl,rfl,rfl⟩));have HFX:=jac (FAIL.out w1.drew (jaa hg1 gd));go_wp2;refine bodyPost_ret (ret_view rfl _ _ (w.heap.size+1) rfl HFX.out.1) rfl ?_;exact ⟨_,6,0,[],[],rfl,HR.out,OwnView.nil _ _,HFX.out.2⟩
            ·have HR:Hid (jil off ds ss an fr to 0 (off+fr*S) (ds.set an (to - fr)) ss):=Or.inr (Or.inr (Or.inr ⟨HMV.out,POK.out,by rw [Int.toNat_natCast,← HSS.out];omega,rfl,by rw [Int.toNat_natCast,← HSS.out],by rw [Int.toNat_natCast],rfl⟩));have g0d:=jaa g01 gd;have CL:=jac (jcL _ ds w1.drew (HD.out.more g0d));go_wp2_with fail;refine CL.out.mono ?_;rintro e w2 ⟨u,rfl,ou,hg2⟩;obtain ⟨g,cap,rfl,hgb⟩:=jnR ou (by omega);have g12:=jaa hg1 (jaa gd hg2);obtain ⟨c,hc⟩ : ∃ c,w2.cell? ⟨g,an,none⟩=some c:=⟨_,by rw [ou.1.cellAt an (by omega),List.getElem?_eq_getElem (by simp;omega)]⟩
             have hf:=ou.1.frozenAt an;have hst:=ou.1.stored an (.int .i64 (to - fr));rw [jdS] at hst;have hsz1:w.heap.size+2≤w1.heap.size:=(BX.out w1 hg1).2.2;have hsz2:w1.heap.size≤g:=hgb;obtain ⟨w3,hw3⟩ : ∃ w3,w3=w2.setCell ⟨g,an,none⟩ (.int .i64 (to - fr)):=⟨_,rfl⟩
             rw [← hw3] at hst;have g13:w1.grownBy w3 none:=jao (jaa gd hg2) hst.2 (fun r e=>by cases e;exact hsz2);have g03:=jaa hg1 g13
             have OD3:Hid (Owns w3 w1.heap.size (.slice (some ⟨g,0,none⟩) ds.length cap) (ds.set an (to - fr))):=by
              refine ⟨by rw [List.length_set];exact hst.1,by rw [List.length_set];omega,fun z hz=>?_⟩
              rcases List.mem_or_eq_of_mem_set hz with h | rfl
              ·exact ou.2.2 z h
              ·omega
             have CL2:=jac (jcL _ ss w3 (HS.out.more (jaa g0 g03)));obtain ⟨z0,z1,z2,-,-,-⟩:=box_cells (BX.out w3 g03).1;obtain ⟨v0,v1,v2,-,-,-⟩:=box_cells (BX.out w2 g12).1;clear ou hst y0 y1 y2 k0 k1 k2 f0 f1 f2;go_wp2_with fail;rw [← hw3];clear hw3 hc hf v0 v1 v2;refine CL2.out.mono ?_;rintro e w4 ⟨u2,rfl,ou2,hg4⟩;have g14:=jaa g13 hg4;have g04:=jaa hg1 g14;obtain ⟨k0,k1,k2,f0,f1,f2⟩:=box_cells (BX.out w4 g04).2.1;obtain ⟨HX,OV,GX⟩:=jek (off:=off+fr*S) (base:=w.heap.size+2) (jaa g0 g04) (show w.heap.size≤w.heap.size+1 by omega) (BX.out w4 g04).2.1 ((OD3.out.new hg4).base_le hsz1) (ou2.base_le (Nat.le_trans hsz1 g13.size)) (by omega) (by omega) (by omega) (jd2 (fun k hk=>(OD3.out.lt k hk).2) (fun k hk=>(ou2.lt k hk).1) (Nat.le_refl _));obtain ⟨sa2,sc2,rfl,-,-,-,-,-,-⟩:=ou2.ints;have HXX:=jac HX;have HOV:=jac OV;have HGX:=jac GX;clear HX OV GX ou2;go_wp2;refine bodyPost_ret (ret_view rfl _ _ (w.heap.size+1) rfl HXX.out) rfl ?_;exact ⟨_,0,off+fr*S,_,_,rfl,HR.out,HOV.out,HGX.out⟩
     ·have hM':jfN off ds ss=false:=by simpa using hM
      have HNM:Hid (¬ MayV off ds ss):=fun h=>hM (mayB_iff.2 h);rw [hM'] at MB;clear hM hM';go_enter Tryz.func41,Tryz.ntmps41;go_wp2_with fail;rw [← hw0];clear hw0;refine MB.out.mono ?_;rintro e w1 ⟨rfl,hg1⟩;obtain ⟨k0,k1,k2,f0,f1,f2⟩:=box_cells (BX.out w1 hg1).2.1;go_wp2;refine bodyPost_ret (ret_view rfl _ _ (w.heap.size+1) rfl (FAIL.out w1 hg1).1) rfl ?_;exact ⟨_,1,0,[],[],rfl,Or.inl ⟨HNM.out,rfl,rfl,rfl,rfl⟩,OwnView.nil _ _,(FAIL.out w1 hg1).2⟩
end Go.Proofs.YtanpkdkenifmbaaGreatDoor.Vw
