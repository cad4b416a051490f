/- A part. -/
import Derived.Test.YtbgbpfbjeleooaaGreatRartBI
import Derived.Test.YtbgbpfbjeleooaaGreatRartAH
set_option maxHeartbeats 12800000
set_option maxRecDepth 100000
namespace Go.Proofs.YtbgbpfbjeleooaaGreat.Pd
open Go.RowKit
open Wr (Fld)
def jaS {α:Type} (f:α→R ByteArray) (num:Int):List Fld×Nat→List α→R (List Fld×Nat)
 | m,[]=>.ok m
 | m,x::r=>(f x).bind fun s=>(jbf m (ja0 num s)).bind fun m=>jaS f num m r
def jm2 (d:Int):R ByteArray:=(jdb ([],0) 1 d).bind fun m=>wrP m.1
def jan (name:ByteArray) (ty:Int) (ds:List Int):R ByteArray:=(jaS jm2 1 ([],0) ds).bind fun D=>(jdb ([],0) 1 ty).bind fun m=>(wrP D.1).bind fun s=>(jbf m (ja0 2 s)).bind fun m=>(wrP m.1).bind fun s2=>(jbf ([],0) (ja0 1 s2)).bind fun y=>(ja6 ([],0) 1 name).bind fun m=>(wrP y.1).bind fun s3=>(jbf m (ja0 2 s3)).bind fun m=>wrP m.1
theorem jm3 (name:ByteArray) (ty:Int) (ds:List Int):Sh (jan name ty ds):=jba fun _=>jba fun _=>jba fun _=>jba fun _=>jba fun _=>jba fun _=>jba fun _=>jba fun _=>jba fun _=>jld _
theorem jle (l:List Int) (k:Nat) (h:k<l.length):l.drop k=l.getD k 0::l.drop (k+1):=by
 rw [List.drop_eq_getElem_cons h,List.getD,List.getElem?_eq_getElem h]
 rfl
theorem jeB (name:ByteArray) (ty:Int) (d:Value) (ds:List Int) (w:World) (hn:name.size≤1000000000) (hd:jaj w d ds) (hdl:ds.length≤10000000) :
    Calls Tryz.prog 102 #[.agg #[.string name,.int .i64 ty,d]] w (jbU w (jan name ty ds) fun s v _=>v=.string s):=by
     obtain ⟨da,dc,rfl,-⟩:=jfa hd;have HD:=jac hd;obtain ⟨wb,hwb⟩ : ∃ wb,wb=w.alloc (.cells #[.string name,.int .i64 ty,.slice da ds.length dc] 82):=⟨_,rfl⟩
     have GB:Hid (w.grownBy wb none):=by show w.grownBy wb none;rw [hwb];exact jab _ _
     have hb:wb.heap[w.heap.size]?=some (.cells #[.string name,.int .i64 ty,.slice da ds.length dc] 82 (0,0)):=by rw [hwb];exact heap_alloc_new w _
     have BX:Hid (∀ wx,wb.grownBy wx none→wx.heap[w.heap.size]?=some (.cells #[.string name,.int .i64 ty,.slice da ds.length dc] 82 (0,0))):=fun wx hg=>jag hb hg;have pm:=jcK wb;have g1:=jab wb (.cells #[.slice none 0 0,.int .i64 0] 114);obtain ⟨w1,hw1⟩ : ∃ w1,w1=wb.alloc (.cells #[.slice none 0 0,.int .i64 0] 114):=⟨_,rfl⟩
     have sB:wb.heap.size=w.heap.size+1:=by rw [hwb,jar]
     obtain ⟨B,hB⟩ : ∃ B,B=w.heap.size+1:=⟨_,rfl⟩
     obtain ⟨lo,hlo⟩ : ∃ lo,lo=B:=⟨_,rfl⟩
     rw [← hw1,sB,← hB] at pm;have PM:Hid (jda w1 lo B [] 0):=by show jda w1 lo B [] 0;rw [hlo];exact pm
     rw [← hw1] at g1;have G:=jac g1;have LO:Hid (wb.heap.size≤lo):=by show _≤_;omega
     obtain ⟨ll,hll⟩ : ∃ x:List Fld,x=[]:=⟨_,rfl⟩
     obtain ⟨sz,hsz⟩ : ∃ x:Nat,x=0:=⟨_,rfl⟩
     have GD:Hid (Gd (ll,sz) 0):=by rw [hll,hsz];exact Gd.nil
     rw [← hll,← hsz] at PM;have E:Hid (jan name ty ds=(jaS jm2 1 (ll,sz) ds).bind fun D=>(jdb ([],0) 1 ty).bind fun m=>(wrP D.1).bind fun s=>(jbf m (ja0 2 s)).bind fun m=>(wrP m.1).bind fun s2=>(jbf ([],0) (ja0 1 s2)).bind fun y=>(ja6 ([],0) 1 name).bind fun m=>(wrP y.1).bind fun s3=>(jbf m (ja0 2 s3)).bind fun m=>wrP m.1):=by show _=_;rw [hll,hsz];rfl
     clear hll hsz hb pm g1 sB hlo hd;go_enter Tryz.func102,Tryz.ntmps102
     go_upto_region 2 with fail
     rw [← hwb,← hw1,← hB];clear hwb hw1 hB;obtain ⟨⟨x0,x1,x2⟩,-⟩:=jbn (BX.out w1 G.out);go_wp2;clear x0 x1 x2;go_loopg [13] ds.length (fun gh iv wr=>∃ (k:Nat) (ll:List Fld) (sz:Nat),gh=ds.length - k∧k≤ds.length∧iv=.int .i64 k∧jda wr lo B ll sz∧wb.grownBy wr none∧jan name ty ds=((jaS jm2 1 (ll,sz) (ds.drop k)).bind fun D=>(jdb ([],0) 1 ty).bind fun m=>(wrP D.1).bind fun s=>(jbf m (ja0 2 s)).bind fun m=>(wrP m.1).bind fun s2=>(jbf ([],0) (ja0 1 s2)).bind fun y=>(ja6 ([],0) 1 name).bind fun m=>(wrP y.1).bind fun s3=>(jbf m (ja0 2 s3)).bind fun m=>wrP m.1)∧Gd (ll,sz) k)
     case atStart=>exact ⟨0,ll,sz,rfl,Nat.zero_le _,rfl,PM.out,G.out,by rw [List.drop_zero];exact E.out,GD.out⟩
     case round =>
      clear PM G E GD;obtain ⟨k,ll,sz,rfl,hk,rfl,hpm,hg,he,hgd⟩:=hrel;have PM:=jac hpm;have G:=jac hg;have E:=jac he;have GD:=jac hgd;clear hpm hg he hgd
      by_cases hlt:k<ds.length
      ·skip
       have hk2:k<ds.length:=hlt;obtain ⟨xb,xo,rfl,hc⟩:=jid (k:=k) (HD.out.more (jaa GB.out G.out)) hk2;have a0:=hc k hk2;have DS:=jle ds k hk2;obtain ⟨x,hx⟩ : ∃ x,x=ds.getD k 0:=⟨_,rfl⟩
       rw [← hx] at a0 DS;have E1:Hid (jan name ty ds=(((jdb ([],0) 1 x).bind fun m=>wrP m.1).bind fun s=>(jbf (ll,sz) (ja0 1 s)).bind fun m=>jaS jm2 1 m (ds.drop (k+1))).bind fun D=>(jdb ([],0) 1 ty).bind fun m=>(wrP D.1).bind fun s=>(jbf m (ja0 2 s)).bind fun m=>(wrP m.1).bind fun s2=>(jbf ([],0) (ja0 1 s2)).bind fun y=>(ja6 ([],0) 1 name).bind fun m=>(wrP y.1).bind fun s3=>(jbf m (ja0 2 s3)).bind fun m=>wrP m.1):=by show _=_;rw [E.out,DS];rfl
       have pmd:=jcK wr;have gd:=jab wr (.cells #[.slice none 0 0,.int .i64 0] 114);clear hc hx DS E;go_wp2_with fail;obtain ⟨wn,hwn⟩ : ∃ x,x=wr.alloc (.cells #[.slice none 0 0,.int .i64 0] 114):=⟨_,rfl⟩
       obtain ⟨Bd,hBd⟩ : ∃ x,x=wr.heap.size:=⟨_,rfl⟩
       rw [← hwn,← hBd] at pmd;rw [← hwn] at gd ⊢;rw [← hBd];have LD:Hid (wr.heap.size≤Bd):=Nat.le_of_eq hBd.symm;have GDN:=jac gd;have C:=jac (jcF Bd Bd [] 0 1 x wn pmd (by decide) (by simp));clear hwn hBd a0 gd pmd
       cases hp:jdb ([],0) 1 x with
       | error er =>
        have E2:Hid (jan name ty ds=.error er):=by show _=_;rw [E1.out,hp];rfl
        rw [hp] at C;clear hp;refine C.out.mono ?_;rintro e w2 ⟨ha,rfl⟩;exact ⟨rfl,jad E2.out (jaa GB.out (jaa G.out (Abv.grown GDN.out LD.out ha)))⟩
       | ok m' =>
        obtain ⟨ld,sd⟩:=m';have GDd:=jac (jgV hp Gd.nil (by decide));have E2:Hid (jan name ty ds=((wrP ld).bind fun s=>(jbf (ll,sz) (ja0 1 s)).bind fun m=>jaS jm2 1 m (ds.drop (k+1))).bind fun D=>(jdb ([],0) 1 ty).bind fun m=>(wrP D.1).bind fun s=>(jbf m (ja0 2 s)).bind fun m=>(wrP m.1).bind fun s2=>(jbf ([],0) (ja0 1 s2)).bind fun y=>(ja6 ([],0) 1 name).bind fun m=>(wrP y.1).bind fun s3=>(jbf m (ja0 2 s3)).bind fun m=>wrP m.1):=by show _=_;rw [E1.out,hp];rfl
        rw [hp] at C;clear hp E1;refine C.out.mono ?_;rintro e w2 ⟨ha,v,rfl,rfl,hq⟩;have GW:=jac (Abv.grown GDN.out LD.out ha);have C2:=jac (jbz Bd Bd ld sd w2 hq (by have h:=GDd.out.2.1;simp only at h;omega) GDd.out.2.2);clear ha hq C;go_wp2_with fail
        cases hw:wrP ld with
        | error er =>
         have E3:Hid (jan name ty ds=.error er):=by show _=_;rw [E2.out,hw];rfl
         rw [hw] at C2;clear hw;refine C2.out.mono ?_;rintro e w3 ⟨hg,rfl⟩;exact ⟨rfl,jad E3.out (jaa GB.out (jaa G.out (jaa GW.out hg)))⟩
        | ok tx =>
         have E:Hid (jan name ty ds=((jbf (ll,sz) (ja0 1 tx)).bind fun m=>jaS jm2 1 m (ds.drop (k+1))).bind fun D=>(jdb ([],0) 1 ty).bind fun m=>(wrP D.1).bind fun s=>(jbf m (ja0 2 s)).bind fun m=>(wrP m.1).bind fun s2=>(jbf ([],0) (ja0 1 s2)).bind fun y=>(ja6 ([],0) 1 name).bind fun m=>(wrP y.1).bind fun s3=>(jbf m (ja0 2 s3)).bind fun m=>wrP m.1):=by show _=_;rw [E2.out,hw];rfl
         have TS:=jac (jep hw);rw [hw] at C2;clear hw E2;refine C2.out.mono ?_;rintro e w3 ⟨hg,v,rfl,rfl⟩;have PM1:=jac (PM.out.more (jaa GW.out hg));have G1:=jac (jaa G.out (jaa GW.out hg));clear hg C2 PM G GW GDN LD;have PM:=PM1;have G:=G1;clear PM1 G1;have C:=jac (jbs lo B ll sz 1 tx w3 PM.out GD.out.1 (by have h:=GD.out.2.1;simp only at h;omega) (by have:=TS.out;omega));go_wp2_with fail
         cases hp:jbf (ll,sz) (ja0 1 tx) with
         | error er =>
          have E2:Hid (jan name ty ds=.error er):=by show _=_;rw [E.out,hp];rfl
          rw [hp] at C;clear hp;refine C.out.mono ?_;rintro e w4 ⟨ha,rfl⟩;exact ⟨rfl,jad E2.out (jaa GB.out (Abv.grown G.out LO.out ha))⟩
         | ok m' =>
          obtain ⟨l2,s2⟩:=m';have E2:Hid (jan name ty ds=(jaS jm2 1 (l2,s2) (ds.drop (k+1))).bind fun D=>(jdb ([],0) 1 ty).bind fun m=>(wrP D.1).bind fun s=>(jbf m (ja0 2 s)).bind fun m=>(wrP m.1).bind fun s2=>(jbf ([],0) (ja0 1 s2)).bind fun y=>(ja6 ([],0) 1 name).bind fun m=>(wrP y.1).bind fun s3=>(jbf m (ja0 2 s3)).bind fun m=>wrP m.1):=by show _=_;rw [E.out,hp];rfl
          have GD2:=jac (jcC hp GD.out (jbM _ _ (by decide) (by have:=TS.out;omega)));rw [hp] at C;clear hp;refine C.out.mono ?_;rintro e w4 ⟨ha,v,rfl,rfl,hq⟩;have PM2:=jac hq;have G2:=jac (Abv.grown G.out LO.out ha);clear ha hq C PM G E GD;obtain ⟨ll,hll⟩ : ∃ x,x=l2:=⟨_,rfl⟩
          obtain ⟨sz,hsz⟩ : ∃ x,x=s2:=⟨_,rfl⟩
          rw [← hll,← hsz] at PM2 E2 GD2;clear hll hsz l2 s2;have PM:=PM2;have G:=G2;have E:=E2;have GD:=GD2;clear PM2 G2 E2 GD2;go_wp2_with fail;go_roundg (ds.length - (k+1))
          case measure=>omega
          case rel=>exact ⟨k+1,ll,sz,rfl,by omega,by go_num,PM.out,G.out,E.out,GD.out⟩
      ·obtain rfl:k=ds.length:=by omega
       have E2:Hid (jan name ty ds=(jdb ([],0) 1 ty).bind fun m=>(wrP ll).bind fun s=>(jbf m (ja0 2 s)).bind fun m=>(wrP m.1).bind fun s2=>(jbf ([],0) (ja0 1 s2)).bind fun y=>(ja6 ([],0) 1 name).bind fun m=>(wrP y.1).bind fun s3=>(jbf m (ja0 2 s3)).bind fun m=>wrP m.1):=by show _=_;rw [E.out,List.drop_length];rfl
       clear E;have E:=E2;clear E2;have pm:=jcK wr;have g1:=jab wr (.cells #[.slice none 0 0,.int .i64 0] 114);have pS:=Nat.le_refl wr.heap.size;obtain ⟨⟨x0,x1,x2⟩,-⟩:=jbn (BX.out (wr.alloc (.cells #[.slice none 0 0,.int .i64 0] 114)) (jaa G.out g1));go_wp2_with fail;obtain ⟨wn2,hwn⟩ : ∃ x,x=wr.alloc (.cells #[.slice none 0 0,.int .i64 0] 114):=⟨_,rfl⟩
       obtain ⟨B2,hBn⟩ : ∃ x,x=wr.heap.size:=⟨_,rfl⟩
       rw [← hwn,← hBn] at pm;rw [← hwn] at g1 ⊢;rw [← hBn] at ⊢;have BX2:=jac (fun wx (hg:wr.grownBy wx none)=>BX.out wx (jaa G.out hg));have DM:=jac (fun wx (hg:wr.grownBy wx none)=>PM.out.more hg);have DG:=GD;obtain ⟨Dl,hDl⟩ : ∃ x,x=ll:=⟨_,rfl⟩
       obtain ⟨Ds,hDs⟩ : ∃ x,x=sz:=⟨_,rfl⟩
       rw [← hDl,← hDs] at DM DG;rw [← hDl] at E;clear hDl hDs x0 x1 x2;have GB2:=jac (jaa GB.out G.out);have LO2:Hid (wr.heap.size≤B2):=Nat.le_of_eq hBn.symm;obtain ⟨ll,hll⟩ : ∃ x:List Fld,x=[]:=⟨_,rfl⟩
       obtain ⟨sz,hsz⟩ : ∃ x:Nat,x=0:=⟨_,rfl⟩
       have PM2:Hid (jda wn2 B2 B2 ll sz):=by show jda _ _ _ _ _;rw [hll,hsz];exact pm
       have GD2:Hid (Gd (ll,sz) 0):=by rw [hll,hsz];exact Gd.nil
       have G2:=jac g1;clear PM GD G GB BX LO pm g1 hwn hBn pS;have PM:=PM2;have GD:=GD2;have G:=G2;have GB:=GB2;have BX:=BX2;have LO:=LO2;clear PM2 GD2 G2 GB2 BX2 LO2;have E2:Hid (jan name ty ds=(jdb (ll,sz) 1 ty).bind fun m=>(wrP Dl).bind fun s=>(jbf m (ja0 2 s)).bind fun m=>(wrP m.1).bind fun s2=>(jbf ([],0) (ja0 1 s2)).bind fun y=>(ja6 ([],0) 1 name).bind fun m=>(wrP y.1).bind fun s3=>(jbf m (ja0 2 s3)).bind fun m=>wrP m.1):=by show _=_;rw [E.out,hll,hsz]
       clear E hll hsz;have E:=E2;clear E2;have C:=jac (jcF B2 B2 ll sz 1 ty wn2 PM.out GD.out.1 (by have h:=GD.out.2.1;simp only at h;omega))
       cases hp:jdb (ll,sz) 1 ty with
       | error er =>
        have E2:Hid (jan name ty ds=.error er):=by show _=_;rw [E.out,hp];rfl
        rw [hp] at C;clear hp;refine C.out.mono ?_;rintro e w11 ⟨ha,rfl⟩;exact ⟨rfl,jad E2.out (jaa GB.out (Abv.grown G.out LO.out ha))⟩
       | ok m' =>
        obtain ⟨l2,s2⟩:=m';have E2:Hid (jan name ty ds=(wrP Dl).bind fun s=>(jbf (l2,s2) (ja0 2 s)).bind fun m=>(wrP m.1).bind fun s2=>(jbf ([],0) (ja0 1 s2)).bind fun y=>(ja6 ([],0) 1 name).bind fun m=>(wrP y.1).bind fun s3=>(jbf m (ja0 2 s3)).bind fun m=>wrP m.1):=by show _=_;rw [E.out,hp];rfl
        have GD2:=jac (jgV hp GD.out (by decide));rw [hp] at C;clear hp;refine C.out.mono ?_;rintro e w11 ⟨ha,v,rfl,rfl,hq⟩;have PM2:=jac hq;have G2:=jac (Abv.grown G.out LO.out ha);clear ha hq C PM G E GD;obtain ⟨ll,hll⟩ : ∃ x,x=l2:=⟨_,rfl⟩
        obtain ⟨sz,hsz⟩ : ∃ x,x=s2:=⟨_,rfl⟩
        rw [← hll,← hsz] at PM2 E2 GD2;clear hll hsz l2 s2;have PM:=PM2;have G:=G2;have E:=E2;have GD:=GD2;clear PM2 G2 E2 GD2;go_wp2_with fail;have C0:=jac (jbz lo B Dl Ds w11 (DM.out _ G.out) (by have h:=DG.out.2.1;simp only at h;omega) DG.out.2.2)
        cases hf:wrP Dl with
        | error er =>
         have E2:Hid (jan name ty ds=.error er):=by show _=_;rw [E.out,hf];rfl
         rw [hf] at C0;clear hf;refine C0.out.mono ?_;rintro e wf1 ⟨hg,rfl⟩;exact ⟨rfl,jad E2.out (jaa GB.out (jaa G.out hg))⟩
        | ok tx =>
         have E2:Hid (jan name ty ds=(jbf (ll,sz) (ja0 2 tx)).bind fun m=>(wrP m.1).bind fun s2=>(jbf ([],0) (ja0 1 s2)).bind fun y=>(ja6 ([],0) 1 name).bind fun m=>(wrP y.1).bind fun s3=>(jbf m (ja0 2 s3)).bind fun m=>wrP m.1):=by show _=_;rw [E.out,hf];rfl
         have TS:=jac (jep hf);rw [hf] at C0;clear hf E;have E:=E2;clear E2;refine C0.out.mono ?_;rintro e wf1 ⟨hg,v,rfl,rfl⟩;have PM1:=jac (PM.out.more hg);have G1:=jac (jaa G.out hg);clear hg C0 PM G;have PM:=PM1;have G:=G1;clear PM1 G1;have C:=jac (jbs B2 B2 ll sz 2 tx wf1 PM.out GD.out.1 (by have h:=GD.out.2.1;simp only at h;omega) (by have:=TS.out;omega));go_wp2_with fail
         cases hp:jbf (ll,sz) (ja0 2 tx) with
         | error er =>
          have E2:Hid (jan name ty ds=.error er):=by show _=_;rw [E.out,hp];rfl
          rw [hp] at C;clear hp;refine C.out.mono ?_;rintro e w12 ⟨ha,rfl⟩;exact ⟨rfl,jad E2.out (jaa GB.out (Abv.grown G.out LO.out ha))⟩
         | ok m' =>
          obtain ⟨l2,s2⟩:=m';have E2:Hid (jan name ty ds=(wrP (l2,s2).1).bind fun s2=>(jbf ([],0) (ja0 1 s2)).bind fun y=>(ja6 ([],0) 1 name).bind fun m=>(wrP y.1).bind fun s3=>(jbf m (ja0 2 s3)).bind fun m=>wrP m.1):=by show _=_;rw [E.out,hp];rfl
          have GD2:=jac (jcC hp GD.out (jbM _ _ (by decide) (by have:=TS.out;omega)));rw [hp] at C;clear hp;refine C.out.mono ?_;rintro e w12 ⟨ha,v,rfl,rfl,hq⟩;have PM2:=jac hq;have G2:=jac (Abv.grown G.out LO.out ha);clear ha hq C PM G E GD;obtain ⟨ll,hll⟩ : ∃ x,x=l2:=⟨_,rfl⟩
          obtain ⟨sz,hsz⟩ : ∃ x,x=s2:=⟨_,rfl⟩
          rw [← hll,← hsz] at PM2 E2 GD2;clear hll hsz l2 s2;have PM:=PM2;have G:=G2;have E:=E2;have GD:=GD2;clear PM2 G2 E2 GD2;have pm:=jcK w12;have g1:=jab w12 (.cells #[.slice none 0 0,.int .i64 0] 114);have pS:=Nat.le_refl w12.heap.size;go_wp2_with fail;obtain ⟨wn3,hwn⟩ : ∃ x,x=w12.alloc (.cells #[.slice none 0 0,.int .i64 0] 114):=⟨_,rfl⟩
          obtain ⟨B3,hBn⟩ : ∃ x,x=w12.heap.size:=⟨_,rfl⟩
          rw [← hwn,← hBn] at pm;rw [← hwn] at g1 ⊢;rw [← hBn] at ⊢;have BX2:=jac (fun wx (hg:w12.grownBy wx none)=>BX.out wx (jaa G.out hg));have TM:=jac (fun wx (hg:w12.grownBy wx none)=>PM.out.more hg);have TG:=GD;obtain ⟨Tl,hTl⟩ : ∃ x,x=ll:=⟨_,rfl⟩
          obtain ⟨Ts,hTs⟩ : ∃ x,x=sz:=⟨_,rfl⟩
          rw [← hTl,← hTs] at TM TG;rw [← hTl] at E;clear hTl hTs DM DG TS;have GB2:=jac (jaa GB.out G.out);have LO2:Hid (w12.heap.size≤B3):=Nat.le_of_eq hBn.symm;obtain ⟨ll,hll⟩ : ∃ x:List Fld,x=[]:=⟨_,rfl⟩
          obtain ⟨sz,hsz⟩ : ∃ x:Nat,x=0:=⟨_,rfl⟩
          have PM2:Hid (jda wn3 B3 B3 ll sz):=by show jda _ _ _ _ _;rw [hll,hsz];exact pm
          have GD2:Hid (Gd (ll,sz) 0):=by rw [hll,hsz];exact Gd.nil
          have G2:=jac g1;clear PM GD G GB BX LO pm g1 hwn hBn pS;have PM:=PM2;have GD:=GD2;have G:=G2;have GB:=GB2;have BX:=BX2;have LO:=LO2;clear PM2 GD2 G2 GB2 BX2 LO2;have E2:Hid (jan name ty ds=(wrP Tl).bind fun s2=>(jbf (ll,sz) (ja0 1 s2)).bind fun y=>(ja6 ([],0) 1 name).bind fun m=>(wrP y.1).bind fun s3=>(jbf m (ja0 2 s3)).bind fun m=>wrP m.1):=by show _=_;rw [E.out,hll,hsz]
          clear E hll hsz;have E:=E2;clear E2;have C0:=jac (jbz B2 B2 Tl Ts wn3 (TM.out _ G.out) (by have h:=TG.out.2.1;simp only at h;omega) TG.out.2.2)
          cases hf:wrP Tl with
          | error er =>
           have E2:Hid (jan name ty ds=.error er):=by show _=_;rw [E.out,hf];rfl
           rw [hf] at C0;clear hf;refine C0.out.mono ?_;rintro e wf2 ⟨hg,rfl⟩;exact ⟨rfl,jad E2.out (jaa GB.out (jaa G.out hg))⟩
          | ok tx =>
           have E2:Hid (jan name ty ds=(jbf (ll,sz) (ja0 1 tx)).bind fun y=>(ja6 ([],0) 1 name).bind fun m=>(wrP y.1).bind fun s3=>(jbf m (ja0 2 s3)).bind fun m=>wrP m.1):=by show _=_;rw [E.out,hf];rfl
           have TS:=jac (jep hf);rw [hf] at C0;clear hf E;have E:=E2;clear E2;refine C0.out.mono ?_;rintro e wf2 ⟨hg,v,rfl,rfl⟩;have PM1:=jac (PM.out.more hg);have G1:=jac (jaa G.out hg);clear hg C0 PM G;have PM:=PM1;have G:=G1;clear PM1 G1;have C:=jac (jbs B3 B3 ll sz 1 tx wf2 PM.out GD.out.1 (by have h:=GD.out.2.1;simp only at h;omega) (by have:=TS.out;omega));go_wp2_with fail
           cases hp:jbf (ll,sz) (ja0 1 tx) with
           | error er =>
            have E2:Hid (jan name ty ds=.error er):=by show _=_;rw [E.out,hp];rfl
            rw [hp] at C;clear hp;refine C.out.mono ?_;rintro e w21 ⟨ha,rfl⟩;exact ⟨rfl,jad E2.out (jaa GB.out (Abv.grown G.out LO.out ha))⟩
           | ok m' =>
            obtain ⟨l2,s2⟩:=m';have E2:Hid (jan name ty ds=(ja6 ([],0) 1 name).bind fun m=>(wrP (l2,s2).1).bind fun s3=>(jbf m (ja0 2 s3)).bind fun m=>wrP m.1):=by show _=_;rw [E.out,hp];rfl
            have GD2:=jac (jcC hp GD.out (jbM _ _ (by decide) (by have:=TS.out;omega)));rw [hp] at C;clear hp;refine C.out.mono ?_;rintro e w21 ⟨ha,v,rfl,rfl,hq⟩;have PM2:=jac hq;have G2:=jac (Abv.grown G.out LO.out ha);clear ha hq C PM G E GD;obtain ⟨ll,hll⟩ : ∃ x,x=l2:=⟨_,rfl⟩
            obtain ⟨sz,hsz⟩ : ∃ x,x=s2:=⟨_,rfl⟩
            rw [← hll,← hsz] at PM2 E2 GD2;clear hll hsz l2 s2;have PM:=PM2;have G:=G2;have E:=E2;have GD:=GD2;clear PM2 G2 E2 GD2;have pm:=jcK w21;have g1:=jab w21 (.cells #[.slice none 0 0,.int .i64 0] 114);have pS:=Nat.le_refl w21.heap.size;obtain ⟨⟨x0,x1,x2⟩,-⟩:=jbn (BX.out (w21.alloc (.cells #[.slice none 0 0,.int .i64 0] 114)) (jaa G.out g1));go_wp2_with fail;obtain ⟨wn4,hwn⟩ : ∃ x,x=w21.alloc (.cells #[.slice none 0 0,.int .i64 0] 114):=⟨_,rfl⟩
            obtain ⟨B4,hBn⟩ : ∃ x,x=w21.heap.size:=⟨_,rfl⟩
            rw [← hwn,← hBn] at pm;rw [← hwn] at g1 ⊢;rw [← hBn] at ⊢;have BX2:=jac (fun wx (hg:w21.grownBy wx none)=>BX.out wx (jaa G.out hg));have YM:=jac (fun wx (hg:w21.grownBy wx none)=>PM.out.more hg);have YG:=GD;obtain ⟨Yl,hYl⟩ : ∃ x,x=ll:=⟨_,rfl⟩
            obtain ⟨Ys,hYs⟩ : ∃ x,x=sz:=⟨_,rfl⟩
            rw [← hYl,← hYs] at YM YG;have E3:Hid (jan name ty ds=(ja6 ([],0) 1 name).bind fun m=>(wrP Yl).bind fun s3=>(jbf m (ja0 2 s3)).bind fun m=>wrP m.1):=by show _=_;rw [E.out,hYl]
            clear hYl hYs TM TG TS x0 x1 x2 E;have E:=E3;clear E3;have GB2:=jac (jaa GB.out G.out);have LO2:Hid (w21.heap.size≤B4):=Nat.le_of_eq hBn.symm;obtain ⟨ll,hll⟩ : ∃ x:List Fld,x=[]:=⟨_,rfl⟩
            obtain ⟨sz,hsz⟩ : ∃ x:Nat,x=0:=⟨_,rfl⟩
            have PM2:Hid (jda wn4 B4 B4 ll sz):=by show jda _ _ _ _ _;rw [hll,hsz];exact pm
            have GD2:Hid (Gd (ll,sz) 0):=by rw [hll,hsz];exact Gd.nil
            have G2:=jac g1;clear PM GD G GB BX LO pm g1 hwn hBn pS;have PM:=PM2;have GD:=GD2;have G:=G2;have GB:=GB2;have BX:=BX2;have LO:=LO2;clear PM2 GD2 G2 GB2 BX2 LO2;have E2:Hid (jan name ty ds=(ja6 (ll,sz) 1 name).bind fun m=>(wrP Yl).bind fun s3=>(jbf m (ja0 2 s3)).bind fun m=>wrP m.1):=by show _=_;rw [E.out,hll,hsz]
            clear E hll hsz;have E:=E2;clear E2;have C:=jac (jc5 B4 B4 ll sz 1 name wn4 PM.out GD.out.1 (by have h:=GD.out.2.1;simp only at h;omega) (by omega))
            cases hp:ja6 (ll,sz) 1 name with
            | error er =>
             have E2:Hid (jan name ty ds=.error er):=by show _=_;rw [E.out,hp];rfl
             rw [hp] at C;clear hp;refine C.out.mono ?_;rintro e w31 ⟨ha,rfl⟩;exact ⟨rfl,jad E2.out (jaa GB.out (Abv.grown G.out LO.out ha))⟩
            | ok m' =>
             obtain ⟨l2,s2⟩:=m';have E2:Hid (jan name ty ds=(wrP Yl).bind fun s3=>(jbf (l2,s2) (ja0 2 s3)).bind fun m=>wrP m.1):=by show _=_;rw [E.out,hp];rfl
             have GD2:=jac (jeM hp GD.out (by decide) (by omega));rw [hp] at C;clear hp;refine C.out.mono ?_;rintro e w31 ⟨ha,v,rfl,rfl,hq⟩;have PM2:=jac hq;have G2:=jac (Abv.grown G.out LO.out ha);clear ha hq C PM G E GD;obtain ⟨ll,hll⟩ : ∃ x,x=l2:=⟨_,rfl⟩
             obtain ⟨sz,hsz⟩ : ∃ x,x=s2:=⟨_,rfl⟩
             rw [← hll,← hsz] at PM2 E2 GD2;clear hll hsz l2 s2;have PM:=PM2;have G:=G2;have E:=E2;have GD:=GD2;clear PM2 G2 E2 GD2;go_wp2_with fail;have C0:=jac (jbz B3 B3 Yl Ys w31 (YM.out _ G.out) (by have h:=YG.out.2.1;simp only at h;omega) YG.out.2.2)
             cases hf:wrP Yl with
             | error er =>
              have E2:Hid (jan name ty ds=.error er):=by show _=_;rw [E.out,hf];rfl
              rw [hf] at C0;clear hf;refine C0.out.mono ?_;rintro e wf3 ⟨hg,rfl⟩;exact ⟨rfl,jad E2.out (jaa GB.out (jaa G.out hg))⟩
             | ok tx =>
              have E2:Hid (jan name ty ds=(jbf (ll,sz) (ja0 2 tx)).bind fun m=>wrP m.1):=by show _=_;rw [E.out,hf];rfl
              have TS:=jac (jep hf);rw [hf] at C0;clear hf E;have E:=E2;clear E2;refine C0.out.mono ?_;rintro e wf3 ⟨hg,v,rfl,rfl⟩;have PM1:=jac (PM.out.more hg);have G1:=jac (jaa G.out hg);clear hg C0 PM G;have PM:=PM1;have G:=G1;clear PM1 G1;have C:=jac (jbs B4 B4 ll sz 2 tx wf3 PM.out GD.out.1 (by have h:=GD.out.2.1;simp only at h;omega) (by have:=TS.out;omega));go_wp2_with fail
              cases hp:jbf (ll,sz) (ja0 2 tx) with
              | error er =>
               have E2:Hid (jan name ty ds=.error er):=by show _=_;rw [E.out,hp];rfl
               rw [hp] at C;clear hp;refine C.out.mono ?_;rintro e w32 ⟨ha,rfl⟩;exact ⟨rfl,jad E2.out (jaa GB.out (Abv.grown G.out LO.out ha))⟩
              | ok m' =>
               obtain ⟨l2,s2⟩:=m';have E2:Hid (jan name ty ds=wrP (l2,s2).1):=by show _=_;rw [E.out,hp];rfl
               have GD2:=jac (jcC hp GD.out (jbM _ _ (by decide) (by have:=TS.out;omega)));rw [hp] at C;clear hp;refine C.out.mono ?_;rintro e w32 ⟨ha,v,rfl,rfl,hq⟩;have PM2:=jac hq;have G2:=jac (Abv.grown G.out LO.out ha);clear ha hq C PM G E GD;obtain ⟨ll,hll⟩ : ∃ x,x=l2:=⟨_,rfl⟩
               obtain ⟨sz,hsz⟩ : ∃ x,x=s2:=⟨_,rfl⟩
               rw [← hll,← hsz] at PM2 E2 GD2;clear hll hsz l2 s2;have PM:=PM2;have G:=G2;have E:=E2;have GD:=GD2;clear PM2 G2 E2 GD2;have C:=jac (jbz B4 B4 ll sz w32 PM.out (by have h:=GD.out.2.1;simp only at h;omega) GD.out.2.2);go_wp2_with fail
               cases hp:wrP ll with
               | error er =>
                have E2:Hid (jan name ty ds=.error er):=by show _=_;rw [E.out,hp]
                rw [hp] at C;clear hp;refine C.out.mono ?_;rintro e wz ⟨hg,rfl⟩;exact ⟨rfl,jad E2.out (jaa GB.out (jaa G.out hg))⟩
               | ok s =>
                have E2:Hid (jan name ty ds=.ok s):=by show _=_;rw [E.out,hp]
                rw [hp] at C;clear hp;refine C.out.mono ?_;rintro e wz ⟨hg,v,rfl,rfl⟩;have GZ:=jac (jaa GB.out (jaa G.out hg));clear hg;go_wp2;go_ret;exact jaI E2.out GZ.out rfl
end Go.Proofs.YtbgbpfbjeleooaaGreat.Pd
namespace Go.Proofs.YtbgbpfbjeleooaaGreat.Pd
open Go.RowKit
open Wr (Fld)
def jaE (N:NNod):R ByteArray:=(jaS (fun s=>.ok s) 1 ([],0) N.ins).bind fun m=>(jbf m (ja0 2 N.out)).bind fun m=>(ja6 m 3 N.name).bind fun m=>(ja6 m 4 N.op).bind fun m=>(jaS jao 5 m N.attrs).bind fun m=>wrP m.1
theorem jol (N:NNod):Sh (jaE N):=jba fun _=>jba fun _=>jba fun _=>jba fun _=>jba fun _=>jld _
theorem jlf {w:World} {b off len cap:Nat} {xs:List Atr} (h:IsL 136 9 jbw w (.slice (some ⟨b,off,none⟩) len cap) xs) (k:Nat) (hk:k<xs.length) :
    w.cell? ⟨b,off+k*9,none⟩=some (.string xs[k].name)∧w.cell? ⟨b,off+k*9+1,none⟩=some (.int .i64 xs[k].kind)∧w.cell? ⟨b,off+k*9+2,none⟩=some (.int .i64 xs[k].f)∧w.cell? ⟨b,off+k*9+3,none⟩=some (.int .i64 xs[k].i)∧w.cell? ⟨b,off+k*9+4,none⟩=some (.string xs[k].s)∧w.cell? ⟨b,off+k*9+5,none⟩=some (.int .i64 xs[k].ty)∧w.cell? ⟨b,off+k*9+6,none⟩=some (.slice xs[k].dv.a xs[k].dv.n xs[k].dv.c)∧w.cell? ⟨b,off+k*9+7,none⟩=some (.slice xs[k].tv.a xs[k].tv.n xs[k].tv.c)∧w.cell? ⟨b,off+k*9+8,none⟩=some (.slice xs[k].iv.a xs[k].iv.n xs[k].iv.c) :=
     ⟨h.at k hk 0 (by omega),h.at k hk 1 (by omega),h.at k hk 2 (by omega),h.at k hk 3 (by omega),h.at k hk 4 (by omega),h.at k hk 5 (by omega),h.at k hk 6 (by omega),h.at k hk 7 (by omega),h.at k hk 8 (by omega)⟩
theorem jmo {xs:List Atr} {cs:List Cont} {k:Nat} {x:Atr} {c:Cont} (hx:xs[k]?=some x) (hc:cs[k]?=some c):(List.zipWith jbC xs cs).drop k=jbC x c::(List.zipWith jbC xs cs).drop (k+1):=by
 have h1:=(List.getElem?_eq_some_iff.1 hx)
 have h2:=(List.getElem?_eq_some_iff.1 hc)
 obtain ⟨l1,r1⟩:=h1;obtain ⟨l2,r2⟩:=h2;have hl:k<(List.zipWith jbC xs cs).length:=by rw [List.length_zipWith];omega
 rw [List.drop_eq_getElem_cons hl,List.getElem_zipWith,r1,r2]
structure SmallN (n:Nod) (q:Ni):Prop where
 ins:∀ s∈q.ins,s.size≤1000000000
 out:n.out.size≤1000000000
 name:n.name.size≤1000000000
 op:n.op.size≤1000000000
 xs:∀ a∈q.xs,a.name.size≤1000000000∧a.s.size≤1000000000
 cs:∀ c∈q.cs,c.d.length≤10000000∧c.t.length≤10000000∧c.i.length≤10000000
 li:q.ins.length≤1000000
 lx:q.xs.length≤1000000
theorem jhz (n:Nod) (q:Ni) (w:World) (hq:NodeIn0 w n q.ins q.xs q.cs) (hsm:SmallN n q) :
    Calls Tryz.prog 99 #[jgJ n] w (jbU w (jaE (jdO n q)) fun s v _=>v=.string s):=by
     obtain ⟨hi,ha,hh⟩:=hq;obtain ⟨hsi,so,sn,sp,hsa,hsc,li,lx⟩:=hsm;obtain ⟨ia,ic,e1,-⟩:=hi.form;obtain ⟨aa,ac,e2,-⟩:=ha.form;have HI:=jac hi;have HA:=jac ha;have HH:=jac hh;unfold jgJ;simp only [Sl.v,Value.slice.injEq] at e1 e2;obtain ⟨e1a,e1b,e1c⟩:=e1;obtain ⟨e2a,e2b,e2c⟩:=e2;simp only [Sl.v] at HI HA;rw [e1a,e1b,e1c] at HI ⊢;rw [e2a,e2b,e2c] at HA ⊢;clear e1a e1b e1c e2a e2b e2c hi ha hh;obtain ⟨wb,hwb⟩ : ∃ wb,wb=w.alloc (.cells #[.string n.op,.string n.name,.slice ia q.ins.length ic,.string n.out,.slice aa q.xs.length ac] 35):=⟨_,rfl⟩
     have GB:Hid (w.grownBy wb none):=by show w.grownBy wb none;rw [hwb];exact jab _ _
     have hb:wb.heap[w.heap.size]?=some (.cells #[.string n.op,.string n.name,.slice ia q.ins.length ic,.string n.out,.slice aa q.xs.length ac] 35 (0,0)):=by rw [hwb];exact heap_alloc_new w _
     have BX:Hid (∀ wx,wb.grownBy wx none→wx.heap[w.heap.size]?=some (.cells #[.string n.op,.string n.name,.slice ia q.ins.length ic,.string n.out,.slice aa q.xs.length ac] 35 (0,0))):=fun wx hg=>jag hb hg;have pm:=jcK wb;have g1:=jab wb (.cells #[.slice none 0 0,.int .i64 0] 114);obtain ⟨w1,hw1⟩ : ∃ w1,w1=wb.alloc (.cells #[.slice none 0 0,.int .i64 0] 114):=⟨_,rfl⟩
     have sB:wb.heap.size=w.heap.size+1:=by rw [hwb,jar]
     obtain ⟨B,hB⟩ : ∃ B,B=w.heap.size+1:=⟨_,rfl⟩
     obtain ⟨lo,hlo⟩ : ∃ lo,lo=B:=⟨_,rfl⟩
     rw [← hw1,sB,← hB] at pm;have PM:Hid (jda w1 lo B [] 0):=by show jda w1 lo B [] 0;rw [hlo];exact pm
     rw [← hw1] at g1;have G:=jac g1;have LO:Hid (wb.heap.size≤lo):=by show _≤_;omega
     obtain ⟨ll,hll⟩ : ∃ x:List Fld,x=[]:=⟨_,rfl⟩
     obtain ⟨sz,hsz⟩ : ∃ x:Nat,x=0:=⟨_,rfl⟩
     have GD:Hid (Gd (ll,sz) 0):=by rw [hll,hsz];exact Gd.nil
     rw [← hll,← hsz] at PM;have E:Hid (jaE (jdO n q)=(jaS (fun s=>.ok s) 1 (ll,sz) q.ins).bind fun m=>(jbf m (ja0 2 n.out)).bind fun m=>(ja6 m 3 n.name).bind fun m=>(ja6 m 4 n.op).bind fun m=>(jaS jao 5 m (List.zipWith jbC q.xs q.cs)).bind fun m=>wrP m.1):=by show _=_;rw [hll,hsz];rfl
     clear hll hsz hb pm g1 sB hlo;go_enter Tryz.func99,Tryz.ntmps99
     go_upto_region 2 with fail
     rw [← hwb,← hw1,← hB];clear hwb hw1 hB;obtain ⟨⟨x0,x1,x2,x3,x4⟩,-⟩:=jam (BX.out w1 G.out);go_wp2;clear x0 x1 x2 x3 x4;go_loopg [11] q.ins.length (fun gh iv wr=>∃ (k:Nat) (ll:List Fld) (sz:Nat),gh=q.ins.length - k∧k≤q.ins.length∧iv=.int .i64 k∧jda wr lo B ll sz∧wb.grownBy wr none∧jaE (jdO n q)=((jaS (fun s=>.ok s) 1 (ll,sz) (q.ins.drop k)).bind fun m=>(jbf m (ja0 2 n.out)).bind fun m=>(ja6 m 3 n.name).bind fun m=>(ja6 m 4 n.op).bind fun m=>(jaS jao 5 m (List.zipWith jbC q.xs q.cs)).bind fun m=>wrP m.1)∧Gd (ll,sz) k)
     case atStart=>exact ⟨0,ll,sz,rfl,Nat.zero_le _,rfl,PM.out,G.out,by rw [List.drop_zero];exact E.out,GD.out⟩
     case round =>
      clear PM G E GD;obtain ⟨k,ll,sz,rfl,hk,rfl,hpm,hg,he,hgd⟩:=hrel;have PM:=jac hpm;have G:=jac hg;have E:=jac he;have GD:=jac hgd;clear hpm hg he hgd
      by_cases hlt:k<q.ins.length
      ·skip
       obtain ⟨xb,xo,rfl⟩:=(HI.out.more (jaa GB.out G.out)).addr hlt;have e0:=jkx (HI.out.more (jaa GB.out G.out)) k hlt;have XS2:=jac (hsi q.ins[k] (List.getElem_mem hlt));have XS:Hid (q.ins[k].size≤4611686018427387904):=by have:=XS2.out;show _≤_;omega
       obtain ⟨x,hx⟩ : ∃ x,x=q.ins[k]:=⟨_,rfl⟩
       have E1:Hid (jaE (jdO n q)=((jbf (ll,sz) (ja0 1 x)).bind fun m=>jaS (fun s=>.ok s) 1 m (q.ins.drop (k+1))).bind fun m=>(jbf m (ja0 2 n.out)).bind fun m=>(ja6 m 3 n.name).bind fun m=>(ja6 m 4 n.op).bind fun m=>(jaS jao 5 m (List.zipWith jbC q.xs q.cs)).bind fun m=>wrP m.1):=by show _=_;rw [E.out,List.drop_eq_getElem_cons hlt,hx];rfl
       rw [← hx] at e0 XS XS2;clear E hx;have E:=E1;clear E1;have C:=jac (jbs lo B ll sz 1 x wr PM.out GD.out.1 (by have h:=GD.out.2.1;simp only at h;omega) XS.out);go_wp2_with fail
       cases hp:jbf (ll,sz) (ja0 1 x) with
       | error er =>
        have E2:Hid (jaE (jdO n q)=.error er):=by show _=_;rw [E.out,hp];rfl
        rw [hp] at C;clear hp;refine C.out.mono ?_;rintro e w3 ⟨ha,rfl⟩;exact ⟨rfl,jad E2.out (jaa GB.out (Abv.grown G.out LO.out ha))⟩
       | ok m' =>
        obtain ⟨l2,s2⟩:=m';have E2:Hid (jaE (jdO n q)=(jaS (fun s=>.ok s) 1 (l2,s2) (q.ins.drop (k+1))).bind fun m=>(jbf m (ja0 2 n.out)).bind fun m=>(ja6 m 3 n.name).bind fun m=>(ja6 m 4 n.op).bind fun m=>(jaS jao 5 m (List.zipWith jbC q.xs q.cs)).bind fun m=>wrP m.1):=by show _=_;rw [E.out,hp];rfl
        have GD2:=jac (jcC hp GD.out (jbM _ _ (by decide) XS2.out));rw [hp] at C;clear hp;refine C.out.mono ?_;rintro e w3 ⟨ha,v,rfl,rfl,hq⟩;have PM2:=jac hq;have G2:=jac (Abv.grown G.out LO.out ha);clear ha hq C PM G E GD;obtain ⟨ll,hll⟩ : ∃ x,x=l2:=⟨_,rfl⟩
        obtain ⟨sz,hsz⟩ : ∃ x,x=s2:=⟨_,rfl⟩
        rw [← hll,← hsz] at PM2 E2 GD2;clear hll hsz l2 s2;have PM:=PM2;have G:=G2;have E:=E2;have GD:=GD2;clear PM2 G2 E2 GD2;clear e0;go_wp2_with fail;go_roundg (q.ins.length - (k+1))
        case measure=>omega
        case rel=>exact ⟨k+1,ll,sz,rfl,by omega,by go_num,PM.out,G.out,E.out,GD.out⟩
      ·obtain hkN:k=q.ins.length:=by omega
       have E2:Hid (jaE (jdO n q)=(jbf (ll,sz) (ja0 2 n.out)).bind fun m=>(ja6 m 3 n.name).bind fun m=>(ja6 m 4 n.op).bind fun m=>(jaS jao 5 m (List.zipWith jbC q.xs q.cs)).bind fun m=>wrP m.1):=by show _=_;rw [E.out,List.drop_eq_nil_of_le (by omega)];rfl
       clear E;have E:=E2;clear E2;obtain ⟨⟨x0,x1,x2,x3,x4⟩,-⟩:=jam (BX.out wr G.out);have C:=jac (jbs lo B ll sz 2 n.out wr PM.out GD.out.1 (by have h:=GD.out.2.1;simp only at h;omega) (by omega));go_wp2_with fail
       cases hp:jbf (ll,sz) (ja0 2 n.out) with
       | error er =>
        have E2:Hid (jaE (jdO n q)=.error er):=by show _=_;rw [E.out,hp];rfl
        rw [hp] at C;clear hp;refine C.out.mono ?_;rintro e w11 ⟨ha,rfl⟩;exact ⟨rfl,jad E2.out (jaa GB.out (Abv.grown G.out LO.out ha))⟩
       | ok m' =>
        obtain ⟨l2,s2⟩:=m';have E2:Hid (jaE (jdO n q)=(ja6 (l2,s2) 3 n.name).bind fun m=>(ja6 m 4 n.op).bind fun m=>(jaS jao 5 m (List.zipWith jbC q.xs q.cs)).bind fun m=>wrP m.1):=by show _=_;rw [E.out,hp];rfl
        have GD2:=jac (jcC hp GD.out (jbM _ _ (by decide) (by omega)));rw [hp] at C;clear hp;refine C.out.mono ?_;rintro e w11 ⟨ha,v,rfl,rfl,hq⟩;have PM2:=jac hq;have G2:=jac (Abv.grown G.out LO.out ha);clear ha hq C PM G E GD;obtain ⟨ll,hll⟩ : ∃ x,x=l2:=⟨_,rfl⟩
        obtain ⟨sz,hsz⟩ : ∃ x,x=s2:=⟨_,rfl⟩
        rw [← hll,← hsz] at PM2 E2 GD2;clear hll hsz l2 s2;have PM:=PM2;have G:=G2;have E:=E2;have GD:=GD2;clear PM2 G2 E2 GD2;clear x0 x1 x2 x3 x4;obtain ⟨⟨x0,x1,x2,x3,x4⟩,-⟩:=jam (BX.out w11 G.out);have C:=jac (jc5 lo B ll sz 3 n.name w11 PM.out GD.out.1 (by have h:=GD.out.2.1;simp only at h;omega) (by omega));go_wp2_with fail
        cases hp:ja6 (ll,sz) 3 n.name with
        | error er =>
         have E2:Hid (jaE (jdO n q)=.error er):=by show _=_;rw [E.out,hp];rfl
         rw [hp] at C;clear hp;refine C.out.mono ?_;rintro e w12 ⟨ha,rfl⟩;exact ⟨rfl,jad E2.out (jaa GB.out (Abv.grown G.out LO.out ha))⟩
        | ok m' =>
         obtain ⟨l2,s2⟩:=m';have E2:Hid (jaE (jdO n q)=(ja6 (l2,s2) 4 n.op).bind fun m=>(jaS jao 5 m (List.zipWith jbC q.xs q.cs)).bind fun m=>wrP m.1):=by show _=_;rw [E.out,hp];rfl
         have GD2:=jac (jeM hp GD.out (by decide) (by omega));rw [hp] at C;clear hp;refine C.out.mono ?_;rintro e w12 ⟨ha,v,rfl,rfl,hq⟩;have PM2:=jac hq;have G2:=jac (Abv.grown G.out LO.out ha);clear ha hq C PM G E GD;obtain ⟨ll,hll⟩ : ∃ x,x=l2:=⟨_,rfl⟩
         obtain ⟨sz,hsz⟩ : ∃ x,x=s2:=⟨_,rfl⟩
         rw [← hll,← hsz] at PM2 E2 GD2;clear hll hsz l2 s2;have PM:=PM2;have G:=G2;have E:=E2;have GD:=GD2;clear PM2 G2 E2 GD2;clear x0 x1 x2 x3 x4;obtain ⟨⟨x0,x1,x2,x3,x4⟩,-⟩:=jam (BX.out w12 G.out);have C:=jac (jc5 lo B ll sz 4 n.op w12 PM.out GD.out.1 (by have h:=GD.out.2.1;simp only at h;omega) (by omega));go_wp2_with fail
         cases hp:ja6 (ll,sz) 4 n.op with
         | error er =>
          have E2:Hid (jaE (jdO n q)=.error er):=by show _=_;rw [E.out,hp];rfl
          rw [hp] at C;clear hp;refine C.out.mono ?_;rintro e w13 ⟨ha,rfl⟩;exact ⟨rfl,jad E2.out (jaa GB.out (Abv.grown G.out LO.out ha))⟩
         | ok m' =>
          obtain ⟨l2,s2⟩:=m';have E2:Hid (jaE (jdO n q)=(jaS jao 5 (l2,s2) (List.zipWith jbC q.xs q.cs)).bind fun m=>wrP m.1):=by show _=_;rw [E.out,hp];rfl
          have GD2:=jac (jeM hp GD.out (by decide) (by omega));rw [hp] at C;clear hp;refine C.out.mono ?_;rintro e w13 ⟨ha,v,rfl,rfl,hq⟩;have PM2:=jac hq;have G2:=jac (Abv.grown G.out LO.out ha);clear ha hq C PM G E GD;obtain ⟨ll,hll⟩ : ∃ x,x=l2:=⟨_,rfl⟩
          obtain ⟨sz,hsz⟩ : ∃ x,x=s2:=⟨_,rfl⟩
          rw [← hll,← hsz] at PM2 E2 GD2;clear hll hsz l2 s2;have PM:=PM2;have G:=G2;have E:=E2;have GD:=GD2;clear PM2 G2 E2 GD2;clear x0 x1 x2 x3 x4;obtain ⟨⟨x0,x1,x2,x3,x4⟩,-⟩:=jam (BX.out w13 G.out);go_wp2;clear x0 x1 x2 x3 x4;go_loopg [30] q.xs.length (fun gh iv wr=>∃ (k:Nat) (ll:List Fld) (sz:Nat),gh=q.xs.length - k∧k≤q.xs.length∧iv=.int .i64 k∧jda wr lo B ll sz∧wb.grownBy wr none∧jaE (jdO n q)=((jaS jao 5 (ll,sz) ((List.zipWith jbC q.xs q.cs).drop k)).bind fun m=>wrP m.1)∧Gd (ll,sz) (1000010+k))
          case atStart=>exact ⟨0,ll,sz,rfl,Nat.zero_le _,rfl,PM.out,G.out,by rw [List.drop_zero];exact E.out,GD.out.le (by omega)⟩
          case round =>
           clear PM G E GD;obtain ⟨k,ll,sz,rfl,hk,rfl,hpm,hg,he,hgd⟩:=hrel;have PM:=jac hpm;have G:=jac hg;have E:=jac he;have GD:=jac hgd;clear hpm hg he hgd
           by_cases hlt:k<q.xs.length
           ·skip
            obtain ⟨xb,xo,rfl⟩:=(HA.out.more (jaa GB.out G.out)).addr hlt;obtain ⟨e0,e1,e2,e3,e4,e5,e6,e7,e8⟩:=jlf (HA.out.more (jaa GB.out G.out)) k hlt;obtain ⟨cx,hcx,hasx⟩:=HH.out k q.xs[k] (List.getElem?_eq_getElem hlt);have BA:=jac (hsa q.xs[k] (List.getElem_mem hlt));have BC:=jac (hsc cx (List.mem_of_getElem? hcx));have DS:=jmo (List.getElem?_eq_getElem hlt) hcx;obtain ⟨x,hx⟩ : ∃ x,x=q.xs[k]:=⟨_,rfl⟩
            rw [← hx] at e0 e1 e2 e3 e4 e5 e6 e7 e8 hasx BA DS;have HX:=jac (hasx.more (jaa GB.out G.out));clear hx hcx hasx;have E1:Hid (jaE (jdO n q)=((jao (jbC x cx)).bind fun s=>(jbf (ll,sz) (ja0 5 s)).bind fun m=>jaS jao 5 m ((List.zipWith jbC q.xs q.cs).drop (k+1))).bind fun m=>wrP m.1):=by show _=_;rw [E.out,DS];rfl
            have gd:=jab wr (.cells #[.string x.name,.int .i64 x.kind,.int .i64 x.f,.int .i64 x.i,.string x.s,.int .i64 x.ty,.slice x.dv.a x.dv.n x.dv.c,.slice x.tv.a x.tv.n x.tv.c,.slice x.iv.a x.iv.n x.iv.c] 78);obtain ⟨⟨y0,y1,y2,y3,y4,y5,y6,y7,y8⟩,-⟩:=jau (heap_alloc_new wr (.cells #[.string x.name,.int .i64 x.kind,.int .i64 x.f,.int .i64 x.i,.string x.s,.int .i64 x.ty,.slice x.dv.a x.dv.n x.dv.c,.slice x.tv.a x.tv.n x.tv.c,.slice x.iv.a x.iv.n x.iv.c] 78));clear DS E;have E:=E1;clear E1;go_wp2_with fail;obtain ⟨wn,hwn⟩ : ∃ y9,y9=wr.alloc (.cells #[.string x.name,.int .i64 x.kind,.int .i64 x.f,.int .i64 x.i,.string x.s,.int .i64 x.ty,.slice x.dv.a x.dv.n x.dv.c,.slice x.tv.a x.tv.n x.tv.c,.slice x.iv.a x.iv.n x.iv.c] 78):=⟨_,rfl⟩
            rw [← hwn] at gd ⊢;have gd2:=jac gd;have PM1:=jac (PM.out.more gd);have G1:=jac (jaa G.out gd);clear hwn gd PM G e0 e1 e2 e3 e4 e5 e6 e7 e8 y0 y1 y2 y3 y4 y5 y6 y7 y8;have PM:=PM1;have G:=G1;clear PM1 G1;have C0:=jac (jhy x cx wn (HX.out.more gd2.out) BA.out.1 BA.out.2 BC.out.1 BC.out.2.1 BC.out.2.2)
            cases hf:jao (jbC x cx) with
            | error er =>
             have E2:Hid (jaE (jdO n q)=.error er):=by show _=_;rw [E.out,hf];rfl
             rw [hf] at C0;clear hf;refine C0.out.mono ?_;rintro e wf ⟨hg,rfl⟩;exact ⟨rfl,jad E2.out (jaa GB.out (jaa G.out hg))⟩
            | ok tx =>
             have E2:Hid (jaE (jdO n q)=((jbf (ll,sz) (ja0 5 tx)).bind fun m=>jaS jao 5 m ((List.zipWith jbC q.xs q.cs).drop (k+1))).bind fun m=>wrP m.1):=by show _=_;rw [E.out,hf];rfl
             have TS:=jac (jok _ _ hf);rw [hf] at C0;clear hf E;have E:=E2;clear E2;refine C0.out.mono ?_;rintro e wf ⟨hg,v,rfl,rfl⟩;have PM1:=jac (PM.out.more hg);have G1:=jac (jaa G.out hg);clear hg C0 PM G;have PM:=PM1;have G:=G1;clear PM1 G1;have C:=jac (jbs lo B ll sz 5 tx wf PM.out GD.out.1 (by have h:=GD.out.2.1;simp only at h;omega) (by have:=TS.out;omega));go_wp2_with fail
             cases hp:jbf (ll,sz) (ja0 5 tx) with
             | error er =>
              have E2:Hid (jaE (jdO n q)=.error er):=by show _=_;rw [E.out,hp];rfl
              rw [hp] at C;clear hp;refine C.out.mono ?_;rintro e w4 ⟨ha,rfl⟩;exact ⟨rfl,jad E2.out (jaa GB.out (Abv.grown G.out LO.out ha))⟩
             | ok m' =>
              obtain ⟨l2,s2⟩:=m';have E2:Hid (jaE (jdO n q)=(jaS jao 5 (l2,s2) ((List.zipWith jbC q.xs q.cs).drop (k+1))).bind fun m=>wrP m.1):=by show _=_;rw [E.out,hp];rfl
              have GD2:=jac (jcC hp GD.out (jbM _ _ (by decide) (by have:=TS.out;omega)));rw [hp] at C;clear hp;refine C.out.mono ?_;rintro e w4 ⟨ha,v,rfl,rfl,hq⟩;have PM2:=jac hq;have G2:=jac (Abv.grown G.out LO.out ha);clear ha hq C PM G E GD;obtain ⟨ll,hll⟩ : ∃ x,x=l2:=⟨_,rfl⟩
              obtain ⟨sz,hsz⟩ : ∃ x,x=s2:=⟨_,rfl⟩
              rw [← hll,← hsz] at PM2 E2 GD2;clear hll hsz l2 s2;have PM:=PM2;have G:=G2;have E:=E2;have GD:=GD2;clear PM2 G2 E2 GD2;go_wp2_with fail;go_roundg (q.xs.length - (k+1))
              case measure=>omega
              case rel=>exact ⟨k+1,ll,sz,rfl,by omega,by go_num,PM.out,G.out,E.out,GD.out⟩
           ·obtain hkN:k=q.xs.length:=by omega
            have E2:Hid (jaE (jdO n q)=wrP (ll,sz).1):=by show _=_;rw [E.out,List.drop_eq_nil_of_le (by have:=hkN;simp only [List.length_zipWith];omega)];rfl
            clear E;have E:=E2;clear E2;have C:=jac (jbz lo B ll sz wr PM.out (by have h:=GD.out.2.1;simp only at h;omega) GD.out.2.2);go_wp2_with fail
            cases hp:wrP ll with
            | error er =>
             have E2:Hid (jaE (jdO n q)=.error er):=by show _=_;rw [E.out,hp]
             rw [hp] at C;clear hp;refine C.out.mono ?_;rintro e wz ⟨hg,rfl⟩;exact ⟨rfl,jad E2.out (jaa GB.out (jaa G.out hg))⟩
            | ok s =>
             have E2:Hid (jaE (jdO n q)=.ok s):=by show _=_;rw [E.out,hp]
             rw [hp] at C;clear hp;refine C.out.mono ?_;rintro e wz ⟨hg,v,rfl,rfl⟩;have GZ:=jac (jaa GB.out (jaa G.out hg));clear hg;go_wp2;go_ret;exact jaI E2.out GZ.out rfl
end Go.Proofs.YtbgbpfbjeleooaaGreat.Pd
