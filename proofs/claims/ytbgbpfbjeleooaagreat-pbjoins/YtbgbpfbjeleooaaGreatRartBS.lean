/- A part. -/
import Derived.Test.YtbgbpfbjeleooaaGreatRartBQ
import Derived.Test.YtbgbpfbjeleooaaGreatRartAT
import Derived.Test.YtbgbpfbjeleooaaGreatRartAW
set_option maxHeartbeats 6400000
set_option maxRecDepth 100000
namespace Go.Proofs.YtbgbpfbjeleooaaGreat.Pd
open Go.RowKit
theorem jb4 {w:World} {s:Sl} {zs:List Int} (h:jaj w s.v zs):s.n=zs.length:=by
 obtain ⟨a,c,e,-⟩:=h;exact (Value.slice.inj e).2.1
theorem jkh {a b:ByteArray} (h:a.toList=b.toList):a=b:=by
 rw [ByteArray.toList_eq,ByteArray.toList_eq] at h;exact ByteArray.ext (Array.toList_inj.1 h)
theorem jcR (nm:ByteArray) (kd ff ii ty gf gi gy:Int) (ss gs:ByteArray) (da ta va ea ua xa:Option Addr) (dn dc tn tc vn vc en ec un uc xn xc:Nat) (ca ct ci da' dt' di:List Int) (w:World) (ha:Has w ⟨nm,kd,ff,ii,ss,ty,⟨da,dn,dc⟩,⟨ta,tn,tc⟩,⟨va,vn,vc⟩⟩ ⟨ca,ct,ci⟩) (hb:Has w ⟨nm,kd,gf,gi,gs,gy,⟨ea,en,ec⟩,⟨ua,un,uc⟩,⟨xa,xn,xc⟩⟩ ⟨da',dt',di⟩) :
    Calls Tryz.prog 63 #[.agg #[.string nm,.int .i64 kd,.int .i64 ff,.int .i64 ii,.string ss,.int .i64 ty,.slice da dn dc,.slice ta tn tc,.slice va vn vc],.agg #[.string nm,.int .i64 kd,.int .i64 gf,.int .i64 gi,.string gs,.int .i64 gy,.slice ea en ec,.slice ua un uc,.slice xa xn xc]] w fun e w'=>e=.returned (.bool (decide (ff=gf)&&(decide (ii=gi)&&(decide (ss=gs)&&((decide (ty=gy)&&(decide (ca=da')&&decide (ct=dt')))&&decide (ci=di))))))∧w.grownBy w' none:=by
     obtain ⟨hd,ht,hi⟩:=ha;obtain ⟨kd',kt,ki⟩:=hb;have vn0:=jac (jb4 hi);have xn0:=jac (jb4 ki);simp only [Sl.v] at hd ht hi kd' kt ki vn0 xn0;obtain ⟨w0,hw0⟩ : ∃ w0,w0=(w.alloc (.cells #[.string nm,.int .i64 kd,.int .i64 ff,.int .i64 ii,.string ss,.int .i64 ty,.slice da dn dc,.slice ta tn tc,.slice va vn vc] 78)).alloc (.cells #[.string nm,.int .i64 kd,.int .i64 gf,.int .i64 gi,.string gs,.int .i64 gy,.slice ea en ec,.slice ua un uc,.slice xa xn xc] 78):=⟨_,rfl⟩
     have g0:w.grownBy w0 none:=by rw [hw0];exact jaa (jab _ _) (jab _ _)
     have ST:=jac (ji3 ty gy (.slice da dn dc) (.slice ta tn tc) (.slice ea en ec) (.slice ua un uc) ca ct da' dt' w0 (hd.more g0) (ht.more g0) (kd'.more g0) (kt.more g0));have vb:vn≤140737488351232:=by obtain ⟨a,c,e,h1,h2,h3,-⟩:=hi;have:=(Value.slice.inj e).2.1;omega
     have HI:=jac hi;have HJ:=jac ki;clear hd ht hi kd' kt ki;obtain ⟨R0,hR0⟩ : ∃ r,r=(decide (ff=gf)&&(decide (ii=gi)&&(decide (ss=gs)&&((decide (ty=gy)&&(decide (ca=da')&&decide (ct=dt')))&&decide (ci=di))))):=⟨_,rfl⟩
     rw [← hR0];have HR:=jac hR0;clear hR0;have hbx:=jbl w (.cells #[.string nm,.int .i64 kd,.int .i64 ff,.int .i64 ii,.string ss,.int .i64 ty,.slice da dn dc,.slice ta tn tc,.slice va vn vc] 78) (.cells #[.string nm,.int .i64 kd,.int .i64 gf,.int .i64 gi,.string gs,.int .i64 gy,.slice ea en ec,.slice ua un uc,.slice xa xn xc] 78);have hbx0:=hbx;rw [← hw0] at hbx;have B1:Hid (∀ wx,w0.grownBy wx none→wx.heap[w.heap.size]?=some (.cells #[.string nm,.int .i64 kd,.int .i64 ff,.int .i64 ii,.string ss,.int .i64 ty,.slice da dn dc,.slice ta tn tc,.slice va vn vc] 78 (0,0))):=fun wx hg=>jag hbx.1 hg;have B2:Hid (∀ wx,w0.grownBy wx none→wx.heap[w.heap.size+1]?=some (.cells #[.string nm,.int .i64 kd,.int .i64 gf,.int .i64 gi,.string gs,.int .i64 gy,.slice ea en ec,.slice ua un uc,.slice xa xn xc] 78 (0,0))):=fun wx hg=>jag hbx.2 hg;obtain ⟨⟨a0,a1,a2,a3,a4,a5,a6,a7,a8⟩,-⟩:=jau hbx0.1;obtain ⟨⟨b0,b1,b2,b3,b4,b5,b6,b7,b8⟩,-⟩:=jau hbx0.2;have G0:=jac g0;clear hbx hbx0 g0
     by_cases hf:ff=gf
     ·subst hf
      by_cases hi:ii=gi
      ·subst hi
       by_cases hs:ss=gs
       ·subst hs;go_enter Tryz.func63,Tryz.ntmps63;go_wp2_with fail;rw [← hw0];clear hw0 a0 a1 a2 a3 a4 a5 a6 a7 a8 b0 b1 b2 b3 b4 b5 b6 b7 b8;refine ST.out.mono ?_;rintro e w1 ⟨rfl,hg1⟩;have G1:=jac hg1;clear hg1 ST;obtain ⟨⟨a0,a1,a2,a3,a4,a5,a6,a7,a8⟩,-⟩:=jau (B1.out w1 G1.out);obtain ⟨⟨b0,b1,b2,b3,b4,b5,b6,b7,b8⟩,-⟩:=jau (B2.out w1 G1.out);obtain ⟨P,hP⟩ : ∃ P,P=(decide (ty=gy)&&(decide (ca=da')&&decide (ct=dt'))):=⟨_,rfl⟩
        rw [← hP];have HR2:Hid (R0=(P&&decide (ci=di))):=by show _=_;rw [HR.out,hP];simp
        clear HR hP
        cases P with
        | false =>
         have E2:Hid (R0=false):=by show _=_;rw [HR2.out];rfl
         clear HR2;go_wp2_with fail;go_ret;exact ⟨congrArg (fun b=>Ending.returned (Value.bool b)) E2.out.symm,jaa G0.out G1.out⟩
        | true =>
         have E:Hid (R0=decide (ci.drop 0=di.drop 0)):=by show _=_;rw [HR2.out];simp
         by_cases hl:vn=xn
         ·subst hl;have HN:Hid (ci.length=vn):=jac vn0.out.symm;have HM:Hid (di.length=vn):=jac xn0.out.symm;clear HR2 vn0 xn0;go_wp2_with fail;clear a0 a1 a2 a3 a4 a5 a6 a7 a8 b0 b1 b2 b3 b4 b5 b6 b7 b8;go_loopg [5] vn (fun gh iv wr=>∃ k:Nat,gh=vn - k∧k≤vn∧iv=.int .i64 k∧w0.grownBy wr none∧R0=decide (ci.drop k=di.drop k))
          case atStart=>exact ⟨0,rfl,Nat.zero_le _,rfl,G1.out,E.out⟩
          case round =>
           clear E G1;obtain ⟨k,rfl,hk,rfl,hg,he⟩:=hrel;have G:=jac hg;have E:=jac he;clear hg he;obtain ⟨⟨a0,a1,a2,a3,a4,a5,a6,a7,a8⟩,-⟩:=jau (B1.out wr G.out);obtain ⟨⟨b0,b1,b2,b3,b4,b5,b6,b7,b8⟩,-⟩:=jau (B2.out wr G.out)
           by_cases hlt:k<vn
           ·have l1:k<ci.length:=by rw [HN.out];exact hlt
            have l2:k<di.length:=by rw [HM.out];exact hlt
            obtain ⟨zb,zo,rfl,x0⟩:=jbD (HI.out.more (jaa G0.out G.out)) l1;obtain ⟨yb,yo,rfl,y0⟩:=jbD (HJ.out.more (jaa G0.out G.out)) l2;have DS:=jgx l1 l2;obtain ⟨X,hX⟩ : ∃ X,X=ci.getD k 0:=⟨_,rfl⟩
            obtain ⟨Y,hY⟩ : ∃ Y,Y=di.getD k 0:=⟨_,rfl⟩
            rw [← hX] at x0 DS;rw [← hY] at y0 DS;clear hX hY l1 l2
            by_cases e:X=Y
            ·subst e;have E2:Hid (R0=decide (ci.drop (k+1)=di.drop (k+1))):=by show _=_;rw [E.out,DS];simp
             clear E DS;go_wp2_with (go_region)
             all_goals
              go_wp2_with fail;go_roundg (vn - (k+1))
              case measure=>omega
              case rel=>exact ⟨k+1,rfl,by omega,by go_num,jaz G.out,E2.out⟩
            ·have E2:Hid (R0=false):=by show _=_;rw [E.out,DS,decide_eq_false e];rfl
             have d:(X==Y)=false:=by simpa using e
             clear E DS e;go_wp2_with (go_region)
             all_goals
              go_wp2_with fail;go_ret;exact ⟨congrArg (fun b=>Ending.returned (Value.bool b)) E2.out.symm,jaa G0.out (jaz G.out)⟩
           ·obtain rfl:k=vn:=by omega
            have E2:Hid (R0=true):=by show _=_;rw [E.out,List.drop_eq_nil_of_le (Nat.le_of_eq HN.out),List.drop_eq_nil_of_le (Nat.le_of_eq HM.out)];rfl
            clear E;go_wp2_with fail;go_ret;exact ⟨congrArg (fun b=>Ending.returned (Value.bool b)) E2.out.symm,jaa G0.out G.out⟩
         ·have E2:Hid (R0=false):=by show _=_;rw [HR2.out,decide_eq_false (fun e=>hl (by rw [vn0.out,xn0.out,e]):¬ ci=di)];rfl
          have dl:((vn:Int) != (xn:Int))=true:=by simp;omega
          clear HR2 hl E;go_wp2_with fail;go_ret;exact ⟨congrArg (fun b=>Ending.returned (Value.bool b)) E2.out.symm,jaa G0.out G1.out⟩
       ·skip
        have E2:Hid (R0=false):=by show _=_;rw [HR.out,decide_eq_false hs];simp
        have d:(ss.toList==gs.toList)=false:=by rw [beq_eq_false_iff_ne];exact fun e=>hs (jkh e)
        have d2:(ss.toList != gs.toList)=true:=by unfold bne;rw [d];rfl
        clear HR hs ;rw [hw0] at G0;go_enter Tryz.func63,Tryz.ntmps63;go_wp2_with fail;go_ret;exact ⟨congrArg (fun b=>Ending.returned (Value.bool b)) E2.out.symm,G0.out⟩
      ·skip
       have E2:Hid (R0=false):=by show _=_;rw [HR.out,decide_eq_false hi];simp
       have d:(ii==gi)=false:=by simpa using hi
       have d2:(ii != gi)=true:=by simpa using hi
       clear HR hi ;rw [hw0] at G0;go_enter Tryz.func63,Tryz.ntmps63;go_wp2_with fail;go_ret;exact ⟨congrArg (fun b=>Ending.returned (Value.bool b)) E2.out.symm,G0.out⟩
     ·skip
      have E2:Hid (R0=false):=by show _=_;rw [HR.out,decide_eq_false hf];simp
      have d:(ff==gf)=false:=by simpa using hf
      have d2:(ff != gf)=true:=by simpa using hf
      clear HR hf ;rw [hw0] at G0;go_enter Tryz.func63,Tryz.ntmps63;go_wp2_with fail;go_ret;exact ⟨congrArg (fun b=>Ending.returned (Value.bool b)) E2.out.symm,G0.out⟩
end Go.Proofs.YtbgbpfbjeleooaaGreat.Pd
namespace Go.Proofs.YtbgbpfbjeleooaaGreat.Pd
open Go.RowKit
theorem jmH (g:Gra) (w:World) (hn:g.nv.n≤140737488351232) (hi:g.iv.n≤140737488351232) (ht:g.tv.n≤140737488351232) :
    Calls Tryz.prog 28 #[jcM g] w fun e w'=>e=.returned (.bool (!jas [g.name]&&!jcu g.nv.n g.iv.n g.ov.n g.tv.n))∧w.grownBy w' none:=by
     obtain ⟨nm,⟨na,nn,nc⟩,⟨ia,iN,ic⟩,⟨oa,oN,oc⟩,⟨ta,tN,tc⟩⟩:=g;unfold jcM;simp only at hn hi ht ⊢;obtain ⟨R0,hR0⟩ : ∃ r,r=(!jas [nm]&&!jcu nn iN oN tN):=⟨_,rfl⟩
     rw [← hR0];have HR:=jac hR0;clear hR0;have hb:=heap_alloc_new w (.cells #[.string nm,.slice na nn nc,.slice ia iN ic,.slice oa oN oc,.slice ta tN tc] 27);have gg:=jac (jab w (.cells #[.string nm,.slice na nn nc,.slice ia iN ic,.slice oa oN oc,.slice ta tN tc] 27));obtain ⟨⟨x0,x1,x2,x3,x4⟩,-⟩:=jam hb;have e1:wrap64 ((iN:Int)+(tN:Int))=((iN+tN:Nat):Int):=by unfold wrap64;omega
     have e2:wrap64 (((iN+tN:Nat):Int)+(nn:Int))=((iN+tN+nn:Nat):Int):=by unfold wrap64;omega
     clear hb
     by_cases c1:nm.size≤100
     ·have dc1:decide ((nm.size:Int)≤100)=true:=decide_eq_true (by omega)
      by_cases c2:nn≤1000
      ·have dc2:decide ((nn:Int)≤1000)=true:=decide_eq_true (by omega)
       by_cases c3:iN+tN+nn≤3000
       ·have dc3:decide ((iN:Int)+(tN:Int)+(nn:Int)≤3000)=true:=decide_eq_true (by omega)
        by_cases c4:oN≤3000
        ·have dc4:decide ((oN:Int)≤3000)=true:=decide_eq_true (by omega);have E:Hid (R0=true):=by show _=_;rw [HR.out];simp only [jas,jcu];simp;omega
         clear HR c1 c2 c3 c4;go_enter Tryz.func28,Tryz.ntmps28;go_wp2_with fail;go_ret;exact ⟨congrArg (fun b=>Ending.returned (Value.bool b)) E.out.symm,gg.out⟩
        ·have dc4:decide ((oN:Int)≤3000)=false:=decide_eq_false (by omega);have E:Hid (R0=false):=by show _=_;rw [HR.out,Bool.eq_false_iff];intro hh;simp only [jas,jcu] at hh;simp at hh;omega
         clear HR c4 c1 c2 c3;go_enter Tryz.func28,Tryz.ntmps28;go_wp2_with fail;go_ret;exact ⟨congrArg (fun b=>Ending.returned (Value.bool b)) E.out.symm,gg.out⟩
       ·have dc3:decide ((iN:Int)+(tN:Int)+(nn:Int)≤3000)=false:=decide_eq_false (by omega);have E:Hid (R0=false):=by show _=_;rw [HR.out,Bool.eq_false_iff];intro hh;simp only [jas,jcu] at hh;simp at hh;omega
        clear HR c3 c1 c2;go_enter Tryz.func28,Tryz.ntmps28;go_wp2_with fail;go_ret;exact ⟨congrArg (fun b=>Ending.returned (Value.bool b)) E.out.symm,gg.out⟩
      ·have dc2:decide ((nn:Int)≤1000)=false:=decide_eq_false (by omega);have E:Hid (R0=false):=by show _=_;rw [HR.out,Bool.eq_false_iff];intro hh;simp only [jas,jcu] at hh;simp at hh;omega
       clear HR c2 c1;go_enter Tryz.func28,Tryz.ntmps28;go_wp2_with fail;go_ret;exact ⟨congrArg (fun b=>Ending.returned (Value.bool b)) E.out.symm,gg.out⟩
     ·have dc1:decide ((nm.size:Int)≤100)=false:=decide_eq_false (by omega);have E:Hid (R0=false):=by show _=_;rw [HR.out,Bool.eq_false_iff];intro hh;simp only [jas,jcu] at hh;simp at hh;omega
      clear HR c1;go_enter Tryz.func28,Tryz.ntmps28;go_wp2_with fail;go_ret;exact ⟨congrArg (fun b=>Ending.returned (Value.bool b)) E.out.symm,gg.out⟩
def jg5 (n:Nod) (ins:List ByteArray) (xl:Nat):Bool:=!jas ins&&(!jas [n.out,n.name,n.op]&&(decide (ins.length≤20)&&decide (xl≤20)))
theorem jki (n:Nod) (ins:List ByteArray) (w:World) (hi:jgL w n.iv.v ins) :
    Calls Tryz.prog 39 #[jgJ n] w fun e w'=>e=.returned (.bool (jg5 n ins n.av.n))∧w.grownBy w' none:=by
     obtain ⟨op,nm,iv,out,⟨aa,xl,ac⟩⟩:=n;simp only at hi;obtain ⟨ia,ic,e1,i1,i2,-⟩:=hi.form;have hNI:ins.length≤9223372036854775807:=by omega
     have HI:=jac hi;unfold jgJ;simp only [Sl.v,Value.slice.injEq] at e1;obtain ⟨e1a,e1b,e1c⟩:=e1;simp only [Sl.v] at HI ⊢;rw [e1a,e1b,e1c] at HI ⊢;obtain ⟨R0,hR0⟩ : ∃ r,r=jg5 ⟨op,nm,iv,out,⟨aa,xl,ac⟩⟩ ins xl:=⟨_,rfl⟩
     rw [← hR0];have E:Hid (R0=(!jas (ins.drop 0)&&(!jas [out,nm,op]&&(decide (ins.length≤20)&&decide (xl≤20))))):=hR0;clear e1a e1b e1c hi i1 i2 hR0;obtain ⟨w0,hw0⟩ : ∃ y9,y9=w.alloc (.cells #[.string op,.string nm,.slice ia ins.length ic,.string out,.slice aa xl ac] 35):=⟨_,rfl⟩
     have hb:w0.heap[w.heap.size]?=some (.cells #[.string op,.string nm,.slice ia ins.length ic,.string out,.slice aa xl ac] 35 (0,0)):=by rw [hw0];exact heap_alloc_new _ _
     have G0:Hid (w.grownBy w0 none):=by show w.grownBy w0 none;rw [hw0];exact jab _ _
     have BX:Hid (∀ wx,w0.grownBy wx none→wx.heap[w.heap.size]?=some (.cells #[.string op,.string nm,.slice ia ins.length ic,.string out,.slice aa xl ac] 35 (0,0))):=fun wx hg=>jag hb hg;clear hb;go_enter Tryz.func39,Tryz.ntmps39;go_wp2_with fail;rw [← hw0];clear hw0;go_loopg [3] ins.length (fun gh iv wr=>∃ k:Nat,gh=ins.length - k∧k≤ins.length∧iv=.int .i64 k∧w0.grownBy wr none∧R0=(!jas (ins.drop k)&&(!jas [out,nm,op]&&(decide (ins.length≤20)&&decide (xl≤20)))))
     case atStart=>exact ⟨0,rfl,Nat.zero_le _,rfl,jae _,E.out⟩
     case round =>
      clear E;obtain ⟨k,rfl,hk,rfl,hg,he⟩:=hrel;have G:=jac hg;have E:=jac he;clear hg he;obtain ⟨⟨x0,x1,x2,x3,x4⟩,-⟩:=jam (BX.out wr G.out)
      by_cases hlt:k<ins.length
      ·obtain ⟨xb,xo,rfl⟩:=(HI.out.more (jaa G0.out G.out)).addr (k:=k) hlt;have NC:wr.cell? ⟨xb,xo+k,none⟩=some (.string ins[k]):=by simpa [jgD] using (HI.out.more (jaa G0.out G.out)).at k hlt 0 (by decide)
       have DS:=List.drop_eq_getElem_cons hlt;obtain ⟨p,hp⟩ : ∃ p,p=ins[k]:=⟨_,rfl⟩
       rw [← hp] at NC DS;clear hp
       by_cases c:p.size≤100
       ·have d:decide ((100:Int)<(p.size:Int))=false:=decide_eq_false (by omega)
        have E2:Hid (R0=(!jas (ins.drop (k+1))&&(!jas [out,nm,op]&&(decide (ins.length≤20)&&decide (xl≤20))))):=by
         show _=_;rw [E.out,DS];have:jas (p::ins.drop (k+1))=jas (ins.drop (k+1)):=by simp only [jas,List.any_cons];simp;omega
         rw [this]
        clear E DS c;go_wp2_with fail;go_roundg (ins.length - (k+1))
        case measure=>omega
        case rel=>exact ⟨k+1,rfl,by omega,by go_num,G.out,E2.out⟩
       ·have d:decide ((100:Int)<(p.size:Int))=true:=decide_eq_true (by omega)
        have E2:Hid (R0=false):=by
         show _=_;rw [E.out,DS];have:jas (p::ins.drop (k+1))=true:=by simp only [jas,List.any_cons];simp;omega
         rw [this];rfl
        clear E DS c;go_wp2_with fail;go_ret;exact ⟨congrArg (fun b=>Ending.returned (Value.bool b)) E2.out.symm,jaa G0.out G.out⟩
      ·obtain rfl:k=ins.length:=by omega
       have HR:Hid (R0=(!jas [out,nm,op]&&(decide (ins.length≤20)&&decide (xl≤20)))):=by show _=_;rw [E.out,List.drop_eq_nil_of_le (Nat.le_refl _)];rfl
       clear E
       by_cases c1:out.size≤100
       ·have dc1:decide ((out.size:Int)≤100)=true:=decide_eq_true (by omega)
        by_cases c2:nm.size≤100
        ·have dc2:decide ((nm.size:Int)≤100)=true:=decide_eq_true (by omega)
         by_cases c3:op.size≤100
         ·have dc3:decide ((op.size:Int)≤100)=true:=decide_eq_true (by omega)
          by_cases c4:ins.length≤20
          ·have dc4:decide ((ins.length:Int)≤20)=true:=decide_eq_true (by omega)
           by_cases c5:xl≤20
           ·have dc5:decide ((xl:Int)≤20)=true:=decide_eq_true (by omega);have E:Hid (R0=true):=by show _=_;rw [HR.out];simp only [jas];simp;omega
            clear HR c1 c2 c3 c4 c5;go_wp2_with fail;go_ret;exact ⟨congrArg (fun b=>Ending.returned (Value.bool b)) E.out.symm,jaa G0.out G.out⟩
           ·have dc5:decide ((xl:Int)≤20)=false:=decide_eq_false (by omega);have E:Hid (R0=false):=by show _=_;rw [HR.out,Bool.eq_false_iff];intro hh;simp only [jas] at hh;simp at hh;omega
            clear HR c5 c1 c2 c3 c4;go_wp2_with fail;go_ret;exact ⟨congrArg (fun b=>Ending.returned (Value.bool b)) E.out.symm,jaa G0.out G.out⟩
          ·have dc4:decide ((ins.length:Int)≤20)=false:=decide_eq_false (by omega);have E:Hid (R0=false):=by show _=_;rw [HR.out,Bool.eq_false_iff];intro hh;simp only [jas] at hh;simp at hh;omega
           clear HR c4 c1 c2 c3;go_wp2_with fail;go_ret;exact ⟨congrArg (fun b=>Ending.returned (Value.bool b)) E.out.symm,jaa G0.out G.out⟩
         ·have dc3:decide ((op.size:Int)≤100)=false:=decide_eq_false (by omega);have E:Hid (R0=false):=by show _=_;rw [HR.out,Bool.eq_false_iff];intro hh;simp only [jas] at hh;simp at hh;omega
          clear HR c3 c1 c2;go_wp2_with fail;go_ret;exact ⟨congrArg (fun b=>Ending.returned (Value.bool b)) E.out.symm,jaa G0.out G.out⟩
        ·have dc2:decide ((nm.size:Int)≤100)=false:=decide_eq_false (by omega);have E:Hid (R0=false):=by show _=_;rw [HR.out,Bool.eq_false_iff];intro hh;simp only [jas] at hh;simp at hh;omega
         clear HR c2 c1;go_wp2_with fail;go_ret;exact ⟨congrArg (fun b=>Ending.returned (Value.bool b)) E.out.symm,jaa G0.out G.out⟩
       ·have dc1:decide ((out.size:Int)≤100)=false:=decide_eq_false (by omega);have E:Hid (R0=false):=by show _=_;rw [HR.out,Bool.eq_false_iff];intro hh;simp only [jas] at hh;simp at hh;omega
        clear HR c1;go_wp2_with fail;go_ret;exact ⟨congrArg (fun b=>Ending.returned (Value.bool b)) E.out.symm,jaa G0.out G.out⟩
end Go.Proofs.YtbgbpfbjeleooaaGreat.Pd
