/- A part. -/
import Derived.Test.YteigfipgmghgmaaGreatDoorMVart
import Derived.Test.YteigfipgmghgmaaGreatDoorVartBM
import Derived.Test.YteigfipgmghgmaaGreatDoorVartBI
import Derived.Test.YteigfipgmghgmaaGreatDoorVartAB
import Derived.Test.YteigfipgmghgmaaGreatDoorVartAV
import Derived.Test.YteigfipgmghgmaaGreatDoorVartAT
import Derived.Test.YteigfipgmghgmaaGreatDoorVartBN
set_option maxHeartbeats 16000000
set_option maxRecDepth 100000
namespace Go.Proofs.YteigfipgmghgmaaGreatDoor
open Go.RowKit
theorem jrV:(Tryz.prog.info? 32).map (fun i=>(i.zero,i.size,i.bytes))=some (some (.agg #[.int .i64 0,.slice none 0 0,.slice none 0 0]),3,56):=by kernel_rfl
theorem jmO (t:Ten):∀ u∈jdo t,u.oneCell'=true:=by
 intro u hu;simp only [jdo,List.mem_cons,List.not_mem_nil,or_false] at hu
 rcases hu with rfl | rfl | rfl <;> rfl
theorem jkO (n:Nod) (ins:List ByteArray) (A:At) (u:Sl) (ps:List (Ten×Tq)) (a:Int) (w:World) (hl:Laid w) (hn:NodeAll w n ins A) (_hf:A.xs.length≤1048576) (_hi:ins.length≤1048576) (hv:TensIn w u.v ps) (_hvl:ps.length≤1048576) (ha1 : -9223372036854775808≤a) (ha2:a≤9223372036854775807) :
    Calls Tryz.prog 4 #[jaz n,.slice u.a u.n u.c,.int .i64 a] w fun e w'=>e=.returned (.bool true)∧Below w.heap.size w w':=by
     have LV:=jac (fun (wx:World) (hx:w.grownBy wx none)=>jpW wx (hl.more hx));have SM:=jac (fun (wx:World) (hx:w.grownBy wx none)=>jmp u _ wx (hv.more hx));have FX:=jac (fun (h6:ps.length≤6)=>jug n ins A u ps w hl hn hv (by omega));obtain ⟨w0,hw0⟩ : ∃ w0,w0=w.alloc (.cells #[.string n.op,.string n.name,.slice n.iv.a n.iv.n n.iv.c,.string n.out,.slice n.av.a n.av.n n.av.c] 25):=⟨_,rfl⟩
     have g0:Hid (w.grownBy w0 none):=by show w.grownBy w0 none;rw [hw0];exact jab _ _
     have hb0:=heap_alloc_new w (.cells #[.string n.op,.string n.name,.slice n.iv.a n.iv.n n.iv.c,.string n.out,.slice n.av.a n.av.n n.av.c] 25);rw [← hw0] at hb0;have BX:Hid (∀ wx,w0.grownBy wx none→wx.heap[w.heap.size]?=some (.cells #[.string n.op,.string n.name,.slice n.iv.a n.iv.n n.iv.c,.string n.out,.slice n.av.a n.av.n n.av.c] 25 (0,0))):=fun wx hg=>jag hb0 hg;have HV:=jac hv;have BX0:=jac (fun (wx:World) (hx:w.grownBy wx none)=>hv.more hx);clear hb0 hl hn hv;obtain ⟨ua,un,uc⟩:=u;obtain ⟨op,nam,⟨ia,il,ic⟩,out,⟨ao,al,cap⟩⟩:=n;unfold jaz;simp only at FX SM BX hw0 ⊢;have S1:=jac (SM.out w0 g0.out);clear SM;go_enter Tryz.func4,Tryz.ntmps4;go_wp2_with fail;rw [← hw0];clear hw0;refine S1.out.mono ?_;rintro e w1 ⟨bs,rfl,h6,hgs⟩;have G1:=jac (jaa g0.out hgs);have GZ:=jac hgs;obtain ⟨n0,n1,n2,n3,n4⟩:=jak (n:=⟨op,nam,⟨ia,il,ic⟩,out,⟨ao,al,cap⟩⟩) (BX.out w1 hgs);simp only at n0 n1 n2 n3 n4;clear hgs S1
     cases bs with
     | false =>
      clear h6;go_wp2_with fail;refine (LV.out w1 G1.out).mono ?_;rintro e w2 ⟨rfl,hg2⟩;go_wp2;go_ret;exact ⟨rfl,jel (jaa G1.out hg2)⟩
     | true =>
      have h6:=h6 rfl;obtain ⟨r,OO,NZ,SE⟩:=FX.out h6;unfold jaz at OO;simp only at OO;have O1:=jac (OO w1 G1.out);have HNZ:=jac NZ;have HSE:=jac SE;clear OO FX NZ SE;go_wp2_with fail;refine O1.out.mono ?_;rintro e v1 ⟨hg1,hq⟩;have V1:=jac (jaa G1.out hg1);have G1V:=jac hg1;clear hg1 O1 n0 n1 n2 n3 n4
      cases r with
      | error c =>
       obtain rfl:=hq;have hc:=HNZ.out c rfl;have hb:(c != 0)=true:=by simpa using hc
       clear hc;go_wp2_with fail;refine (LV.out _ (jaa V1.out (jab _ _))).mono ?_;rintro e w6 ⟨rfl,hg6⟩;have GF:=jac (jaa V1.out (jaa (jab _ _) hg6));clear hg6;go_wp2;go_ret;exact ⟨rfl,jel GF.out⟩
      | ok rr =>
       obtain ⟨ty,l,zs⟩:=rr;obtain ⟨⟨ty',⟨da,dn,dc⟩,⟨ta,tn,tc⟩⟩,e1,rfl,hd,ht⟩:=hq;simp only at e1;subst e1;unfold jpY;simp only at hd ht ⊢;have SC:=HSE.out ty' l zs rfl;obtain ⟨_,_,et,-⟩:=ht.ints.sl;simp only [Sl.v,Value.slice.injEq] at et;obtain ⟨-,rfl,rfl⟩:=et;obtain ⟨_,_,ed,-⟩:=hd.ints.sl;simp only [Sl.v,Value.slice.injEq] at ed;obtain ⟨-,rfl,rfl⟩:=ed;have DT:=jac ht.ints;have DD:=jac hd.ints;have z5:=ht.ints.le;have hpr:1≤jaA l:=prod_pos l (jbb SC.cnt).pos;have hzn:0<zs.length:=by have:=SC.len;omega
       have HSC:=jac SC;have HLE:=(jbb SC.cnt).le;have HFW:=(jbb SC.cnt).few;have ZL:=jac SC.len;clear hd ht SC HSE HNZ;obtain ⟨W1,hW1⟩ : ∃ W1,W1=v1.alloc (.cells #[.int .i64 ty',.slice da l.length dc,.slice ta zs.length tc] 32):=⟨_,rfl⟩
       have W1G:Hid (w.grownBy W1 none):=by show w.grownBy W1 none;rw [hW1];exact jaa V1.out (jab _ _)
       have W0G:Hid (w0.grownBy W1 none):=by show w0.grownBy W1 none;rw [hW1];exact jaa (jaa GZ.out G1V.out) (jab _ _)
       have GB1:=heap_alloc_new v1 (.cells #[.int .i64 ty',.slice da l.length dc,.slice ta zs.length tc] 32);have g1:v1.grownBy W1 none:=by rw [hW1];exact jab _ _
       rw [← hW1] at GB1;have BT:Hid (∀ wx,W1.grownBy wx none→wx.heap[v1.heap.size]?=some (.cells #[.int .i64 ty',.slice da l.length dc,.slice ta zs.length tc] 32 (0,0))):=fun wx hg=>jag GB1 hg;have DT1:=jac (DT.out.more g1);have DD1:=jac (DD.out.more g1);have hz0:((zs.length:Int)==0)=false:=by simp;intro h;rw [h] at hzn;exact absurd hzn (by decide)
       obtain ⟨AT,hAT,hATl⟩ : ∃ AT:Nat,(if a<0 then -(a+1).tmod (zs.length:Int) else a % (zs.length:Int))=(AT:Int)∧AT<zs.length:=by
        have hn:(0:Int)<(zs.length:Int):=by omega
        by_cases ha:a<0
        ·rw [if_pos ha];have e1 : -(a+1).tmod (zs.length:Int)=(-(a+1)) % (zs.length:Int):=by rw [← Int.neg_tmod,Int.tmod_eq_emod_of_nonneg (by omega)]
         rw [e1];have h1:=Int.emod_nonneg (-(a+1)) (show (zs.length:Int)≠0 by omega);have h2:=Int.emod_lt_of_pos (-(a+1)) hn;exact ⟨((-(a+1)) % (zs.length:Int)).toNat,by omega,by omega⟩
        ·rw [if_neg ha];have h1:=Int.emod_nonneg a (show (zs.length:Int)≠0 by omega);have h2:=Int.emod_lt_of_pos a hn;exact ⟨(a % (zs.length:Int)).toNat,by omega,by omega⟩
       have A1:Hid (a<0 → -(a+1).tmod (zs.length:Int)=(AT:Int)):=fun ha=>by rw [← hAT,if_pos ha]
       have A2:Hid (¬ a<0→a % (zs.length:Int)=(AT:Int)):=fun ha=>by rw [← hAT,if_neg ha]
       have HAL:=jac hATl;have RC:=jac (jhk (.slice da l.length dc) l AT W1 DD1.out (by omega) (by have:=ZL.out;omega))
       have CE:jgm l AT=0:=by
        unfold jgm;rw [if_neg (by simp [HSC.out.cnt]),if_neg (by have:=ZL.out;omega)]
       rw [show jiq l AT=jdn l AT from if_pos CE,CE] at RC;obtain ⟨CC,hCC⟩ : ∃ z,z=jdn l AT:=⟨_,rfl⟩
       rw [← hCC] at RC;have ECC:=jac hCC;obtain ⟨xa,xc,ep,p1,p2,p3⟩:=HV.out.vals.form;rw [List.length_map] at ep p1 p3;simp only [Sl.v,Value.slice.injEq] at ep;obtain ⟨rfl,rfl,rfl⟩:=ep;clear GB1 g1 DT DD hAT hATl CE hCC V1 G1 G1V p1 p2 p3;obtain ⟨i0,hi0,iz0,iz1,iz2⟩:=info_parts jrV
       rcases Decidable.em (a<0) with ha | ha
       all_goals (
       go_wp2_with fail
       first | rw [A1.out ha] | rw [A2.out ha]
       rw [← hW1];clear hW1 ha A1 A2 hzn hz0;refine RC.out.mono ?_;rintro e w2 ⟨cv,rfl,hoc,hg2⟩;obtain ⟨ca,cc,ecv,-⟩:=hoc.ints.sl;subst ecv;have OC:=jac hoc.ints;have G2:=jac hg2;clear hoc hg2 RC;go_wp2_with fail;go_loopw [11,12] (fun v i wr=>w2.grownBy wr none∧∃ (k:Nat) (va:Option Addr) (vc:Nat) (us:List (Ten×Tq)),k≤ps.length∧i=.int .i64 k∧v=.slice va k vc∧us.length=k∧us.map (·.1.ty)=(ps.take k).map (·.1.ty)∧us.map (·.2)=(ps.take k).map (fun p=>(([]:List Int),[jpQ l AT p]))∧jaW 32 3 jdo wr w2.heap.size (.slice va k vc) (us.map (·.1))∧∀ q∈us,q.1.dv=⟨none,0,0⟩∧q.2.1=[]∧jbW wr w2.heap.size q.1.tv.v q.2.2) (fun _ i _=>ps.length - (intOf i).toNat)
       case atStart=>exact ⟨jad _,0,none,0,[],Nat.zero_le _,rfl,rfl,rfl,rfl,rfl,jaW.nil ..,fun q hq=>by simp at hq⟩
       case round =>
        obtain ⟨hg,k,va,vc,us,hk,rfl,rfl,hul,hty,hus,hown,hin⟩:=hrel;have HG:=jac hg;have HUL:=jac hul;have HTY:=jac hty;have HUS:=jac hus;have HO:=jac hown;have HIN:=jac hin;clear hul hty hus hown hin;have GW:=jac (jaa W1G.out (jaa G2.out hg))
        by_cases hlt:k<ps.length
        ·obtain ⟨b,off,rfl⟩:=HV.out.vals.addr (k:=k) (by rw [List.length_map];exact hlt);have hlt':(k:Int)<(ps.length:Int):=by omega
         have AT3:Hid (∀ wx,w2.grownBy wx none→_):=fun wx hx=>(BX0.out wx (jaa W1G.out (jaa G2.out hx))).at k hlt;have HH:=jac (HV.out.has ps[k] (List.getElem_mem hlt));have AK:=HSC.out.asok ps[k] (List.getElem_mem hlt)
         have TT:Hid ((ps.take (k+1)).map (·.1.ty)=(ps.take k).map (·.1.ty)++[ps[k].1.ty]):=by
          show _=_;rw [List.take_add_one,List.map_append,List.getElem?_eq_getElem hlt]
          rfl
         have TU:Hid ((ps.take (k+1)).map (fun p=>(([]:List Int),[jpQ l AT p]))=(ps.take k).map (fun p=>(([]:List Int),[jpQ l AT p]))++[([],[jpQ l AT ps[k]])]):=by
          show _=_;rw [List.take_add_one,List.map_append,List.getElem?_eq_getElem hlt]
          rfl
         obtain ⟨p,hp⟩ : ∃ p,p=ps[k]:=⟨_,rfl⟩
         rw [← hp] at AT3 HH AK TT TU;obtain ⟨⟨ty1,⟨xda,xdn,xdc⟩,⟨xta,xtn,xtc⟩⟩,⟨ds,ts⟩⟩:=p;simp only at AT3 HH AK TT TU;obtain ⟨A1,A2,A3,A4,A5⟩:=as_at AK AT (by have:=ZL.out;have:=HAL.out;omega);obtain ⟨Z,hZ⟩ : ∃ Z,Z=jpQ l AT ((⟨ty1,⟨xda,xdn,xdc⟩,⟨xta,xtn,xtc⟩⟩ : Ten),(ds,ts)):=⟨_,rfl⟩
         have eZ:Z=ts.getD (jey ds (jtP ds l AT)).toNat 0:=by rw [hZ,← A1];rfl
         rw [← hZ] at TU
         have ZR:Hid (-9223372036854775808≤Z∧Z≤9223372036854775807):=by
          show _∧_;rw [eZ];exact HH.out.2.wf _ (jrg A5)
         have ATC:Hid (∀ wx,w2.grownBy wx none→Calls Tryz.prog 12 #[.agg #[.int .i64 ty1,.slice xda xdn xdc,.slice xta xtn xtc],.slice ca CC.length cc] wx fun e w'=>e=.returned (.int .i64 Z)∧wx.grownBy w' none):=fun wx hx=>by
          have e2:CC.length=l.length:=by rw [ECC.out,jc5]
          have e3:Vw.msk ds (CC.drop (CC.length - ds.length))=jtP ds l AT:=by rw [e2,ECC.out];rfl
          have key:=jpr ⟨ty1,⟨xda,xdn,xdc⟩,⟨xta,xtn,xtc⟩⟩ ds ts CC ⟨ca,CC.length,cc⟩ wx (HH.out.1.more (jaa W1G.out (jaa G2.out hx))) (HH.out.2.more (jaa W1G.out (jaa G2.out hx))) (OC.out.more hx) A3 (by omega) (by rw [e3];exact A2) (by rw [e3];exact A5) (by omega);rw [e3,← eZ] at key;exact key
         have KL:Hid ((us.map (·.1)).length=k):=by show _=_;rw [List.length_map];exact HUL.out
         have hsz:w2.heap.size≤wr.heap.size:=HG.out.size;clear hp hg AK A1 A2 A3 A4 A5 hZ eZ;go_wp2_with fail;refine wp_region_held_drew (S:=fun w'=>w2.grownBy w' none) (by kernel_rfl) (jaf HG.out) (fun hHeld=>?_);refine tkC 0 ?_ (hv:=by intro wS hSw;go_simp;(try with_reducible rfl))
         try simp only [Act.put]
         refine tkC 1 ?_ (hv:=by intro wS hSw;go_simp;(try with_reducible rfl))
         try simp only [Act.put]
         refine tkC 2 ?_ (hv:=by intro wS hSw;go_simp;(try with_reducible rfl))
         try simp only [Act.put]
         refine tkC 3 ?_ (hv:=by intro wS hSw;go_simp;(try with_reducible rfl))
         try simp only [Act.put]
         refine tkC 4 ?_ (hv:=by intro wS hSw;go_simp;(try with_reducible rfl))
         try simp only [Act.put]
         refine tkC 5 ?_ (hv:=by intro wS hSw;obtain ⟨q0,q1,q2⟩:=AT3.out _ hSw;go_simp;(try with_reducible rfl))
         try simp only [Act.put]
         refine tkC 6 ?_ (hv:=by intro wS hSw;go_simp;(try with_reducible rfl))
         try simp only [Act.put]
         refine tkC 7 ?_ (hv:=by intro wS hSw;go_simp;(try with_reducible rfl))
         try simp only [Act.put]
         refine tkC 8 ?_ (hv:=by intro wS hSw;go_simp;(try with_reducible rfl))
         try simp only [Act.put]
         refine tkC 9 ?_ (hv:=by intro wS hSw;obtain ⟨q0,q1,q2⟩:=AT3.out _ hSw;go_simp;(try with_reducible rfl))
         try simp only [Act.put]
         refine tkC 10 ?_ (hv:=by intro wS hSw;go_simp;(try with_reducible rfl))
         try simp only [Act.put]
         have O8:Hid (jaW 32 3 jdo wr.drew w2.heap.size (.slice va k vc) (us.map (·.1))):=HO.out.more (jaf (jad _));have I8:Hid (∀ q∈us,q.1.dv=⟨none,0,0⟩∧q.2.1=[]∧jbW wr.drew w2.heap.size q.1.tv.v q.2.2):=fun q hq=>⟨(HIN.out q hq).1,(HIN.out q hq).2.1,(HIN.out q hq).2.2.more (jaf (jad _)) (by cases q.1.tv.v.ownBlock <;> simp)⟩
         generalize hv8:wr.drew=v8 at O8 I8 hHeld ⊢;clear hv8;refine rdA 11 fun K hK=>?_;go_simp;refine (ATC.out v8 hHeld).mono ?_;rintro e v9 ⟨rfl,gy⟩;have gn:=jaa hHeld gy;refine hK.out _ _ gn (fun hHeld2=>?_);clear hK K;have O9:=jac (O8.out.more gy);have I9:Hid (∀ q∈us,q.1.dv=⟨none,0,0⟩∧q.2.1=[]∧jbW v9 w2.heap.size q.1.tv.v q.2.2):=fun q hq=>⟨(I8.out q hq).1,(I8.out q hq).2.1,(I8.out q hq).2.2.more gy (by cases q.1.tv.v.ownBlock <;> simp)⟩
         refine rdA 12 fun K hK=>?_;go_simp;have b1:=heap_alloc_new v9 (.cells #[.int .i64 Z] 2);have gs:=jab v9 (.cells #[.int .i64 Z] 2);have gn2:=jaa gn gs;have s9:=gn.size;refine hK.out _ _ gn2 (fun hHeld3=>?_);clear hK K
         try simp only [Act.put]
         generalize hv10:v9.alloc (.cells #[.int .i64 Z] 2)=v10 at b1 gs gn2 hHeld3 ⊢;clear hv10;have O10:=jac (O9.out.more gs)
         have I10:Hid (∀ q∈us++[((⟨ty1,⟨none,0,0⟩,⟨some ⟨v9.heap.size,0,none⟩,1,1⟩⟩ : Ten),(([]:List Int),[Z]))],q.1.dv=⟨none,0,0⟩∧q.2.1=[]∧jbW v10 w2.heap.size q.1.tv.v q.2.2):=fun q hq=>by
          rcases List.mem_append.1 hq with hq | hq
          ·exact ⟨(I9.out q hq).1,(I9.out q hq).2.1,(I9.out q hq).2.2.more gs (by cases q.1.tv.v.ownBlock <;> simp)⟩
          ·obtain rfl:=List.mem_singleton.1 hq;exact ⟨rfl,rfl,⟨by simp,.inr ⟨v9.heap.size,1,_,rfl,s9,b1,Nat.le_refl _,by simp [maxLen],by simp,by simp⟩⟩,by simp,fun z hz=>by obtain rfl:=List.mem_singleton.1 hz;exact ZR.out⟩
         refine tkC 13 ?_ (hv:=by intro wS hSw;go_simp;(try with_reducible rfl))
         try simp only [Act.put]
         refine rdA 14 fun K hK=>?_;go_simp;have b2:=heap_alloc_new v10 (.cells #[.int .i64 ty1,.slice none 0 0,.slice (some ⟨v9.heap.size,0,none⟩) 1 1] 32);have gt:=jab v10 (.cells #[.int .i64 ty1,.slice none 0 0,.slice (some ⟨v9.heap.size,0,none⟩) 1 1] 32);have gn3:=jaa gn2 gt;refine hK.out _ _ gn3 (fun hHeld4=>?_);clear hK K
         try simp only [Act.put]
         generalize hv11:v10.alloc (.cells #[.int .i64 ty1,.slice none 0 0,.slice (some ⟨v9.heap.size,0,none⟩) 1 1] 32)=v11 at b2 gt gn3 hHeld4 ⊢;clear hv11;have O11:=jac (O10.out.more gt);have OW:=jac (jdJ O11.out KL.out);have sz11:=gn3.size;refine rdA 15 fun K hK=>?_;refine step_append_lies _ rfl (.tmp 59) (.tmp 73) 26 rfl w2.heap.size 32 i0 (.agg #[.int .i64 0,.slice none 0 0,.slice none 0 0]) 3 56 Tryz.underlying26 hi0 iz0 iz1 iz2 rfl (by decide) (.slice va k vc) k ((us.map (·.1)).flatMap jdo) rfl OW.out ⟨v10.heap.size,0,none⟩ 1 1 (jdo ⟨ty1,⟨none,0,0⟩,⟨some ⟨v9.heap.size,0,none⟩,1,1⟩⟩) rfl rfl (World.news_of_block b2) (jmO _) (by omega) (by simp only [maxLen];omega) (by omega) (by omega) _ rfl ?_;intro gg cap2 w9 hown9 hgrow9 hat9 hlt9;have F1:=jac (jan gn3 hgrow9 (fun r e=>(World.ownsRow.lt O11.out r e).1))
         have F2:Hid (jaW 32 3 jdo w9 w2.heap.size (.slice (some ⟨gg,0,none⟩) (k+1) cap2) ((us++[((⟨ty1,⟨none,0,0⟩,⟨some ⟨v9.heap.size,0,none⟩,1,1⟩⟩ : Ten),(([]:List Int),[Z]))]).map (·.1))):=by
          show jaW _ _ _ _ _ _ _;rw [List.map_append];exact jdK KL.out hown9
         have F3:Hid (∀ q∈us++[((⟨ty1,⟨none,0,0⟩,⟨some ⟨v9.heap.size,0,none⟩,1,1⟩⟩ : Ten),(([]:List Int),[Z]))],q.1.dv=⟨none,0,0⟩∧q.2.1=[]∧jbW w9 w2.heap.size q.1.tv.v q.2.2):=fun q hq=>by
          obtain ⟨h1,h2,h3⟩:=I10.out q hq;have h4:=h3.more gt (by cases q.1.tv.v.ownBlock <;> simp)
          exact ⟨h1,h2,h4.1.kept hgrow9 (jlo h4.1 OW.out (by decide)),h4.2⟩
         refine hK.out _ _ F1.out (fun hHeld5=>?_);clear hK K
         try simp only [Act.put]
         refine tkC 16 ?_ (hv:=by intro wS hSw;go_simp;(try with_reducible rfl))
         try simp only [Act.put]
         refine wpAnyH_done (by kernel_rfl) ?_ _;clear hown9 hgrow9 hat9 hlt9 hHeld hHeld2 hHeld3 hHeld4 hHeld5 b1 b2 gs gt gn gn2 gn3 gy;go_simp;go_wp2_with fail;go_roundw
         case rel=>exact ⟨F1.out,k+1,_,_,_,by omega,by go_num,rfl,by rw [List.length_append,HUL.out];rfl,by rw [TT.out,List.map_append,HTY.out];rfl,by rw [TU.out,List.map_append,HUS.out];rfl,F2.out,F3.out⟩
         case measure=>simp [intOf];omega
        ·obtain rfl:k=ps.length:=by omega
         have E1:=HTY.out;have E2:=HUS.out;rw [List.take_of_length_le (Nat.le_refl _)] at E1 E2
         have TI:TensIn wr (.slice va ps.length vc) us:=⟨HO.out.isL (bytes:=56) je9 (by rw [List.length_map,HUL.out];omega),fun q hq=>⟨by
          rw [(HIN.out q hq).1,(HIN.out q hq).2.1];exact jrb wr,(HIN.out q hq).2.2.ints⟩⟩
         have D2:=jac (HSC.out.again ⟨va,ps.length,vc⟩ us wr AT GW.out TI E1 HAL.out E2);unfold jaz at D2;simp only at D2;obtain ⟨n0,n1,n2,n3,n4⟩:=jak (n:=⟨op,nam,⟨ia,il,ic⟩,out,⟨ao,al,cap⟩⟩) (BX.out wr (jaa W0G.out (jaa G2.out hg)));simp only at n0 n1 n2 n3 n4;obtain ⟨tb,tf,rfl,hct⟩:=DT1.out.get (k:=AT) HAL.out;have hAL:(AT:Int)<(zs.length:Int):=by have:=HAL.out;omega
         obtain ⟨Z,hZ⟩ : ∃ Z,Z=zs.getD AT 0:=⟨_,rfl⟩
         have CT:Hid (∀ wx,W1.grownBy wx none→wx.cell? ⟨tb,tf+AT,none⟩=some (.int .i64 Z)):=fun wx hx=>by rw [hZ];exact jae (hct AT HAL.out) hx
         rw [← hZ] at D2;have GR:=jac (jaa G2.out hg);clear hg E1 E2 TI hct hZ;go_wp2_with fail;refine D2.out.mono ?_;rintro e w3 ⟨hg3,⟨ty2,⟨d2a,d2n,d2c⟩,⟨t2a,t2n,t2c⟩⟩,e2,rfl,-,ht2⟩;simp only at e2 ht2;obtain ⟨_,_,et2,-⟩:=ht2.ints.sl;simp only [Sl.v,Value.slice.injEq,List.length_cons,List.length_nil,Nat.zero_add] at et2;obtain ⟨-,rfl,rfl⟩:=et2;obtain ⟨ub,uf,rfl,hcu⟩:=ht2.ints.get (k:=0) (by simp);have cu0:=hcu 0 (by simp);simp only [List.getD_cons_zero,Nat.add_zero] at cu0;have cu:=jae cu0 (jab w3 (.cells #[.int .i64 ty2,.slice d2a d2n d2c,.slice (some ⟨ub,uf,none⟩) 1 t2c] 32));have ct:=CT.out _ (jaa GR.out (jaa hg3 (jab w3 (.cells #[.int .i64 ty2,.slice d2a d2n d2c,.slice (some ⟨ub,uf,none⟩) 1 t2c] 32))));obtain ⟨y0,y1,y2⟩:=ja3 (heap_alloc_new w3 (.cells #[.int .i64 ty2,.slice d2a d2n d2c,.slice (some ⟨ub,uf,none⟩) 1 t2c] 32));obtain ⟨z0,z1,z2⟩:=ja3 (BT.out _ (jaa GR.out (jaa hg3 (jab w3 (.cells #[.int .i64 ty2,.slice d2a d2n d2c,.slice (some ⟨ub,uf,none⟩) 1 t2c] 32)))));have G3:=jac (jaa W1G.out (jaa GR.out (jaa hg3 (jab w3 (.cells #[.int .i64 ty2,.slice d2a d2n d2c,.slice (some ⟨ub,uf,none⟩) 1 t2c] 32)))));unfold jpY;simp only;obtain ⟨W3,hW3⟩ : ∃ W3,W3=w3.alloc (.cells #[.int .i64 ty2,.slice d2a d2n d2c,.slice (some ⟨ub,uf,none⟩) 1 t2c] 32):=⟨_,rfl⟩
         rw [← hW3] at cu ct y0 y1 y2 z0 z1 z2 G3;have i0':(0:Int)<1:=by decide
         clear hcu cu0 ht2 e2 hg3 n0 n1 n2 n3 n4 D2;go_wp2_with fail;rw [← hW3];clear hW3;refine wp_region_held_drew (S:=fun w'=>W3.grownBy w' none) (by kernel_rfl) (jaf (jad _)) (fun hHeld=>?_);refine tkC 0 ?_ (hv:=by intro wS hSw;go_simp;(try with_reducible rfl))
         try simp only [Act.put]
         refine tkC 1 ?_ (hv:=by intro wS hSw;go_simp;(try with_reducible rfl))
         try simp only [Act.put]
         refine tkC 2 ?_ (hv:=by intro wS hSw;go_simp;(try with_reducible rfl))
         try simp only [Act.put]
         refine tkC 3 ?_ (hv:=by intro wS hSw;go_simp;(try with_reducible rfl))
         try simp only [Act.put]
         refine tkC 4 ?_ (hv:=by intro wS hSw;have c0:=jae y2 hSw;go_simp;(try with_reducible rfl))
         try simp only [Act.put]
         refine tkC 5 ?_ (hv:=by intro wS hSw;go_simp;(try with_reducible rfl))
         try simp only [Act.put]
         refine tkC 6 ?_ (hv:=by intro wS hSw;go_simp;(try with_reducible rfl))
         try simp only [Act.put]
         refine tkC 7 ?_ (hv:=by intro wS hSw;go_simp;(try with_reducible rfl))
         try simp only [Act.put]
         refine tkC 8 ?_ (hv:=by intro wS hSw;go_simp;(try with_reducible rfl))
         try simp only [Act.put]
         refine tkC 9 ?_ (hv:=by intro wS hSw;go_simp;(try with_reducible rfl))
         try simp only [Act.put]
         refine tkC 10 ?_ (hv:=by intro wS hSw;have c0:=jae y2 hSw;go_simp;(try with_reducible rfl))
         try simp only [Act.put]
         refine tkC 11 ?_ (hv:=by intro wS hSw;go_simp;(try with_reducible rfl))
         try simp only [Act.put]
         refine tkC 12 ?_ (hv:=by intro wS hSw;have c0:=jae cu hSw;go_simp;(try with_reducible rfl))
         try simp only [Act.put]
         refine tkC 13 ?_ (hv:=by intro wS hSw;go_simp;(try with_reducible rfl))
         try simp only [Act.put]
         refine tkC 14 ?_ (hv:=by intro wS hSw;have c0:=jae z2 hSw;go_simp;(try with_reducible rfl))
         try simp only [Act.put]
         refine tkC 15 ?_ (hv:=by intro wS hSw;go_simp;(try with_reducible rfl))
         try simp only [Act.put]
         refine tkC 16 ?_ (hv:=by intro wS hSw;go_simp;(try with_reducible rfl))
         try simp only [Act.put]
         refine tkC 17 ?_ (hv:=by intro wS hSw;have c0:=jae ct hSw;go_simp;(try with_reducible rfl))
         try simp only [Act.put]
         refine tkC 18 ?_ (hv:=by intro wS hSw;go_simp;(try with_reducible rfl))
         try simp only [Act.put]
         refine tkC 19 ?_ (hv:=by intro wS hSw;go_simp;(try with_reducible rfl))
         try simp only [Act.put]
         refine tkC 20 ?_ (hv:=by intro wS hSw;go_simp;(try with_reducible rfl))
         try simp only [Act.put]
         refine rdA 21 fun K hK=>?_;go_simp;refine (LV.out _ (jaa G3.out hHeld)).mono ?_;rintro e v9 ⟨rfl,gy⟩;have gn:=jaa hHeld gy;refine hK.out _ _ gn (fun hHeld2=>?_);clear hK K
         try simp only [Act.put]
         refine tkC 22 ?_ (hv:=by intro wS hSw;go_simp;(try with_reducible rfl))
         try simp only [Act.put]
         refine tkC 23 ?_ (hv:=by intro wS hSw;go_simp;(try with_reducible rfl))
         try simp only [Act.put]
         refine wpAnyH_done (by kernel_rfl) ?_ _;have GF:=jac (jaa G3.out gn);clear hHeld hHeld2 gn gy cu ct y0 y1 y2 z0 z1 z2;go_simp;go_wp2;go_ret;exact ⟨rfl,jel GF.out⟩)
end Go.Proofs.YteigfipgmghgmaaGreatDoor
