/- A part. -/
import Derived.Test.YtekocmdfaaoggaaGreatDoorTartBJ
import Derived.Test.YtekocmdfaaoggaaGreatDoorTartAN
import Derived.Test.YtekocmdfaaoggaaGreatDoorTartAJ
import Derived.Deep.RegionHeld3
set_option maxHeartbeats 8000000
set_option maxRecDepth 100000
namespace Go.Proofs.YtekocmdfaaoggaaGreatDoor
open Go.RowKit
theorem jqS {w:World} {ub uo c:Nat} {T0 T1 T2 T3 T4:Ten} {p0 p1 p2 p3 p4:Tq} (h:TensIn w (.slice (some ⟨ub,uo,none⟩) 5 c) [(T0,p0),(T1,p1),(T2,p2),(T3,p3),(T4,p4)]) :
    (w.cell? ⟨ub,uo,none⟩=some (.int .i64 T0.ty)∧w.cell? ⟨ub,uo+1,none⟩=some (.slice T0.dv.a T0.dv.n T0.dv.c)∧w.cell? ⟨ub,uo+2,none⟩=some (.slice T0.tv.a T0.tv.n T0.tv.c))∧w.cell? ⟨ub,uo+3+2,none⟩=some (.slice T1.tv.a T1.tv.n T1.tv.c)∧w.cell? ⟨ub,uo+6+2,none⟩=some (.slice T2.tv.a T2.tv.n T2.tv.c)∧w.cell? ⟨ub,uo+9+2,none⟩=some (.slice T3.tv.a T3.tv.n T3.tv.c)∧w.cell? ⟨ub,uo+12+2,none⟩=some (.slice T4.tv.a T4.tv.n T4.tv.c):=by
     obtain ⟨a0,a1,a2⟩:=h.at 0 (by simp);obtain ⟨-,-,b2⟩:=h.at 1 (by simp);obtain ⟨-,-,c2⟩:=h.at 2 (by simp);obtain ⟨-,-,d2⟩:=h.at 3 (by simp);obtain ⟨-,-,e2⟩:=h.at 4 (by simp);exact ⟨⟨a0,a1,a2⟩,b2,c2,d2,e2⟩
theorem jo3 {ty:Int} {p1 p2:Nat} {w:World} (h:jdZ ⟨#[77,117,108]⟩ ty w p1 p2):jfu (fun x y=>(Nu.bin 2 ty x y).1) w p1 p2:=fun x y wx hx=>by
 have c1:=jaN (h.more hx).1;have c2:=jaN (h.more hx).2;have BB:=jac (fun (wx:World)=>Nu.binary2 ty x y wx);clear h;go_enter Tryz.func49,Tryz.ntmps49;go_wp2_with (first | (go_at_call 50;refine (BB.out _).mono ?_;rintro e w' ⟨rfl,q,rfl⟩) | fail);go_ret;exact ⟨rfl,⟨rfl,rfl,rfl,Nat.le_refl _,fun k hk hn=>rfl⟩⟩
theorem jo4 (n:Nod) (xa:List Atr) (ca:List Cont) (u:Sl) (T0 T1 T2 T3 T4:Ten) (x xs d1 y1 d2 y2 d3 y3 d4 y4:List Int) (C:Nat) (w:World) (hav:jbu w n.av.v xa) (hat:∀ (j:Nat) (a:Atr),xa[j]?=some a→∃ c,ca[j]?=some c∧Has w a c) (hv:TensIn w u.v [(T0,(x,xs)),(T1,(d1,y1)),(T2,(d2,y2)),(T3,(d3,y3)),(T4,(d4,y4))]) (hf:Fine x) (h2:2≤x.length) (hl:(xs.length:Int)=jbe x) (hC:x.getD 1 0=(C:Int)) (l1:y1.length=C) (l2:y2.length=C) (l3:y3.length=C) (l4:y4.length=C) :
    Calls Tryz.prog 22 #[jax n,.slice u.a u.n u.c] w fun e w'=>∃ (s:Sl) (zs:List Int),e=.returned (.slice s.a s.n s.c)∧jaT w' w.heap.size s.v zs∧zs.length=xs.length∧(∀ z∈zs,Nu.chk 1 z=true)∧w.grownBy w' none:=by
     obtain ⟨i0,hi0,hz0,hz1,hz2⟩:=info_parts jct;have SB:=jac (fun (wx:World) (hg:w.grownBy wx none)=>jlu n xa ca ⟨#[101,112,115,105,108,111,110]⟩ 925353388 wx (hav.more hg) (fun j a ha=>(hat j a ha).imp fun c h=>⟨h.1,h.2.more hg⟩));obtain ⟨ep,hep⟩ : ∃ q,q=jhn xa ⟨#[101,112,115,105,108,111,110]⟩ 925353388:=⟨_,rfl⟩
     rw [← hep] at SB;obtain ⟨xf,xc,e1,q1,q2,q3⟩:=hv.vals.form;obtain ⟨ua,un,uc⟩:=u;simp only [Sl.v,List.map_cons,List.map_nil,List.length_cons,List.length_nil,Nat.zero_add,Nat.reduceAdd,Value.slice.injEq] at e1 q1 q3;obtain ⟨rfl,rfl,rfl⟩:=e1;obtain ⟨ub,uo,rfl⟩:=hv.vals.addr (k:=0) (by simp);have FV:=jac (fun (wx:World) (hg:w.grownBy wx none)=>jqS (hv.more hg));have H0:=jac (hv.has (T0,(x,xs)) (by simp));have H1:=jac (hv.has (T1,(d1,y1)) (by simp)).2;have H2:=jac (hv.has (T2,(d2,y2)) (by simp)).2;have H3:=jac (hv.has (T3,(d3,y3)) (by simp)).2;have H4:=jac (hv.has (T4,(d4,y4)) (by simp)).2
     have hp:0<C:=by
      have:=hf.pos (x.getD 1 0) (by simp [List.getD,show 1<x.length by omega]);omega
     obtain ⟨t0,⟨x0a,x0n,x0c⟩,⟨v0a,v0n,v0c⟩⟩:=T0;obtain ⟨t1,z1,⟨v1a,v1n,v1c⟩⟩:=T1;obtain ⟨t2,z2,⟨v2a,v2n,v2c⟩⟩:=T2;obtain ⟨t3,z3,⟨v3a,v3n,v3c⟩⟩:=T3;obtain ⟨t4,z4,⟨v4a,v4n,v4c⟩⟩:=T4;simp only at FV H0 H1 H2 H3 H4;clear hav hat hv hep;have W2:Fine (x.drop 2):=⟨fun z hz=>hf.pos z (List.mem_of_mem_drop hz),by rw [List.length_drop];have:=hf.few;omega,Int.le_trans (jb2 hf.pos 2) hf.le⟩
     have wp:=prod_pos _ W2.pos;obtain ⟨W,hW⟩:=Int.eq_ofNat_of_zero_le (show 0≤jbe (x.drop 2) by omega);have hWp:0<W:=by omega
     have cE:jbt (x.drop 2)=0:=jkY W2.pos W2.few W2.le;have cN:cnt (x.drop 2)=(W:Int):=by unfold cnt;rw [if_pos cE];exact hW
     obtain ⟨op,nam,⟨ia,il,ic⟩,out,⟨ao,al,cap⟩⟩:=n;unfold jax at SB ⊢;simp only at SB ⊢;obtain ⟨w0,hw0⟩ : ∃ w0,w0=w.alloc (.cells #[.string op,.string nam,.slice ia il ic,.string out,.slice ao al cap] 25):=⟨_,rfl⟩
     have g0:Hid (w.grownBy w0 none):=by show w.grownBy w0 none;rw [hw0];exact jab _ _
     have hb0:=heap_alloc_new w (.cells #[.string op,.string nam,.slice ia il ic,.string out,.slice ao al cap] 25);rw [← hw0] at hb0;have BX:Hid (∀ wx,w0.grownBy wx none→wx.heap[w.heap.size]?=some (.cells #[.string op,.string nam,.slice ia il ic,.string out,.slice ao al cap] 25 (0,0))):=fun wx hg=>jaf hb0 hg;clear hb0;obtain ⟨⟨a0,a1,a2⟩,b2,c2,d2',e2⟩:=FV.out w0 g0.out;have i5:(4:Int)<5:=by decide
     have i4:(3:Int)<5:=by decide
     have i3:(2:Int)<5:=by decide
     have i2:(1:Int)<5:=by decide
     have i1:(0:Int)<5:=by decide
     go_enter Tryz.func22,Tryz.ntmps22;go_wp2_with fail;rw [← hw0];clear hw0;go_wp2_with fail;have GD:=jac (jag (jae w0));go_region_held3 (fun w'=>(w'.cell? ⟨ub,uo,none⟩=some (.int .i64 t0)∧w'.cell? ⟨ub,uo+1,none⟩=some (.slice x0a x0n x0c)∧w'.cell? ⟨ub,uo+2,none⟩=some (.slice v0a v0n v0c))∧w'.cell? ⟨ub,uo+3+2,none⟩=some (.slice v1a v1n v1c)∧w'.cell? ⟨ub,uo+6+2,none⟩=some (.slice v2a v2n v2c)∧w'.cell? ⟨ub,uo+9+2,none⟩=some (.slice v3a v3n v3c)∧w'.cell? ⟨ub,uo+12+2,none⟩=some (.slice v4a v4n v4c)) (go_keep) (first | fail);obtain ⟨W1,hW1⟩ : ∃ W1,W1=(w0.alloc (.cells #[.int .i64 t0,.slice x0a x0n x0c,.slice v0a v0n v0c] 32)).drew:=⟨_,rfl⟩
     have hb1:=heap_alloc_new w0 (.cells #[.int .i64 t0,.slice x0a x0n x0c,.slice v0a v0n v0c] 32);have G1:Hid (w0.grownBy W1 none):=by show w0.grownBy W1 none;rw [hW1];exact jag (jab _ _)
     have gb:(w0.alloc (.cells #[.int .i64 t0,.slice x0a x0n x0c,.slice v0a v0n v0c] 32)).grownBy W1 none:=by rw [hW1];exact jag (jae _)
     have BT:Hid (∀ wx,W1.grownBy wx none→wx.heap[w0.heap.size]?=some (.cells #[.int .i64 t0,.slice x0a x0n x0c,.slice v0a v0n v0c] 32 (0,0))):=fun wx hg=>jaf (jaf hb1 gb) hg;rw [← hW1];clear hW1 hb1 gb a0 a1 a2 b2 c2 d2' e2 GD FV;have T2:=jac (fun op w=>jcS op 1 w);have T1:=jac (fun w=>jhV ⟨#[83,113,114,116]⟩ 1 w);go_wp2_with fail;refine (T2.out ⟨#[65,100,100]⟩ W1).mono ?_;rintro e w2 ⟨rfl,hg2,p1,p2⟩;go_wp2_with fail;refine (T2.out ⟨#[83,117,98]⟩ w2).mono ?_;rintro e w3 ⟨rfl,hg3,p3,p4⟩;go_wp2_with fail;refine (T2.out ⟨#[77,117,108]⟩ w3).mono ?_;rintro e w4 ⟨rfl,hg4,p5,p6⟩;go_wp2_with fail;refine (T2.out ⟨#[68,105,118]⟩ w4).mono ?_;rintro e w5 ⟨rfl,hg5,p7,p8⟩;go_wp2_with fail;refine (T1.out w5).mono ?_;rintro e w6 ⟨rfl,hg6,b6⟩;have g56:=hg6;have g46:=jaa hg5 g56;have g36:=jaa hg4 g46;have g26:=jaa hg3 g36;have g16:=jaa hg2 g26;have SA:=jac (jjs (p1:=W1.heap.size) (p2:=W1.heap.size+1) (w:=w6) ⟨jaf p1 g26,jaf p2 g26⟩);have SS:=jac (jg0 (p1:=w2.heap.size) (p2:=w2.heap.size+1) (w:=w6) ⟨jaf p3 g36,jaf p4 g36⟩);have SM:=jac (jo3 (p1:=w3.heap.size) (p2:=w3.heap.size+1) (w:=w6) ⟨jaf p5 g46,jaf p6 g46⟩);have SD:=jac (jeJ (p1:=w4.heap.size) (p2:=w4.heap.size+1) (w:=w6) ⟨jaf p7 g56,jaf p8 g56⟩);have SQ:=jac b6;have G6:=jac g16;have g06:=jaa G1.out g16;obtain ⟨n0,n1,n2,n3,n4⟩:=jai (n:=⟨op,nam,⟨ia,il,ic⟩,out,⟨ao,al,cap⟩⟩) (BX.out w6 g06);simp only at n0 n1 n2 n3 n4;have S6:=jac (SB.out w6 (jaa g0.out g06));clear p1 p2 p3 p4 p5 p6 p7 p8 b6 hg2 hg3 hg4 hg5 hg6 g56 g46 g36 g26 g16 g06 T1 T2 SB;go_wp2_with fail;refine S6.out.mono ?_;rintro e w7 ⟨rfl,hg7⟩;clear n0 n1 n2 n3 n4 S6;have G7:=jac (jaa G6.out hg7);have GW:=jac (jaa g0.out (jaa G1.out G7.out));have SA7:=jac (SA.out.more hg7);have SS7:=jac (SS.out.more hg7);have SM7:=jac (SM.out.more hg7);have SD7:=jac (SD.out.more hg7);have SQ7:=jac (SQ.out.more hg7);clear hg7 SA SS SM SD SQ;obtain ⟨a0,a1,a2⟩:=jaD (BT.out w7 G7.out);obtain ⟨_,_,ex,k1,k2,k3⟩:=H0.out.1.sl;simp only [Sl.v,Value.slice.injEq] at ex;obtain ⟨rfl,rfl,rfl⟩:=ex;obtain ⟨_,_,exs,k4,k5,k6⟩:=H0.out.2.sl;simp only [Sl.v,Value.slice.injEq] at exs;obtain ⟨rfl,rfl,rfl⟩:=exs;obtain ⟨xb,xo,rfl,xcells⟩:=H0.out.1.get (k:=0) (by omega);have CT:=jcl _ (x.drop 2) w7 ((H0.out.1.more GW.out).back (k:=2) h2);rw [cE,cN] at CT
     have CTV:Hid (∀ v:Value,(x0c=2∧v=.slice (some ⟨xb,xo,none⟩) (x.length - 2) 0∨x0c≠2∧v=.slice (some ⟨xb,xo+2,none⟩) (x.length - 2) (x0c - 2))→Calls Tryz.prog 39 #[v] w7 fun e w'=>e=.returned (.tuple #[.int .i64 (W:Int),.int .i64 0])∧w7=w'):=fun v h=>by
      rcases h with ⟨h,rfl⟩ | ⟨h,rfl⟩
      ·rw [if_pos h,h] at CT;exact CT
      ·rw [if_neg h] at CT;exact CT
     have x2:(2:Int)≤(x.length:Int):=by omega
     have x3:(x.length:Int)≤(x0c:Int):=by omega
     have hxp:1≤jbe x:=prod_pos x hf.pos;have hl1:xs.length≤65536:=by have:=hf.le;omega
     have hlp:0<xs.length:=by omega
     obtain ⟨_,_,es1,-⟩:=H1.out.sl;obtain ⟨_,_,es2,-⟩:=H2.out.sl;obtain ⟨_,_,es3,-⟩:=H3.out.sl;obtain ⟨_,_,es4,-⟩:=H4.out.sl;simp only [Sl.v,Value.slice.injEq] at es1 es2 es3 es4;rw [l1] at es1;rw [l2] at es2;rw [l3] at es3;rw [l4] at es4;obtain ⟨rfl,ec,rfl⟩:=es1
     replace ec:=ec.symm
     subst ec;obtain ⟨rfl,ec,rfl⟩:=es2
     replace ec:=ec.symm
     subst ec;obtain ⟨rfl,ec,rfl⟩:=es3
     replace ec:=ec.symm
     subst ec;obtain ⟨rfl,ec,rfl⟩:=es4
     replace ec:=ec.symm
     subst ec;obtain ⟨vb,vo,rfl,jcA⟩:=H0.out.2.get (k:=0) hlp;obtain ⟨b1,o1,rfl,cells1⟩:=H1.out.get (k:=0) (by omega);obtain ⟨b2,o2,rfl,cells2⟩:=H2.out.get (k:=0) (by omega);obtain ⟨b3,o3,rfl,cells3⟩:=H3.out.get (k:=0) (by omega);obtain ⟨b4,o4,rfl,cells4⟩:=H4.out.get (k:=0) (by omega)
     have hC1:C≤65536:=by
      have h1:=hf.le;have h2:=jb2 hf.pos 1
      have e:x.drop 1=(C:Int)::x.drop 2:=by
       rw [List.drop_eq_getElem_cons (by omega)]
       congr 1
       rw [← hC,List.getD,List.getElem?_eq_getElem (by omega)]
       rfl
      rw [e] at h2;have h3:jbe ((C:Int)::x.drop 2)=(C:Int)*(W:Int):=by rw [jbe,hW]
      have h4:(C:Int)*1≤(C:Int)*(W:Int):=Int.mul_le_mul_of_nonneg_left (by omega) (by omega);omega
     have VX:Hid (∀ (wx:World) (k:Nat),w.grownBy wx none→k<xs.length→wx.cell? ⟨vb,vo+k,none⟩=some (.int .i64 (xs.getD k 0))):=fun wx k hg hk=>jad (jcA k hk) hg;have Y1:Hid (∀ (wx:World) (k:Nat),w.grownBy wx none→k<C→wx.cell? ⟨b1,o1+k,none⟩=some (.int .i64 (y1.getD k 0))):=fun wx k hg hk=>jad (cells1 k (by omega)) hg;have Y2:Hid (∀ (wx:World) (k:Nat),w.grownBy wx none→k<C→wx.cell? ⟨b2,o2+k,none⟩=some (.int .i64 (y2.getD k 0))):=fun wx k hg hk=>jad (cells2 k (by omega)) hg;have Y3:Hid (∀ (wx:World) (k:Nat),w.grownBy wx none→k<C→wx.cell? ⟨b3,o3+k,none⟩=some (.int .i64 (y3.getD k 0))):=fun wx k hg hk=>jad (cells3 k (by omega)) hg;have Y4:Hid (∀ (wx:World) (k:Nat),w.grownBy wx none→k<C→wx.cell? ⟨b4,o4+k,none⟩=some (.int .i64 (y4.getD k 0))):=fun wx k hg hk=>jad (cells4 k (by omega)) hg
     have XD:Hid (∀ (wx:World),w.grownBy wx none→wx.cell? ⟨xb,xo+1,none⟩=some (.int .i64 (C:Int))):=fun wx hg=>by
      rw [jad (xcells 1 (by omega)) hg,hC]
     have hb4:i0.bytes*xs.length≤281474976710656:=by rw [hz2];omega
     have hb5:xs.length≤maxLen:=by simp only [maxLen];omega
     have LB:=jac (show 2≤x.length∧0<W∧0<C∧C≤65536∧xs.length≤65536 from ⟨h2,hWp,hp,hC1,hl1⟩)
     have HWL:Hid (W≤65536):=by
      show W≤65536;have:=W2.le;rw [hW] at this;omega
     clear CT jcA cells1 cells2 cells3 cells4 xcells H0 H1 H2 H3 H4 W2 wp hW cE cN hf hl hxp hC hC1 hlp l1 l2 l3 l4 hWp;go_wp2_with fail
     all_goals
      refine (CTV.out _ (by first | exact .inl ⟨by omega,rfl⟩ | exact .inr ⟨by omega,rfl⟩)).mono ?_;rintro e w' ⟨rfl,rfl⟩;clear CTV;go_wp2_with (first | (refine wpList_make_full _ rfl (.tmp 58) (.tmp 58) 30 rfl w7.heap.size 2 i0 (.int .i64 0) 1 Tryz.underlying30 hi0 hz0 hz1 .i64 .i64 _ _ xs.length rfl rfl (by first | rfl | omega) (by first | rfl | omega) hb4 hb5 (Nat.le_refl _) ?_;intro w8 hown8 hg8;obtain ⟨a0,a1,a2⟩:=jaD (BT.out w8 (jaa G7.out hg8))) | fail);rw [jbJ] at hown8
      have O1:Hid (jaT w8 w7.heap.size (.slice (some ⟨w7.heap.size,0,none⟩) xs.length xs.length) (List.replicate xs.length 0)):=by
       have hl:=LB.out.2.2.2.2;refine ⟨by rw [List.length_replicate];exact hown8,by rw [List.length_replicate];omega,fun z hz=>?_⟩;rw [(List.mem_replicate.1 hz).2];omega
      have G8:=jac hg8;clear hown8 hg8 hb4 hb5 a0 a1 a2;go_loopw [63] (fun i wr=>∃ (k:Nat) (zs:List Int),k≤xs.length∧i=.int .i64 k∧zs.length=xs.length∧(∀ z∈zs,Nu.chk 1 z=true)∧w7.grownBy wr none∧jaT wr w7.heap.size (.slice (some ⟨w7.heap.size,0,none⟩) xs.length xs.length) zs) (fun i _=>xs.length - (intOf i).toNat)
      case atStart=>exact ⟨0,_,by omega,rfl,List.length_replicate ..,ji0 _,G8.out,O1.out⟩
      case round =>
       clear O1 G8;obtain ⟨k,zs,hk,rfl,hzl,hzc,hg,o1⟩:=hrel;have ZL:=jac hzl;have ZC:=jac hzc;have HO:=jac o1;have HG:=jac hg;clear hzl hzc o1;obtain ⟨q1,q2,q3,q4,q5⟩:=LB.out;have q6:=HWL.out
       by_cases hlt:k<xs.length
       ·have gx:=jaa GW.out hg;have c0:=VX.out wr k gx hlt;obtain ⟨a0,a1,a2⟩:=jaD (BT.out wr (jaa G7.out hg));have xd:=XD.out wr gx;obtain ⟨el,hel⟩ : ∃ q,q=xs.getD k 0:=⟨_,rfl⟩
        rw [← hel] at c0;obtain ⟨d,hd⟩ : ∃ q:Nat,q=k / W:=⟨_,rfl⟩
        obtain ⟨c,hc⟩ : ∃ q:Nat,q=d % C:=⟨_,rfl⟩
        have hcl:c<C:=by rw [hc];exact Nat.mod_lt _ q3
        have hdl:d≤k:=by rw [hd];exact Nat.div_le_self _ _
        have hdv:(k:Int).tdiv (W:Int)=(d:Int):=by rw [hd,Int.tdiv_eq_ediv_of_nonneg (by omega)];rfl
        have hmd:(d:Int).tmod (C:Int)=(c:Int):=by rw [hc,Int.tmod_eq_emod_of_nonneg (by omega)];rfl
        have hwd:wrap64 (d:Int)=(d:Int):=by unfold wrap64;omega
        have hw0:¬ W=0:=by omega
        have hc0:¬ C=0:=by omega
        have i1x:(1:Int)<(x.length:Int):=by omega
        have hci:(c:Int)<(C:Int):=by omega
        have hki:(k:Int)<(xs.length:Int):=by omega
        have HCL:=jac hcl;have HK:=jac hlt;clear hel hd hc hdl;go_wp2_with fail;have GDA:=jac (jag (jae wr));go_region_held3 (fun w'=>w'.cell? ⟨w0.heap.size,0,none⟩=some (.int .i64 t0)∧w'.cell? ⟨w0.heap.size,1,none⟩=some (.slice (some ⟨xb,xo,none⟩) x.length x0c)∧w'.cell? ⟨w0.heap.size,2,none⟩=some (.slice (some ⟨vb,vo,none⟩) xs.length v0c)∧w'.cell? ⟨xb,xo+1,none⟩=some (.int .i64 (C:Int))) (go_keep) (first | fail);obtain ⟨ww,hww⟩ : ∃ q,q=wr.drew:=⟨_,rfl⟩
        have gww:wr.grownBy ww none:=by rw [hww];exact GDA.out
        rw [← hww];rw [jbg,hwd,hmd];have GY:=jac (jaa gx gww);have GZ:=jac (jaa hg gww);have v4:=Y4.out ww c GY.out HCL.out;obtain ⟨z4,hz4⟩ : ∃ q,q=y4.getD c 0:=⟨_,rfl⟩
        rw [← hz4] at v4;have C1:=jac (SA7.out z4 ep ww GZ.out);obtain ⟨r1,hr1⟩ : ∃ q,q=(Nu.bin 0 1 z4 ep).1:=⟨_,rfl⟩
        have RC1:=jac (jdl 0 z4 ep (by decide));simp only at C1;rw [← hr1] at C1 RC1;have E1:Hid (∀ wx,ww.grownBy wx none→Calls Tryz.prog 57 #[.int .i64 r1,.pointer (some ⟨w5.heap.size,0,none⟩),.pointer (some ⟨w5.heap.size+1,0,none⟩)] wx fun e w'=>∃ r:Int,e=.returned (.int .i64 r)∧Nu.chk 1 r=true∧wx.grownBy w' none):=fun wx h=>jkL _ _ r1 RC1.out wx (SQ7.out.more (jaa GZ.out h))
        have PT:Hid (∀ (w8:World) (r:Int),ww.grownBy w8 none→Nu.chk 1 r=true→∃ ov:Int,w8.cell? ⟨w7.heap.size,k,none⟩=some (.int .i64 ov)∧w8.frozen? ⟨w7.heap.size,k,none⟩=false∧jaT (w8.setCell ⟨w7.heap.size,k,none⟩ (.int .i64 r)) w7.heap.size (.slice (some ⟨w7.heap.size,0,none⟩) xs.length xs.length) (zs.set k r)∧w7.grownBy (w8.setCell ⟨w7.heap.size,k,none⟩ (.int .i64 r)) none):=fun w8 r h hr=>by
         have q:=HO.out.more (jaa gww h) (.inr (by simp [Value.ownBlock]));obtain ⟨a1,a2,a3,a4⟩:=q.put ZL.out HK.out r (jeL hr);exact ⟨_,a1,a2,a3,jaq (jaa HG.out (jaa gww h)) a4 (Nat.le_refl _)⟩
        clear hg gx gww hww hz4 hr1 c0 xd hdv hmd hwd GDA a0 a1 a2;go_wp2_with fail;refine C1.out.mono ?_;rintro e wA ⟨rfl,hgA⟩;go_wp2_with fail;refine (E1.out wA hgA).mono ?_;rintro e wB ⟨dv,rfl,hdc,hgB⟩;have GB:=jac (jaa hgA hgB);have GYB:=jac (jaa GY.out GB.out);have GZB:=jac (jaa GZ.out GB.out);clear C1 E1 RC1 hgA hgB hdc v4;have m1:=Y1.out wB c GYB.out HCL.out;have m2:=Y2.out wB c GYB.out HCL.out;have m3:=Y3.out wB c GYB.out HCL.out;obtain ⟨u1,hu1⟩ : ∃ q,q=y1.getD c 0:=⟨_,rfl⟩
        obtain ⟨u2,hu2⟩ : ∃ q,q=y2.getD c 0:=⟨_,rfl⟩
        obtain ⟨u3,hu3⟩ : ∃ q,q=y3.getD c 0:=⟨_,rfl⟩
        rw [← hu1] at m1;rw [← hu2] at m2;rw [← hu3] at m3;have CS:=jac (fun (wx:World) (h:wB.grownBy wx none)=>SS7.out el u3 wx (jaa GZB.out h));have CD:=jac (fun (a:Int) (wx:World) (h:wB.grownBy wx none)=>SD7.out a dv wx (jaa GZB.out h));have CM:=jac (fun (a:Int) (wx:World) (h:wB.grownBy wx none)=>SM7.out a u1 wx (jaa GZB.out h));have CA:=jac (fun (a:Int) (wx:World) (h:wB.grownBy wx none)=>SA7.out a u2 wx (jaa GZB.out h));have MK:Hid (∀ wx,wB.grownBy wx none→wx.cell? ⟨b1,o1+c,none⟩=some (.int .i64 u1)∧wx.cell? ⟨b2,o2+c,none⟩=some (.int .i64 u2)∧wx.cell? ⟨b3,o3+c,none⟩=some (.int .i64 u3)):=fun wx h=>⟨jad m1 h,jad m2 h,jad m3 h⟩
        have GDB:=jac (jag (jae wB));have hgs:=GW.out.size;have lb1:b1<w.heap.size:=World.block_lt_of_cell? w _ (Y1.out w c (jae _) HCL.out);have lb2:b2<w.heap.size:=World.block_lt_of_cell? w _ (Y2.out w c (jae _) HCL.out);have lb3:b3<w.heap.size:=World.block_lt_of_cell? w _ (Y3.out w c (jae _) HCL.out);have e1:w7.heap.size≠b1:=by omega
        have e2:b1≠w7.heap.size:=by omega
        have e3:w7.heap.size≠b2:=by omega
        have e4:b2≠w7.heap.size:=by omega
        have e5:w7.heap.size≠b3:=by omega
        have e6:b3≠w7.heap.size:=by omega
        clear hgs lb1 lb2 lb3;clear hu1 hu2 hu3;go_wp2_with fail;go_region_held3 (fun w'=>w'.cell? ⟨b1,o1+c,none⟩=some (.int .i64 u1)∧w'.cell? ⟨b2,o2+c,none⟩=some (.int .i64 u2)∧w'.cell? ⟨b3,o3+c,none⟩=some (.int .i64 u3)) (go_keep) (first | (have q1:=G3x.out;clear q1;go_at_call 49;refine (CA.out _ _ G3x.out).mono ?_;rintro e wF ⟨rfl,hgF⟩;have G4x:=jac (jaa G3x.out hgF);obtain ⟨m1,m2,m3⟩:=MK.out wF G4x.out;obtain ⟨fv,hfv⟩ : ∃ q,q=(Nu.bin 0 1 cv u2).1:=⟨_,rfl⟩;have RF:=jac (jdl 0 cv u2 (by decide));simp only;rw [← hfv] at RF ⊢;obtain ⟨ov,s1,s2,s3,s4⟩:=PT.out wF fv (jaa GB.out G4x.out) RF.out;clear hgF hfv) | (have q1:=G2x.out;clear q1;go_at_call 49;refine (CM.out _ _ G2x.out).mono ?_;rintro e wE ⟨rfl,hgE⟩;have G3x:=jac (jaa G2x.out hgE);obtain ⟨m1,m2,m3⟩:=MK.out wE G3x.out;obtain ⟨cv,hcv⟩ : ∃ q,q=(Nu.bin 2 1 bv u1).1:=⟨_,rfl⟩;simp only;rw [← hcv];clear hgE hcv) | (have q1:=G1x.out;clear q1;go_at_call 49;refine (CD.out _ _ G1x.out).mono ?_;rintro e wD ⟨rfl,hgD⟩;have G2x:=jac (jaa G1x.out hgD);obtain ⟨m1,m2,m3⟩:=MK.out wD G2x.out;obtain ⟨bv,hbv⟩ : ∃ q,q=(Nu.bin 3 1 av dv).1:=⟨_,rfl⟩;simp only;rw [← hbv];clear hgD hbv) | (go_at_call 49;refine (CS.out _ GDB.out).mono ?_;rintro e wC ⟨rfl,hgC⟩;have G1x:=jac (jaa GDB.out hgC);obtain ⟨m1,m2,m3⟩:=MK.out wC G1x.out;obtain ⟨av,hav⟩ : ∃ q,q=(Nu.bin 1 1 el u3).1:=⟨_,rfl⟩;simp only;rw [← hav];clear hgC hav) | fail)
        all_goals
         have N1:=jac s3;have N2:=jac s4;have N3:=jac (jg3 (k:=k) ZC.out RF.out);clear s3 s4;go_wp2_with fail;go_roundw
         case rel=>exact ⟨k+1,zs.set k fv,by omega,by go_num,by rw [List.length_set];exact ZL.out,N3.out,N2.out,N1.out⟩
         case measure=>simp [intOf];omega
       ·have hke:k=xs.length:=by omega
        subst hke;have hz:=jac GW.out.size;clear hg;go_wp2;go_ret;exact ⟨⟨some ⟨w7.heap.size,0,none⟩,xs.length,xs.length⟩,zs,rfl,⟨jaL HO.out.1 hz.out,HO.out.2⟩,ZL.out,ZC.out,jaa GW.out HG.out⟩
end Go.Proofs.YtekocmdfaaoggaaGreatDoor
namespace Go.Proofs.YtekocmdfaaoggaaGreatDoor
open Go.RowKit
theorem jkO (n:Nod) (xa:List Atr) (ca:List Cont) (hop:n.op=⟨#[66,97,116,99,104,78,111,114,109,97,108,105,122,97,116,105,111,110]⟩) (u:Sl) (T0 T1 T2 T3 T4:Ten) (x xs d1 y1 d2 y2 d3 y3 d4 y4:List Int) (C:Nat) (nam0:ByteArray) (vty:Int) (dv:Sl) (w:World) (hav:jbu w n.av.v xa) (hat:∀ (j:Nat) (a:Atr),xa[j]?=some a→∃ c,ca[j]?=some c∧Has w a c) (hv:TensIn w u.v [(T0,(x,xs)),(T1,(d1,y1)),(T2,(d2,y2)),(T3,(d3,y3)),(T4,(d4,y4))]) (hf:Fine x) (h2:2≤x.length) (hl:(xs.length:Int)=jbe x) (hC:x.getD 1 0=(C:Int)) (l1:y1.length=C) (l2:y2.length=C) (l3:y3.length=C) (l4:y4.length=C) :
    Calls Tryz.prog 10 #[jax n,.slice u.a u.n u.c,.agg #[.string nam0,.int .i64 vty,.slice dv.a dv.n dv.c]] w (FltQ xs.length w):=by
     have EC:Hid (∀ (wx:World),w.grownBy wx none→Calls Tryz.prog 22 #[jax n,.slice u.a u.n u.c] wx fun e w'=>∃ (s:Sl) (zs:List Int),e=.returned (.slice s.a s.n s.c)∧jaT w' wx.heap.size s.v zs∧zs.length=xs.length∧(∀ z∈zs,Nu.chk 1 z=true)∧wx.grownBy w' none):=fun wx hx=>jo4 n xa ca u T0 T1 T2 T3 T4 x xs d1 y1 d2 y2 d3 y3 d4 y4 C wx (hav.more hx) (fun j a ha=>(hat j a ha).imp fun c h=>⟨h.1,h.2.more hx⟩) (hv.more hx) hf h2 hl hC l1 l2 l3 l4;obtain ⟨za,zn,zc⟩:=dv;obtain ⟨ua,un,uc⟩:=u;clear hav hat hv hf h2 hl hC l1 l2 l3 l4;obtain ⟨op,nam,⟨ia,il,ic⟩,out,⟨ao,al,cap⟩⟩:=n;simp only at hop;subst hop;unfold jax at EC ⊢;simp only at EC ⊢;obtain ⟨w0,hw0⟩ : ∃ w0,w0=(w.alloc (.cells #[.string ⟨#[66,97,116,99,104,78,111,114,109,97,108,105,122,97,116,105,111,110]⟩,.string nam,.slice ia il ic,.string out,.slice ao al cap] 25)).alloc (.cells #[.string nam0,.int .i64 vty,.slice za zn zc] 50):=⟨_,rfl⟩
     have g0:w.grownBy w0 none:=by rw [hw0];exact jaa (jab _ _) (jab _ _)
     have hbx:=jaJ w (.cells #[.string ⟨#[66,97,116,99,104,78,111,114,109,97,108,105,122,97,116,105,111,110]⟩,.string nam,.slice ia il ic,.string out,.slice ao al cap] 25) (.cells #[.string nam0,.int .i64 vty,.slice za zn zc] 50);rw [← hw0] at hbx;obtain ⟨n0,n1,n2,n3,n4⟩:=jai (n:=⟨⟨#[66,97,116,99,104,78,111,114,109,97,108,105,122,97,116,105,111,110]⟩,nam,⟨ia,il,ic⟩,out,⟨ao,al,cap⟩⟩) hbx.1;have G0:=jac g0;clear hbx g0;rw [hw0] at n0;go_enter Tryz.func10,Tryz.ntmps10;go_wp2_with fail;rw [← hw0];clear hw0 n0 n1 n2 n3 n4;refine (EC.out w0 G0.out).mono ?_;rintro e w2 ⟨⟨sa,sn,sc⟩,zs,rfl,os,hzl,hzc,hg2⟩;have g2:=hg2;have hz:=G0.out.size;have OS:=jac (show jaT w2 w.heap.size (Sl.v ⟨sa,sn,sc⟩) zs from ⟨jaL os.1 hz,os.2⟩);have G2:=jac (jaa G0.out g2);have ZL:=jac hzl;have ZC:=jac hzc;clear os hg2 g2 hz hzl hzc;go_simp;go_wp2;go_ret2;exact ⟨G2.out,⟨sa,sn,sc⟩,zs,rfl,OS.out,ZL.out,ZC.out⟩
end Go.Proofs.YtekocmdfaaoggaaGreatDoor
namespace Go.Proofs.YtekocmdfaaoggaaGreatDoor
open Go.RowKit
def jqT (s:Stepped):Frame :=
 match s with
 | .next m=>match m.gs.toList with
  | [g]=>g.frame
  | _=>{ fn:=0,tmps:=#[],todo:=[],defers:=[],mode:=.run,kind:=.normal }
 | _=>{ fn:=0,tmps:=#[],todo:=[],defers:=[],mode:=.run,kind:=.normal }
theorem jhW {P : Program} {f : FuncId} {fn : Func} {args : Array Value} {w : World} {v : Value} (N : Nat) (hf : P.funcs[f]? = some fn)
    (h1:∀ cs,runN P N (lone (Frame.enter P f args .normal) cs w)=.next (lone (jqT (runN P N (lone (Frame.enter P f args .normal) cs w))) cs w))
    (h2:∀ cs,(fun fr:Frame=>(fr.fn,fr.mode,fr.defers,fr.kind,(results fn fr.tmps).run P w)) (jqT (runN P N (lone (Frame.enter P f args .normal) cs w)))=(f,.returning,[],.normal,.ok v w)) :
    Calls P f args w fun e w'=>e=.returned v∧w'=w:=by
     intro cs;have a:=h2 cs;simp only [Prod.mk.injEq] at a;obtain ⟨a1,a2,a3,a4,a5⟩:=a;refine ⟨.returned v,w,jqT (runN P N (lone (Frame.enter P f args .normal) cs w)),⟨rfl,rfl⟩,⟨N,h1 cs⟩,a1,a2,a3,a4,fn,?_,a5⟩;rw [a1];exact hf
end Go.Proofs.YtekocmdfaaoggaaGreatDoor
namespace Go.Proofs.YtekocmdfaaoggaaGreatDoor
open Go.RowKit
theorem exp0 (w:World):Calls Tryz.prog 58 #[.string ⟨#[69,120,112]⟩,.int .i64 1,.int .i64 0] w fun e w'=>e=.returned (.tuple #[.int .i64 1065353216,.int .i64 0])∧w'=w :=
 jhW (fn:=Tryz.f58) 853 (by kernel_rfl) (fun cs=>by kernel_rfl) (fun cs=>by kernel_rfl)
theorem jo5 (op:ByteArray) (ty:Int) (w:World):Calls Tryz.prog 37 #[.string op,.int .i64 ty] w fun e w'=>e=.returned (.func (.func 57) #[] #[.pointer (some ⟨w.heap.size,0,none⟩),.pointer (some ⟨w.heap.size+1,0,none⟩)])∧w.grownBy w' none∧jdZ op ty w' w.heap.size (w.heap.size+1):=by
 have hmf:∀ (fn:Fn) (first cap:Array Value) (w:World),(Instr.makeFunc fn first cap).run Tryz.prog w=.ok (.func fn first cap) w:=fun _ _ _ _=>rfl;have B2:=jac (jaJ w (.cells #[.string op] 9) (.cells #[.int .i64 ty] 3));have G2:=jac (jaa (jab w (.cells #[.string op] 9)) (jab _ (.cells #[.int .i64 ty] 3)));go_enter Tryz.func37,Tryz.ntmps37;go_wp2;go_ret;exact ⟨rfl,G2.out,B2.out.1,B2.out.2⟩
theorem jm6 (p1 p2:Nat) (w:World) (h:jdZ ⟨#[69,120,112]⟩ 1 w p1 p2):Calls Tryz.prog 57 #[.int .i64 0,.pointer (some ⟨p1,0,none⟩),.pointer (some ⟨p2,0,none⟩)] w fun e w'=>e=.returned (.int .i64 1065353216)∧w.grownBy w' none:=by
 have c1:=jaN h.1;have c2:=jaN h.2;have BB:=jac (fun (wx:World)=>exp0 wx);clear h;go_enter Tryz.func57,Tryz.ntmps57;go_wp2_with (first | (go_at_call 58;refine (BB.out _).mono ?_;rintro e w' ⟨rfl,rfl⟩) | fail);go_ret;exact ⟨rfl,jae _⟩
theorem ji2 (a c:Int):∀ k:Nat,k<2→(List.replicate k c++List.replicate (2 - k) a).set k c=List.replicate (k+1) c++List.replicate (2 - (k+1)) a
 | 0,_=>rfl
 | 1,_=>rfl
 | k+2,h=>by omega
theorem jrB (a c:Int):∀ k:Nat,k<2→(List.replicate k c++List.replicate (2 - k) a).getD k 0=a
 | 0,_=>rfl
 | 1,_=>rfl
 | k+2,h=>by omega
theorem sub00:(Nu.bin 1 1 0 0).1=0:=by kernel_rfl
theorem div12:(Nu.bin 3 1 1065353216 1073741824).1=1056964608:=by kernel_rfl
theorem max00:jqO (fun x y=>(Nu.bin 4 1 x y).1) [0,0]=0:=by kernel_rfl
theorem sum11:([1065353216,1065353216]:List Int).foldl (fun x y=>(Nu.bin 0 1 x y).1) 0=1073741824:=by kernel_rfl
theorem jqU (u:Sl) (w:World) (hx:jak w u.v [0,0]):Calls Tryz.prog 36 #[.slice u.a u.n u.c] w fun e w'=>∃ s:Sl,e=.returned (.slice s.a s.n s.c)∧jaT w' w.heap.size s.v [1056964608,1056964608]∧w.grownBy w' none:=by
 obtain ⟨i0,hi0,hz0,hz1,hz2⟩:=info_parts jct;obtain ⟨ua,un,uc⟩:=u;obtain ⟨_,_,eu,c1,c2,c3⟩:=hx.sl;simp only [Sl.v,Value.slice.injEq,List.length_cons,List.length_nil,Nat.zero_add] at eu;obtain ⟨rfl,rfl,rfl⟩:=eu;obtain ⟨xb,xo,rfl,hc⟩:=hx.get (k:=0) (by simp);have HX:=jac hx
 have XC:Hid (∀ (wx:World) (k:Nat),w.grownBy wx none→k<2→wx.cell? ⟨xb,xo+k,none⟩=some (.int .i64 0)):=fun wx k hg hk=>by
  have:=jad (hc k (by simpa using hk)) hg;rw [this]
  match k,hk with
  | 0,_=>rfl
  | 1,_=>rfl
 have T2:=jac (fun op w=>jcS op 1 w);have T1:=jac (fun w=>jo5 ⟨#[69,120,112]⟩ 1 w);have GT:=jac (fun w=>jda 1 w);have SM:=jac (fun w=>jg1 1 w);have hb4:i0.bytes*2≤281474976710656:=by rw [hz2];omega
 have hb5:2≤maxLen:=by simp only [maxLen];omega
 clear hx hc;go_enter Tryz.func36,Tryz.ntmps36;go_wp2_with fail;refine (T2.out ⟨#[83,117,98]⟩ w).mono ?_;rintro e w1 ⟨rfl,hg1,a1,a2⟩;go_wp2_with fail;refine (T1.out w1).mono ?_;rintro e w2 ⟨rfl,hg2,b12⟩;go_wp2_with fail;refine (T2.out ⟨#[68,105,118]⟩ w2).mono ?_;rintro e w3 ⟨rfl,hg3,d1,d2⟩;go_wp2_with fail;refine (GT.out w3).mono ?_;rintro e w4 ⟨b,rfl,ob,hg4⟩;have g24:=jaa hg3 hg4;have g14:=jaa hg2 g24;have G4:=jaa hg1 g14;have SS:=jac (jg0 (p1:=w.heap.size) (p2:=w.heap.size+1) (w:=w4) ⟨jaf a1 g14,jaf a2 g14⟩);have SE:=jac (b12.more g24);have SD:=jac (jeJ (p1:=w2.heap.size) (p2:=w2.heap.size+1) (w:=w4) ⟨jaf d1 hg4,jaf d2 hg4⟩);have GM:=jac (jcU _ b ⟨some ⟨xb,xo,none⟩,2,uc⟩ [0,0] w4 (HX.out.more G4) (by simp) ob);rw [max00] at GM;have HG4:=jac G4;simp only at GM;clear hg1 a1 a2 hg2 b12 hg3 d1 d2 ob hg4 g24 g14 G4 T2 T1 GT;go_wp2_with fail;refine GM.out.mono ?_;rintro e w5 ⟨rfl,hg5⟩;have G5:=jac hg5;clear GM hg5;go_wp2_with (first | (refine wpList_make_full _ rfl (.tmp 20) (.tmp 20) 30 rfl w5.heap.size 2 i0 (.int .i64 0) 1 Tryz.underlying30 hi0 hz0 hz1 .i64 .i64 _ _ 2 rfl rfl (by omega) (by omega) hb4 hb5 (Nat.le_refl _) ?_;intro w6 hown6 hg6));rw [jbJ] at hown6
 have O1:Hid (jaT w6 w5.heap.size (.slice (some ⟨w5.heap.size,0,none⟩) 2 2) (List.replicate 2 0)):=by
  refine ⟨by rw [List.length_replicate];exact hown6,by rw [List.length_replicate];omega,fun z hz=>?_⟩;rw [(List.mem_replicate.1 hz).2];omega
 have G6:=jac hg6;clear hown6 hg6 hb4 hb5;go_wp2;go_loopw [24] (fun i wr=>w5.grownBy wr none∧∃ k:Nat,k≤2∧i=.int .i64 k∧jaT wr w5.heap.size (.slice (some ⟨w5.heap.size,0,none⟩) 2 2) (List.replicate k 1065353216++List.replicate (2 - k) 0)) (fun i _=>2 - (intOf i).toNat)
 case atStart=>exact ⟨G6.out,0,by omega,rfl,by simpa using O1.out⟩
 case round =>
  obtain ⟨hg,k,hk,rfl,o1⟩:=hrel;have HG:=jac hg;have P1:=jac o1;clear o1
  by_cases hlt:k<2
  ·have gx:=jaa G5.out hg;have hcell:=XC.out wr k (jaa HG4.out gx) hlt;have S1:=jac (SS.out 0 0 wr gx);simp only [sub00] at S1;have E1:Hid (∀ wx,wr.grownBy wx none→Calls Tryz.prog 57 #[.int .i64 0,.pointer (some ⟨w1.heap.size,0,none⟩),.pointer (some ⟨w1.heap.size+1,0,none⟩)] wx fun e w'=>e=.returned (.int .i64 1065353216)∧wx.grownBy w' none):=fun wx h=>jm6 _ _ wx (SE.out.more (jaa gx h))
   have PT:Hid (∀ w8:World,wr.grownBy w8 none→∃ ov:Int,w8.cell? ⟨w5.heap.size,k,none⟩=some (.int .i64 ov)∧w8.frozen? ⟨w5.heap.size,k,none⟩=false∧jaT (w8.setCell ⟨w5.heap.size,k,none⟩ (.int .i64 1065353216)) w5.heap.size (.slice (some ⟨w5.heap.size,0,none⟩) 2 2) (List.replicate (k+1) 1065353216++List.replicate (2 - (k+1)) 0)∧w5.grownBy (w8.setCell ⟨w5.heap.size,k,none⟩ (.int .i64 1065353216)) none):=fun w8 h=>by
    have q:=P1.out.more h (.inr (by simp [Value.ownBlock]));obtain ⟨a1,a2,a3,a4⟩:=q.put (by simp;omega) hlt 1065353216 (by omega);rw [ji2 0 1065353216 k hlt] at a3;exact ⟨_,a1,a2,a3,jaq (jaa HG.out h) a4 (Nat.le_refl _)⟩
   have l1:(k:Int)<2:=by omega
   clear hg gx;go_wp2_with fail;refine S1.out.mono ?_;rintro e w7 ⟨rfl,hg7⟩;go_wp2_with fail;refine (E1.out w7 hg7).mono ?_;rintro e w8 ⟨rfl,hg8⟩;obtain ⟨ov,a1,a2,a3,a4⟩:=PT.out w8 (jaa hg7 hg8);have N1:=jac a3;have N2:=jac a4;clear hg7 hg8 a3 a4 PT S1 E1;go_wp2_with fail;go_roundw
   case rel=>exact ⟨N2.out,k+1,by omega,by go_num,N1.out⟩
   case measure=>simp [intOf];omega
  ·have hke:k=2:=by omega
   subst hke;obtain ⟨wz,ewz⟩ : ∃ z,z=wr:=⟨_,rfl⟩
   subst ewz;have P2:=P1.out;rw [show List.replicate 2 (1065353216:Int)++List.replicate (2 - 2) 0=[1065353216,1065353216] from rfl] at P2;have HP2:=jac P2;have SM1:=jac (SM.out wz);clear hg P2 P1;go_wp2_with fail;refine SM1.out.mono ?_;rintro e w9 ⟨b9,rfl,ob9,hg9⟩;have q9:=HP2.out.more hg9 (.inr (by simp [Value.ownBlock]));have S9:=jac (jeK _ b9 ⟨some ⟨w5.heap.size,0,none⟩,2,2⟩ [1065353216,1065353216] w9 q9.ints ob9);rw [sum11] at S9;simp only at S9;have Q9:=jac q9;have G9:=jac (jaa HG.out hg9);clear ob9 hg9 q9 SM1 HP2 HG;go_wp2_with fail;refine S9.out.mono ?_;rintro e wA ⟨rfl,hgA⟩;have QA:=jac (Q9.out.more hgA (.inr (by simp [Value.ownBlock])));have GA:=jac (jaa G9.out hgA);clear hgA S9 Q9 G9;go_wp2;go_loopw [44] (fun i wr=>w5.grownBy wr none∧∃ k:Nat,k≤2∧i=.int .i64 k∧jaT wr w5.heap.size (.slice (some ⟨w5.heap.size,0,none⟩) 2 2) (List.replicate k 1056964608++List.replicate (2 - k) 1065353216)) (fun i _=>2 - (intOf i).toNat)
   case atStart=>exact ⟨GA.out,0,by omega,rfl,QA.out⟩
   case round =>
    obtain ⟨hg,k,hk,rfl,o1⟩:=hrel;have HG:=jac hg;have P1:=jac o1
    by_cases hlt:k<2
    ·have gx:=jaa G5.out hg;obtain ⟨b',off,eb,hcc⟩:=o1.ints.get (k:=k) (by simp;omega);have hcell:=hcc k (by simp;omega);rw [jrB _ _ k hlt] at hcell;have eb1:b'=w5.heap.size:=by have:=(Option.some.inj eb);injection this with h1 h2;exact h1.symm
     have eb2:off=0:=by have:=(Option.some.inj eb);injection this with h1 h2;exact h2.symm
     rw [eb1,eb2,Nat.zero_add] at hcell;have S1:=jac (SD.out 1065353216 1073741824 wr gx);simp only [div12] at S1
     have PT:Hid (∀ w8:World,wr.grownBy w8 none→∃ ov:Int,w8.cell? ⟨w5.heap.size,k,none⟩=some (.int .i64 ov)∧w8.frozen? ⟨w5.heap.size,k,none⟩=false∧jaT (w8.setCell ⟨w5.heap.size,k,none⟩ (.int .i64 1056964608)) w5.heap.size (.slice (some ⟨w5.heap.size,0,none⟩) 2 2) (List.replicate (k+1) 1056964608++List.replicate (2 - (k+1)) 1065353216)∧w5.grownBy (w8.setCell ⟨w5.heap.size,k,none⟩ (.int .i64 1056964608)) none):=fun w8 h=>by
      have q:=P1.out.more h (.inr (by simp [Value.ownBlock]));obtain ⟨a1,a2,a3,a4⟩:=q.put (by simp;omega) hlt 1056964608 (by omega);rw [ji2 1065353216 1056964608 k hlt] at a3;exact ⟨_,a1,a2,a3,jaq (jaa HG.out h) a4 (Nat.le_refl _)⟩
     have l1:(k:Int)<2:=by omega
     clear hg gx o1 hcc eb eb1 eb2;go_wp2_with fail;refine S1.out.mono ?_;rintro e w7 ⟨rfl,hg7⟩;obtain ⟨ov,a1,a2,a3,a4⟩:=PT.out w7 hg7;have N1:=jac a3;have N2:=jac a4;clear hg7 a3 a4 PT S1;go_wp2_with fail;go_roundw
     case rel=>exact ⟨N2.out,k+1,by omega,by go_num,N1.out⟩
     case measure=>simp [intOf];omega
    ·have hke:k=2:=by omega
     subst hke;have hz:=jac (Nat.le_trans HG4.out.size G5.out.size);clear hg o1;go_wp2;go_ret;exact ⟨⟨some ⟨w5.heap.size,0,none⟩,2,2⟩,rfl,⟨jaL P1.out.1 hz.out,P1.out.2⟩,jaa HG4.out (jaa G5.out HG.out)⟩
end Go.Proofs.YtekocmdfaaoggaaGreatDoor
namespace Go.Proofs.YtekocmdfaaoggaaGreatDoor
open Go.RowKit
theorem jo6 (n:Nod) (A:At) (X:Ten) (w:World) (hn:NodeOk w n A) (hx:jak w X.dv.v [2]) (hxs:jak w X.tv.v [0,0]) (hax:jbD 1 (jaQ A 1) (List.replicate 1 false)=some [true]) :
    Calls Tryz.prog 21 #[jax n,.agg #[.int .i64 X.ty,.slice X.dv.a X.dv.n X.dv.c,.slice X.tv.a X.tv.n X.tv.c]] w fun e w'=>∃ s:Sl,e=.returned (.slice s.a s.n s.c)∧jaT w' w.heap.size s.v [1056964608,1056964608]∧w.grownBy w' none:=by
     obtain ⟨i0,hi0,hz0,hz1,hz2⟩:=info_parts jct;obtain ⟨ty,⟨da,dn,dc⟩,⟨ta,tn,tc⟩⟩:=X;simp only [Sl.v] at hx hxs ⊢;have HXS:=jac hxs;obtain ⟨_,_,exs,e1,e2,e3⟩:=hxs.sl;simp only [Value.slice.injEq,List.length_cons,List.length_nil,Nat.zero_add] at exs;obtain ⟨rfl,rfl,rfl⟩:=exs;have GRP:Hid (∀ wx,w.grownBy wx none→Calls Tryz.prog 26 #[jax n,.slice da dn dc] wx fun e w'=>∃ (base Bw:Nat) (rs:List Sl),wx.heap.size≤base∧e=.returned (.slice (some ⟨Bw,0,none⟩) 1 1)∧Gr w' base Bw 1 [[0,1]] rs∧wx.grownBy w' none):=fun wx hg=>jci n A ⟨da,dn,dc⟩ [2] [true] wx (hn.more hg) (hx.more hg) (jbl (by kernel_rfl)) hax rfl;have hb4:i0.bytes*2≤281474976710656:=by rw [hz2];omega
     have hb5:2≤maxLen:=by simp only [maxLen];omega
     clear hx hxs hax;have NK:=jac hn;obtain ⟨op,nam,⟨ia,il,ic⟩,out,⟨ao,al,cap⟩⟩:=n;unfold jax;simp only;obtain ⟨w0,hw0⟩ : ∃ w0,w0=w.alloc (.cells #[.string op,.string nam,.slice ia il ic,.string out,.slice ao al cap] 25):=⟨_,rfl⟩
     have g0:Hid (w.grownBy w0 none):=by show w.grownBy w0 none;rw [hw0];exact jab _ _
     have hb0:=heap_alloc_new w (.cells #[.string op,.string nam,.slice ia il ic,.string out,.slice ao al cap] 25);rw [← hw0] at hb0;have BX:Hid (∀ wx,w0.grownBy wx none→wx.heap[w.heap.size]?=some (.cells #[.string op,.string nam,.slice ia il ic,.string out,.slice ao al cap] 25 (0,0))):=fun wx hg=>jaf hb0 hg;clear hb0 hn;unfold jax at GRP;simp only at GRP;obtain ⟨w1,hw1⟩ : ∃ w1,w1=w0.alloc (.cells #[.int .i64 ty,.slice da dn dc,.slice ta 2 tc] 32):=⟨_,rfl⟩
     have hb1:=heap_alloc_new w0 (.cells #[.int .i64 ty,.slice da dn dc,.slice ta 2 tc] 32);rw [← hw1] at hb1;have g1:w0.grownBy w1 none:=by rw [hw1];exact jab _ _
     have hs0:w0.heap.size=w.heap.size+1:=by rw [hw0];simp
     rw [hs0] at hb1;have BT:Hid (∀ wx,w1.grownBy wx none→wx.heap[w.heap.size+1]?=some (.cells #[.int .i64 ty,.slice da dn dc,.slice ta 2 tc] 32 (0,0))):=fun wx hg=>jaf hb1 hg;have BN:Hid (∀ wx,w1.grownBy wx none→wx.heap[w.heap.size]?=some (.cells #[.string op,.string nam,.slice ia il ic,.string out,.slice ao al cap] 25 (0,0))):=fun wx hg=>BX.out wx (jaa g1 hg);have G1:=jac (jaa g0.out g1);have hs1:Hid (w1.heap.size=w.heap.size+1+1):=by show _=_;rw [hw1,World.size_alloc,hs0]
     obtain ⟨t0,t1,t2⟩:=jaD hb1;rw [hw1,hw0] at t0 t1 t2;clear hb1 g1 hs0 BX;go_enter Tryz.func21,Tryz.ntmps21;go_wp2_with (first | (refine wpList_make_full _ rfl (.tmp 12) (.tmp 12) 30 rfl w1.heap.size 2 i0 (.int .i64 0) 1 Tryz.underlying30 hi0 hz0 hz1 .i64 .i64 _ _ 2 rfl rfl (by omega) (by omega) hb4 hb5 (by rw [hw1,hw0];exact Nat.le_refl _) ?_;rw [← hw0,← hw1];intro w2 hown2 hg2;obtain ⟨t0,t1,t2⟩:=jaD (BT.out w2 hg2);obtain ⟨n0,n1,n2,n3,n4⟩:=jai (n:=⟨op,nam,⟨ia,il,ic⟩,out,⟨ao,al,cap⟩⟩) (BN.out w2 hg2)));rw [jbJ] at hown2
     have O1:Hid (jaT w2 w1.heap.size (.slice (some ⟨w1.heap.size,0,none⟩) 2 2) (List.replicate 2 0)):=by
      refine ⟨by rw [List.length_replicate];exact hown2,by rw [List.length_replicate];omega,fun z hz=>?_⟩;rw [(List.mem_replicate.1 hz).2];omega
     have G2:=jac hg2;have GR:=jac (GRP.out w2 (jaa G1.out hg2));clear hown2 hg2 hb4 hb5 hw0 hw1 GRP;refine GR.out.mono ?_;rintro e w3 ⟨base,Bw,rs,hbase,rfl,hgr,hg3⟩;have HGR:=jac hgr;have G3:=jac hg3;have O3:=jac (O1.out.more hg3 (.inr (by simp [Value.ownBlock])))
     have hb12:Hid (w1.heap.size<base):=by
      have h:=O1.out.1.lt w1.heap.size rfl;show _<_;omega
     clear hgr hg3 hbase GR t0 t1 t2 n0 n1 n2 n3 n4;rw [← hs1.out];go_wp2;go_loopw [19] (fun i wr=>∃ k:Nat,k≤1∧i=.int .i64 k∧w1.grownBy wr none∧w3.grownBy wr (some w1.heap.size)∧jaT wr w1.heap.size (.slice (some ⟨w1.heap.size,0,none⟩) 2 2) (if k=0 then [0,0] else [1056964608,1056964608])) (fun i _=>1 - (intOf i).toNat)
     case atStart=>exact ⟨0,by omega,rfl,jaa G2.out G3.out,World.grownBy.refl _ _,O3.out⟩
     case round =>
      obtain ⟨k,hk,rfl,hg,hgw,o1⟩:=hrel
      by_cases hlt:k<1
      ·obtain rfl:k=0:=by omega
       rw [if_pos rfl] at o1;have HO:=jac o1;have HG:=jac hg;have HGW:=jac hgw;obtain ⟨rc,-⟩:=HGR.out.rd (k:=0) (by omega);have EA:=HGR.out.each 0 (by omega);obtain ⟨⟨ra,rn,rcap⟩,hrv⟩ : ∃ s,s=rs.getD 0 jfp:=⟨_,rfl⟩
       rw [← hrv] at rc EA;simp only at rc;have nb:Bw≠w1.heap.size:=by have h:=(HGR.out.row.lt Bw rfl).1;have:=hb12.out;omega
       have row':=World.ownsRow.kept HGR.out.row hgw (Or.inr (by simp only [Value.ownBlock,ne_eq,Option.some.injEq];exact nb))
       have rc':wr.cell? ⟨Bw,0,none⟩=some (.slice ra rn rcap):=by
        have hl:=HGR.out.len;rw [World.ownsRow.cellAt row' 0 (by omega),List.getElem?_map,List.getElem?_eq_getElem (by omega),Option.map_some];have e:rs[0]=⟨ra,rn,rcap⟩:=by rw [hrv];simp [List.getD,hl]
        rw [e]
       have EW:Hid (∀ wx,wr.grownBy wx (some w1.heap.size)→Owns wx base (.slice ra rn rcap) [0,1]):=fun wx h=>(EA.more hgw (jcf fun g e e2=>by have:=(EA.lt g e).1;have:=hb12.out;injection e2 with e2;omega)).more h (jcf fun g e e2=>by have:=(EA.lt g e).1;have:=hb12.out;injection e2 with e2;omega);have E0:=(EW.out wr (World.grownBy.refl _ _)).ints;obtain ⟨_,_,en,-⟩:=E0.sl;simp only [Value.slice.injEq,List.length_cons,List.length_nil,Nat.zero_add] at en;obtain ⟨rfl,rfl,rfl⟩:=en;have PK:=jac (jcj ⟨ta,2,tc⟩ ⟨ra,2,rcap⟩ [0,0] [0,1] wr (HXS.out.more (jaa G1.out hg)) E0 (by simp) (fun z hz=>by simp at hz;rcases hz with rfl | rfl <;> simp))
       simp only at PK;obtain ⟨t0,t1,t2⟩:=jaD (BT.out wr hg);obtain ⟨nb',no,hra,-⟩:=E0.get (k:=0) (by simp);subst hra
       have NC:Hid (∀ (wx:World) (j:Nat),wr.grownBy wx (some w1.heap.size)→j<2→wx.cell? ⟨nb',no+j,none⟩=some (.int .i64 (j:Int))):=fun wx j h hj=>by
        obtain ⟨b2,o2,e2,hc2⟩:=(EW.out wx h).ints.get (k:=0) (by simp);have eq:=Option.some.inj e2
        injection eq with q1 q2
        rw [q1,q2,hc2 j (by simpa using hj)]
        match j,hj with
        | 0,_=>rfl
        | 1,_=>rfl
       clear rc hrv nb row' EA EW E0 o1 hg hgw hlt;go_wp2_with fail;refine PK.out.mono ?_;rintro e w4 ⟨⟨pa,pn,pc⟩,rfl,hp4,hg4⟩;have SH:=jac (jqU ⟨pa,pn,pc⟩ w4 hp4);simp only at SH ⊢;have G4:=jac hg4;clear PK hp4 hg4 t0 t1 t2 rc';go_wp2_with fail;refine SH.out.mono ?_;rintro e w5 ⟨⟨sa,sn,sc⟩,rfl,os,hg5⟩;obtain ⟨_,_,esn,-⟩:=os.ints.sl;simp only [Sl.v,Value.slice.injEq,List.length_cons,List.length_nil,Nat.zero_add] at esn;obtain ⟨rfl,rfl,rfl⟩:=esn;obtain ⟨sb,so,hsa,-⟩:=os.ints.get (k:=0) (by simp);simp only at hsa;subst hsa;have g45:=jaa G4.out hg5;have OS:=jac os;have O5:=jac (HO.out.more g45 (.inr (by simp [Value.ownBlock])));have h14:w1.heap.size<w4.heap.size:=by have h:=HO.out.1.lt w1.heap.size rfl;have:=G4.out.size;omega
       have SC:Hid (∀ (wx:World) (j:Nat),w5.grownBy wx (some w1.heap.size)→j<2→wx.cell? ⟨sb,so+j,none⟩=some (.int .i64 1056964608)):=fun wx j h hj=>by
        have q:=OS.out.more h (jcf fun g e e2=>by have:=(World.ownsRow.lt OS.out.1 g e).1;injection e2 with e2;omega);obtain ⟨b2,o2,e2,hc2⟩:=q.ints.get (k:=0) (by simp);simp only at e2;have eq:=Option.some.inj e2
        injection eq with q1 q2
        rw [q1,q2,hc2 j (by simpa using hj)]
        match j,hj with
        | 0,_=>rfl
        | 1,_=>rfl
       have G5:=jac g45;have G15:=jac (jaa HG.out g45);clear os hg5 g45 SH h14 G4;simp only;go_wp2;go_loopw [29] (fun i wx=>∃ j:Nat,j≤2∧i=.int .i64 j∧w1.grownBy wx none∧w5.grownBy wx (some w1.heap.size)∧jaT wx w1.heap.size (.slice (some ⟨w1.heap.size,0,none⟩) 2 2) (List.replicate j 1056964608++List.replicate (2 - j) 0)) (fun i _=>2 - (intOf i).toNat)
       case atStart=>exact ⟨0,by omega,rfl,G15.out,World.grownBy.refl _ _,O5.out⟩
       case round =>
        obtain ⟨j,hj,rfl,hg,hgw,o1⟩:=hrel
        by_cases hlt:j<2
        ·have c1:=SC.out wr j hgw hlt;have c2:=NC.out wr j (jaI (jck G5.out) hgw) hlt;obtain ⟨a1,a2,a3,a4⟩:=o1.put (by simp;omega) hlt 1056964608 (by omega);rw [ji2 0 1056964608 j hlt] at a3;have N1:=jac a3;have N2:=jac (jaq hg a4 (Nat.le_refl _));have N3:=jac (jaI hgw a4);have l1:(j:Int)<2:=by omega
         clear hg hgw o1 a3 a4;go_wp2_with fail;go_roundw
         case rel=>exact ⟨j+1,by omega,by go_num,N2.out,N3.out,N1.out⟩
         case measure=>simp [intOf];omega
        ·have hje:j=2:=by omega
         subst hje;have N1:=jac o1;have N2:=jac hg;have N3:=jac (jaI HGW.out (jaI (jck G5.out) hgw));clear hg hgw o1;go_wp2_with fail;go_roundw
         case rel=>exact ⟨1,by omega,by go_num,N2.out,N3.out,N1.out⟩
         case measure=>simp [intOf]
      ·have hke:k=1:=by omega
       subst hke;rw [if_neg (by decide)] at o1;have N1:=jac o1;have N2:=jac hg;have hz:=jac G1.out.size;clear o1 hg hgw;go_wp2;go_ret;exact ⟨⟨some ⟨w1.heap.size,0,none⟩,2,2⟩,rfl,⟨jaL N1.out.1 hz.out,N1.out.2⟩,jaa G1.out N2.out⟩
end Go.Proofs.YtekocmdfaaoggaaGreatDoor
