/- A part. -/
import Derived.Test.YtekocmdfaaoggaaGreatDoorMTart
import Derived.Test.YtekocmdfaaoggaaGreatDoorTartBB
import Derived.Test.YtekocmdfaaoggaaGreatDoorTartBD
import Derived.Test.YtekocmdfaaoggaaGreatDoorTartAP
import Derived.Test.YtekocmdfaaoggaaGreatDoorTartAQ
import Derived.Test.YtekocmdfaaoggaaGreatDoorTartAN
import Derived.Deep.AppendLies
set_option maxHeartbeats 16000000
set_option maxRecDepth 100000
namespace Go.Proofs.YtekocmdfaaoggaaGreatDoor
open Go.RowKit
theorem jmR (n:Nod) (A:At) (u:Sl) (p0 p1 p2:Val×List Int) (w:World) (hn:NodeOk w n A) (hv:ValsIn w u.v [p0,p1,p2]) (hl4:p0.2.length=4) (hk4:p1.2.length=4) (hf:Fine p0.2) (hfk:Fine p1.2) (hz:p2.2.length=1∧p2.2.getD 0 0=p1.2.getD 0 0):Calls Tryz.prog 110 #[jax n,.slice u.a u.n u.c] w (jaF w (jb5 A p0.2 p1.2) jbi):=by
 obtain ⟨xa,xc,e1,q1,q2,q3⟩:=hv.vals.form;simp only [List.map_cons,List.map_nil,List.length_cons,List.length_nil,Nat.zero_add,Nat.reduceAdd] at e1 q1 q3;obtain ⟨ua,un,uc⟩:=u;simp only [Sl.v,Value.slice.injEq] at e1;obtain ⟨rfl,rfl,rfl⟩:=e1;obtain ⟨b,off,rfl⟩:=hv.vals.addr (k:=0) (by simp);obtain ⟨-,z0⟩:=hv.at 0 (by simp);obtain ⟨-,z1⟩:=hv.at 1 (by simp);obtain ⟨-,z2⟩:=hv.at 2 (by simp);rw [Nat.zero_mul,Nat.add_zero] at z0;simp only [List.getElem_cons_zero,List.getElem_cons_succ,Nat.one_mul,Nat.reduceMul] at z0 z1 z2;have HX:=jac (hv.dims p0 (by simp));have HK:=jac (hv.dims p1 (by simp));have HZ:=jac (hv.dims p2 (by simp));obtain ⟨⟨vn0,vt0,⟨d0a,d0n,d0c⟩⟩,x⟩:=p0;obtain ⟨⟨vn1,vt1,⟨d1a,d1n,d1c⟩⟩,k⟩:=p1;obtain ⟨⟨vn2,vt2,⟨d2a,d2n,d2c⟩⟩,z⟩:=p2;simp only at z0 z1 z2 HX HK HZ hz hl4 hk4 hf hfk ⊢;obtain ⟨xx,xcc,ex,f1,f2,f3⟩:=HX.out.sl;simp only [Sl.v,Value.slice.injEq] at ex;obtain ⟨rfl,rfl,rfl⟩:=ex;obtain ⟨kx,kcc,ek,g1,g2,g3⟩:=HK.out.sl;simp only [Sl.v,Value.slice.injEq] at ek;obtain ⟨rfl,rfl,rfl⟩:=ek;obtain ⟨zx,zcc,ez,h1,h2,h3⟩:=HZ.out.sl;simp only [Sl.v,Value.slice.injEq] at ez;obtain ⟨rfl,rfl,rfl⟩:=ez;have PB:Hid (∀ z∈x,1≤z∧z≤65536):=fun z hz=>⟨hf.pos z hz,hf.le_each hz⟩
 have PK:Hid (∀ z∈k,1≤z∧z≤65536):=fun z hz=>⟨hfk.pos z hz,hfk.le_each hz⟩
 obtain ⟨xb,xo,rfl,hcx⟩:=HX.out.get (k:=0) (by omega);obtain ⟨kb,ko,rfl,hck⟩:=HK.out.get (k:=0) (by omega);have X0:=jac (hcx 0 (by omega));have X1:=jac (hcx 1 (by omega));have K0:=jac (hck 0 (by omega));have K1:=jac (hck 1 (by omega));have K2:=jac (hck 2 (by omega));have K3:=jac (hck 3 (by omega));have bx0:=PB.out _ (jaX (l:=x) (k:=0) (by omega));have bx1:=PB.out _ (jaX (l:=x) (k:=1) (by omega));have bk0:=PK.out _ (jaX (l:=k) (k:=0) (by omega));have bk1:=PK.out _ (jaX (l:=k) (k:=1) (by omega));have bk2:=PK.out _ (jaX (l:=k) (k:=2) (by omega));have bk3:=PK.out _ (jaX (l:=k) (k:=3) (by omega));rw [Nat.add_zero] at X0 K0;obtain ⟨x0,hx0⟩ : ∃ q,q=x.getD 0 0:=⟨_,rfl⟩
 obtain ⟨x1,hx1⟩ : ∃ q,q=x.getD 1 0:=⟨_,rfl⟩
 obtain ⟨k0,hk0⟩ : ∃ q,q=k.getD 0 0:=⟨_,rfl⟩
 obtain ⟨k1,hk1⟩ : ∃ q,q=k.getD 1 0:=⟨_,rfl⟩
 obtain ⟨k2,hk2⟩ : ∃ q,q=k.getD 2 0:=⟨_,rfl⟩
 obtain ⟨k3,hk3⟩ : ∃ q,q=k.getD 3 0:=⟨_,rfl⟩
 obtain ⟨G,hG⟩ : ∃ q,q=A.int ⟨#[103,114,111,117,112]⟩ 1:=⟨_,rfl⟩
 have GB:=hn.int ⟨#[103,114,111,117,112]⟩ 1 (by decide);have E0:Hid (jb5 A x k=(jal (decide (1≤G))).bind (fun _=>(jal (decide (x1 % G=0∧k0 % G=0∧x1 / G=k1))).bind (fun _=>(jaH A x [k2,k3] 0).bind (fun a=>(jaH A x [k2,k3] 1).bind (fun b=>.ok [x0,k0,a,b]))))):=by show _=_;unfold jb5;rw [hx0,hx1,hk0,hk1,hk2,hk3,hG]
 rw [← hx0] at X0 bx0;rw [← hx1] at X1 bx1;rw [← hk0] at K0 bk0 hz;rw [← hk1] at K1 bk1;rw [← hk2] at K2 bk2;rw [← hk3] at K3 bk3;rw [← hG] at GB;obtain ⟨zb,zo,rfl,hcz⟩:=HZ.out.get (k:=0) (by have:=hz.1;omega);have CZ:=jac (hcz 0 (by have:=hz.1;omega));rw [Nat.add_zero,hz.2] at CZ;have bz:((z.length:Int)==1)=true:=by simp [hz.1]
 have m0:0<z.length:=by have:=hz.1;omega
 have m0':(0:Int)<(z.length:Int):=by omega
 have Z2:=jac z2;have Z0:=jac z0;have Z1:=jac z1;have bx:((x.length:Int)==4)=true:=by simp [hl4]
 have bk:((k.length:Int)==4)=true:=by simp [hk4]
 have HL4:=jac hl4;have HK4:=jac hk4;have l0:(0:Int)<(x.length:Int):=by omega
 have l1:(1:Int)<(x.length:Int):=by omega
 have l2:0<x.length:=by omega
 have l3:1<x.length:=by omega
 have j0:(0:Int)<(k.length:Int):=by omega
 have j1:(1:Int)<(k.length:Int):=by omega
 have j2:(2:Int)<(k.length:Int):=by omega
 have j3:(3:Int)<(k.length:Int):=by omega
 have j4:0<k.length:=by omega
 have j5:1<k.length:=by omega
 have j6:2<k.length:=by omega
 have j7:3<k.length:=by omega
 have bG1:=GB.1;have bG2:=GB.2;clear hv z0 z1 z2 hz hcz hl4 hk4 hx0 hx1 hk0 hk1 hk2 hk3 hcx hck hf hfk GB;have NI:=jac (fun (wx:World) (hg:w.grownBy wx none)=>jbP n A ⟨#[103,114,111,117,112]⟩ 1 wx (hn.more hg));rw [← hG] at NI;clear hG;have NK:=jac hn;obtain ⟨op,nam,⟨ia,il,ic⟩,out,⟨ao,al,cap⟩⟩:=n;unfold jax;simp only;obtain ⟨w0,hw0⟩ : ∃ w0,w0=w.alloc (.cells #[.string op,.string nam,.slice ia il ic,.string out,.slice ao al cap] 25):=⟨_,rfl⟩
 have g0:Hid (w.grownBy w0 none):=by show w.grownBy w0 none;rw [hw0];exact jab _ _
 have hb0:=heap_alloc_new w (.cells #[.string op,.string nam,.slice ia il ic,.string out,.slice ao al cap] 25);rw [← hw0] at hb0;have BX:Hid (∀ wx,w0.grownBy wx none→wx.heap[w.heap.size]?=some (.cells #[.string op,.string nam,.slice ia il ic,.string out,.slice ao al cap] 25 (0,0))):=fun wx hg=>jaf hb0 hg;clear hb0 hn;have PL:=jac (fun (wx:World) (hg:w.grownBy wx none) (v:Sl) (K:List Int) (lng:Nat) (hK:jak wx v.v K) (hlK:K.length=2) (bK:∀ z∈K,1≤z∧z≤65536) (ha:lng<2)=>jej ⟨op,nam,⟨ia,il,ic⟩,out,⟨ao,al,cap⟩⟩ A ⟨some ⟨xb,xo,none⟩,x.length,d0c⟩ v x K lng wx (NK.out.more hg) (HX.out.more hg) hK HL4.out hlK PB.out bK ha);unfold jax at NI PL;simp only at NI PL;go_enter Tryz.func110,Tryz.ntmps110;go_wp2_with fail;rw [← hw0];clear hw0;have y0:=jad Z0.out g0.out;have y1:=jad Z1.out g0.out;have i1:(1:Int)<3:=by decide
 have i2:(2:Int)<3:=by decide
 go_quiet (fail)
 have gq:w0.grownBy (w0.drewN nq) none:=⟨rfl,rfl,rfl,Nat.le_refl _,fun k hk hn=>rfl⟩
 obtain ⟨wq,hwq⟩ : ∃ wq,wq=w0.drewN nq:=⟨_,rfl⟩
 rw [← hwq] at gq ⊢;have GQ0:=jac gq;have GQ:=jac (jaa g0.out gq);clear hwq y0 y1 gq;have y2:=jad Z2.out GQ.out;have cz:=jad CZ.out GQ.out;have ck:=jad K0.out GQ.out;go_wp2_with (first | (go_at_call 65;refine (jap _).mono ?_;rintro e w' ⟨rfl,rfl⟩) | fail)
 go_quiet (first | (go_at_call 65;refine (jap _).mono ?_;rintro e w' ⟨rfl,rfl⟩;exact ⟨rfl,_,rfl⟩) | fail)
 have gq:wq.grownBy (wq.drewN nq) none:=⟨rfl,rfl,rfl,Nat.le_refl _,fun k hk hn=>rfl⟩
 obtain ⟨wp,hwp⟩ : ∃ wp,wp=wq.drewN nq:=⟨_,rfl⟩
 rw [← hwp] at gq ⊢;have GP0:=jac (jaa GQ0.out gq);have GP:=jac (jaa GQ.out gq);clear hwp y2 cz ck gq;obtain ⟨n0,n1,n2,n3,n4⟩:=jai (n:=⟨op,nam,⟨ia,il,ic⟩,out,⟨ao,al,cap⟩⟩) (BX.out wp (GP0.out));go_wp2_with (first | (go_at_call 65;refine (jap _).mono ?_;rintro e w' ⟨rfl,rfl⟩) | fail);refine (NI.out wp GP.out).mono ?_;rintro e w1 ⟨rfl,hg1⟩;go_wp2_with fail;have G1:=jac (jaa GP.out hg1);have G10:=jac (jaa GP0.out hg1);clear hg1 NI n0 n1 n2 n3 n4
 by_cases hG1:1≤G
 ·have E1:Hid (jb5 A x k=(jal (decide (x1 % G=0∧k0 % G=0∧x1 / G=k1))).bind (fun _=>(jaH A x [k2,k3] 0).bind (fun a=>(jaH A x [k2,k3] 1).bind (fun b=>.ok [x0,k0,a,b])))):=by show _=_;rw [E0.out];simp [jal,hG1];rfl
  have y1:=jad X1.out G1.out;rw [show decide (1≤G)=true from decide_eq_true hG1];refine (jap _).mono ?_;rintro e w' ⟨rfl,rfl⟩;go_wp2_with fail;clear y1;have t1:x1.tmod G=x1 % G:=Int.tmod_eq_emod_of_nonneg (by omega);have t2:k0.tmod G=k0 % G:=Int.tmod_eq_emod_of_nonneg (by omega);have t3:x1.tdiv G=x1 / G:=Int.tdiv_eq_ediv_of_nonneg (by omega);have q1:0≤x1 / G:=Int.ediv_nonneg (by omega) (by omega);have q2:x1 / G≤x1:=Int.ediv_le_self _ (by omega);have g0':¬ G=0:=by omega
  have wQ:IntKind.i64.wrap (x1 / G)=x1 / G:=jfm (by omega) (by omega);have yk0:=jad K0.out G1.out;have yk1:=jad K1.out G1.out;obtain ⟨M1,hM1⟩ : ∃ q,q=x1 % G:=⟨_,rfl⟩
  obtain ⟨M2,hM2⟩ : ∃ q,q=k0 % G:=⟨_,rfl⟩
  obtain ⟨Q,hQ⟩ : ∃ q,q=x1 / G:=⟨_,rfl⟩
  rw [← hM1] at t1 E1;rw [← hM2] at t2 E1;rw [← hQ] at t3 E1 q1 q2 wQ;clear hM1 hM2 hQ hG1
  by_cases c1:M1=0
  ·have d1:(M1==0)=true:=by simp [c1]
   by_cases c2:M2=0
   ·have d2:(M2==0)=true:=by simp [c2]
    by_cases c3:Q=k1
    ·have d3:(Q==k1)=true:=by simp [c3]
     have E4:Hid (jb5 A x k=(jaH A x [k2,k3] 0).bind (fun a=>(jaH A x [k2,k3] 1).bind (fun b=>.ok [x0,k0,a,b]))):=by show _=_;rw [E1.out];simp [jal,c1,c2,c3];rfl
     clear c1 c2 c3
     go_quiet (first | (go_at_call 65;refine (jap _).mono ?_;rintro e w' ⟨rfl,rfl⟩;exact ⟨rfl,_,rfl⟩) | fail)
     have gq:w1.grownBy (w1.drewN nq) none:=⟨rfl,rfl,rfl,Nat.le_refl _,fun k hk hn=>rfl⟩
     obtain ⟨w2,hw2⟩ : ∃ w2,w2=w1.drewN nq:=⟨_,rfl⟩
     rw [← hw2] at gq ⊢;have G2:=jac (jaa G1.out gq);have G20:=jac (jaa G10.out gq);clear hw2 gq yk0 yk1 t1 t2 t3 q1 q2 d1 d2 d3 wQ;have yk2:=jad K2.out G2.out;have yk3:=jad K3.out G2.out;go_wp2_with fail;go_region_held3 (fun w'=>w'.cell? ⟨kb,ko+2,none⟩=some (.int .i64 k2)∧w'.cell? ⟨kb,ko+3,none⟩=some (.int .i64 k3)) (go_keep) (fail);obtain ⟨w4,hw4⟩ : ∃ w4,w4=(w2.alloc (.cells #[.int .i64 k2,.int .i64 k3] 2)).drew:=⟨_,rfl⟩
     have G4:Hid (w.grownBy w4 none):=by show w.grownBy w4 none;rw [hw4];exact jag (jaa G2.out (jab _ _))
     have G04:Hid (w0.grownBy w4 none):=by show w0.grownBy w4 none;rw [hw4];exact jag (jaa G20.out (jab _ _))
     have HKI:Hid (jak w4 (.slice (some ⟨w2.heap.size,0,none⟩) 2 2) [k2,k3]):=by show jak w4 _ _;rw [hw4];exact (jbo w2 [k2,k3] 2 (by simp) (fun y hy=>by simp at hy;omega)).more (jag (jae _))
     rw [← hw4];clear hw4 yk2 yk3;have y0:=jad X0.out G4.out;have y1:=jad K0.out G4.out;have L0:=jac (fun (wx:World) (hg:w4.grownBy wx none)=>PL.out wx (jaa G4.out hg) ⟨some ⟨w2.heap.size,0,none⟩,2,2⟩ [k2,k3] 0 (HKI.out.more hg) rfl (fun z hz=>by simp at hz;omega) (by decide));have L1:=jac (fun (wx:World) (hg:w4.grownBy wx none)=>PL.out wx (jaa G4.out hg) ⟨some ⟨w2.heap.size,0,none⟩,2,2⟩ [k2,k3] 1 (HKI.out.more hg) rfl (fun z hz=>by simp at hz;omega) (by decide));simp only [Int.natCast_zero,Int.natCast_one] at L0 L1;obtain ⟨n0,n1,n2,n3,n4⟩:=jai (n:=⟨op,nam,⟨ia,il,ic⟩,out,⟨ao,al,cap⟩⟩) (BX.out w4 (G04.out));clear PL;go_wp2_with fail
     cases hA0:jaH A x [k2,k3] 0 with
     | error c =>
      rw [hA0] at L0;have E5:Hid (jb5 A x k=.error c):=by show _=_;rw [E4.out,hA0];rfl
      clear hA0;refine wp_region_held_drew (S:=(fun w'=>w'.cell? ⟨w.heap.size,0,none⟩=some (.string op)∧w'.cell? ⟨w.heap.size,1,none⟩=some (.string nam)∧w'.cell? ⟨w.heap.size,2,none⟩=some (.slice ia il ic)∧w'.cell? ⟨w.heap.size,3,none⟩=some (.string out)∧w'.cell? ⟨w.heap.size,4,none⟩=some (.slice ao al cap)∧w'.cell? ⟨xb,xo,none⟩=some (.int .i64 x0)∧w'.cell? ⟨kb,ko,none⟩=some (.int .i64 k0))) (by kernel_rfl) (by go_keep) (fun hHeld=>?_);refine tkA 0 ?_
      try simp only [Act.put]
      refine tkA 1 ?_
      try simp only [Act.put]
      refine tkA 2 ?_
      try simp only [Act.put]
      refine tkA 3 ?_
      try simp only [Act.put]
      refine tkA 4 ?_
      try simp only [Act.put]
      refine tkA 5 ?_
      try simp only [Act.put]
      refine tkA 6 ?_
      try simp only [Act.put]
      refine tkA 7 ?_
      try simp only [Act.put]
      refine tkA 8 ?_
      try simp only [Act.put]
      refine tkA 10 ?_
      try simp only [Act.put]
      refine tkA 11 ?_
      try simp only [Act.put]
      refine tkA 12 ?_
      try simp only [Act.put]
      refine wpAnyH_ready (rs:=[9]) (by kernel_rfl) (by simp) ?_;refine AllReadyH.cons rfl (fun K hK=>?_) ?_
      ·skip
       go_simp;refine (L0.out _ (jag (jae _))).mono ?_;rintro e wy ⟨hg,rfl⟩;exact ⟨rfl,jah E5.out (jaa (jag G4.out) hg)⟩
      exact AllReadyH.nil
     | ok pa =>
      rw [hA0] at L0
      cases hA1:jaH A x [k2,k3] 1 with
      | error c =>
       rw [hA1] at L1;have E6:Hid (jb5 A x k=.error c):=by show _=_;rw [E4.out,hA0,hA1];rfl
       clear hA0 hA1;refine wp_region_held_drew (S:=(fun w'=>w'.cell? ⟨w.heap.size,0,none⟩=some (.string op)∧w'.cell? ⟨w.heap.size,1,none⟩=some (.string nam)∧w'.cell? ⟨w.heap.size,2,none⟩=some (.slice ia il ic)∧w'.cell? ⟨w.heap.size,3,none⟩=some (.string out)∧w'.cell? ⟨w.heap.size,4,none⟩=some (.slice ao al cap)∧w'.cell? ⟨xb,xo,none⟩=some (.int .i64 x0)∧w'.cell? ⟨kb,ko,none⟩=some (.int .i64 k0))) (by kernel_rfl) (by go_keep) (fun hHeld=>?_);refine tkA 0 ?_
       try simp only [Act.put]
       refine tkA 1 ?_
       try simp only [Act.put]
       refine tkA 2 ?_
       try simp only [Act.put]
       refine tkA 3 ?_
       try simp only [Act.put]
       refine tkA 4 ?_
       try simp only [Act.put]
       refine tkA 5 ?_
       try simp only [Act.put]
       refine tkA 6 ?_
       try simp only [Act.put]
       refine tkA 7 ?_
       try simp only [Act.put]
       refine tkA 8 ?_
       try simp only [Act.put]
       refine tkA 10 ?_
       try simp only [Act.put]
       refine tkA 11 ?_
       try simp only [Act.put]
       refine tkA 12 ?_
       try simp only [Act.put]
       refine wpAnyH_ready (rs:=[9]) (by kernel_rfl) (by simp) ?_;refine AllReadyH.cons rfl (fun K hK=>?_) ?_
       ·skip
        go_simp;refine (L0.out _ (jag (jae _))).mono ?_;rintro e w5 ⟨hg5,v,rfl,rfl,hb1,hb2⟩;have g5:=jaa (jag (jae w4)) hg5;have g5w:=jaa G04.out g5;obtain ⟨n0,n1,n2,n3,n4⟩:=jai (n:=⟨op,nam,⟨ia,il,ic⟩,out,⟨ao,al,cap⟩⟩) (BX.out w5 (g5w));have y0:=jad X0.out (jaa g0.out g5w);have y1:=jad K0.out (jaa g0.out g5w)
        try dsimp only
        refine hK.out _ _ (by first | assumption | go_keep) (fun hHeld=>?_);clear hK K
        try simp only [Act.put]
        refine wpAnyH_ready (rs:=[13]) (by kernel_rfl) (by simp) ?_;refine AllReadyH.cons rfl (fun K hK=>?_) ?_
        ·skip
         go_simp;refine (L1.out _ g5).mono ?_;rintro e wy ⟨hg,rfl⟩;exact ⟨rfl,jah E6.out (jaa (jaa G4.out g5) hg)⟩
        exact AllReadyH.nil
       exact AllReadyH.nil
      | ok pb =>
       rw [hA1] at L1;have E7:Hid (jb5 A x k=.ok [x0,k0,pa,pb]):=by show _=_;rw [E4.out,hA0,hA1];rfl
       clear hA0 hA1;refine wp_region_held_drew (S:=(fun w'=>w'.cell? ⟨w.heap.size,0,none⟩=some (.string op)∧w'.cell? ⟨w.heap.size,1,none⟩=some (.string nam)∧w'.cell? ⟨w.heap.size,2,none⟩=some (.slice ia il ic)∧w'.cell? ⟨w.heap.size,3,none⟩=some (.string out)∧w'.cell? ⟨w.heap.size,4,none⟩=some (.slice ao al cap)∧w'.cell? ⟨xb,xo,none⟩=some (.int .i64 x0)∧w'.cell? ⟨kb,ko,none⟩=some (.int .i64 k0))) (by kernel_rfl) (by go_keep) (fun hHeld=>?_);refine tkA 0 ?_
       try simp only [Act.put]
       refine tkA 1 ?_
       try simp only [Act.put]
       refine tkA 2 ?_
       try simp only [Act.put]
       refine tkA 3 ?_
       try simp only [Act.put]
       refine tkA 4 ?_
       try simp only [Act.put]
       refine tkA 5 ?_
       try simp only [Act.put]
       refine tkA 6 ?_
       try simp only [Act.put]
       refine tkA 7 ?_
       try simp only [Act.put]
       refine tkA 8 ?_
       try simp only [Act.put]
       refine tkA 10 ?_
       try simp only [Act.put]
       refine tkA 11 ?_
       try simp only [Act.put]
       refine tkA 12 ?_
       try simp only [Act.put]
       refine wpAnyH_ready (rs:=[9]) (by kernel_rfl) (by simp) ?_;refine AllReadyH.cons rfl (fun K hK=>?_) ?_
       ·skip
        go_simp;refine (L0.out _ (jag (jae _))).mono ?_;rintro e w5 ⟨hg5,v,rfl,rfl,hb1,hb2⟩;have g5:=jaa (jag (jae w4)) hg5;have g5w:=jaa G04.out g5;obtain ⟨n0,n1,n2,n3,n4⟩:=jai (n:=⟨op,nam,⟨ia,il,ic⟩,out,⟨ao,al,cap⟩⟩) (BX.out w5 (g5w));have y0:=jad X0.out (jaa g0.out g5w);have y1:=jad K0.out (jaa g0.out g5w)
        try dsimp only
        refine hK.out _ _ (by first | assumption | go_keep) (fun hHeld=>?_);clear hK K
        try simp only [Act.put]
        refine wpAnyH_ready (rs:=[13]) (by kernel_rfl) (by simp) ?_;refine AllReadyH.cons rfl (fun K hK=>?_) ?_
        ·skip
         go_simp;refine (L1.out _ g5).mono ?_;rintro e w6 ⟨hg6,v,rfl,rfl,hc1,hc2⟩;have g6:=jaa g5 hg6;have g6w:=jaa G04.out g6;obtain ⟨n0,n1,n2,n3,n4⟩:=jai (n:=⟨op,nam,⟨ia,il,ic⟩,out,⟨ao,al,cap⟩⟩) (BX.out w6 (g6w));have y0:=jad X0.out (jaa g0.out g6w);have y1:=jad K0.out (jaa g0.out g6w)
         try dsimp only
         refine hK.out _ _ (by first | assumption | go_keep) (fun hHeld=>?_);clear hK K
         try simp only [Act.put]
         refine wpAnyH_ready (rs:=[14]) (by kernel_rfl) (by simp) ?_;refine AllReadyH.cons rfl (fun K hK=>?_) ?_
         ·skip
          go_simp;have y0:=jad y0 (jab w6 (.cells #[.int .i64 x0,.int .i64 k0,.int .i64 pa,.int .i64 pb] 3));have y1:=jad y1 (jab w6 (.cells #[.int .i64 x0,.int .i64 k0,.int .i64 pa,.int .i64 pb] 3));obtain ⟨n0,n1,n2,n3,n4⟩:=jai (n:=⟨op,nam,⟨ia,il,ic⟩,out,⟨ao,al,cap⟩⟩) (BX.out _ (jaa g6w (jab w6 (.cells #[.int .i64 x0,.int .i64 k0,.int .i64 pa,.int .i64 pb] 3))));refine hK.out _ _ (by first | assumption | go_keep) (fun hHeld=>?_);clear hK K
          try simp only [Act.put]
          refine tkA 15 ?_
          try simp only [Act.put]
          refine wpAnyH_done (by kernel_rfl) ?_ _
          try go_simp
          go_wp2;go_ret;exact jao E7.out (jaa (jaa G4.out g6) (jab _ _)) ⟨⟨some ⟨w6.heap.size,0,none⟩,4,4⟩,rfl,jbo w6 [x0,k0,pa,pb] 3 (by simp) (fun y hy=>by simp at hy;omega)⟩
         exact AllReadyH.nil
        exact AllReadyH.nil
       exact AllReadyH.nil
    ·have d3:(Q==k1)=false:=by simpa using c3
     have E4:Hid (jb5 A x k=.error 4):=by show _=_;rw [E1.out];simp [jal,c1,c2,c3];rfl
     clear c1 c2 c3;refine wp_region_held_drew (S:=(fun w'=>w'.cell? ⟨kb,ko,none⟩=some (.int .i64 k0)∧w'.cell? ⟨kb,ko+1,none⟩=some (.int .i64 k1))) (by kernel_rfl) (by go_keep) (fun hHeld=>?_);refine tkB 0 ?_
     try simp only [Act.put]
     refine tkB 1 ?_
     try simp only [Act.put]
     refine wpAnyH_take (i:=2) (v:=.int .i64 M1) rfl (by kernel_rfl) (by kernel_rfl) (by kernel_rfl) (fun _ _ _ h=>h) (Or.inl ⟨by kernel_rfl,?_⟩) (by assumption) ?_
     ·(intro w hSw;(try dsimp only at hSw);go_simp;(try simp only [t1]))
     try simp only [Act.put]
     refine wpAnyH_take (i:=3) (v:=.bool true) rfl (by kernel_rfl) (by kernel_rfl) (by kernel_rfl) (fun _ _ _ h=>h) (Or.inl ⟨by kernel_rfl,?_⟩) (by assumption) ?_
     ·(intro w hSw;(try dsimp only at hSw);go_simp;(try simp only [d1]))
     try simp only [Act.put]
     refine tkB 4 ?_
     try simp only [Act.put]
     refine tkB 5 ?_
     try simp only [Act.put]
     refine tkB 6 ?_
     try simp only [Act.put]
     refine tkB 7 ?_
     try simp only [Act.put]
     refine tkB 8 ?_
     try simp only [Act.put]
     refine wpAnyH_take (i:=9) (v:=.int .i64 M2) rfl (by kernel_rfl) (by kernel_rfl) (by kernel_rfl) (fun _ _ _ h=>h) (Or.inl ⟨by kernel_rfl,?_⟩) (by assumption) ?_
     ·(intro w hSw;(try dsimp only at hSw);go_simp;(try simp only [t2]))
     try simp only [Act.put]
     refine wpAnyH_take (i:=10) (v:=.bool true) rfl (by kernel_rfl) (by kernel_rfl) (by kernel_rfl) (fun _ _ _ h=>h) (Or.inl ⟨by kernel_rfl,?_⟩) (by assumption) ?_
     ·(intro w hSw;(try dsimp only at hSw);go_simp;(try simp only [d2]))
     try simp only [Act.put]
     refine tkB 11 ?_
     try simp only [Act.put]
     refine tkB 12 ?_
     try simp only [Act.put]
     refine tkB 13 ?_
     try simp only [Act.put]
     refine tkB 14 ?_
     try simp only [Act.put]
     refine wpAnyH_take (i:=15) (v:=.int .i64 Q) rfl (by kernel_rfl) (by kernel_rfl) (by kernel_rfl) (fun _ _ _ h=>h) (Or.inl ⟨by kernel_rfl,?_⟩) (by assumption) ?_
     ·(intro w hSw;(try dsimp only at hSw);go_simp;(try simp only [t3,wQ]))
     try simp only [Act.put]
     refine tkB 16 ?_
     try simp only [Act.put]
     refine tkB 17 ?_
     try simp only [Act.put]
     refine tkB 18 ?_
     try simp only [Act.put]
     refine wpAnyH_take (i:=19) (v:=.bool false) rfl (by kernel_rfl) (by kernel_rfl) (by kernel_rfl) (fun _ _ _ h=>h) (Or.inl ⟨by kernel_rfl,?_⟩) (by assumption) ?_
     ·(intro w hSw;(try dsimp only at hSw);go_simp;(try simp only [d3]))
     try simp only [Act.put]
     refine tkB 20 ?_
     try simp only [Act.put]
     refine wpAnyH_ready (rs:=[21]) (by kernel_rfl) (by simp) ?_;refine AllReadyH.cons rfl (fun K hK=>?_) ?_
     ·skip
      go_simp;refine (jaw _).mono ?_;rintro e wy ⟨rfl,rfl⟩;exact ⟨rfl,jah E4.out (jag G1.out)⟩
     exact AllReadyH.nil
   ·have d2:(M2==0)=false:=by simpa using c2
    have E4:Hid (jb5 A x k=.error 4):=by show _=_;rw [E1.out];simp [jal,c1,c2];rfl
    clear c1 c2;refine wp_region_held_drew (S:=(fun w'=>w'.cell? ⟨kb,ko,none⟩=some (.int .i64 k0)∧w'.cell? ⟨kb,ko+1,none⟩=some (.int .i64 k1))) (by kernel_rfl) (by go_keep) (fun hHeld=>?_);refine tkB 0 ?_
    try simp only [Act.put]
    refine tkB 1 ?_
    try simp only [Act.put]
    refine wpAnyH_take (i:=2) (v:=.int .i64 M1) rfl (by kernel_rfl) (by kernel_rfl) (by kernel_rfl) (fun _ _ _ h=>h) (Or.inl ⟨by kernel_rfl,?_⟩) (by assumption) ?_
    ·(intro w hSw;(try dsimp only at hSw);go_simp;(try simp only [t1]))
    try simp only [Act.put]
    refine wpAnyH_take (i:=3) (v:=.bool true) rfl (by kernel_rfl) (by kernel_rfl) (by kernel_rfl) (fun _ _ _ h=>h) (Or.inl ⟨by kernel_rfl,?_⟩) (by assumption) ?_
    ·(intro w hSw;(try dsimp only at hSw);go_simp;(try simp only [d1]))
    try simp only [Act.put]
    refine tkB 4 ?_
    try simp only [Act.put]
    refine tkB 5 ?_
    try simp only [Act.put]
    refine tkB 6 ?_
    try simp only [Act.put]
    refine tkB 7 ?_
    try simp only [Act.put]
    refine tkB 8 ?_
    try simp only [Act.put]
    refine wpAnyH_take (i:=9) (v:=.int .i64 M2) rfl (by kernel_rfl) (by kernel_rfl) (by kernel_rfl) (fun _ _ _ h=>h) (Or.inl ⟨by kernel_rfl,?_⟩) (by assumption) ?_
    ·(intro w hSw;(try dsimp only at hSw);go_simp;(try simp only [t2]))
    try simp only [Act.put]
    refine wpAnyH_take (i:=10) (v:=.bool false) rfl (by kernel_rfl) (by kernel_rfl) (by kernel_rfl) (fun _ _ _ h=>h) (Or.inl ⟨by kernel_rfl,?_⟩) (by assumption) ?_
    ·(intro w hSw;(try dsimp only at hSw);go_simp;(try simp only [d2]))
    try simp only [Act.put]
    refine tkB 11 ?_
    try simp only [Act.put]
    refine tkB 12 ?_
    try simp only [Act.put]
    refine tkU 13 ?_
    try simp only [Act.put]
    refine tkU 14 ?_
    try simp only [Act.put]
    refine tkU 15 ?_
    try simp only [Act.put]
    refine tkU 16 ?_
    try simp only [Act.put]
    refine tkU 17 ?_
    try simp only [Act.put]
    refine tkU 18 ?_
    try simp only [Act.put]
    refine tkU 19 ?_
    try simp only [Act.put]
    refine tkB 20 ?_
    try simp only [Act.put]
    refine wpAnyH_ready (rs:=[21]) (by kernel_rfl) (by simp) ?_;refine AllReadyH.cons rfl (fun K hK=>?_) ?_
    ·skip
     go_simp;refine (jaw _).mono ?_;rintro e wy ⟨rfl,rfl⟩;exact ⟨rfl,jah E4.out (jag G1.out)⟩
    exact AllReadyH.nil
  ·have d1:(M1==0)=false:=by simpa using c1
   have E4:Hid (jb5 A x k=.error 4):=by show _=_;rw [E1.out];simp [jal,c1];rfl
   clear c1;refine wp_region_held_drew (S:=(fun w'=>w'.cell? ⟨kb,ko,none⟩=some (.int .i64 k0)∧w'.cell? ⟨kb,ko+1,none⟩=some (.int .i64 k1))) (by kernel_rfl) (by go_keep) (fun hHeld=>?_);refine tkB 0 ?_
   try simp only [Act.put]
   refine tkB 1 ?_
   try simp only [Act.put]
   refine wpAnyH_take (i:=2) (v:=.int .i64 M1) rfl (by kernel_rfl) (by kernel_rfl) (by kernel_rfl) (fun _ _ _ h=>h) (Or.inl ⟨by kernel_rfl,?_⟩) (by assumption) ?_
   ·(intro w hSw;(try dsimp only at hSw);go_simp;(try simp only [t1]))
   try simp only [Act.put]
   refine wpAnyH_take (i:=3) (v:=.bool false) rfl (by kernel_rfl) (by kernel_rfl) (by kernel_rfl) (fun _ _ _ h=>h) (Or.inl ⟨by kernel_rfl,?_⟩) (by assumption) ?_
   ·(intro w hSw;(try dsimp only at hSw);go_simp;(try simp only [d1]))
   try simp only [Act.put]
   refine tkB 4 ?_
   try simp only [Act.put]
   refine tkU 5 ?_
   try simp only [Act.put]
   refine tkU 6 ?_
   try simp only [Act.put]
   refine tkU 7 ?_
   try simp only [Act.put]
   refine tkU 8 ?_
   try simp only [Act.put]
   refine tkU 9 ?_
   try simp only [Act.put]
   refine tkU 10 ?_
   try simp only [Act.put]
   refine tkB 11 ?_
   try simp only [Act.put]
   refine tkB 12 ?_
   try simp only [Act.put]
   refine tkU 13 ?_
   try simp only [Act.put]
   refine tkU 14 ?_
   try simp only [Act.put]
   refine tkU 15 ?_
   try simp only [Act.put]
   refine tkU 16 ?_
   try simp only [Act.put]
   refine tkU 17 ?_
   try simp only [Act.put]
   refine tkU 18 ?_
   try simp only [Act.put]
   refine tkU 19 ?_
   try simp only [Act.put]
   refine tkB 20 ?_
   try simp only [Act.put]
   refine wpAnyH_ready (rs:=[21]) (by kernel_rfl) (by simp) ?_;refine AllReadyH.cons rfl (fun K hK=>?_) ?_
   ·skip
    go_simp;refine (jaw _).mono ?_;rintro e wy ⟨rfl,rfl⟩;exact ⟨rfl,jah E4.out (jag G1.out)⟩
   exact AllReadyH.nil
 ·have E1:Hid (jb5 A x k=.error 4):=by show _=_;rw [E0.out];simp [jal,hG1];rfl
  have bG:decide (1≤G)=false:=by simpa using hG1
  clear hG1;rw [bG];refine (jaw _).mono ?_;rintro e w' ⟨rfl,rfl⟩;exact ⟨rfl,jah E1.out G1.out⟩
end Go.Proofs.YtekocmdfaaoggaaGreatDoor
namespace Go.Proofs.YtekocmdfaaoggaaGreatDoor
open Go.RowKit
theorem jmS (n:Nod) (A:At) (u:Sl) (p0 p1:Val×List Int) (rest:List (Val×List Int)) (w:World) (hn:NodeOk w n A) (hv:ValsIn w u.v (p0::p1::rest)) (hl:¬ (p0.2.length=4∧p1.2.length=4)):Calls Tryz.prog 110 #[jax n,.slice u.a u.n u.c] w (jaF w (.error 4:R (List Int)) jbi):=by
 obtain ⟨xa,xc,e1,q1,q2,q3⟩:=hv.vals.form;rw [List.length_map] at e1 q1 q3;obtain ⟨ua,un,uc⟩:=u;simp only [Sl.v,Value.slice.injEq] at e1;obtain ⟨rfl,rfl,rfl⟩:=e1;obtain ⟨b,off,rfl⟩:=hv.vals.addr (k:=0) (by simp);obtain ⟨-,z0⟩:=hv.at 0 (by simp);obtain ⟨-,z1⟩:=hv.at 1 (by simp);rw [Nat.zero_mul,Nat.add_zero] at z0;simp only [List.getElem_cons_zero,List.getElem_cons_succ,Nat.one_mul] at z0 z1;have HX:=jac (hv.dims p0 (by simp));have HK:=jac (hv.dims p1 (by simp));obtain ⟨⟨vn0,vt0,⟨d0a,d0n,d0c⟩⟩,x⟩:=p0;obtain ⟨⟨vn1,vt1,⟨d1a,d1n,d1c⟩⟩,k⟩:=p1;simp only at z0 z1 HX HK hl;obtain ⟨xx,xcc,ex,f1,f2,f3⟩:=HX.out.sl;simp only [Sl.v,Value.slice.injEq] at ex;obtain ⟨rfl,rfl,rfl⟩:=ex;obtain ⟨kx,kcc,ek,g1,g2,g3⟩:=HK.out.sl;simp only [Sl.v,Value.slice.injEq] at ek;obtain ⟨rfl,rfl,rfl⟩:=ek;obtain ⟨m,hm⟩ : ∃ m,m=((((⟨vn0,vt0,⟨d0a,x.length,d0c⟩⟩,x):Val×List Int)::(⟨vn1,vt1,⟨d1a,k.length,d1c⟩⟩,k)::rest):List (Val×List Int)).length:=⟨_,rfl⟩
 have hm0:0<m:=by rw [hm];simp
 have hm1:1<m:=by rw [hm];simp
 have hm0':(0:Int)<(m:Int):=by omega
 have hm1':(1:Int)<(m:Int):=by omega
 rw [← hm] at q1 q3 ⊢;have Z0:=jac z0;have Z1:=jac z1;clear hv z0 z1 hm;have NK:=jac hn;obtain ⟨op,nam,⟨ia,il,ic⟩,out,⟨ao,al,cap⟩⟩:=n;unfold jax;simp only;obtain ⟨w0,hw0⟩ : ∃ w0,w0=w.alloc (.cells #[.string op,.string nam,.slice ia il ic,.string out,.slice ao al cap] 25):=⟨_,rfl⟩
 have g0:Hid (w.grownBy w0 none):=by show w.grownBy w0 none;rw [hw0];exact jab _ _
 have hb0:=heap_alloc_new w (.cells #[.string op,.string nam,.slice ia il ic,.string out,.slice ao al cap] 25);rw [← hw0] at hb0;have BX:Hid (∀ wx,w0.grownBy wx none→wx.heap[w.heap.size]?=some (.cells #[.string op,.string nam,.slice ia il ic,.string out,.slice ao al cap] 25 (0,0))):=fun wx hg=>jaf hb0 hg;clear hb0 hn;have y0:=jad Z0.out g0.out;have y1:=jad Z1.out g0.out
 by_cases hx4:x.length=4
 ·have bx:((x.length:Int)==4)=true:=by simp [hx4]
  have bk:((k.length:Int)==4)=false:=by simpa using (fun h=>hl ⟨hx4,by omega⟩ : ¬ (k.length:Int)=4)
  clear hl hx4;go_enter Tryz.func110,Tryz.ntmps110;go_wp2_with fail;rw [← hw0];clear hw0
  go_quiet (fail)
  go_wp2_with (first | (go_at_call 65;refine (jaw _).mono ?_;rintro e w' ⟨rfl,rfl⟩) | fail);exact ⟨rfl,jah rfl (jbb g0.out _)⟩
 ·have bx:((x.length:Int)==4)=false:=by simpa using (fun h=>hx4 (by omega):¬ (x.length:Int)=4)
  clear hl hx4;go_enter Tryz.func110,Tryz.ntmps110;go_wp2_with fail;rw [← hw0];clear hw0
  go_quiet (fail)
  go_wp2_with (first | (go_at_call 65;refine (jaw _).mono ?_;rintro e w' ⟨rfl,rfl⟩) | fail);exact ⟨rfl,jah rfl (jbb g0.out _)⟩
theorem jmT {A:At} {x k:List Int} {z:Option (List Int)} (h:¬ (x.length=4∧k.length=4)):ja4 A x k z=.error 4:=by
 unfold ja4;rw [decide_eq_false h]
 rfl
theorem jmU {A:At} {x k:List Int} (h:x.length=4∧k.length=4):ja4 A x k none=jb5 A x k:=by
 unfold ja4;rw [decide_eq_true h]
 rfl
theorem jiR {A:At} {x k z:List Int} (h:x.length=4∧k.length=4) (hz:z.length=1∧z.getD 0 0=k.getD 0 0):ja4 A x k (some z)=jb5 A x k:=by
 unfold ja4;simp only;rw [decide_eq_true h,decide_eq_true hz]
 rfl
theorem jiS {A:At} {x k z:List Int} (h:x.length=4∧k.length=4) (hz:¬ (z.length=1∧z.getD 0 0=k.getD 0 0)):ja4 A x k (some z)=.error 4:=by
 unfold ja4;simp only;rw [decide_eq_true h,decide_eq_false hz]
 rfl
theorem joI (n:Nod) (A:At) (u:Sl) (p0 p1:Val×List Int) (rest:List (Val×List Int)) (w:World) (hn:NodeOk w n A) (hv:ValsIn w u.v (p0::p1::rest)) (hr:rest.length≤1) (hf:∀ p∈p0::p1::rest,Fine p.2):Calls Tryz.prog 110 #[jax n,.slice u.a u.n u.c] w (jaF w (ja4 A p0.2 p1.2 (rest.head?.map (·.2))) jbi):=by
 by_cases h4:p0.2.length=4∧p1.2.length=4
 ·match rest,hr with
  | [],_ =>
   show Calls _ _ _ _ (jaF w (ja4 A p0.2 p1.2 none) jbi);rw [jmU h4];exact jmQ n A u p0 p1 w hn hv h4.1 h4.2 (hf p0 (by simp)) (hf p1 (by simp))
  | [p2],_ =>
   show Calls _ _ _ _ (jaF w (ja4 A p0.2 p1.2 (some p2.2)) jbi)
   by_cases hz:p2.2.length=1∧p2.2.getD 0 0=p1.2.getD 0 0
   ·rw [jiR h4 hz];exact jmR n A u p0 p1 p2 w hn hv h4.1 h4.2 (hf p0 (by simp)) (hf p1 (by simp)) hz
   ·rw [jiS h4 hz];exact jmP n A u p0 p1 p2 w hn hv h4.1 h4.2 hz
 ·rw [jmT h4];exact jmS n A u p0 p1 rest w hn hv h4
theorem jmV (n:Nod) (A:At) (u:Sl) (p0 p1:Val×List Int) (rest:List (Val×List Int)) (w:World) (hop:n.op=⟨#[67,111,110,118]⟩) (hn:NodeOk w n A) (hv:ValsIn w u.v (p0::p1::rest)) (hr:rest.length≤1) (hf:∀ p∈p0::p1::rest,Fine p.2):Calls Tryz.prog 69 #[jax n,.slice u.a u.n u.c] w (jaF w (ja4 A p0.2 p1.2 (rest.head?.map (·.2))) jbi):=by
 obtain ⟨xa,xc,e1,q1,q2,q3⟩:=hv.vals.form;rw [List.length_map] at e1 q1 q3;obtain ⟨ua,un,uc⟩:=u;simp only [Sl.v,Value.slice.injEq] at e1;obtain ⟨rfl,rfl,rfl⟩:=e1;obtain ⟨b,off,rfl⟩:=hv.vals.addr (k:=0) (by simp);obtain ⟨-,z0⟩:=hv.at 0 (by simp);rw [Nat.zero_mul,Nat.add_zero] at z0;simp only [List.getElem_cons_zero] at z0;have HV:=jac hv;have HF:=jac hf;clear hf;obtain ⟨⟨vn0,vt0,⟨d0a,d0n,d0c⟩⟩,x⟩:=p0;simp only at z0;have Z0:=jac z0;obtain ⟨m,hm⟩ : ∃ m,m=((((⟨vn0,vt0,⟨d0a,d0n,d0c⟩⟩,x):Val×List Int)::p1::rest):List (Val×List Int)).length:=⟨_,rfl⟩
 have hm0:0<m:=by rw [hm];simp
 have hm0':(0:Int)<(m:Int):=by omega
 have HM:=jac hm;rw [← hm] at q1 q3 ⊢;clear hv z0 hm;have NK:=jac hn;obtain ⟨op,nam,⟨ia,il,ic⟩,out,⟨ao,al,cap⟩⟩:=n;unfold jax;simp only;obtain ⟨w0,hw0⟩ : ∃ w0,w0=w.alloc (.cells #[.string op,.string nam,.slice ia il ic,.string out,.slice ao al cap] 25):=⟨_,rfl⟩
 have g0:Hid (w.grownBy w0 none):=by show w.grownBy w0 none;rw [hw0];exact jab _ _
 have hb0:=heap_alloc_new w (.cells #[.string op,.string nam,.slice ia il ic,.string out,.slice ao al cap] 25);rw [← hw0] at hb0;have BX:Hid (∀ wx,w0.grownBy wx none→wx.heap[w.heap.size]?=some (.cells #[.string op,.string nam,.slice ia il ic,.string out,.slice ao al cap] 25 (0,0))):=fun wx hg=>jaf hb0 hg;clear hb0 hn;simp only at hop;subst hop;have z0:(w.alloc (.cells #[.string ⟨#[67,111,110,118]⟩,.string nam,.slice ia il ic,.string out,.slice ao al cap] 25)).cell? ⟨b,off+2,none⟩=some (.slice d0a d0n d0c):=jad Z0.out (jab _ _);have C:=jac (joI ⟨⟨#[67,111,110,118]⟩,nam,⟨ia,il,ic⟩,out,⟨ao,al,cap⟩⟩ A ⟨some ⟨b,off,none⟩,m,uc⟩ _ p1 rest w0 (NK.out.more g0.out) (by rw [HM.out];exact HV.out.more g0.out) hr HF.out);unfold jax at C;simp only at C;go_enter Tryz.func69,Tryz.ntmps69;go_wp2_with fail;rw [← hw0];clear hw0
 cases hk:ja4 A x p1.2 (rest.head?.map (·.2)) with
 | error c =>
  rw [hk] at C;have HK:=jac hk;clear hk;refine C.out.mono ?_;rintro e w' ⟨hg,rfl⟩;exact ⟨rfl,jah (by first | exact HK.out | rfl) (jaa g0.out hg)⟩
 | ok zs =>
  rw [hk] at C;have HK:=jac hk;clear hk;refine C.out.mono ?_;rintro e w' ⟨hg,v,rfl,⟨s1,s2,s3⟩,rfl,hs⟩;simp only [Sl.v];go_wp2;go_ret;exact jao (by first | exact HK.out | rfl) (jaa g0.out hg) ⟨⟨s1,s2,s3⟩,rfl,hs⟩
end Go.Proofs.YtekocmdfaaoggaaGreatDoor
namespace Go.Proofs.YtekocmdfaaoggaaGreatDoor
open Go.RowKit
def joJ (d:Nat) (g:Bool) (p:Int) (c:Nat):Int:=if g=true then p else p*d+c
def jh4 (d:Nat) (g:Bool) (ps:List Int):List Int:=ps.flatMap fun p=>(List.range d).map (joJ d g p)
theorem jeH (d:Nat) (g:Bool):∀ ps:List Int,(jh4 d g ps).length=ps.length*d
 | []=>by simp [jh4]
 | p::ps=>by
  have ih:=jeH d g ps;unfold jh4 at ih ⊢;rw [List.flatMap_cons,List.length_append,ih,List.length_map,List.length_range,List.length_cons,Nat.add_mul];omega
theorem jmW (d:Nat) (g:Bool) (ps:List Int) (p:Int):jh4 d g (ps++[p])=jh4 d g ps++(List.range d).map (joJ d g p):=by
 unfold jh4;rw [List.flatMap_append];simp
theorem jky (f:Nat→Int) (c:Nat):(List.range (c+1)).map f=(List.range c).map f++[f c]:=by
 rw [List.range_succ,List.map_append]
 rfl
theorem jqJ (u:Sl) (ps:List Int) (d:Nat) (g:Bool) (w:World) (hp:jak w u.v ps) (hb:∀ p∈ps,0≤p∧p≤65536) (hd:d≤65536) (hl:ps.length*d≤65536):Calls Tryz.prog 48 #[.slice u.a u.n u.c,.int .i64 d,.bool g] w fun e w'=>∃ v:Sl,e=.returned (.slice v.a v.n v.c)∧Owns w' w.heap.size v.v (jh4 d g ps)∧w.grownBy w' none:=by
 obtain ⟨ux,uc,eu,c1,c2,c3⟩:=hp.sl;obtain ⟨ua,un,uu⟩:=u;simp only [Sl.v,Value.slice.injEq] at eu;obtain ⟨rfl,rfl,rfl⟩:=eu;have HP:=jac hp;have HB:=jac hb;have HL:=jac hl;clear hp hb hl;go_enter Tryz.func48,Tryz.ntmps48;go_wp2;go_loopw [7,13] (fun s i wr=>∃ (k:Nat) (u:Sl),k≤ps.length∧i=.int .i64 k∧s=.slice u.a u.n u.c∧Owns wr w.heap.size u.v (jh4 d g (ps.take k))∧w.grownBy wr none) (fun _ i _=>ps.length - (intOf i).toNat)
 case atStart=>exact ⟨0,⟨none,0,0⟩,Nat.zero_le _,rfl,rfl,jbj _ _,jae _⟩
 case round =>
  obtain ⟨k,⟨sa,sn,sc⟩,hk,rfl,rfl,ho,hg⟩:=hrel;simp only;have HO:=jac ho;have HG:=jac hg
  by_cases hkl:k<ps.length
  ·obtain ⟨b,off,rfl,hc⟩:=HP.out.get hkl;have hcell:wr.cell? ⟨b,off+k,none⟩=some (.int .i64 (ps.getD k 0)):=jad (hc k hkl) hg;have hpb:=HB.out (ps.getD k 0) (by simp [List.getD,hkl]);have ST:=jmW d g (ps.take k) (ps.getD k 0);rw [← jb3 ps k hkl] at ST
   have SZ:(ps.take k).length*d+d≤65536:=by
    rw [List.length_take,Nat.min_eq_left (by omega)];refine Nat.le_trans ?_ HL.out;rw [show k*d+d=(k+1)*d from by rw [Nat.add_mul];omega];exact Nat.mul_le_mul_right _ hkl
   rw [← jeH d g] at SZ;obtain ⟨p,hp0⟩ : ∃ p,p=ps.getD k 0:=⟨_,rfl⟩
   rw [← hp0] at hcell ST hpb;have HST:=jac ST;have q1:0≤p*d:=Int.mul_nonneg hpb.1 (Int.natCast_nonneg _);have q2:p*d≤65536*65536:=Int.mul_le_mul hpb.2 (by omega) (Int.natCast_nonneg _) (by omega);clear hc hp0 ho hg ST;go_wp2_with fail;go_loopw [7,18] (fun s i wr=>∃ (c:Nat) (u:Sl),c≤d∧i=.int .i64 c∧s=.slice u.a u.n u.c∧Owns wr w.heap.size u.v (jh4 d g (ps.take k)++(List.range c).map (joJ d g p))∧w.grownBy wr none) (fun _ i _=>d - (intOf i).toNat)
   case atStart=>exact ⟨0,⟨sa,sn,sc⟩,Nat.zero_le _,rfl,rfl,by simpa using HO.out,HG.out⟩
   case round =>
    obtain ⟨c,⟨sa,sn,sc⟩,hc,rfl,rfl,ho,hg⟩:=hrel;simp only;have HO:=jac ho;have HG:=jac hg;have hsz:=hg.size
    by_cases hcd:c<d
    ·have HQ:=jac (jky (joJ d g p) c);have hln:(jh4 d g (ps.take k)++(List.range c).map (joJ d g p)).length≤65536:=by rw [List.length_append,List.length_map,List.length_range];omega
     clear ho hg
     cases g with
     | true =>
      go_wp2_with (at_builtin;refine jba rfl (.tmp 22) (.tmp 24) rfl w.heap.size _ _ rfl HO.out p rfl (by omega) (by omega) (by omega) ?_;intro v' w4 hown hgrow);obtain ⟨⟨xa,xn,xc⟩,rfl⟩:=hown.sl;have HO2:=jac hown;have HG2:=jac (hgrow w (Nat.le_refl _) HG.out);clear hown hgrow;go_roundw
      case rel=>exact ⟨c+1,⟨xa,xn,xc⟩,by omega,by go_num,rfl,by rw [HQ.out,← List.append_assoc];exact HO2.out,HG2.out⟩
      case measure=>simp [intOf];omega
     | false =>
      have hw1:IntKind.i64.wrap (p*(d:Int))=p*d:=by rw [jbg];unfold wrap64;omega
      have hw2:IntKind.i64.wrap (p*(d:Int)+(c:Int))=p*d+c:=by rw [jbg];unfold wrap64;omega
      go_wp2_with (at_builtin;refine jba rfl (.tmp 26) (.tmp 32) rfl w.heap.size _ _ rfl HO.out (p*d+c) rfl (by omega) (by omega) (by omega) ?_;intro v' w4 hown hgrow);obtain ⟨⟨xa,xn,xc⟩,rfl⟩:=hown.sl;have HO2:=jac hown;have HG2:=jac (hgrow w (Nat.le_refl _) HG.out);clear hown hgrow;go_roundw
      case rel=>exact ⟨c+1,⟨xa,xn,xc⟩,by omega,by go_num,rfl,by rw [HQ.out,← List.append_assoc];exact HO2.out,HG2.out⟩
      case measure=>simp [intOf];omega
    ·obtain rfl:c=d:=by omega
     rw [← HST.out] at HO;clear ho hg;go_wp2_with fail;go_roundw
     case rel=>exact ⟨k+1,⟨sa,sn,sc⟩,by omega,by go_num,rfl,HO.out,HG.out⟩
     case measure=>simp [intOf];omega
  ·rw [List.take_of_length_le (by omega)] at HO;clear ho hg;go_wp2;go_ret;exact ⟨⟨sa,sn,sc⟩,rfl,HO.out,HG.out⟩
end Go.Proofs.YtekocmdfaaoggaaGreatDoor
namespace Go.Proofs.YtekocmdfaaoggaaGreatDoor
open Go.RowKit
def plF:List Int→List Bool→List Int→List Int
 | d::ds,g::gs,ps=>plF ds gs (jh4 d.toNat g ps)
 | _,_,ps=>ps
def jbA:List Int→List Bool→Nat
 | d::ds,g::gs=>(if g=true then 1 else d.toNat)*jbA ds gs
 | _,_=>1
theorem jdU (d:Int) (g:Bool):∀ (ds:List Int) (gs:List Bool) (ps:List Int),ds.length=gs.length→plF (ds++[d]) (gs++[g]) ps=jh4 d.toNat g (plF ds gs ps)
 | [],[],ps,_=>rfl
 | a::ds,b::gs,ps,h=>by
  simp only [List.cons_append,plF];exact jdU d g ds gs _ (by simpa using h)
 | [],_::_,_,h=>by simp at h
 | _::_,[],_,h=>by simp at h
theorem jcC (d:Int) (g:Bool):∀ (ds:List Int) (gs:List Bool),ds.length=gs.length→jbA (ds++[d]) (gs++[g])=jbA ds gs*(if g=true then 1 else d.toNat)
 | [],[],_=>by simp [jbA]
 | a::ds,b::gs,h=>by
  simp only [List.cons_append,jbA];rw [jcC d g ds gs (by simpa using h),Nat.mul_assoc]
 | [],_::_,h=>by simp at h
 | _::_,[],h=>by simp at h
theorem joK {d:Nat} {g:Bool} {ps:List Int} {m:Nat} (h:∀ p∈ps,0≤p∧p<m):∀ z∈jh4 d g ps,0≤z∧z<((m*(if g=true then 1 else d):Nat):Int):=by
 intro z hz;unfold jh4 at hz;obtain ⟨p,hp,hz⟩:=List.mem_flatMap.1 hz;obtain ⟨c,hc,rfl⟩:=List.mem_map.1 hz;have hcd:=List.mem_range.1 hc;obtain ⟨h1,h2⟩:=h p hp
 cases g with
 | true=>simp only [joJ,if_true,Nat.mul_one];exact ⟨h1,h2⟩
 | false =>
  have e1:(p+1)*(d:Int)≤(m:Int)*(d:Int):=Int.mul_le_mul_of_nonneg_right (by omega) (Int.natCast_nonneg _);have e2:0≤p*(d:Int):=Int.mul_nonneg h1 (Int.natCast_nonneg _);rw [Int.add_mul,Int.one_mul] at e1;simp only [joJ,Bool.false_eq_true,if_false];rw [Int.natCast_mul];omega
structure Pls (x:List Int) (gone:List Bool):Prop where
 len:((plF x gone [0]).length:Int)=jbe x
 mem:∀ p∈plF x gone [0],0≤p∧p<(jbA x gone:Int)
 cnt:(jbA x gone:Int)≤jbe x
 one:1≤jbA x gone
theorem jdD:∀ (n:Nat) (x:List Int) (gone:List Bool),x.length=n→gone.length=n→(∀ z∈x,1≤z)→Pls x gone
 | 0,x,gone,h1,h2,_=>by
  rw [List.length_eq_zero_iff.1 h1,List.length_eq_zero_iff.1 h2];exact ⟨rfl,fun p hp=>by simp [plF] at hp;subst hp;simp [jbA],by simp [jbA,jbe],by simp [jbA]⟩
 | n+1,x,gone,h1,h2,hp=>by
  obtain ⟨ds,d,rfl⟩ : ∃ ds d,x=ds++[d]:=⟨x.dropLast,x.getLast (by intro e;rw [e] at h1;simp at h1),(List.dropLast_concat_getLast _).symm⟩
  obtain ⟨gs,g,rfl⟩ : ∃ gs g,gone=gs++[g]:=⟨gone.dropLast,gone.getLast (by intro e;rw [e] at h2;simp at h2),(List.dropLast_concat_getLast _).symm⟩
  have e1:ds.length=n:=by simpa using h1
  have e2:gs.length=n:=by simpa using h2
  have ih:=jdD n ds gs e1 e2 (fun z hz=>hp z (List.mem_append_left _ hz));have hd:1≤d:=hp d (by simp);have dn:((d.toNat:Nat):Int)=d:=Int.toNat_of_nonneg (by omega);have hpd:jbe (ds++[d])=jbe ds*d:=by rw [jcF];simp [jbe]
  have hp0:0≤jbe ds:=by have:=ih.cnt;omega
  have m1:jbe ds*1≤jbe ds*d:=Int.mul_le_mul_of_nonneg_left hd hp0;refine ⟨?_,?_,?_,?_⟩
  ·rw [jdU d g ds gs _ (by omega),jeH,Int.natCast_mul,ih.len,dn,hpd]
  ·rw [jdU d g ds gs _ (by omega),jcC d g ds gs (by omega)];exact joK ih.mem
  ·rw [jcC d g ds gs (by omega),hpd,Int.natCast_mul]
   cases g with
   | true=>simp only [if_true];have:=ih.cnt;omega
   | false =>
    simp only [Bool.false_eq_true,if_false];rw [dn];exact Int.mul_le_mul_of_nonneg_right ih.cnt (by omega)
  ·rw [jcC d g ds gs (by omega)]
   cases g with
   | true=>simpa using ih.one
   | false=>simp only [Bool.false_eq_true,if_false];exact Nat.mul_pos ih.one (by omega)
def jb6 (pl:List Int) (k p:Nat):List Int:=((List.range k).filter fun i=>pl.getD i 0==(p:Int)).map Int.ofNat
def jh5 (pl:List Int) (n k:Nat):List (List Int):=(List.range n).map (jb6 pl k)
theorem joL (pl:List Int) (n k:Nat):(jh5 pl n k).length=n:=by simp [jh5]
theorem jcu (pl:List Int) (n k m:Nat) (h:m<n):(jh5 pl n k).getD m []=jb6 pl k m:=by
 simp [jh5,List.getD,h]
theorem jhI (pl:List Int) (k p:Nat):jb6 pl (k+1) p=jb6 pl k p++(if pl.getD k 0==(p:Int) then [(k:Int)] else []):=by
 unfold jb6;rw [List.range_succ,List.filter_append,List.map_append]
 congr 1
 rw [List.filter_cons]
 split <;> simp
theorem jmX (pl:List Int) (n k m:Nat) (hm:m<n) (h:pl.getD k 0=(m:Int)):jh5 pl n (k+1)=(jh5 pl n k).set m (jb6 pl k m++[(k:Int)]):=by
 apply List.ext_getElem?;intro i;rw [List.getElem?_set];unfold jh5;rw [List.length_map,List.length_range,List.getElem?_map,List.getElem?_map]
 by_cases hi:i<n
 ·rw [List.getElem?_range hi]
  by_cases e:m=i
  ·subst e;rw [if_pos rfl,if_pos hm];simp only [Option.map_some];rw [jhI,h,if_pos (by simp)]
  ·rw [if_neg e];simp only [Option.map_some];rw [jhI,h,if_neg (by simp;omega),List.append_nil]
 ·rw [List.getElem?_eq_none (by simp;omega),if_neg (by omega)]
  rfl
theorem jel (pl:List Int) (k p:Nat):(jb6 pl k p).length≤k:=by
 unfold jb6;rw [List.length_map];exact Nat.le_trans (List.length_filter_le _ _) (by simp)
theorem jce (pl:List Int) (k p:Nat):∀ z∈jb6 pl k p,0≤z∧z<(k:Int):=by
 intro z hz;unfold jb6 at hz;obtain ⟨i,hi,rfl⟩:=List.mem_map.1 hz;have:=List.mem_range.1 (List.mem_filter.1 hi).1;exact ⟨Int.natCast_nonneg _,Int.ofNat_lt.2 this⟩
end Go.Proofs.YtekocmdfaaoggaaGreatDoor
namespace Go.Proofs.YtekocmdfaaoggaaGreatDoor
open Go.RowKit
theorem jmY:(Tryz.prog.info? 29).map (fun i=>(i.zero,i.size,i.bytes))=some (some (.slice none 0 0),1,24):=by kernel_rfl
theorem jfo {α:Type} (l:List α) (m:Nat) (v d:α) (j:Nat) (hm:m<l.length):(l.set m v).getD j d=if j=m then v else l.getD j d:=by
 simp only [List.getD,List.getElem?_set]
 by_cases e:m=j
 ·subst e;simp [hm]
 ·rw [if_neg e,if_neg (fun h=>e h.symm)]
theorem jcf {v:Value} {row:Option Nat} (h:∀ g,v.ownBlock=some g→some g≠row):v.ownBlock=none∨v.ownBlock≠row:=by
 cases e:v.ownBlock with
 | none=>exact Or.inl rfl
 | some g=>exact Or.inr (h g e)
theorem jgi {w:World} {b1 b2 t1 t2 s1 s2 n1 n2:Nat} {v1 v2:Value} {c1 c2:List Value} (h1:w.ownsRow b1 t1 s1 v1 n1 c1) (h2:w.ownsRow b2 t2 s2 v2 n2 c2) (ht:t1≠t2) {g:Nat} (e1:v1.ownBlock=some g) (e2:v2.ownBlock=some g):False:=by
 rcases h1.2 with ⟨rfl,-⟩ | ⟨x,cap,cur,rfl,-,hx,-⟩
 ·cases e1
 ·rcases h2.2 with ⟨rfl,-⟩ | ⟨y,cap2,cur2,rfl,-,hy,-⟩
  ·cases e2
  ·obtain rfl:x=g:=by simpa [Value.ownBlock] using e1
   obtain rfl:y=x:=by simpa [Value.ownBlock] using e2
   rw [hx] at hy;exact ht (Obj.cells.inj (Option.some.inj hy)).2.1
def jfp:Sl:=⟨none,0,0⟩
structure Gr (w:World) (base Bw n:Nat) (R:List (List Int)) (rs:List Sl):Prop where
 row:w.ownsRow base 29 1 (.slice (some ⟨Bw,0,none⟩) n n) n (rs.map (fun s=>.slice s.a s.n s.c))
 len:rs.length=n
 each:∀ k,k<n→Owns w base (rs.getD k jfp).v (R.getD k [])
 apart:∀ k,k<n→∀ g,(rs.getD k jfp).v.ownBlock=some g→∀ j,j<n→j≠k→(rs.getD j jfp).v.ownBlock≠some g
theorem Gr.ne {w:World} {base Bw n:Nat} {R:List (List Int)} {rs:List Sl} (h:Gr w base Bw n R rs) {k:Nat} (hk:k<n) {g:Nat} (e:(rs.getD k jfp).v.ownBlock=some g):g≠Bw :=
 fun e2=>jgi (h.each k hk).1 h.row (by decide) e (by rw [e2];rfl)
theorem Gr.new {w w':World} {base Bw n:Nat} {R:List (List Int)} {rs:List Sl} (h:Gr w base Bw n R rs) (hg:w.grownBy w' none):Gr w' base Bw n R rs :=
 ⟨World.ownsRow.kept h.row hg (Or.inr (by simp [Value.ownBlock])),h.len,fun k hk=>(h.each k hk).new hg,h.apart⟩
theorem Gr.rd {w:World} {base Bw n:Nat} {R:List (List Int)} {rs:List Sl} (h:Gr w base Bw n R rs) {k:Nat} (hk:k<n):w.cell? ⟨Bw,k,none⟩=some (.slice (rs.getD k jfp).a (rs.getD k jfp).n (rs.getD k jfp).c)∧w.frozen? ⟨Bw,k,none⟩=false:=by
 have hl:=h.len;refine ⟨?_,World.ownsRow.frozenAt h.row k⟩;rw [World.ownsRow.cellAt h.row k (by omega),List.getElem?_map,List.getD,List.getElem?_eq_getElem (by omega)]
 rfl
theorem Gr.app {w w1 : World} {base Bw n : Nat} {R : List (List Int)} {rs : List Sl} (h : Gr w base Bw n R rs) (hlR : R.length = n) {m : Nat} (hm : m < n) {v' : Sl} {i : Nat} (hg : w.grownBy w1 (rs.getD m jfp).v.ownBlock)
    (ho:w1.ownsRow base 3 1 v'.v ((R.getD m []).length+1) ((R.getD m []).map (Value.int .i64)++[.int .i64 (i:Int)])) (hat:v'.v.ownBlock=(rs.getD m jfp).v.ownBlock∨v'.v.ownBlock=some w.heap.size) (hi:i≤1048576) (hl:(R.getD m []).length≤1048576) :
    w1.cell? ⟨Bw,m,none⟩=some (.slice (rs.getD m jfp).a (rs.getD m jfp).n (rs.getD m jfp).c)∧w1.frozen? ⟨Bw,m,none⟩=false∧Gr (w1.setCell ⟨Bw,m,none⟩ (.slice v'.a v'.n v'.c)) base Bw n (R.set m (R.getD m []++[(i:Int)])) (rs.set m v')∧w1.grownBy (w1.setCell ⟨Bw,m,none⟩ (.slice v'.a v'.n v'.c)) (some Bw):=by
     have hlen:rs.length=n:=h.len
     have r1:w1.ownsRow base 29 1 (.slice (some ⟨Bw,0,none⟩) n n) n (rs.map (fun s=>.slice s.a s.n s.c)) :=
      World.ownsRow.kept h.row hg (Or.inr (fun e=>h.ne hm e.symm rfl))
     have hv1:∀ g,v'.v.ownBlock=some g→∀ j,j<n→j≠m→(rs.getD j jfp).v.ownBlock≠some g:=by
      intro g e
      rcases hat with h1 | h1
      ·exact h.apart m hm g (h1.symm.trans e)
      ·have e2:w.heap.size=g:=by rw [h1] at e;injection e
       intro j hj hne e3;have:=((h.each j hj).1.lt g e3).2;omega
     have k1:∀ k,k<n→k≠m→Owns w1 base (rs.getD k jfp).v (R.getD k []):=fun k hk hne=>(h.each k hk).more hg (jcf fun g e e2=>h.apart k hk g e m hm (fun e3=>hne e3.symm) e2.symm)
     have own1:Owns w1 base v'.v (R.getD m []++[(i:Int)]):=by
      refine ⟨?_,?_,fun z hz=>?_⟩
      ·rw [List.length_append,List.map_append];exact ho
      ·rw [List.length_append,List.length_singleton];omega
      ·rcases List.mem_append.1 hz with h1 | h1
       ·exact (h.each m hm).2.2 z h1
       ·simp at h1;omega
     have nv:∀ g,v'.v.ownBlock=some g→g≠Bw:=fun g e e2=>jgi ho r1 (by decide) e (by rw [e2];rfl);have st:=World.ownsRow.stored r1 m (.slice v'.a v'.n v'.c);refine ⟨?_,World.ownsRow.frozenAt r1 m,⟨?_,by simp [hlen],fun k hk=>?_,fun k hk g e j hj hne=>?_⟩,st.2⟩
     ·rw [World.ownsRow.cellAt r1 m (by omega),List.getElem?_map,List.getD,List.getElem?_eq_getElem (by omega)]
      rfl
     ·have:=st.1;rw [← List.map_set (f:=fun s:Sl=>Value.slice s.a s.n s.c) (a:=v')] at this;exact this
     ·rw [jfo _ _ _ _ _ (by omega),jfo _ _ _ _ _ (by omega)]
      by_cases e:k=m
      ·rw [if_pos e,if_pos e];exact own1.more st.2 (jcf fun g e2 e3=>by have:=nv g e2;injection e3 with e3;omega)
      ·rw [if_neg e,if_neg e];exact (k1 k hk e).more st.2 (jcf fun g e2 e3=>by have:=h.ne hk e2;injection e3 with e3;omega)
     ·rw [jfo _ _ _ _ _ (by omega)] at e ⊢
      by_cases ek:k=m
      ·rw [if_pos ek] at e;rw [if_neg (by omega)];exact hv1 g e j hj (by omega)
      ·rw [if_neg ek] at e
       by_cases ej:j=m
       ·rw [if_pos ej];intro e2;exact hv1 g e2 k hk ek e
       ·rw [if_neg ej];exact h.apart k hk g e j hj hne
theorem Gr.nils {w:World} {base Bw n:Nat} {R:List (List Int)} (h:w.ownsRow base 29 1 (.slice (some ⟨Bw,0,none⟩) n n) n (madeCells (Value.slice none 0 0).cells (n*1)).toList) (hR:∀ k,k<n→R.getD k []=[]):Gr w base Bw n R (List.replicate n ⟨none,0,0⟩):=by
 have e:(madeCells (Value.slice none 0 0).cells (n*1)).toList=(List.replicate n (⟨none,0,0⟩ : Sl)).map (fun s=>Value.slice s.a s.n s.c):=by
  rw [Nat.mul_one];simp [madeCells,Value.cells,Nat.mod_one];exact List.ext_getElem (by simp) fun i h1 h2=>by simp
 rw [e] at h
 have hn:∀ k,(List.replicate n (⟨none,0,0⟩ : Sl)).getD k jfp=⟨none,0,0⟩:=fun k=>by
  simp only [List.getD,List.getElem?_replicate]
  split <;> rfl
 refine ⟨h,by simp,fun k hk=>?_,fun k hk g e2=>?_⟩
 ·rw [hn,hR k hk];exact jbj _ _
 ·rw [hn] at e2
  cases e2
end Go.Proofs.YtekocmdfaaoggaaGreatDoor
