/- A part. -/
import Derived.Test.YteigfipgmghgmaaGreatDoorMVart
import Derived.Test.YteigfipgmghgmaaGreatDoorVartAX
set_option maxHeartbeats 16000000
set_option maxRecDepth 100000
namespace Go.Proofs.YteigfipgmghgmaaGreatDoor
open Go.RowKit
theorem joZ (n:Nod) (A:At) (u:Sl) (p0 p1 p2:Val×List Int) (w:World) (hn:NodeOk w n A) (hv:ValsIn w u.v [p0,p1,p2]) (hl4:p0.2.length=4) (hk4:p1.2.length=4) (hf:Fine p0.2) (hfk:Fine p1.2) (hz:p2.2.length=1∧p2.2.getD 0 0=p1.2.getD 0 0):Calls Tryz.prog 125 #[jaz n,.slice u.a u.n u.c] w (jaJ w (jcq A p0.2 p1.2) jbd):=by
 obtain ⟨xa,xc,e1,q1,q2,q3⟩:=hv.vals.form;simp only [List.map_cons,List.map_nil,List.length_cons,List.length_nil,Nat.zero_add,Nat.reduceAdd] at e1 q1 q3;obtain ⟨ua,un,uc⟩:=u;simp only [Sl.v,Value.slice.injEq] at e1;obtain ⟨rfl,rfl,rfl⟩:=e1;obtain ⟨b,off,rfl⟩:=hv.vals.addr (k:=0) (by simp);obtain ⟨-,z0⟩:=hv.at 0 (by simp);obtain ⟨-,z1⟩:=hv.at 1 (by simp);obtain ⟨-,z2⟩:=hv.at 2 (by simp);rw [Nat.zero_mul,Nat.add_zero] at z0;simp only [List.getElem_cons_zero,List.getElem_cons_succ,Nat.one_mul,Nat.reduceMul] at z0 z1 z2;have HX:=jac (hv.dims p0 (by simp));have HK:=jac (hv.dims p1 (by simp));have HZ:=jac (hv.dims p2 (by simp));obtain ⟨⟨vn0,vt0,⟨d0a,d0n,d0c⟩⟩,x⟩:=p0;obtain ⟨⟨vn1,vt1,⟨d1a,d1n,d1c⟩⟩,k⟩:=p1;obtain ⟨⟨vn2,vt2,⟨d2a,d2n,d2c⟩⟩,z⟩:=p2;simp only at z0 z1 z2 HX HK HZ hz hl4 hk4 hf hfk ⊢;obtain ⟨xx,xcc,ex,f1,f2,f3⟩:=HX.out.sl;simp only [Sl.v,Value.slice.injEq] at ex;obtain ⟨rfl,rfl,rfl⟩:=ex;obtain ⟨kx,kcc,ek,g1,g2,g3⟩:=HK.out.sl;simp only [Sl.v,Value.slice.injEq] at ek;obtain ⟨rfl,rfl,rfl⟩:=ek;obtain ⟨zx,zcc,ez,h1,h2,h3⟩:=HZ.out.sl;simp only [Sl.v,Value.slice.injEq] at ez;obtain ⟨rfl,rfl,rfl⟩:=ez;have PB:Hid (∀ z∈x,1≤z∧z≤65536):=fun z hz=>⟨hf.pos z hz,hf.le_each hz⟩
 have PK:Hid (∀ z∈k,1≤z∧z≤65536):=fun z hz=>⟨hfk.pos z hz,hfk.le_each hz⟩
 obtain ⟨xb,xo,rfl,hcx⟩:=HX.out.get (k:=0) (by omega);obtain ⟨kb,ko,rfl,hck⟩:=HK.out.get (k:=0) (by omega);have X0:=jac (hcx 0 (by omega));have X1:=jac (hcx 1 (by omega));have K0:=jac (hck 0 (by omega));have K1:=jac (hck 1 (by omega));have K2:=jac (hck 2 (by omega));have K3:=jac (hck 3 (by omega));have bx0:=PB.out _ (jaU (l:=x) (k:=0) (by omega));have bx1:=PB.out _ (jaU (l:=x) (k:=1) (by omega));have bk0:=PK.out _ (jaU (l:=k) (k:=0) (by omega));have bk1:=PK.out _ (jaU (l:=k) (k:=1) (by omega));have bk2:=PK.out _ (jaU (l:=k) (k:=2) (by omega));have bk3:=PK.out _ (jaU (l:=k) (k:=3) (by omega));rw [Nat.add_zero] at X0 K0;obtain ⟨x0,hx0⟩ : ∃ q,q=x.getD 0 0:=⟨_,rfl⟩
 obtain ⟨x1,hx1⟩ : ∃ q,q=x.getD 1 0:=⟨_,rfl⟩
 obtain ⟨k0,hk0⟩ : ∃ q,q=k.getD 0 0:=⟨_,rfl⟩
 obtain ⟨k1,hk1⟩ : ∃ q,q=k.getD 1 0:=⟨_,rfl⟩
 obtain ⟨k2,hk2⟩ : ∃ q,q=k.getD 2 0:=⟨_,rfl⟩
 obtain ⟨k3,hk3⟩ : ∃ q,q=k.getD 3 0:=⟨_,rfl⟩
 obtain ⟨G,hG⟩ : ∃ q,q=A.int ⟨#[103,114,111,117,112]⟩ 1:=⟨_,rfl⟩
 have GB:=hn.int ⟨#[103,114,111,117,112]⟩ 1 (by decide);have E0:Hid (jcq A x k=(jal (decide (1≤G))).bind (fun _=>(jal (decide (x1 % G=0∧k0 % G=0∧x1 / G=k1))).bind (fun _=>(jaI A x [k2,k3] 0).bind (fun a=>(jaI A x [k2,k3] 1).bind (fun b=>.ok [x0,k0,a,b]))))):=by show _=_;unfold jcq;rw [hx0,hx1,hk0,hk1,hk2,hk3,hG]
 rw [← hx0] at X0 bx0;rw [← hx1] at X1 bx1;rw [← hk0] at K0 bk0 hz;rw [← hk1] at K1 bk1;rw [← hk2] at K2 bk2;rw [← hk3] at K3 bk3;rw [← hG] at GB;obtain ⟨zb,zo,rfl,hcz⟩:=HZ.out.get (k:=0) (by have:=hz.1;omega);have CZ:=jac (hcz 0 (by have:=hz.1;omega));rw [Nat.add_zero,hz.2] at CZ;have bz:((z.length:Int)==1)=true:=by simp [hz.1]
 have m0:0<z.length:=by have:=hz.1;omega
 have m0':(0:Int)<(z.length:Int):=by omega
 have Z2:=jac z2;have Z0:=jac z0;have Z1:=jac z1;have bx:((x.length:Int)==4)=true:=by simp [hl4]
 have bk:((k.length:Int)==4)=true:=by simp [hk4]
 have HL4:=jac hl4;have HK4:=jac hk4;have l0:(0:Int)<(x.length:Int):=by omega
 have l1:(1:Int)<(x.length:Int):=by omega
 have l2:0<x.length:=by omega
 have l3:1<x.length:=by omega
 have j0:(0:Int)<(k.length:Int):=by omega
 have j1:(1:Int)<(k.length:Int):=by omega
 have j2:(2:Int)<(k.length:Int):=by omega
 have j3:(3:Int)<(k.length:Int):=by omega
 have j4:0<k.length:=by omega
 have j5:1<k.length:=by omega
 have j6:2<k.length:=by omega
 have j7:3<k.length:=by omega
 have bG1:=GB.1;have bG2:=GB.2;clear hv z0 z1 z2 hz hcz hl4 hk4 hx0 hx1 hk0 hk1 hk2 hk3 hcx hck hf hfk GB;have NI:=jac (fun (wx:World) (hg:w.grownBy wx none)=>jb2 n A ⟨#[103,114,111,117,112]⟩ 1 wx (hn.more hg));rw [← hG] at NI;clear hG;have NK:=jac hn;obtain ⟨op,nam,⟨ia,il,ic⟩,out,⟨ao,al,cap⟩⟩:=n;unfold jaz;simp only;obtain ⟨w0,hw0⟩ : ∃ w0,w0=w.alloc (.cells #[.string op,.string nam,.slice ia il ic,.string out,.slice ao al cap] 25):=⟨_,rfl⟩
 have g0:Hid (w.grownBy w0 none):=by show w.grownBy w0 none;rw [hw0];exact jab _ _
 have hb0:=heap_alloc_new w (.cells #[.string op,.string nam,.slice ia il ic,.string out,.slice ao al cap] 25);rw [← hw0] at hb0;have BX:Hid (∀ wx,w0.grownBy wx none→wx.heap[w.heap.size]?=some (.cells #[.string op,.string nam,.slice ia il ic,.string out,.slice ao al cap] 25 (0,0))):=fun wx hg=>jag hb0 hg;clear hb0 hn;have PL:=jac (fun (wx:World) (hg:w.grownBy wx none) (v:Sl) (K:List Int) (lng:Nat) (hK:IsInts wx v.v K) (hlK:K.length=2) (bK:∀ z∈K,1≤z∧z≤65536) (ha:lng<2)=>jcY ⟨op,nam,⟨ia,il,ic⟩,out,⟨ao,al,cap⟩⟩ A ⟨some ⟨xb,xo,none⟩,x.length,d0c⟩ v x K lng wx (NK.out.more hg) (HX.out.more hg) hK HL4.out hlK PB.out bK ha);unfold jaz at NI PL;simp only at NI PL;go_enter Tryz.func125,Tryz.ntmps125;go_wp2_with fail;rw [← hw0];clear hw0;have y0:=jae Z0.out g0.out;have y1:=jae Z1.out g0.out;have i1:(1:Int)<3:=by decide
 have i2:(2:Int)<3:=by decide
 go_quiet (fail)
 have gq:w0.grownBy (w0.drewN nq) none:=⟨rfl,rfl,rfl,Nat.le_refl _,fun k hk hn=>rfl⟩
 obtain ⟨wq,hwq⟩ : ∃ wq,wq=w0.drewN nq:=⟨_,rfl⟩
 rw [← hwq] at gq ⊢;have GQ0:=jac gq;have GQ:=jac (jaa g0.out gq);clear hwq y0 y1 gq;have y2:=jae Z2.out GQ.out;have cz:=jae CZ.out GQ.out;have ck:=jae K0.out GQ.out;go_wp2_with (first | (go_at_call 71;refine (jaq _).mono ?_;rintro e w' ⟨rfl,rfl⟩) | fail)
 go_quiet (first | (go_at_call 71;refine (jaq _).mono ?_;rintro e w' ⟨rfl,rfl⟩;exact ⟨rfl,_,rfl⟩) | fail)
 have gq:wq.grownBy (wq.drewN nq) none:=⟨rfl,rfl,rfl,Nat.le_refl _,fun k hk hn=>rfl⟩
 obtain ⟨wp,hwp⟩ : ∃ wp,wp=wq.drewN nq:=⟨_,rfl⟩
 rw [← hwp] at gq ⊢;have GP0:=jac (jaa GQ0.out gq);have GP:=jac (jaa GQ.out gq);clear hwp y2 cz ck gq;obtain ⟨n0,n1,n2,n3,n4⟩:=jak (n:=⟨op,nam,⟨ia,il,ic⟩,out,⟨ao,al,cap⟩⟩) (BX.out wp (GP0.out));go_wp2_with (first | (go_at_call 71;refine (jaq _).mono ?_;rintro e w' ⟨rfl,rfl⟩) | fail);refine (NI.out wp GP.out).mono ?_;rintro e w1 ⟨rfl,hg1⟩;go_wp2_with fail;have G1:=jac (jaa GP.out hg1);have G10:=jac (jaa GP0.out hg1);clear hg1 NI n0 n1 n2 n3 n4
 by_cases hG1:1≤G
 ·have E1:Hid (jcq A x k=(jal (decide (x1 % G=0∧k0 % G=0∧x1 / G=k1))).bind (fun _=>(jaI A x [k2,k3] 0).bind (fun a=>(jaI A x [k2,k3] 1).bind (fun b=>.ok [x0,k0,a,b])))):=by show _=_;rw [E0.out];simp [jal,hG1];rfl
  have y1:=jae X1.out G1.out;rw [show decide (1≤G)=true from decide_eq_true hG1];refine (jaq _).mono ?_;rintro e w' ⟨rfl,rfl⟩;go_wp2_with fail;clear y1;have t1:x1.tmod G=x1 % G:=Int.tmod_eq_emod_of_nonneg (by omega);have t2:k0.tmod G=k0 % G:=Int.tmod_eq_emod_of_nonneg (by omega);have t3:x1.tdiv G=x1 / G:=Int.tdiv_eq_ediv_of_nonneg (by omega);have q1:0≤x1 / G:=Int.ediv_nonneg (by omega) (by omega);have q2:x1 / G≤x1:=Int.ediv_le_self _ (by omega);have g0':¬ G=0:=by omega
  have wQ:IntKind.i64.wrap (x1 / G)=x1 / G:=jf6 (by omega) (by omega);have yk0:=jae K0.out G1.out;have yk1:=jae K1.out G1.out;obtain ⟨M1,hM1⟩ : ∃ q,q=x1 % G:=⟨_,rfl⟩
  obtain ⟨M2,hM2⟩ : ∃ q,q=k0 % G:=⟨_,rfl⟩
  obtain ⟨Q,hQ⟩ : ∃ q,q=x1 / G:=⟨_,rfl⟩
  rw [← hM1] at t1 E1;rw [← hM2] at t2 E1;rw [← hQ] at t3 E1 q1 q2 wQ;clear hM1 hM2 hQ hG1
  by_cases c1:M1=0
  ·have d1:(M1==0)=true:=by simp [c1]
   by_cases c2:M2=0
   ·have d2:(M2==0)=true:=by simp [c2]
    by_cases c3:Q=k1
    ·have d3:(Q==k1)=true:=by simp [c3]
     have E4:Hid (jcq A x k=(jaI A x [k2,k3] 0).bind (fun a=>(jaI A x [k2,k3] 1).bind (fun b=>.ok [x0,k0,a,b]))):=by show _=_;rw [E1.out];simp [jal,c1,c2,c3];rfl
     clear c1 c2 c3
     go_quiet (first | (go_at_call 71;refine (jaq _).mono ?_;rintro e w' ⟨rfl,rfl⟩;exact ⟨rfl,_,rfl⟩) | fail)
     have gq:w1.grownBy (w1.drewN nq) none:=⟨rfl,rfl,rfl,Nat.le_refl _,fun k hk hn=>rfl⟩
     obtain ⟨w2,hw2⟩ : ∃ w2,w2=w1.drewN nq:=⟨_,rfl⟩
     rw [← hw2] at gq ⊢;have G2:=jac (jaa G1.out gq);have G20:=jac (jaa G10.out gq);clear hw2 gq yk0 yk1 t1 t2 t3 q1 q2 d1 d2 d3 wQ;have yk2:=jae K2.out G2.out;have yk3:=jae K3.out G2.out;go_wp2_with fail;go_region_held3 (fun w'=>w'.cell? ⟨kb,ko+2,none⟩=some (.int .i64 k2)∧w'.cell? ⟨kb,ko+3,none⟩=some (.int .i64 k3)) (go_keep) (fail);obtain ⟨w4,hw4⟩ : ∃ w4,w4=(w2.alloc (.cells #[.int .i64 k2,.int .i64 k3] 2)).drew:=⟨_,rfl⟩
     have G4:Hid (w.grownBy w4 none):=by show w.grownBy w4 none;rw [hw4];exact jaf (jaa G2.out (jab _ _))
     have G04:Hid (w0.grownBy w4 none):=by show w0.grownBy w4 none;rw [hw4];exact jaf (jaa G20.out (jab _ _))
     have HKI:Hid (IsInts w4 (.slice (some ⟨w2.heap.size,0,none⟩) 2 2) [k2,k3]):=by show IsInts w4 _ _;rw [hw4];exact (jbu w2 [k2,k3] 2 (by simp) (fun y hy=>by simp at hy;omega)).more (jaf (jad _))
     rw [← hw4];clear hw4 yk2 yk3;have y0:=jae X0.out G4.out;have y1:=jae K0.out G4.out;have L0:=jac (fun (wx:World) (hg:w4.grownBy wx none)=>PL.out wx (jaa G4.out hg) ⟨some ⟨w2.heap.size,0,none⟩,2,2⟩ [k2,k3] 0 (HKI.out.more hg) rfl (fun z hz=>by simp at hz;omega) (by decide));have L1:=jac (fun (wx:World) (hg:w4.grownBy wx none)=>PL.out wx (jaa G4.out hg) ⟨some ⟨w2.heap.size,0,none⟩,2,2⟩ [k2,k3] 1 (HKI.out.more hg) rfl (fun z hz=>by simp at hz;omega) (by decide));simp only [Int.natCast_zero,Int.natCast_one] at L0 L1;obtain ⟨n0,n1,n2,n3,n4⟩:=jak (n:=⟨op,nam,⟨ia,il,ic⟩,out,⟨ao,al,cap⟩⟩) (BX.out w4 (G04.out));clear PL;go_wp2_with fail
     cases hA0:jaI A x [k2,k3] 0 with
     | error c =>
      rw [hA0] at L0;have E5:Hid (jcq A x k=.error c):=by show _=_;rw [E4.out,hA0];rfl
      clear hA0;refine wp_region_held_drew (S:=(fun w'=>w'.cell? ⟨w.heap.size,0,none⟩=some (.string op)∧w'.cell? ⟨w.heap.size,1,none⟩=some (.string nam)∧w'.cell? ⟨w.heap.size,2,none⟩=some (.slice ia il ic)∧w'.cell? ⟨w.heap.size,3,none⟩=some (.string out)∧w'.cell? ⟨w.heap.size,4,none⟩=some (.slice ao al cap)∧w'.cell? ⟨xb,xo,none⟩=some (.int .i64 x0)∧w'.cell? ⟨kb,ko,none⟩=some (.int .i64 k0))) (by kernel_rfl) (by go_keep) (fun hHeld=>?_);refine tkA 0 ?_
      try simp only [Act.put]
      refine tkA 1 ?_
      try simp only [Act.put]
      refine tkA 2 ?_
      try simp only [Act.put]
      refine tkA 3 ?_
      try simp only [Act.put]
      refine tkA 4 ?_
      try simp only [Act.put]
      refine tkA 5 ?_
      try simp only [Act.put]
      refine tkA 6 ?_
      try simp only [Act.put]
      refine tkA 7 ?_
      try simp only [Act.put]
      refine tkA 8 ?_
      try simp only [Act.put]
      refine tkA 10 ?_
      try simp only [Act.put]
      refine tkA 11 ?_
      try simp only [Act.put]
      refine tkA 12 ?_
      try simp only [Act.put]
      refine wpAnyH_ready (rs:=[9]) (by kernel_rfl) (by simp) ?_;refine AllReadyH.cons rfl (fun K hK=>?_) ?_
      ·skip
       go_simp;refine (L0.out _ (jaf (jad _))).mono ?_;rintro e wy ⟨hg,rfl⟩;exact ⟨rfl,jai E5.out (jaa (jaf G4.out) hg)⟩
      exact AllReadyH.nil
     | ok pa =>
      rw [hA0] at L0
      cases hA1:jaI A x [k2,k3] 1 with
      | error c =>
       rw [hA1] at L1;have E6:Hid (jcq A x k=.error c):=by show _=_;rw [E4.out,hA0,hA1];rfl
       clear hA0 hA1;refine wp_region_held_drew (S:=(fun w'=>w'.cell? ⟨w.heap.size,0,none⟩=some (.string op)∧w'.cell? ⟨w.heap.size,1,none⟩=some (.string nam)∧w'.cell? ⟨w.heap.size,2,none⟩=some (.slice ia il ic)∧w'.cell? ⟨w.heap.size,3,none⟩=some (.string out)∧w'.cell? ⟨w.heap.size,4,none⟩=some (.slice ao al cap)∧w'.cell? ⟨xb,xo,none⟩=some (.int .i64 x0)∧w'.cell? ⟨kb,ko,none⟩=some (.int .i64 k0))) (by kernel_rfl) (by go_keep) (fun hHeld=>?_);refine tkA 0 ?_
       try simp only [Act.put]
       refine tkA 1 ?_
       try simp only [Act.put]
       refine tkA 2 ?_
       try simp only [Act.put]
       refine tkA 3 ?_
       try simp only [Act.put]
       refine tkA 4 ?_
       try simp only [Act.put]
       refine tkA 5 ?_
       try simp only [Act.put]
       refine tkA 6 ?_
       try simp only [Act.put]
       refine tkA 7 ?_
       try simp only [Act.put]
       refine tkA 8 ?_
       try simp only [Act.put]
       refine tkA 10 ?_
       try simp only [Act.put]
       refine tkA 11 ?_
       try simp only [Act.put]
       refine tkA 12 ?_
       try simp only [Act.put]
       refine wpAnyH_ready (rs:=[9]) (by kernel_rfl) (by simp) ?_;refine AllReadyH.cons rfl (fun K hK=>?_) ?_
       ·skip
        go_simp;refine (L0.out _ (jaf (jad _))).mono ?_;rintro e w5 ⟨hg5,v,rfl,rfl,hb1,hb2⟩;have g5:=jaa (jaf (jad w4)) hg5;have g5w:=jaa G04.out g5;obtain ⟨n0,n1,n2,n3,n4⟩:=jak (n:=⟨op,nam,⟨ia,il,ic⟩,out,⟨ao,al,cap⟩⟩) (BX.out w5 (g5w));have y0:=jae X0.out (jaa g0.out g5w);have y1:=jae K0.out (jaa g0.out g5w)
        try dsimp only
        refine hK.out _ _ (by first | assumption | go_keep) (fun hHeld=>?_);clear hK K
        try simp only [Act.put]
        refine wpAnyH_ready (rs:=[13]) (by kernel_rfl) (by simp) ?_;refine AllReadyH.cons rfl (fun K hK=>?_) ?_
        ·skip
         go_simp;refine (L1.out _ g5).mono ?_;rintro e wy ⟨hg,rfl⟩;exact ⟨rfl,jai E6.out (jaa (jaa G4.out g5) hg)⟩
        exact AllReadyH.nil
       exact AllReadyH.nil
      | ok pb =>
       rw [hA1] at L1;have E7:Hid (jcq A x k=.ok [x0,k0,pa,pb]):=by show _=_;rw [E4.out,hA0,hA1];rfl
       clear hA0 hA1;refine wp_region_held_drew (S:=(fun w'=>w'.cell? ⟨w.heap.size,0,none⟩=some (.string op)∧w'.cell? ⟨w.heap.size,1,none⟩=some (.string nam)∧w'.cell? ⟨w.heap.size,2,none⟩=some (.slice ia il ic)∧w'.cell? ⟨w.heap.size,3,none⟩=some (.string out)∧w'.cell? ⟨w.heap.size,4,none⟩=some (.slice ao al cap)∧w'.cell? ⟨xb,xo,none⟩=some (.int .i64 x0)∧w'.cell? ⟨kb,ko,none⟩=some (.int .i64 k0))) (by kernel_rfl) (by go_keep) (fun hHeld=>?_);refine tkA 0 ?_
       try simp only [Act.put]
       refine tkA 1 ?_
       try simp only [Act.put]
       refine tkA 2 ?_
       try simp only [Act.put]
       refine tkA 3 ?_
       try simp only [Act.put]
       refine tkA 4 ?_
       try simp only [Act.put]
       refine tkA 5 ?_
       try simp only [Act.put]
       refine tkA 6 ?_
       try simp only [Act.put]
       refine tkA 7 ?_
       try simp only [Act.put]
       refine tkA 8 ?_
       try simp only [Act.put]
       refine tkA 10 ?_
       try simp only [Act.put]
       refine tkA 11 ?_
       try simp only [Act.put]
       refine tkA 12 ?_
       try simp only [Act.put]
       refine wpAnyH_ready (rs:=[9]) (by kernel_rfl) (by simp) ?_;refine AllReadyH.cons rfl (fun K hK=>?_) ?_
       ·skip
        go_simp;refine (L0.out _ (jaf (jad _))).mono ?_;rintro e w5 ⟨hg5,v,rfl,rfl,hb1,hb2⟩;have g5:=jaa (jaf (jad w4)) hg5;have g5w:=jaa G04.out g5;obtain ⟨n0,n1,n2,n3,n4⟩:=jak (n:=⟨op,nam,⟨ia,il,ic⟩,out,⟨ao,al,cap⟩⟩) (BX.out w5 (g5w));have y0:=jae X0.out (jaa g0.out g5w);have y1:=jae K0.out (jaa g0.out g5w)
        try dsimp only
        refine hK.out _ _ (by first | assumption | go_keep) (fun hHeld=>?_);clear hK K
        try simp only [Act.put]
        refine wpAnyH_ready (rs:=[13]) (by kernel_rfl) (by simp) ?_;refine AllReadyH.cons rfl (fun K hK=>?_) ?_
        ·skip
         go_simp;refine (L1.out _ g5).mono ?_;rintro e w6 ⟨hg6,v,rfl,rfl,hc1,hc2⟩;have g6:=jaa g5 hg6;have g6w:=jaa G04.out g6;obtain ⟨n0,n1,n2,n3,n4⟩:=jak (n:=⟨op,nam,⟨ia,il,ic⟩,out,⟨ao,al,cap⟩⟩) (BX.out w6 (g6w));have y0:=jae X0.out (jaa g0.out g6w);have y1:=jae K0.out (jaa g0.out g6w)
         try dsimp only
         refine hK.out _ _ (by first | assumption | go_keep) (fun hHeld=>?_);clear hK K
         try simp only [Act.put]
         refine wpAnyH_ready (rs:=[14]) (by kernel_rfl) (by simp) ?_;refine AllReadyH.cons rfl (fun K hK=>?_) ?_
         ·skip
          go_simp;have y0:=jae y0 (jab w6 (.cells #[.int .i64 x0,.int .i64 k0,.int .i64 pa,.int .i64 pb] 3));have y1:=jae y1 (jab w6 (.cells #[.int .i64 x0,.int .i64 k0,.int .i64 pa,.int .i64 pb] 3));obtain ⟨n0,n1,n2,n3,n4⟩:=jak (n:=⟨op,nam,⟨ia,il,ic⟩,out,⟨ao,al,cap⟩⟩) (BX.out _ (jaa g6w (jab w6 (.cells #[.int .i64 x0,.int .i64 k0,.int .i64 pa,.int .i64 pb] 3))));refine hK.out _ _ (by first | assumption | go_keep) (fun hHeld=>?_);clear hK K
          try simp only [Act.put]
          refine tkA 15 ?_
          try simp only [Act.put]
          refine wpAnyH_done (by kernel_rfl) ?_ _
          try go_simp
          go_wp2;go_ret;exact jap E7.out (jaa (jaa G4.out g6) (jab _ _)) ⟨⟨some ⟨w6.heap.size,0,none⟩,4,4⟩,rfl,jbu w6 [x0,k0,pa,pb] 3 (by simp) (fun y hy=>by simp at hy;omega)⟩
         exact AllReadyH.nil
        exact AllReadyH.nil
       exact AllReadyH.nil
    ·have d3:(Q==k1)=false:=by simpa using c3
     have E4:Hid (jcq A x k=.error 4):=by show _=_;rw [E1.out];simp [jal,c1,c2,c3];rfl
     clear c1 c2 c3;refine wp_region_held_drew (S:=(fun w'=>w'.cell? ⟨kb,ko,none⟩=some (.int .i64 k0)∧w'.cell? ⟨kb,ko+1,none⟩=some (.int .i64 k1))) (by kernel_rfl) (by go_keep) (fun hHeld=>?_);refine tkB 0 ?_
     try simp only [Act.put]
     refine tkB 1 ?_
     try simp only [Act.put]
     refine wpAnyH_take (i:=2) (v:=.int .i64 M1) rfl (by kernel_rfl) (by kernel_rfl) (by kernel_rfl) (fun _ _ _ h=>h) (Or.inl ⟨by kernel_rfl,?_⟩) (by assumption) ?_
     ·(intro w hSw;(try dsimp only at hSw);go_simp;(try simp only [t1]))
     try simp only [Act.put]
     refine wpAnyH_take (i:=3) (v:=.bool true) rfl (by kernel_rfl) (by kernel_rfl) (by kernel_rfl) (fun _ _ _ h=>h) (Or.inl ⟨by kernel_rfl,?_⟩) (by assumption) ?_
     ·(intro w hSw;(try dsimp only at hSw);go_simp;(try simp only [d1]))
     try simp only [Act.put]
     refine tkB 4 ?_
     try simp only [Act.put]
     refine tkB 5 ?_
     try simp only [Act.put]
     refine tkB 6 ?_
     try simp only [Act.put]
     refine tkB 7 ?_
     try simp only [Act.put]
     refine tkB 8 ?_
     try simp only [Act.put]
     refine wpAnyH_take (i:=9) (v:=.int .i64 M2) rfl (by kernel_rfl) (by kernel_rfl) (by kernel_rfl) (fun _ _ _ h=>h) (Or.inl ⟨by kernel_rfl,?_⟩) (by assumption) ?_
     ·(intro w hSw;(try dsimp only at hSw);go_simp;(try simp only [t2]))
     try simp only [Act.put]
     refine wpAnyH_take (i:=10) (v:=.bool true) rfl (by kernel_rfl) (by kernel_rfl) (by kernel_rfl) (fun _ _ _ h=>h) (Or.inl ⟨by kernel_rfl,?_⟩) (by assumption) ?_
     ·(intro w hSw;(try dsimp only at hSw);go_simp;(try simp only [d2]))
     try simp only [Act.put]
     refine tkB 11 ?_
     try simp only [Act.put]
     refine tkB 12 ?_
     try simp only [Act.put]
     refine tkB 13 ?_
     try simp only [Act.put]
     refine tkB 14 ?_
     try simp only [Act.put]
     refine wpAnyH_take (i:=15) (v:=.int .i64 Q) rfl (by kernel_rfl) (by kernel_rfl) (by kernel_rfl) (fun _ _ _ h=>h) (Or.inl ⟨by kernel_rfl,?_⟩) (by assumption) ?_
     ·(intro w hSw;(try dsimp only at hSw);go_simp;(try simp only [t3,wQ]))
     try simp only [Act.put]
     refine tkB 16 ?_
     try simp only [Act.put]
     refine tkB 17 ?_
     try simp only [Act.put]
     refine tkB 18 ?_
     try simp only [Act.put]
     refine wpAnyH_take (i:=19) (v:=.bool false) rfl (by kernel_rfl) (by kernel_rfl) (by kernel_rfl) (fun _ _ _ h=>h) (Or.inl ⟨by kernel_rfl,?_⟩) (by assumption) ?_
     ·(intro w hSw;(try dsimp only at hSw);go_simp;(try simp only [d3]))
     try simp only [Act.put]
     refine tkB 20 ?_
     try simp only [Act.put]
     refine wpAnyH_ready (rs:=[21]) (by kernel_rfl) (by simp) ?_;refine AllReadyH.cons rfl (fun K hK=>?_) ?_
     ·skip
      go_simp;refine (jav _).mono ?_;rintro e wy ⟨rfl,rfl⟩;exact ⟨rfl,jai E4.out (jaf G1.out)⟩
     exact AllReadyH.nil
   ·have d2:(M2==0)=false:=by simpa using c2
    have E4:Hid (jcq A x k=.error 4):=by show _=_;rw [E1.out];simp [jal,c1,c2];rfl
    clear c1 c2;refine wp_region_held_drew (S:=(fun w'=>w'.cell? ⟨kb,ko,none⟩=some (.int .i64 k0)∧w'.cell? ⟨kb,ko+1,none⟩=some (.int .i64 k1))) (by kernel_rfl) (by go_keep) (fun hHeld=>?_);refine tkB 0 ?_
    try simp only [Act.put]
    refine tkB 1 ?_
    try simp only [Act.put]
    refine wpAnyH_take (i:=2) (v:=.int .i64 M1) rfl (by kernel_rfl) (by kernel_rfl) (by kernel_rfl) (fun _ _ _ h=>h) (Or.inl ⟨by kernel_rfl,?_⟩) (by assumption) ?_
    ·(intro w hSw;(try dsimp only at hSw);go_simp;(try simp only [t1]))
    try simp only [Act.put]
    refine wpAnyH_take (i:=3) (v:=.bool true) rfl (by kernel_rfl) (by kernel_rfl) (by kernel_rfl) (fun _ _ _ h=>h) (Or.inl ⟨by kernel_rfl,?_⟩) (by assumption) ?_
    ·(intro w hSw;(try dsimp only at hSw);go_simp;(try simp only [d1]))
    try simp only [Act.put]
    refine tkB 4 ?_
    try simp only [Act.put]
    refine tkB 5 ?_
    try simp only [Act.put]
    refine tkB 6 ?_
    try simp only [Act.put]
    refine tkB 7 ?_
    try simp only [Act.put]
    refine tkB 8 ?_
    try simp only [Act.put]
    refine wpAnyH_take (i:=9) (v:=.int .i64 M2) rfl (by kernel_rfl) (by kernel_rfl) (by kernel_rfl) (fun _ _ _ h=>h) (Or.inl ⟨by kernel_rfl,?_⟩) (by assumption) ?_
    ·(intro w hSw;(try dsimp only at hSw);go_simp;(try simp only [t2]))
    try simp only [Act.put]
    refine wpAnyH_take (i:=10) (v:=.bool false) rfl (by kernel_rfl) (by kernel_rfl) (by kernel_rfl) (fun _ _ _ h=>h) (Or.inl ⟨by kernel_rfl,?_⟩) (by assumption) ?_
    ·(intro w hSw;(try dsimp only at hSw);go_simp;(try simp only [d2]))
    try simp only [Act.put]
    refine tkB 11 ?_
    try simp only [Act.put]
    refine tkB 12 ?_
    try simp only [Act.put]
    refine tkU 13 ?_
    try simp only [Act.put]
    refine tkU 14 ?_
    try simp only [Act.put]
    refine tkU 15 ?_
    try simp only [Act.put]
    refine tkU 16 ?_
    try simp only [Act.put]
    refine tkU 17 ?_
    try simp only [Act.put]
    refine tkU 18 ?_
    try simp only [Act.put]
    refine tkU 19 ?_
    try simp only [Act.put]
    refine tkB 20 ?_
    try simp only [Act.put]
    refine wpAnyH_ready (rs:=[21]) (by kernel_rfl) (by simp) ?_;refine AllReadyH.cons rfl (fun K hK=>?_) ?_
    ·skip
     go_simp;refine (jav _).mono ?_;rintro e wy ⟨rfl,rfl⟩;exact ⟨rfl,jai E4.out (jaf G1.out)⟩
    exact AllReadyH.nil
  ·have d1:(M1==0)=false:=by simpa using c1
   have E4:Hid (jcq A x k=.error 4):=by show _=_;rw [E1.out];simp [jal,c1];rfl
   clear c1;refine wp_region_held_drew (S:=(fun w'=>w'.cell? ⟨kb,ko,none⟩=some (.int .i64 k0)∧w'.cell? ⟨kb,ko+1,none⟩=some (.int .i64 k1))) (by kernel_rfl) (by go_keep) (fun hHeld=>?_);refine tkB 0 ?_
   try simp only [Act.put]
   refine tkB 1 ?_
   try simp only [Act.put]
   refine wpAnyH_take (i:=2) (v:=.int .i64 M1) rfl (by kernel_rfl) (by kernel_rfl) (by kernel_rfl) (fun _ _ _ h=>h) (Or.inl ⟨by kernel_rfl,?_⟩) (by assumption) ?_
   ·(intro w hSw;(try dsimp only at hSw);go_simp;(try simp only [t1]))
   try simp only [Act.put]
   refine wpAnyH_take (i:=3) (v:=.bool false) rfl (by kernel_rfl) (by kernel_rfl) (by kernel_rfl) (fun _ _ _ h=>h) (Or.inl ⟨by kernel_rfl,?_⟩) (by assumption) ?_
   ·(intro w hSw;(try dsimp only at hSw);go_simp;(try simp only [d1]))
   try simp only [Act.put]
   refine tkB 4 ?_
   try simp only [Act.put]
   refine tkU 5 ?_
   try simp only [Act.put]
   refine tkU 6 ?_
   try simp only [Act.put]
   refine tkU 7 ?_
   try simp only [Act.put]
   refine tkU 8 ?_
   try simp only [Act.put]
   refine tkU 9 ?_
   try simp only [Act.put]
   refine tkU 10 ?_
   try simp only [Act.put]
   refine tkB 11 ?_
   try simp only [Act.put]
   refine tkB 12 ?_
   try simp only [Act.put]
   refine tkU 13 ?_
   try simp only [Act.put]
   refine tkU 14 ?_
   try simp only [Act.put]
   refine tkU 15 ?_
   try simp only [Act.put]
   refine tkU 16 ?_
   try simp only [Act.put]
   refine tkU 17 ?_
   try simp only [Act.put]
   refine tkU 18 ?_
   try simp only [Act.put]
   refine tkU 19 ?_
   try simp only [Act.put]
   refine tkB 20 ?_
   try simp only [Act.put]
   refine wpAnyH_ready (rs:=[21]) (by kernel_rfl) (by simp) ?_;refine AllReadyH.cons rfl (fun K hK=>?_) ?_
   ·skip
    go_simp;refine (jav _).mono ?_;rintro e wy ⟨rfl,rfl⟩;exact ⟨rfl,jai E4.out (jaf G1.out)⟩
   exact AllReadyH.nil
 ·have E1:Hid (jcq A x k=.error 4):=by show _=_;rw [E0.out];simp [jal,hG1];rfl
  have bG:decide (1≤G)=false:=by simpa using hG1
  clear hG1;rw [bG];refine (jav _).mono ?_;rintro e w' ⟨rfl,rfl⟩;exact ⟨rfl,jai E1.out G1.out⟩
end Go.Proofs.YteigfipgmghgmaaGreatDoor
namespace Go.Proofs.YteigfipgmghgmaaGreatDoor
open Go.RowKit
theorem jo0 (n:Nod) (A:At) (u:Sl) (p0 p1:Val×List Int) (rest:List (Val×List Int)) (w:World) (hn:NodeOk w n A) (hv:ValsIn w u.v (p0::p1::rest)) (hl:¬ (p0.2.length=4∧p1.2.length=4)):Calls Tryz.prog 125 #[jaz n,.slice u.a u.n u.c] w (jaJ w (.error 4:R (List Int)) jbd):=by
 obtain ⟨xa,xc,e1,q1,q2,q3⟩:=hv.vals.form;rw [List.length_map] at e1 q1 q3;obtain ⟨ua,un,uc⟩:=u;simp only [Sl.v,Value.slice.injEq] at e1;obtain ⟨rfl,rfl,rfl⟩:=e1;obtain ⟨b,off,rfl⟩:=hv.vals.addr (k:=0) (by simp);obtain ⟨-,z0⟩:=hv.at 0 (by simp);obtain ⟨-,z1⟩:=hv.at 1 (by simp);rw [Nat.zero_mul,Nat.add_zero] at z0;simp only [List.getElem_cons_zero,List.getElem_cons_succ,Nat.one_mul] at z0 z1;have HX:=jac (hv.dims p0 (by simp));have HK:=jac (hv.dims p1 (by simp));obtain ⟨⟨vn0,vt0,⟨d0a,d0n,d0c⟩⟩,x⟩:=p0;obtain ⟨⟨vn1,vt1,⟨d1a,d1n,d1c⟩⟩,k⟩:=p1;simp only at z0 z1 HX HK hl;obtain ⟨xx,xcc,ex,f1,f2,f3⟩:=HX.out.sl;simp only [Sl.v,Value.slice.injEq] at ex;obtain ⟨rfl,rfl,rfl⟩:=ex;obtain ⟨kx,kcc,ek,g1,g2,g3⟩:=HK.out.sl;simp only [Sl.v,Value.slice.injEq] at ek;obtain ⟨rfl,rfl,rfl⟩:=ek;obtain ⟨m,hm⟩ : ∃ m,m=((((⟨vn0,vt0,⟨d0a,x.length,d0c⟩⟩,x):Val×List Int)::(⟨vn1,vt1,⟨d1a,k.length,d1c⟩⟩,k)::rest):List (Val×List Int)).length:=⟨_,rfl⟩
 have hm0:0<m:=by rw [hm];simp
 have hm1:1<m:=by rw [hm];simp
 have hm0':(0:Int)<(m:Int):=by omega
 have hm1':(1:Int)<(m:Int):=by omega
 rw [← hm] at q1 q3 ⊢;have Z0:=jac z0;have Z1:=jac z1;clear hv z0 z1 hm;have NK:=jac hn;obtain ⟨op,nam,⟨ia,il,ic⟩,out,⟨ao,al,cap⟩⟩:=n;unfold jaz;simp only;obtain ⟨w0,hw0⟩ : ∃ w0,w0=w.alloc (.cells #[.string op,.string nam,.slice ia il ic,.string out,.slice ao al cap] 25):=⟨_,rfl⟩
 have g0:Hid (w.grownBy w0 none):=by show w.grownBy w0 none;rw [hw0];exact jab _ _
 have hb0:=heap_alloc_new w (.cells #[.string op,.string nam,.slice ia il ic,.string out,.slice ao al cap] 25);rw [← hw0] at hb0;have BX:Hid (∀ wx,w0.grownBy wx none→wx.heap[w.heap.size]?=some (.cells #[.string op,.string nam,.slice ia il ic,.string out,.slice ao al cap] 25 (0,0))):=fun wx hg=>jag hb0 hg;clear hb0 hn;have y0:=jae Z0.out g0.out;have y1:=jae Z1.out g0.out
 by_cases hx4:x.length=4
 ·have bx:((x.length:Int)==4)=true:=by simp [hx4]
  have bk:((k.length:Int)==4)=false:=by simpa using (fun h=>hl ⟨hx4,by omega⟩ : ¬ (k.length:Int)=4)
  clear hl hx4;go_enter Tryz.func125,Tryz.ntmps125;go_wp2_with fail;rw [← hw0];clear hw0
  go_quiet (fail)
  go_wp2_with (first | (go_at_call 71;refine (jav _).mono ?_;rintro e w' ⟨rfl,rfl⟩) | fail);exact ⟨rfl,jai rfl (ja7 g0.out _)⟩
 ·have bx:((x.length:Int)==4)=false:=by simpa using (fun h=>hx4 (by omega):¬ (x.length:Int)=4)
  clear hl hx4;go_enter Tryz.func125,Tryz.ntmps125;go_wp2_with fail;rw [← hw0];clear hw0
  go_quiet (fail)
  go_wp2_with (first | (go_at_call 71;refine (jav _).mono ?_;rintro e w' ⟨rfl,rfl⟩) | fail);exact ⟨rfl,jai rfl (ja7 g0.out _)⟩
theorem jo1 {A:At} {x k:List Int} {z:Option (List Int)} (h:¬ (x.length=4∧k.length=4)):ja0 A x k z=.error 4:=by
 unfold ja0;rw [decide_eq_false h]
 rfl
theorem jo2 {A:At} {x k:List Int} (h:x.length=4∧k.length=4):ja0 A x k none=jcq A x k:=by
 unfold ja0;rw [decide_eq_true h]
 rfl
theorem jks {A:At} {x k z:List Int} (h:x.length=4∧k.length=4) (hz:z.length=1∧z.getD 0 0=k.getD 0 0):ja0 A x k (some z)=jcq A x k:=by
 unfold ja0;simp only;rw [decide_eq_true h,decide_eq_true hz]
 rfl
theorem jkt {A:At} {x k z:List Int} (h:x.length=4∧k.length=4) (hz:¬ (z.length=1∧z.getD 0 0=k.getD 0 0)):ja0 A x k (some z)=.error 4:=by
 unfold ja0;simp only;rw [decide_eq_true h,decide_eq_false hz]
 rfl
theorem jrm (n:Nod) (A:At) (u:Sl) (p0 p1:Val×List Int) (rest:List (Val×List Int)) (w:World) (hn:NodeOk w n A) (hv:ValsIn w u.v (p0::p1::rest)) (hr:rest.length≤1) (hf:∀ p∈p0::p1::rest,Fine p.2):Calls Tryz.prog 125 #[jaz n,.slice u.a u.n u.c] w (jaJ w (ja0 A p0.2 p1.2 (rest.head?.map (·.2))) jbd):=by
 by_cases h4:p0.2.length=4∧p1.2.length=4
 ·match rest,hr with
  | [],_ =>
   show Calls _ _ _ _ (jaJ w (ja0 A p0.2 p1.2 none) jbd);rw [jo2 h4];exact joY n A u p0 p1 w hn hv h4.1 h4.2 (hf p0 (by simp)) (hf p1 (by simp))
  | [p2],_ =>
   show Calls _ _ _ _ (jaJ w (ja0 A p0.2 p1.2 (some p2.2)) jbd)
   by_cases hz:p2.2.length=1∧p2.2.getD 0 0=p1.2.getD 0 0
   ·rw [jks h4 hz];exact joZ n A u p0 p1 p2 w hn hv h4.1 h4.2 (hf p0 (by simp)) (hf p1 (by simp)) hz
   ·rw [jkt h4 hz];exact joX n A u p0 p1 p2 w hn hv h4.1 h4.2 hz
 ·rw [jo1 h4];exact jo0 n A u p0 p1 rest w hn hv h4
theorem jo3 (n:Nod) (A:At) (u:Sl) (p0 p1:Val×List Int) (rest:List (Val×List Int)) (w:World) (hop:n.op=⟨#[67,111,110,118]⟩) (hn:NodeOk w n A) (hv:ValsIn w u.v (p0::p1::rest)) (hr:rest.length≤1) (hf:∀ p∈p0::p1::rest,Fine p.2):Calls Tryz.prog 75 #[jaz n,.slice u.a u.n u.c] w (jaJ w (ja0 A p0.2 p1.2 (rest.head?.map (·.2))) jbd):=by
 obtain ⟨xa,xc,e1,q1,q2,q3⟩:=hv.vals.form;rw [List.length_map] at e1 q1 q3;obtain ⟨ua,un,uc⟩:=u;simp only [Sl.v,Value.slice.injEq] at e1;obtain ⟨rfl,rfl,rfl⟩:=e1;obtain ⟨b,off,rfl⟩:=hv.vals.addr (k:=0) (by simp);obtain ⟨-,z0⟩:=hv.at 0 (by simp);rw [Nat.zero_mul,Nat.add_zero] at z0;simp only [List.getElem_cons_zero] at z0;have HV:=jac hv;have HF:=jac hf;clear hf;obtain ⟨⟨vn0,vt0,⟨d0a,d0n,d0c⟩⟩,x⟩:=p0;simp only at z0;have Z0:=jac z0;obtain ⟨m,hm⟩ : ∃ m,m=((((⟨vn0,vt0,⟨d0a,d0n,d0c⟩⟩,x):Val×List Int)::p1::rest):List (Val×List Int)).length:=⟨_,rfl⟩
 have hm0:0<m:=by rw [hm];simp
 have hm0':(0:Int)<(m:Int):=by omega
 have HM:=jac hm;rw [← hm] at q1 q3 ⊢;clear hv z0 hm;have NK:=jac hn;obtain ⟨op,nam,⟨ia,il,ic⟩,out,⟨ao,al,cap⟩⟩:=n;unfold jaz;simp only;obtain ⟨w0,hw0⟩ : ∃ w0,w0=w.alloc (.cells #[.string op,.string nam,.slice ia il ic,.string out,.slice ao al cap] 25):=⟨_,rfl⟩
 have g0:Hid (w.grownBy w0 none):=by show w.grownBy w0 none;rw [hw0];exact jab _ _
 have hb0:=heap_alloc_new w (.cells #[.string op,.string nam,.slice ia il ic,.string out,.slice ao al cap] 25);rw [← hw0] at hb0;have BX:Hid (∀ wx,w0.grownBy wx none→wx.heap[w.heap.size]?=some (.cells #[.string op,.string nam,.slice ia il ic,.string out,.slice ao al cap] 25 (0,0))):=fun wx hg=>jag hb0 hg;clear hb0 hn;simp only at hop;subst hop;have z0:(w.alloc (.cells #[.string ⟨#[67,111,110,118]⟩,.string nam,.slice ia il ic,.string out,.slice ao al cap] 25)).cell? ⟨b,off+2,none⟩=some (.slice d0a d0n d0c):=jae Z0.out (jab _ _);have C:=jac (jrm ⟨⟨#[67,111,110,118]⟩,nam,⟨ia,il,ic⟩,out,⟨ao,al,cap⟩⟩ A ⟨some ⟨b,off,none⟩,m,uc⟩ _ p1 rest w0 (NK.out.more g0.out) (by rw [HM.out];exact HV.out.more g0.out) hr HF.out);unfold jaz at C;simp only at C;go_enter Tryz.func75,Tryz.ntmps75;go_wp2_with fail;rw [← hw0];clear hw0
 cases hk:ja0 A x p1.2 (rest.head?.map (·.2)) with
 | error c =>
  rw [hk] at C;have HK:=jac hk;clear hk;refine C.out.mono ?_;rintro e w' ⟨hg,rfl⟩;exact ⟨rfl,jai (by first | exact HK.out | rfl) (jaa g0.out hg)⟩
 | ok zs =>
  rw [hk] at C;have HK:=jac hk;clear hk;refine C.out.mono ?_;rintro e w' ⟨hg,v,rfl,⟨s1,s2,s3⟩,rfl,hs⟩;simp only [Sl.v];go_wp2;go_ret;exact jap (by first | exact HK.out | rfl) (jaa g0.out hg) ⟨⟨s1,s2,s3⟩,rfl,hs⟩
end Go.Proofs.YteigfipgmghgmaaGreatDoor
