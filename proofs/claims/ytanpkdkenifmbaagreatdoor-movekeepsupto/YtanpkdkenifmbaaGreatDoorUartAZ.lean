/- A part. -/
import Derived.Test.YtanpkdkenifmbaaGreatDoorMUart
import Derived.Test.YtanpkdkenifmbaaGreatDoorUartAY
import Derived.Deep.RegionHeld3
import Derived.Test.YtanpkdkenifmbaaGreatDoorUartAQ
import Derived.BigQuiet
import Derived.Deep.AppendLies
set_option maxHeartbeats 4000000
set_option maxRecDepth 100000
namespace Go.Proofs.YtanpkdkenifmbaaGreatDoor
open Go.RowKit
def jkY (A:At) (x K pa:List Int):R (List Int):=(jal ((List.range 4).all (fun i=>decide (pa.getD i 0<K.getD (i % 2) 0)))).bind (fun _=>(jaI A x K 0).bind (fun a=>(jaI A x K 1).bind (fun b=>.ok [x.getD 0 0,x.getD 1 0,a,b])))
theorem jpr {pa K:List Int} {k:Nat} (hk:k<4) (h:¬ pa.getD k 0<K.getD (k % 2) 0):(List.range 4).all (fun i=>decide (pa.getD i 0<K.getD (i % 2) 0))=false:=by
 rw [List.all_eq_false];exact ⟨k,List.mem_range.2 hk,by simpa using h⟩
theorem jnm {pa K:List Int} (h:∀ t,t<4→pa.getD t 0<K.getD (t % 2) 0):(List.range 4).all (fun i=>decide (pa.getD i 0<K.getD (i % 2) 0))=true:=by
 rw [List.all_eq_true];intro t ht;simpa using h t (List.mem_range.1 ht)
theorem jkZ (n:Nod) (A:At) (u:Sl) (x:List Int) (w:World) (hn:NodeOk w n A) (hx:IsInts w u.v x) (hf:Fine x):Calls Tryz.prog 104 #[jaA n,.slice u.a u.n u.c] w (jaH w (jbF A x) jbf):=by
 obtain ⟨ux,uc,eu,c1,c2,c3⟩:=hx.sl;obtain ⟨ua,un,uu⟩:=u;simp only [Sl.v,Value.slice.injEq] at eu;obtain ⟨rfl,rfl,rfl⟩:=eu;have HX:=jac hx;have PB:Hid (∀ z∈x,1≤z∧z≤65536):=fun z hz=>⟨hf.pos z hz,hf.le_each hz⟩
 have E0:Hid (jbF A x=(jal (decide (x.length=4))).bind (fun _=>(jaZ (A.ints ⟨#[107,101,114,110,101,108,95,115,104,97,112,101]⟩ []) 2 1).bind (fun K=>(jeu A).bind (fun pa=>jkY A x K pa)))):=rfl;clear hx hf;have NK:=jac hn;obtain ⟨op,nam,⟨ia,il,ic⟩,out,⟨ao,al,cap⟩⟩:=n;unfold jaA;simp only;obtain ⟨w0,hw0⟩ : ∃ w0,w0=w.alloc (.cells #[.string op,.string nam,.slice ia il ic,.string out,.slice ao al cap] 25):=⟨_,rfl⟩
 have g0:Hid (w.grownBy w0 none):=by show w.grownBy w0 none;rw [hw0];exact jab _ _
 have hb0:=heap_alloc_new w (.cells #[.string op,.string nam,.slice ia il ic,.string out,.slice ao al cap] 25);rw [← hw0] at hb0;have BX:Hid (∀ wx,w0.grownBy wx none→wx.heap[w.heap.size]?=some (.cells #[.string op,.string nam,.slice ia il ic,.string out,.slice ao al cap] 25 (0,0))):=fun wx hg=>jag hb0 hg;clear hb0 hn;have NI:=jac (jbj ⟨op,nam,⟨ia,il,ic⟩,out,⟨ao,al,cap⟩⟩ A ⟨#[107,101,114,110,101,108,95,115,104,97,112,101]⟩ ⟨none,0,0⟩ [] w0 (NK.out.more g0.out) ⟨none,0,rfl,Nat.le_refl _,by decide,by simp,fun _=>⟨rfl,rfl⟩,fun h=>(by simp at h),fun z hz=>(by simp at hz)⟩);have PA:=jac (fun (wx:World) (hg:w.grownBy wx none)=>jgf ⟨op,nam,⟨ia,il,ic⟩,out,⟨ao,al,cap⟩⟩ A wx (NK.out.more hg));have PL:=jac (fun (wx:World) (hg:w.grownBy wx none) (v:Sl) (K:List Int) (lng:Nat) (hK:IsInts wx v.v K) (hl:x.length=4) (hlK:K.length=2) (bK:∀ z∈K,1≤z∧z≤65536) (ha:lng<2)=>jcN ⟨op,nam,⟨ia,il,ic⟩,out,⟨ao,al,cap⟩⟩ A ⟨ua,x.length,uu⟩ v x K lng wx (NK.out.more hg) (HX.out.more hg) hK hl hlK PB.out bK ha);unfold jaA at NI PA PL;simp only at NI PA PL
 by_cases hl:x.length=4
 ·have b0:((x.length:Int)==4)=true:=by simp [hl]
  have E1:Hid (jbF A x=(jaZ (A.ints ⟨#[107,101,114,110,101,108,95,115,104,97,112,101]⟩ []) 2 1).bind (fun K=>(jeu A).bind (fun pa=>jkY A x K pa))):=by show _=_;rw [E0.out];simp [jal,hl];rfl
  have HL:=jac hl;clear hl;go_enter Tryz.func104,Tryz.ntmps104;go_wp2_with (first | (go_at_call 67;refine (jaq _).mono ?_;rintro e w' ⟨rfl,rfl⟩) | fail);rw [← hw0];clear hw0 b0;refine NI.out.mono ?_;rintro e w1 ⟨s,rfl,hs,hg1⟩;have G1:=jac hg1;have WD:=jac (jdB s _ 2 1 w1 hs (by decide));have HS:=jac hs;clear hs hg1 NI
  cases hk:jaZ (A.ints ⟨#[107,101,114,110,101,108,95,115,104,97,112,101]⟩ []) 2 1 with
  | error c =>
   rw [hk] at WD;have E:Hid (jbF A x=.error c):=by show _=_;rw [E1.out,hk];rfl
   clear hk;go_wp2_with (first | (go_at_call 124;refine WD.out.mono ?_;rintro e w' ⟨hg,rfl⟩) | fail);exact ⟨rfl,jah E.out (jaa g0.out (jaa G1.out hg))⟩
  | ok K =>
   rw [hk] at WD E1;obtain ⟨e1,kl,kbd⟩:=jdA hk;rw [← e1] at HS
   have SL:s.n=2:=by
    obtain ⟨a',c',e,-⟩:=HS.out.sl;have:s.n=K.length:=by simp only [Sl.v,Value.slice.injEq] at e;exact e.2.1
    rw [this,kl]
   obtain ⟨sa,sn,sc⟩:=s;obtain ⟨kb,ko,esa,hck⟩:=HS.out.get (k:=0) (by omega);simp only at esa SL;subst esa SL;simp only [Sl.v] at WD HS ⊢;have E2:Hid (jbF A x=(jeu A).bind (fun pa=>jkY A x K pa)):=E1.out;have KL:=jac kl;have KB:=jac kbd;have KC:=jac hck;obtain ⟨n0,n1,n2,n3,n4⟩:=jai (n:=⟨op,nam,⟨ia,il,ic⟩,out,⟨ao,al,cap⟩⟩) (BX.out w1 (G1.out));clear hk e1 kl kbd hck E1;go_wp2_with (first | (go_at_call 124;refine WD.out.mono ?_;rintro e w' ⟨-,v,rfl,rfl,-,rfl⟩) | fail);have P3:=jac (PA.out w1 (jaa g0.out G1.out));clear WD PA n0 n1 n2 n3 n4
   cases hk:jeu A with
   | error c =>
    rw [hk] at P3;have E:Hid (jbF A x=.error c):=by show _=_;rw [E2.out,hk];rfl
    clear hk;refine P3.out.mono ?_;rintro e w' ⟨hg,rfl⟩;exact ⟨rfl,jah E.out (jaa g0.out (jaa G1.out hg))⟩
   | ok pa =>
    rw [hk] at P3 E2;have E3:Hid (jbF A x=jkY A x K pa):=E2.out;clear hk E2;refine P3.out.mono ?_;rintro e w4 ⟨hg3,v,rfl,⟨pa1,pn,pc⟩,rfl,hp,hpl,hpb⟩;obtain ⟨pb',po,epa,hpc⟩:=hp.get (k:=0) (by omega)
    have pcb:4≤pc∧pc≤9223372036854775807:=by
     obtain ⟨a',c',e,f1,f2,-⟩:=hp.sl;simp only [Sl.v,Value.slice.injEq] at e;rw [hpl] at f1;rw [e.2.2];exact ⟨f1,f2⟩
    have SL:pn=4:=by
     obtain ⟨a',c',e,-⟩:=hp.sl;simp only [Sl.v,Value.slice.injEq] at e;rw [← hpl];exact e.2.1
    simp only at epa;subst epa SL;obtain ⟨pc1,pc2⟩:=pcb;have G04:=jac (jaa G1.out hg3);have G4:=jac (jaa g0.out (jaa G1.out hg3));have KC4:Hid (∀ i,i<K.length→w4.cell? ⟨kb,ko+i,none⟩=some (.int .i64 (K.getD i 0))):=fun i hi=>jad (KC.out i hi) hg3;have HPC:=jac hpc;have HPL:=jac hpl;have HK4:=jac (HS.out.more hg3);clear hp hpl hpb hpc hg3 P3 KC HS;simp only [Sl.v];go_wp2;go_loopw [18] (fun i wr=>w4=wr∧∃ k:Nat,k≤4∧i=.int .i64 k∧∀ t,t<k→pa.getD t 0<K.getD (t % 2) 0) (fun i _=>4 - (intOf i).toNat)
    case atStart=>exact ⟨rfl,0,Nat.zero_le _,rfl,fun t h=>absurd h (by omega)⟩
    case round =>
     obtain ⟨hw,k,hk,rfl,hall⟩:=hrel;subst hw;have HA:=jac hall;clear hall
     by_cases hkl:k<4
     ·have p1:=HPC.out k (by have:=HPL.out;omega);obtain ⟨m,hm⟩ : ∃ m:Nat,m=k % 2:=⟨_,rfl⟩
      have q1:=KC4.out m (by have:=KL.out;omega);have hmod:(k:Int).tmod 2=(m:Int):=by rw [hm,Int.tmod_eq_emod_of_nonneg (by omega)];omega
      have hm2:m<2:=by omega
      have i1:(k:Int)<4:=by omega
      have i2:(m:Int)<2:=by omega
      obtain ⟨P,hP⟩ : ∃ P,P=pa.getD k 0:=⟨_,rfl⟩
      obtain ⟨Q,hQ⟩ : ∃ Q,Q=K.getD m 0:=⟨_,rfl⟩
      rw [← hP] at p1;rw [← hQ] at q1;have HPP:=jac hP;have HQQ:Hid (Q=K.getD (k % 2) 0):=by show _=_;rw [hQ,hm]
      clear hP hQ hm
      by_cases hpq:P<Q
      ·go_wp2_with (first | (go_at_call 67;refine (jaq _).mono ?_;rintro e w' ⟨rfl,rfl⟩) | fail);go_roundw
       case rel =>
        refine ⟨by trivial,k+1,by omega,by go_num,fun t ht=>?_⟩
        rcases jaL ht with h | rfl
        ·exact HA.out t h
        ·rw [← HPP.out,← HQQ.out];exact hpq
       case measure=>simp [intOf];omega
      ·have bpq:decide (P<Q)=false:=by simpa using hpq
       have E4:Hid (jbF A x=.error 4):=by show _=_;rw [E3.out];unfold jkY;rw [jpr hkl (by rw [← HPP.out,← HQQ.out];exact hpq)];rfl
       clear hpq;go_wp2_with (first | (go_at_call 67;refine (jav _).mono ?_;rintro e w' ⟨rfl,rfl⟩) | fail);exact ⟨rfl,jah E4.out G4.out⟩
     ·have E4:Hid (jbF A x=(jaI A x K 0).bind (fun a=>(jaI A x K 1).bind (fun b=>.ok [x.getD 0 0,x.getD 1 0,a,b]))):=by show _=_;rw [E3.out];unfold jkY;rw [jnm (fun t ht=>HA.out t (by omega))];rfl
      have hl:=HL.out;obtain ⟨xb,xo,rfl,hcx⟩:=HX.out.get (k:=0) (by omega);have X0:=jac (hcx 0 (by omega));have X1:=jac (hcx 1 (by omega));have bx0:=PB.out _ (jaU (l:=x) (k:=0) (by omega));have bx1:=PB.out _ (jaU (l:=x) (k:=1) (by omega));rw [Nat.add_zero] at X0;obtain ⟨x0,hx0⟩ : ∃ z,z=x.getD 0 0:=⟨_,rfl⟩
      obtain ⟨x1,hx1⟩ : ∃ z,z=x.getD 1 0:=⟨_,rfl⟩
      rw [← hx0] at X0 bx0 E4;rw [← hx1] at X1 bx1 E4;have y0:=jad X0.out G4.out;have y1:=jad X1.out G4.out;have L0:=jac (fun (wx:World) (hg:w4.grownBy wx none)=>PL.out wx (jaa G4.out hg) ⟨some ⟨kb,ko,none⟩,2,sc⟩ K 0 (HK4.out.more hg) HL.out KL.out (fun z hz=>by have:=KB.out z hz;omega) (by decide));have L1:=jac (fun (wx:World) (hg:w4.grownBy wx none)=>PL.out wx (jaa G4.out hg) ⟨some ⟨kb,ko,none⟩,2,sc⟩ K 1 (HK4.out.more hg) HL.out KL.out (fun z hz=>by have:=KB.out z hz;omega) (by decide));simp only [Int.natCast_zero,Int.natCast_one] at L0 L1;have l0:(0:Int)<(x.length:Int):=by omega
      have l1:(1:Int)<(x.length:Int):=by omega
      have m0:0<x.length:=by omega
      have m1:1<x.length:=by omega
      obtain ⟨n0,n1,n2,n3,n4⟩:=jai (n:=⟨op,nam,⟨ia,il,ic⟩,out,⟨ao,al,cap⟩⟩) (BX.out w4 (G04.out));clear hcx hx0 hx1 hl PL;go_wp2_with fail
      cases hA0:jaI A x K 0 with
      | error c =>
       rw [hA0] at L0;have E5:Hid (jbF A x=.error c):=by show _=_;rw [E4.out,hA0];rfl
       clear hA0;refine wp_region_held_drew (S:=(fun w'=>w'.cell? ⟨w.heap.size,0,none⟩=some (.string op)∧w'.cell? ⟨w.heap.size,1,none⟩=some (.string nam)∧w'.cell? ⟨w.heap.size,2,none⟩=some (.slice ia il ic)∧w'.cell? ⟨w.heap.size,3,none⟩=some (.string out)∧w'.cell? ⟨w.heap.size,4,none⟩=some (.slice ao al cap)∧w'.cell? ⟨xb,xo,none⟩=some (.int .i64 x0)∧w'.cell? ⟨xb,xo+1,none⟩=some (.int .i64 x1))) (by kernel_rfl) (by go_keep) (fun hHeld=>?_);refine tkA 0 ?_
       try simp only [Act.put]
       refine tkA 1 ?_
       try simp only [Act.put]
       refine tkA 2 ?_
       try simp only [Act.put]
       refine tkA 3 ?_
       try simp only [Act.put]
       refine tkA 4 ?_
       try simp only [Act.put]
       refine tkA 5 ?_
       try simp only [Act.put]
       refine tkA 6 ?_
       try simp only [Act.put]
       refine tkA 7 ?_
       try simp only [Act.put]
       refine tkA 8 ?_
       try simp only [Act.put]
       refine tkA 10 ?_
       try simp only [Act.put]
       refine tkA 11 ?_
       try simp only [Act.put]
       refine tkA 12 ?_
       try simp only [Act.put]
       refine wpAnyH_ready (rs:=[9]) (by kernel_rfl) (by simp) ?_;refine AllReadyH.cons rfl (fun K hK=>?_) ?_
       ·skip
        go_simp;refine (L0.out _ (jaf (jae _))).mono ?_;rintro e wy ⟨hg,rfl⟩;exact ⟨rfl,jah E5.out (jaa (jaf G4.out) hg)⟩
       exact AllReadyH.nil
      | ok pa =>
       rw [hA0] at L0
       cases hA1:jaI A x K 1 with
       | error c =>
        rw [hA1] at L1;have E6:Hid (jbF A x=.error c):=by show _=_;rw [E4.out,hA0,hA1];rfl
        clear hA0 hA1;refine wp_region_held_drew (S:=(fun w'=>w'.cell? ⟨w.heap.size,0,none⟩=some (.string op)∧w'.cell? ⟨w.heap.size,1,none⟩=some (.string nam)∧w'.cell? ⟨w.heap.size,2,none⟩=some (.slice ia il ic)∧w'.cell? ⟨w.heap.size,3,none⟩=some (.string out)∧w'.cell? ⟨w.heap.size,4,none⟩=some (.slice ao al cap)∧w'.cell? ⟨xb,xo,none⟩=some (.int .i64 x0)∧w'.cell? ⟨xb,xo+1,none⟩=some (.int .i64 x1))) (by kernel_rfl) (by go_keep) (fun hHeld=>?_);refine tkA 0 ?_
        try simp only [Act.put]
        refine tkA 1 ?_
        try simp only [Act.put]
        refine tkA 2 ?_
        try simp only [Act.put]
        refine tkA 3 ?_
        try simp only [Act.put]
        refine tkA 4 ?_
        try simp only [Act.put]
        refine tkA 5 ?_
        try simp only [Act.put]
        refine tkA 6 ?_
        try simp only [Act.put]
        refine tkA 7 ?_
        try simp only [Act.put]
        refine tkA 8 ?_
        try simp only [Act.put]
        refine tkA 10 ?_
        try simp only [Act.put]
        refine tkA 11 ?_
        try simp only [Act.put]
        refine tkA 12 ?_
        try simp only [Act.put]
        refine wpAnyH_ready (rs:=[9]) (by kernel_rfl) (by simp) ?_;refine AllReadyH.cons rfl (fun K hK=>?_) ?_
        ·skip
         go_simp;refine (L0.out _ (jaf (jae _))).mono ?_;rintro e w5 ⟨hg5,v,rfl,rfl,hb1,hb2⟩;have g5:=jaa (jaf (jae w4)) hg5;have g5w:=jaa G04.out g5;obtain ⟨n0,n1,n2,n3,n4⟩:=jai (n:=⟨op,nam,⟨ia,il,ic⟩,out,⟨ao,al,cap⟩⟩) (BX.out w5 g5w);have y0:=jad X0.out (jaa g0.out g5w);have y1:=jad X1.out (jaa g0.out g5w)
         try dsimp only
         refine hK.out _ _ (by first | assumption | go_keep) (fun hHeld=>?_);clear hK K
         try simp only [Act.put]
         refine wpAnyH_ready (rs:=[13]) (by kernel_rfl) (by simp) ?_;refine AllReadyH.cons rfl (fun K hK=>?_) ?_
         ·skip
          go_simp;refine (L1.out _ g5).mono ?_;rintro e wy ⟨hg,rfl⟩;exact ⟨rfl,jah E6.out (jaa (jaa G4.out g5) hg)⟩
         exact AllReadyH.nil
        exact AllReadyH.nil
       | ok pb =>
        rw [hA1] at L1;have E7:Hid (jbF A x=.ok [x0,x1,pa,pb]):=by show _=_;rw [E4.out,hA0,hA1];rfl
        clear hA0 hA1;refine wp_region_held_drew (S:=(fun w'=>w'.cell? ⟨w.heap.size,0,none⟩=some (.string op)∧w'.cell? ⟨w.heap.size,1,none⟩=some (.string nam)∧w'.cell? ⟨w.heap.size,2,none⟩=some (.slice ia il ic)∧w'.cell? ⟨w.heap.size,3,none⟩=some (.string out)∧w'.cell? ⟨w.heap.size,4,none⟩=some (.slice ao al cap)∧w'.cell? ⟨xb,xo,none⟩=some (.int .i64 x0)∧w'.cell? ⟨xb,xo+1,none⟩=some (.int .i64 x1))) (by kernel_rfl) (by go_keep) (fun hHeld=>?_);refine tkA 0 ?_
        try simp only [Act.put]
        refine tkA 1 ?_
        try simp only [Act.put]
        refine tkA 2 ?_
        try simp only [Act.put]
        refine tkA 3 ?_
        try simp only [Act.put]
        refine tkA 4 ?_
        try simp only [Act.put]
        refine tkA 5 ?_
        try simp only [Act.put]
        refine tkA 6 ?_
        try simp only [Act.put]
        refine tkA 7 ?_
        try simp only [Act.put]
        refine tkA 8 ?_
        try simp only [Act.put]
        refine tkA 10 ?_
        try simp only [Act.put]
        refine tkA 11 ?_
        try simp only [Act.put]
        refine tkA 12 ?_
        try simp only [Act.put]
        refine wpAnyH_ready (rs:=[9]) (by kernel_rfl) (by simp) ?_;refine AllReadyH.cons rfl (fun K hK=>?_) ?_
        ·skip
         go_simp;refine (L0.out _ (jaf (jae _))).mono ?_;rintro e w5 ⟨hg5,v,rfl,rfl,hb1,hb2⟩;have g5:=jaa (jaf (jae w4)) hg5;have g5w:=jaa G04.out g5;obtain ⟨n0,n1,n2,n3,n4⟩:=jai (n:=⟨op,nam,⟨ia,il,ic⟩,out,⟨ao,al,cap⟩⟩) (BX.out w5 g5w);have y0:=jad X0.out (jaa g0.out g5w);have y1:=jad X1.out (jaa g0.out g5w)
         try dsimp only
         refine hK.out _ _ (by first | assumption | go_keep) (fun hHeld=>?_);clear hK K
         try simp only [Act.put]
         refine wpAnyH_ready (rs:=[13]) (by kernel_rfl) (by simp) ?_;refine AllReadyH.cons rfl (fun K hK=>?_) ?_
         ·skip
          go_simp;refine (L1.out _ g5).mono ?_;rintro e w6 ⟨hg6,v,rfl,rfl,hc1,hc2⟩;have g6:=jaa g5 hg6;have g6w:=jaa G04.out g6;obtain ⟨n0,n1,n2,n3,n4⟩:=jai (n:=⟨op,nam,⟨ia,il,ic⟩,out,⟨ao,al,cap⟩⟩) (BX.out w6 g6w);have y0:=jad X0.out (jaa g0.out g6w);have y1:=jad X1.out (jaa g0.out g6w)
          try dsimp only
          refine hK.out _ _ (by first | assumption | go_keep) (fun hHeld=>?_);clear hK K
          try simp only [Act.put]
          refine wpAnyH_ready (rs:=[14]) (by kernel_rfl) (by simp) ?_;refine AllReadyH.cons rfl (fun K hK=>?_) ?_
          ·skip
           go_simp;have y0:=jad y0 (jab w6 (.cells #[.int .i64 x0,.int .i64 x1,.int .i64 pa,.int .i64 pb] 3));have y1:=jad y1 (jab w6 (.cells #[.int .i64 x0,.int .i64 x1,.int .i64 pa,.int .i64 pb] 3));obtain ⟨n0,n1,n2,n3,n4⟩:=jai (n:=⟨op,nam,⟨ia,il,ic⟩,out,⟨ao,al,cap⟩⟩) (BX.out _ (jaa g6w (jab w6 (.cells #[.int .i64 x0,.int .i64 x1,.int .i64 pa,.int .i64 pb] 3))));refine hK.out _ _ (by first | assumption | go_keep) (fun hHeld=>?_);clear hK K
           try simp only [Act.put]
           refine tkA 15 ?_
           try simp only [Act.put]
           refine wpAnyH_done (by kernel_rfl) ?_ _
           try go_simp
           go_wp2;go_ret;exact jap E7.out (jaa (jaa G4.out g6) (jab _ _)) ⟨⟨some ⟨w6.heap.size,0,none⟩,4,4⟩,rfl,jbt w6 [x0,x1,pa,pb] 3 (by simp) (fun y hy=>by simp at hy;omega)⟩
          exact AllReadyH.nil
         exact AllReadyH.nil
        exact AllReadyH.nil
 ·have b0:((x.length:Int)==4)=false:=by simpa using (fun h=>hl (by omega):¬ (x.length:Int)=4)
  have E1:Hid (jbF A x=.error 4):=by show _=_;rw [E0.out];simp [jal,hl];rfl
  clear hl;go_enter Tryz.func104,Tryz.ntmps104;go_wp2_with (first | (go_at_call 67;refine (jav _).mono ?_;rintro e w' ⟨rfl,rfl⟩) | fail);rw [← hw0];exact ⟨rfl,jah E1.out g0.out⟩
end Go.Proofs.YtanpkdkenifmbaaGreatDoor
namespace Go.Proofs.YtanpkdkenifmbaaGreatDoor
open Go.RowKit
theorem jgx (u:Sl) (x:List Int) (t:Int) (w:World) (hx:IsInts w u.v x):Calls Tryz.prog 122 #[.slice u.a u.n u.c,.int .i64 t] w (jaH w (jbz x t) jbf):=by
 obtain ⟨ux,uc,eu,c1,c2,c3⟩:=hx.sl;obtain ⟨ua,un,uu⟩:=u;simp only [Sl.v,Value.slice.injEq] at eu;obtain ⟨rfl,rfl,rfl⟩:=eu;have HX:=jac hx;have ON:=jac (jjI t w);simp only
 by_cases hl:x.length=2
 ·have b0:((x.length:Int)==2)=true:=by simp [hl]
  have E0:Hid (jbz x t=(jfY t).bind (fun on=>.ok (if on=true then [x.getD 1 0,x.getD 0 0] else x))):=by show _=_;unfold jbz;simp [jal,hl];rfl
  obtain ⟨b,off,rfl,hc⟩:=hx.get (k:=0) (by omega);have q0:=hc 0 (by omega);have q1:=hc 1 (by omega);rw [Nat.add_zero] at q0;have w0:=hx.wf (x.getD 0 0) (by rw [List.getD,List.getElem?_eq_getElem (by omega)];exact List.getElem_mem _);have w1:=hx.wf (x.getD 1 0) (by rw [List.getD,List.getElem?_eq_getElem (by omega)];exact List.getElem_mem _);obtain ⟨p,hp⟩ : ∃ p,p=x.getD 0 0:=⟨_,rfl⟩
  obtain ⟨q,hq⟩ : ∃ q,q=x.getD 1 0:=⟨_,rfl⟩
  rw [← hp] at q0 w0 E0;rw [← hq] at q1 w1 E0;have l1:(1:Int)<(x.length:Int):=by omega
  have l0:(0:Int)<(x.length:Int):=by omega
  have m0:0<x.length:=by omega
  have m1:1<x.length:=by omega
  clear hp hq hc hl hx
  cases hk:jfY t with
  | error c =>
   rw [hk] at ON;have E:Hid (jbz x t=.error c):=by show _=_;rw [E0.out,hk];rfl
   clear hk;go_enter Tryz.func122,Tryz.ntmps122;go_wp2_with (first | (go_at_call 67;refine (jaq _).mono ?_;rintro e w' ⟨rfl,rfl⟩) | (go_at_call 120;refine ON.out.mono ?_;rintro e w' ⟨hg,rfl⟩) | fail);exact ⟨rfl,jah E.out hg⟩
  | ok on =>
   rw [hk] at ON
   cases on with
   | true =>
    have E:Hid (jbz x t=.ok [q,p]):=by show _=_;rw [E0.out,hk];rfl
    clear hk;go_enter Tryz.func122,Tryz.ntmps122;go_wp2_with (first | (go_at_call 67;refine (jaq _).mono ?_;rintro e w' ⟨rfl,rfl⟩) | (go_at_call 120;refine ON.out.mono ?_;rintro e w' ⟨-,v,rfl,rfl,rfl⟩) | fail);go_region_held3 (fun w'=>w'.cell? ⟨b,off,none⟩=some (.int .i64 p)∧w'.cell? ⟨b,off+1,none⟩=some (.int .i64 q)) (go_keep) (fail);go_wp2;go_ret;exact jap E.out (jaa (jaf (jae _)) (jab _ _)) ⟨⟨_,2,2⟩,rfl,jbt _ [q,p] 3 (by simp) (fun y hy=>by simp at hy;rcases hy with rfl | rfl <;> assumption)⟩
   | false =>
    have E:Hid (jbz x t=.ok x):=by show _=_;rw [E0.out,hk];rfl
    clear hk;go_enter Tryz.func122,Tryz.ntmps122;go_wp2_with (first | (go_at_call 67;refine (jaq _).mono ?_;rintro e w' ⟨rfl,rfl⟩) | (go_at_call 120;refine ON.out.mono ?_;rintro e w' ⟨-,v,rfl,rfl,rfl⟩) | fail);go_ret;exact jap E.out (jae _) ⟨⟨_,_,_⟩,rfl,HX.out⟩
 ·have b0:((x.length:Int)==2)=false:=by simpa using (fun h=>hl (by omega):¬ (x.length:Int)=2)
  have E:Hid (jbz x t=.error 4):=by show _=_;unfold jbz;simp [jal,hl];rfl
  clear hl;go_enter Tryz.func122,Tryz.ntmps122;go_wp2_with (first | (go_at_call 67;refine (jav _).mono ?_;rintro e w' ⟨rfl,rfl⟩) | fail);exact ⟨rfl,jah E.out (jae _)⟩
theorem ji5 {a b zs:List Int} (h:jaO a b=.ok zs) (ha:a.length≤6) (hb:b.length≤6):zs.length≤6:=by
 unfold jaO at h
 split at h
 ·rename_i h0
  cases h
  unfold bcR;rw [if_pos h0,jcn];unfold rank;omega
 ·cases h
theorem jfu (u v:Sl) (x y:List Int) (w:World) (hx:IsInts w u.v x) (hy:IsInts w v.v y) (hlx:x.length≤6) (hly:y.length≤6):Calls Tryz.prog 101 #[.slice u.a u.n u.c,.slice v.a v.n v.c] w (jaH w (ja9 x y) jbf):=by
 obtain ⟨ux,uc,eu,c1,c2,c3⟩:=hx.sl;obtain ⟨ua,un,uu⟩:=u;simp only [Sl.v,Value.slice.injEq] at eu;obtain ⟨rfl,rfl,rfl⟩:=eu;obtain ⟨vx,vc,ev,d1,d2,d3⟩:=hy.sl;obtain ⟨va,vn,vv⟩:=v;simp only [Sl.v,Value.slice.injEq] at ev;obtain ⟨rfl,rfl,rfl⟩:=ev;simp only;obtain ⟨i0,hi,hz0,hz1,hz2⟩:=info_parts jcE
 by_cases h2:2≤x.length
 ·by_cases h3:2≤y.length
  ·obtain ⟨a,ha⟩ : ∃ a,x.length=a+2:=⟨x.length - 2,by omega⟩
   obtain ⟨b,hb⟩ : ∃ b,y.length=b+2:=⟨y.length - 2,by omega⟩
   have E0:Hid (ja9 x y=(jal (x.getD (a+1) 0==y.getD b 0)).bind (fun _=>(jaO (x.take a) (y.take b)).bind (fun s=>.ok (s++[x.getD a 0,y.getD (b+1) 0])))):=by
    show _=_;unfold ja9;rw [ha,hb];simp [jal]
    rfl
   obtain ⟨xb,xo,rfl,hcx⟩:=hx.get (k:=0) (by omega);obtain ⟨yb,yo,rfl,hcy⟩:=hy.get (k:=0) (by omega);have x1:=hcx (a+1) (by omega);have x0:=hcx a (by omega);have y0:=hcy b (by omega);have y1:=hcy (b+1) (by omega);have wx0:=hx.wf (x.getD a 0) (by rw [List.getD,List.getElem?_eq_getElem (by omega)];exact List.getElem_mem _);have wy1:=hy.wf (y.getD (b+1) 0) (by rw [List.getD,List.getElem?_eq_getElem (by omega)];exact List.getElem_mem _);have SP:=jac (fun (wx:World) (hg:w.grownBy wx none)=>spread_any ⟨some ⟨xb,xo,none⟩,a,uu⟩ ⟨some ⟨yb,yo,none⟩,b,vv⟩ (x.take a) (y.take b) wx ((hx.front (by show a≤x.length;omega)).more hg) ((hy.front (by show b≤y.length;omega)).more hg));simp only at SP;obtain ⟨p,hp⟩ : ∃ p,p=x.getD a 0:=⟨_,rfl⟩
   obtain ⟨q,hq⟩ : ∃ q,q=y.getD (b+1) 0:=⟨_,rfl⟩
   obtain ⟨r,hr⟩ : ∃ r,r=x.getD (a+1) 0:=⟨_,rfl⟩
   obtain ⟨s,hs⟩ : ∃ s,s=y.getD b 0:=⟨_,rfl⟩
   rw [← hp] at x0 wx0 E0;rw [← hq] at y1 wy1 E0;rw [← hr] at x1 E0;rw [← hs] at y0 E0;rw [ha] at c1 ⊢;rw [hb] at d1 ⊢;have i7:decide ((2:Int)≤(b:Int)+2)=true:=by simp;omega
   have i8:decide ((2:Int)≤(a:Int)+2)=true:=by simp;omega
   have i9:(a:Int)+2 - 2=(a:Int):=by omega
   have i10:(b:Int)+2 - 2=(b:Int):=by omega
   have kw:IntKind.i64.wrap ((a:Int)+1)=(a:Int)+1:=by rw [jba];unfold wrap64;omega
   have ka:(a:Int)<(a:Int)+2:=by omega
   have kb:(b:Int)<(b:Int)+2:=by omega
   have k1:(a:Int)+1<(a:Int)+2:=by omega
   have k2:(0:Int)≤(a:Int)+1:=by omega
   have k3:((a:Int)+1).toNat=a+1:=by omega
   have j1:a+1<a+2:=by omega
   have j2:b<b+2:=by omega
   have j3:a<a+2:=by omega
   have j4:b+1<b+2:=by omega
   clear hp hq hr hs hcx hcy hx hy ha hb h2 h3 c3 d3;go_enter Tryz.func101,Tryz.ntmps101;go_wp2_with (first | (go_at_call 67;refine (jaq _).mono ?_;rintro e w' ⟨rfl,rfl⟩) | fail)
   by_cases hrs:r=s
   ·have brs:(r==s)=true:=by simp [hrs]
    have E1:Hid (ja9 x y=(jaO (x.take a) (y.take b)).bind (fun t=>.ok (t++[p,q]))):=by show _=_;rw [E0.out,brs];rfl
    clear hrs
    go_quiet (first | (go_at_call 67;refine (jaq _).mono ?_;rintro e w' ⟨rfl,rfl⟩;exact ⟨rfl,_,rfl⟩) | fail)
    go_wp2_with fail;have gq:w.grownBy (w.drewN nq) none:=⟨rfl,rfl,rfl,Nat.le_refl _,fun k hk hn=>rfl⟩
    obtain ⟨wq,hwq⟩ : ∃ wq,wq=w.drewN nq:=⟨_,rfl⟩
    rw [← hwq] at gq ⊢;have x0':=jad x0 gq;have y1':=jad y1 gq;have kw2:IntKind.i64.wrap ((b:Int)+1)=(b:Int)+1:=by rw [jba];unfold wrap64;omega
    have k4:(b:Int)+1<(b:Int)+2:=by omega
    have k5:(0:Int)≤(b:Int)+1:=by omega
    have k6:((b:Int)+1).toNat=b+1:=by omega
    have z1:a≤uu:=by omega
    have z2:b≤vv:=by omega
    clear hwq x1 y0
    cases hk:jaO (x.take a) (y.take b) with
    | error c =>
     have E2:Hid (ja9 x y=.error c):=by show _=_;rw [E1.out,hk];rfl
     rw [hk] at SP;clear hk;refine wp_region_held_drew (S:=(fun w'=>w'.cell? ⟨xb,xo+a,none⟩=some (.int .i64 p)∧w'.cell? ⟨yb,yo+(b+1),none⟩=some (.int .i64 q))) (by kernel_rfl) (by go_keep) (fun hHeld=>?_);refine tkA 0 ?_
     try simp only [Act.put]
     refine tkA 1 ?_
     try simp only [Act.put]
     refine tkA 2 ?_
     try simp only [Act.put]
     refine tkA 3 ?_
     try simp only [Act.put]
     refine tkA 4 ?_
     try simp only [Act.put]
     refine tkA 5 ?_
     try simp only [Act.put]
     refine tkA 7 ?_
     try simp only [Act.put]
     refine tkA 8 ?_
     try simp only [Act.put]
     refine tkA 9 ?_
     try simp only [Act.put]
     refine tkA 10 ?_
     try simp only [Act.put]
     refine tkA 11 ?_
     try simp only [Act.put]
     refine tkA 12 ?_
     try simp only [Act.put]
     refine tkA 13 ?_
     try simp only [Act.put]
     refine tkA 14 ?_
     try simp only [Act.put]
     refine tkA 15 ?_
     try simp only [Act.put]
     refine wpAnyH_ready (rs:=[6,16]) (by kernel_rfl) (by simp) ?_;refine AllReadyH.cons rfl (fun K hK=>?_) ?_
     ·skip
      go_simp;refine (SP.out _ (by first | exact jaf gq | exact jaa (jaf gq) (jab _ _))).mono ?_;rintro e wy ⟨hg,rfl⟩;exact ⟨rfl,jah E2.out (jaa (by first | exact jaf gq | exact jaa (jaf gq) (jab _ _)) hg)⟩
     refine AllReadyH.cons rfl (fun K hK=>?_) ?_
     ·skip
      go_simp;refine hK.out _ _ (by first | assumption | go_keep) (fun hHeld=>?_);clear hK K
      try simp only [Act.put]
      refine wpAnyH_ready (rs:=[6]) (by kernel_rfl) (by simp) ?_;refine AllReadyH.cons rfl (fun K hK=>?_) ?_
      ·skip
       go_simp;refine (SP.out _ (by first | exact jaf gq | exact jaa (jaf gq) (jab _ _))).mono ?_;rintro e wy ⟨hg,rfl⟩;exact ⟨rfl,jah E2.out (jaa (by first | exact jaf gq | exact jaa (jaf gq) (jab _ _)) hg)⟩
      exact AllReadyH.nil
     exact AllReadyH.nil
    | ok zs =>
     have E2:Hid (ja9 x y=.ok (zs++[p,q])):=by show _=_;rw [E1.out,hk];rfl
     have hzl:zs.length≤6:=ji5 hk (by simp;omega) (by simp;omega);rw [hk] at SP;clear hk;refine wp_region_held_drew (S:=(fun w'=>w'.cell? ⟨xb,xo+a,none⟩=some (.int .i64 p)∧w'.cell? ⟨yb,yo+(b+1),none⟩=some (.int .i64 q))) (by kernel_rfl) (by go_keep) (fun hHeld=>?_);refine tkA 0 ?_
     try simp only [Act.put]
     refine tkA 1 ?_
     try simp only [Act.put]
     refine tkA 2 ?_
     try simp only [Act.put]
     refine tkA 3 ?_
     try simp only [Act.put]
     refine tkA 4 ?_
     try simp only [Act.put]
     refine tkA 5 ?_
     try simp only [Act.put]
     refine tkA 7 ?_
     try simp only [Act.put]
     refine tkA 8 ?_
     try simp only [Act.put]
     refine tkA 9 ?_
     try simp only [Act.put]
     refine tkA 10 ?_
     try simp only [Act.put]
     refine tkA 11 ?_
     try simp only [Act.put]
     refine tkA 12 ?_
     try simp only [Act.put]
     refine tkA 13 ?_
     try simp only [Act.put]
     refine tkA 14 ?_
     try simp only [Act.put]
     refine tkA 15 ?_
     try simp only [Act.put]
     refine wpAnyH_ready (rs:=[6,16]) (by kernel_rfl) (by simp) ?_;refine AllReadyH.cons rfl (fun K hK=>?_) ?_
     ·skip
      go_simp;refine (SP.out _ (by first | exact jaf gq | exact jaa (jaf gq) (jab _ _))).mono ?_;rintro e w2 ⟨hg2,v,rfl,⟨sa,sn,sc⟩,rfl,ho⟩;have gw:=jaa (by first | exact jaf gq | exact jaa (jaf gq) (jab _ _)) hg2;have xk:=jad x0 gw;have yk:=jad y1 gw
      try dsimp only
      refine hK.out _ _ (by first | assumption | go_keep) (fun hHeld=>?_);clear hK K
      try simp only [Act.put]
      refine wpAnyH_ready (rs:=[16]) (by kernel_rfl) (by simp) ?_;refine AllReadyH.cons rfl (fun K hK=>?_) ?_
      ·skip
       go_simp;refine hK.out _ _ (by first | assumption | go_keep) (fun hHeld=>?_);clear hK K
       try simp only [Act.put]
       refine wpAnyH_ready (rs:=[17]) (by kernel_rfl) (by simp) ?_;refine AllReadyH.cons rfl (fun K hK=>?_) ?_
       ·skip
        have OW2:=ho.base_le (show w.heap.size≤_ by have:=(jaf gq).size;simp at this ⊢;omega);have hsn:sn=zs.length:=by obtain ⟨a1,c4,e,-⟩:=ho.ints.sl;simp only [Sl.v,Value.slice.injEq] at e;exact e.2.1
        subst hsn;refine step_append_lies (w2.alloc (.cells #[.int .i64 p,.int .i64 q] 3)) (by rfl) (.tmp 39) (.tmp 49) 29 (by rfl) w.heap.size 3 i0 (.int .i64 0) 1 8 Tryz.underlying29 hi hz0 hz1 hz2 (by rfl) (by decide) (.slice sa zs.length sc) zs.length (zs.map (Value.int .i64)) (by rfl) ((OW2.new (jab _ _)).1) ⟨w2.heap.size,0,none⟩ 2 2 [.int .i64 p,.int .i64 q] (by rfl) (by rfl) ?_ (by simp [Value.oneCell']) (by decide) (by simp only [maxLen];omega) (by omega) (by have:=gw.size;simp;omega) _ rfl ?_
        ·intro j u hu;rw [Addr.add_lit,Nat.zero_add]
         match j,hu with
         | 0,hu=>rw [cell_of_row _ _ 0 _ _ (0,0) (heap_alloc_new w2 _)];exact hu
         | 1,hu=>rw [cell_of_row _ _ 1 _ _ (0,0) (heap_alloc_new w2 _)];exact hu
         | j+2,hu=>simp at hu
        intro g gcap w4 hown hgrow _ _;have gw4:w.grownBy w4 none:=jao (jaa gw (jab _ _)) hgrow (fun r e=>(OW2.lt r e).1);have xk4:=jad x0 gw4;have yk4:=jad y1 gw4;have OW4:Owns w4 w.heap.size (.slice (some ⟨g,0,none⟩) (zs.length+2) gcap) (zs++[p,q]):=⟨by rw [List.length_append,List.map_append];exact hown,by rw [List.length_append];simp only [List.length_cons,List.length_nil];omega,fun z hz=>by rcases List.mem_append.1 hz with h | h;exact ho.2.2 z h;simp at h;rcases h with rfl | rfl <;> assumption⟩
        refine hK.out _ _ (by first | assumption | go_keep) (fun hHeld=>?_);clear hK K
        try simp only [Act.put]
        refine tkA 18 ?_
        try simp only [Act.put]
        refine wpAnyH_done (by kernel_rfl) ?_ _
        try go_simp
        go_wp2;go_ret;exact jap E2.out gw4 ⟨⟨some ⟨g,0,none⟩,zs.length+2,gcap⟩,rfl,OW4.ints⟩
       exact AllReadyH.nil
      exact AllReadyH.nil
     refine AllReadyH.cons rfl (fun K hK=>?_) ?_
     ·skip
      go_simp;refine hK.out _ _ (by first | assumption | go_keep) (fun hHeld=>?_);clear hK K
      try simp only [Act.put]
      refine wpAnyH_ready (rs:=[6]) (by kernel_rfl) (by simp) ?_;refine AllReadyH.cons rfl (fun K hK=>?_) ?_
      ·skip
       go_simp;refine (SP.out _ (by first | exact jaf gq | exact jaa (jaf gq) (jab _ _))).mono ?_;rintro e w2 ⟨hg2,v,rfl,⟨sa,sn,sc⟩,rfl,ho⟩;have gw:=jaa (by first | exact jaf gq | exact jaa (jaf gq) (jab _ _)) hg2;have xk:=jad x0 gw;have yk:=jad y1 gw;have hn0:=jad (cell_of_row _ _ 0 _ _ (0,0) (heap_alloc_new wq.drew (.cells #[.int .i64 p,.int .i64 q] 3))) hg2;have hn1:=jad (cell_of_row _ _ 1 _ _ (0,0) (heap_alloc_new wq.drew (.cells #[.int .i64 p,.int .i64 q] 3))) hg2
       try dsimp only
       refine hK.out _ _ (by first | assumption | go_keep) (fun hHeld=>?_);clear hK K
       try simp only [Act.put]
       refine wpAnyH_ready (rs:=[17]) (by kernel_rfl) (by simp) ?_;refine AllReadyH.cons rfl (fun K hK=>?_) ?_
       ·skip
        have OW2:=ho.base_le (show w.heap.size≤_ by have:=(jaf gq).size;simp at this ⊢;omega);have hsn:sn=zs.length:=by obtain ⟨a1,c4,e,-⟩:=ho.ints.sl;simp only [Sl.v,Value.slice.injEq] at e;exact e.2.1
        subst hsn;refine step_append_lies w2 (by rfl) (.tmp 39) (.tmp 49) 29 (by rfl) w.heap.size 3 i0 (.int .i64 0) 1 8 Tryz.underlying29 hi hz0 hz1 hz2 (by rfl) (by decide) (.slice sa zs.length sc) zs.length (zs.map (Value.int .i64)) (by rfl) (OW2.1) ⟨wq.drew.heap.size,0,none⟩ 2 2 [.int .i64 p,.int .i64 q] (by rfl) (by rfl) ?_ (by simp [Value.oneCell']) (by decide) (by simp only [maxLen];omega) (by omega) (by have:=gw.size;simp;omega) _ rfl ?_
        ·intro j u hu;rw [Addr.add_lit,Nat.zero_add]
         match j,hu with
         | 0,hu=>rw [hn0];exact hu
         | 1,hu=>rw [hn1];exact hu
         | j+2,hu=>simp at hu
        intro g gcap w4 hown hgrow _ _;have gw4:w.grownBy w4 none:=jao gw hgrow (fun r e=>(OW2.lt r e).1);have xk4:=jad x0 gw4;have yk4:=jad y1 gw4;have OW4:Owns w4 w.heap.size (.slice (some ⟨g,0,none⟩) (zs.length+2) gcap) (zs++[p,q]):=⟨by rw [List.length_append,List.map_append];exact hown,by rw [List.length_append];simp only [List.length_cons,List.length_nil];omega,fun z hz=>by rcases List.mem_append.1 hz with h | h;exact ho.2.2 z h;simp at h;rcases h with rfl | rfl <;> assumption⟩
        refine hK.out _ _ (by first | assumption | go_keep) (fun hHeld=>?_);clear hK K
        try simp only [Act.put]
        refine tkA 18 ?_
        try simp only [Act.put]
        refine wpAnyH_done (by kernel_rfl) ?_ _
        try go_simp
        go_wp2;go_ret;exact jap E2.out gw4 ⟨⟨some ⟨g,0,none⟩,zs.length+2,gcap⟩,rfl,OW4.ints⟩
       exact AllReadyH.nil
      exact AllReadyH.nil
     exact AllReadyH.nil
   ·have brs:(r==s)=false:=by simpa using hrs
    have E1:Hid (ja9 x y=.error 4):=by show _=_;rw [E0.out,brs];rfl
    clear hrs;refine wp_region_held_drew (S:=(fun w'=>w'.cell? ⟨xb,xo+(a+1),none⟩=some (.int .i64 r)∧w'.cell? ⟨yb,yo+b,none⟩=some (.int .i64 s))) (by kernel_rfl) (by go_keep) (fun hHeld=>?_);refine tkA 0 ?_
    try simp only [Act.put]
    refine tkA 1 ?_
    try simp only [Act.put]
    refine tkA 2 ?_
    try simp only [Act.put]
    refine tkA 3 ?_
    try simp only [Act.put]
    refine tkA 4 ?_
    try simp only [Act.put]
    refine tkA 5 ?_
    try simp only [Act.put]
    refine tkA 6 ?_
    try simp only [Act.put]
    refine tkA 7 ?_
    try simp only [Act.put]
    refine tkA 8 ?_
    try simp only [Act.put]
    refine tkA 9 ?_
    try simp only [Act.put]
    refine rdA 10 fun K hK=>?_;go_simp;refine (jav _).mono ?_;rintro e wy ⟨rfl,rfl⟩;exact ⟨rfl,jah E1.out (jaf (jae _))⟩
  ·have b3:decide ((2:Int)≤(y.length:Int))=false:=by simp;omega
   have h2':(2:Int)≤(x.length:Int):=by omega
   have E1:Hid (ja9 x y=.error 4):=by show _=_;unfold ja9;simp [jal,h3];rfl
   clear h2 h3;go_enter Tryz.func101,Tryz.ntmps101;go_wp2_with (first | (go_at_call 67;refine (jav _).mono ?_;rintro e w' ⟨rfl,rfl⟩) | fail);exact ⟨rfl,jah E1.out (jae _)⟩
 ·have b2:decide ((2:Int)≤(x.length:Int))=false:=by simp;omega
  have E1:Hid (ja9 x y=.error 4):=by show _=_;unfold ja9;simp [jal,h2];rfl
  clear h2;go_enter Tryz.func101,Tryz.ntmps101;go_wp2_with (first | (go_at_call 67;refine (jav _).mono ?_;rintro e w' ⟨rfl,rfl⟩) | fail);exact ⟨rfl,jah E1.out (jae _)⟩
end Go.Proofs.YtanpkdkenifmbaaGreatDoor
namespace Go.Proofs.YtanpkdkenifmbaaGreatDoor
open Go.RowKit
theorem jrr {a b:List Int} {k:Nat} (_hk:k<a.length) (_hl:a.length=b.length) (h:a.getD k 0≠b.getD k 0):a≠b:=by
 rintro rfl;exact h rfl
theorem jrs {a b:List Int} (hl:a.length=b.length) (h:∀ t,t<a.length→a.getD t 0=b.getD t 0):a=b:=by
 refine List.ext_getElem hl fun i h1 h2=>?_;have:=h i h1;simpa [List.getD,h1,h2] using this
theorem jd3 (u v:Sl) (a b:List Int) (w:World) (ha:IsInts w u.v a) (hb:IsInts w v.v b):Calls Tryz.prog 34 #[.slice u.a u.n u.c,.slice v.a v.n v.c] w fun e w'=>e=.returned (.bool (decide (a=b)))∧∃ n,w'=w.drewN n:=by
 obtain ⟨ux,uc,eu,c1,c2,c3⟩:=ha.sl;obtain ⟨ua,un,uu⟩:=u;simp only [Sl.v,Value.slice.injEq] at eu;obtain ⟨rfl,rfl,rfl⟩:=eu;obtain ⟨vx,vc,ev,d1,d2,d3⟩:=hb.sl;obtain ⟨va,vn,vv⟩:=v;simp only [Sl.v,Value.slice.injEq] at ev;obtain ⟨rfl,rfl,rfl⟩:=ev;simp only;have HA:=jac ha;have HB:=jac hb;clear ha hb
 by_cases hl:a.length=b.length
 ·have b0:((a.length:Int) != (b.length:Int))=false:=by simp [hl]
  have HL:=jac hl;clear hl;go_enter Tryz.func34,Tryz.ntmps34;go_wp2;go_loopw [13] (fun i wr=>∃ k n:Nat,k≤a.length∧i=.int .i64 k∧(∀ t,t<k→a.getD t 0=b.getD t 0)∧wr=w.drewN n) (fun i _=>a.length - (intOf i).toNat)
  case atStart=>exact ⟨0,0,Nat.zero_le _,rfl,fun t h=>absurd h (by omega),rfl⟩
  case round =>
   obtain ⟨k,n,hk,rfl,hp,rfl⟩:=hrel;have HP:=jac hp;clear hp
   by_cases hkl:k<a.length
   ·have hkb:k<b.length:=by have:=HL.out;omega
    obtain ⟨ab,ao,rfl,hca⟩:=HA.out.get hkl;obtain ⟨bb,bo,rfl,hcb⟩:=HB.out.get hkb;have gq:w.grownBy (w.drewN n) none:=⟨rfl,rfl,rfl,Nat.le_refl _,fun k hk hn=>rfl⟩
    have h1:=jad (hca k hkl) gq;have h2:=jad (hcb k hkb) gq;have i1:(k:Int)<(a.length:Int):=by omega
    have i2:(k:Int)<(b.length:Int):=by omega
    obtain ⟨p,hp⟩ : ∃ p,p=a.getD k 0:=⟨_,rfl⟩
    obtain ⟨q,hq⟩ : ∃ q,q=b.getD k 0:=⟨_,rfl⟩
    rw [← hp] at h1;rw [← hq] at h2;have HPP:=jac hp;have HQQ:=jac hq;obtain ⟨wq,hwq⟩ : ∃ wq,wq=w.drewN n:=⟨_,rfl⟩
    rw [← hwq] at h1 h2 ⊢;have HW:=jac hwq;clear hp hq hca hcb gq hwq
    by_cases hd:p=q
    ·have bd:(p != q)=false:=by simp [hd]
     have HD:=jac hd;clear hd;go_wp2_with fail
     go_quiet (fail)
     go_wp2_with fail;go_roundw
     case rel =>
      refine ⟨k+1,n+nq,by omega,by go_num,fun t ht=>?_,by rw [HW.out];simp [World.drewN,Nat.add_assoc]⟩
      rcases jaL ht with h | rfl
      ·exact HP.out t h
      ·rw [← HPP.out,← HQQ.out];exact HD.out
     case measure=>simp [intOf];omega
    ·have bd:(p != q)=true:=by simpa using hd
     have E:Hid (decide (a=b)=false):=by show _=_;exact decide_eq_false (jrr hkl HL.out (by rw [← HPP.out,← HQQ.out];exact hd))
     clear hd;go_wp2_with fail
     go_quiet (fail)
     go_wp2;go_ret;exact ⟨by rw [E.out];rfl,n+nq,by rw [HW.out];simp [World.drewN,Nat.add_assoc]⟩
   ·have E:Hid (decide (a=b)=true):=by show _=_;exact decide_eq_true (jrs HL.out (fun t ht=>HP.out t (by omega)))
    go_wp2;go_ret;exact ⟨by rw [E.out];rfl,n,rfl⟩
 ·have b0:((a.length:Int) != (b.length:Int))=true:=by simpa using (fun h=>hl (by omega):¬ (a.length:Int)=b.length)
  have E:Hid (decide (a=b)=false):=by show _=_;exact decide_eq_false (fun h=>hl (by rw [h]))
  clear hl;go_enter Tryz.func34,Tryz.ntmps34;go_wp2;go_ret;exact ⟨by rw [E.out];rfl,0,rfl⟩
end Go.Proofs.YtanpkdkenifmbaaGreatDoor
