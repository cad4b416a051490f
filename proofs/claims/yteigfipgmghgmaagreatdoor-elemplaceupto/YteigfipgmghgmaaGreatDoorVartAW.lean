/- A part. -/
import Derived.Test.YteigfipgmghgmaaGreatDoorMVart
import Derived.Test.YteigfipgmghgmaaGreatDoorVartAP
import Derived.Test.YteigfipgmghgmaaGreatDoorVartAU
set_option maxHeartbeats 40000000
set_option maxRecDepth 100000
namespace Go.Proofs.YteigfipgmghgmaaGreatDoor
open Go.RowKit
theorem jf3 {x r:List Int} {t:Int} (h:jbz x t=.ok r):r.length≤6:=by
 unfold jbz jal at h
 by_cases hl:x.length=2
 ·rw [if_pos (by simpa using hl)] at h
  cases hk:jgx t with
  | error c=>rw [hk] at h;simp [bind,Except.bind] at h
  | ok on =>
   rw [hk] at h;have e:(if on=true then [x.getD 1 0,x.getD 0 0] else x)=r:=by simpa [bind,Except.bind,pure,Except.pure] using h
   rw [← e]
   split
   ·simp
   ·omega
 ·rw [if_neg (by simpa using hl)] at h;simp [bind,Except.bind] at h
theorem jrj (n:Nod) (A:At) (u:Sl) (p0 p1:Val×List Int) (rest:List (Val×List Int)) (w:World) (hn:NodeOk w n A) (hv:ValsIn w u.v (p0::p1::rest)) (hr:rest.length≤1):Calls Tryz.prog 124 #[jaz n,.slice u.a u.n u.c] w (jaJ w (jdc A p0.2 p1.2 (rest.head?.map (·.2))) jbd):=by
 obtain ⟨xa,xc,e1,q1,q2,q3⟩:=hv.vals.form;rw [List.length_map] at e1 q1 q3;obtain ⟨ua,un,uc⟩:=u;simp only [Sl.v,Value.slice.injEq] at e1;obtain ⟨rfl,rfl,rfl⟩:=e1;have HV:=jac hv;obtain ⟨b,off,rfl⟩:=hv.vals.addr (k:=0) (by simp);obtain ⟨-,z0⟩:=hv.at 0 (by simp);obtain ⟨-,z1⟩:=hv.at 1 (by simp);rw [Nat.zero_mul,Nat.add_zero] at z0;rw [Nat.one_mul] at z1;simp only [List.getElem_cons_zero,List.getElem_cons_succ] at z0 z1;have HX:=jac (hv.dims p0 (by simp));have HY:=jac (hv.dims p1 (by simp));obtain ⟨⟨pn0,pt0,d0⟩,x⟩:=p0;obtain ⟨⟨pn1,pt1,d1⟩,y⟩:=p1;simp only at z0 z1 HX HY ⊢;obtain ⟨m,hm⟩ : ∃ m,m=(((⟨pn0,pt0,d0⟩,x)::(⟨pn1,pt1,d1⟩,y)::rest):List (Val×List Int)).length:=⟨_,rfl⟩
 have HM:Hid (m=rest.length+2):=by show _=_;rw [hm];simp
 have hm2:2≤m:=by have:=HM.out;omega
 have hm0:0<m:=by omega
 have hm1:1<m:=by omega
 have hm1':(1:Int)<(m:Int):=by omega
 have hm0':(0:Int)<(m:Int):=by omega
 rw [← hm];rw [← hm] at q1 q3;have Z0:=jac z0;have Z1:=jac z1;clear hv hm z0 z1;have NK:=jac hn;obtain ⟨op,nam,⟨ia,il,ic⟩,out,⟨ao,al,cap⟩⟩:=n;unfold jaz;simp only;obtain ⟨w0,hw0⟩ : ∃ w0,w0=w.alloc (.cells #[.string op,.string nam,.slice ia il ic,.string out,.slice ao al cap] 25):=⟨_,rfl⟩
 have g0:Hid (w.grownBy w0 none):=by show w.grownBy w0 none;rw [hw0];exact jab _ _
 have hb0:=heap_alloc_new w (.cells #[.string op,.string nam,.slice ia il ic,.string out,.slice ao al cap] 25);rw [← hw0] at hb0;have BX:Hid (∀ wx,w0.grownBy wx none→wx.heap[w.heap.size]?=some (.cells #[.string op,.string nam,.slice ia il ic,.string out,.slice ao al cap] 25 (0,0))):=fun wx hg=>jag hb0 hg;clear hb0 hn;have IA:=jac (fun (wx:World) (hg:w0.grownBy wx none)=>jb2 ⟨op,nam,⟨ia,il,ic⟩,out,⟨ao,al,cap⟩⟩ A ⟨#[116,114,97,110,115,65]⟩ 0 wx (NK.out.more (jaa g0.out hg)));have IB:=jac (fun (wx:World) (hg:w0.grownBy wx none)=>jb2 ⟨op,nam,⟨ia,il,ic⟩,out,⟨ao,al,cap⟩⟩ A ⟨#[116,114,97,110,115,66]⟩ 0 wx (NK.out.more (jaa g0.out hg)));unfold jaz at IA IB;simp only at IA IB;obtain ⟨ta,hta⟩ : ∃ z,z=A.int ⟨#[116,114,97,110,115,65]⟩ 0:=⟨_,rfl⟩
 obtain ⟨tb,htb⟩ : ∃ z,z=A.int ⟨#[116,114,97,110,115,66]⟩ 0:=⟨_,rfl⟩
 rw [← hta] at IA;rw [← htb] at IB
 have E:Hid (jdc A x y (rest.head?.map (·.2))=(jbz x ta).bind (fun a=>(jbz y tb).bind (fun b=>(ja6 a b).bind (fun dims=>match rest.head?.map (·.2) with
  | none=>.ok dims
  | some c=>(jaE dims c).bind (fun s=>(jal (decide (s=dims))).bind (fun _=>.ok dims)))))):=by show _=_;rw [hta,htb];unfold jdc;cases rest.head?.map (·.2) <;> rfl
 have TA:=jac (fun (wx:World) (hg:w0.grownBy wx none)=>jgS d0 x ta wx (HX.out.more (jaa g0.out hg)));have TB:=jac (fun (wx:World) (hg:w0.grownBy wx none)=>jgS d1 y tb wx (HY.out.more (jaa g0.out hg)));have D0:Hid (∀ wx,w0.grownBy wx none→wx.cell? ⟨b,off+2,none⟩=some (.slice d0.a d0.n d0.c)):=fun wx hg=>jae Z0.out (jaa g0.out hg);have D1:Hid (∀ wx,w0.grownBy wx none→wx.cell? ⟨b,off+3+2,none⟩=some (.slice d1.a d1.n d1.c)):=fun wx hg=>jae Z1.out (jaa g0.out hg);have zk:=D0.out w0 (jad _);obtain ⟨n0,n1,n2,n3,n4⟩:=jak (n:=⟨op,nam,⟨ia,il,ic⟩,out,⟨ao,al,cap⟩⟩) (BX.out w0 (jad _));clear hta htb;go_enter Tryz.func124,Tryz.ntmps124;go_wp2_with fail;rw [← hw0];clear hw0
 cases hk:jbz x ta with
 | error c =>
  rw [hk] at TA;have E0:Hid (jdc A x y (rest.head?.map (·.2))=.error c):=by show _=_;rw [E.out,hk];rfl
  clear hk;refine wp_region_held_drew (S:=(fun w'=>w'.cell? ⟨w.heap.size,0,none⟩=some (.string op)∧w'.cell? ⟨w.heap.size,1,none⟩=some (.string nam)∧w'.cell? ⟨w.heap.size,2,none⟩=some (.slice ia il ic)∧w'.cell? ⟨w.heap.size,3,none⟩=some (.string out)∧w'.cell? ⟨w.heap.size,4,none⟩=some (.slice ao al cap)∧w'.cell? ⟨b,off+2,none⟩=some (.slice d0.a d0.n d0.c))) (by kernel_rfl) (by go_keep) (fun hHeld=>?_);refine tkA 0 ?_
  try simp only [Act.put]
  refine tkA 1 ?_
  try simp only [Act.put]
  refine tkA 2 ?_
  try simp only [Act.put]
  refine tkA 3 ?_
  try simp only [Act.put]
  refine tkA 4 ?_
  try simp only [Act.put]
  refine wpAnyH_ready (rs:=[5]) (by kernel_rfl) (by simp) ?_;refine AllReadyH.cons rfl (fun K hK=>?_) ?_
  ·skip
   go_simp;refine (IA.out _ (jaf (jad _))).mono ?_;rintro e v0 ⟨rfl,hgi0⟩;have gi0:w0.grownBy v0 none:=jaa (jaf (jad _)) hgi0;obtain ⟨n0,n1,n2,n3,n4⟩:=jak (n:=⟨op,nam,⟨ia,il,ic⟩,out,⟨ao,al,cap⟩⟩) (BX.out v0 (gi0));have zk:=D0.out v0 gi0
   try dsimp only
   refine hK.out _ _ (by first | assumption | go_keep) (fun hHeld=>?_);clear hK K
   try simp only [Act.put]
   refine wpAnyH_ready (rs:=[6]) (by kernel_rfl) (by simp) ?_;refine AllReadyH.cons rfl (fun K hK=>?_) ?_
   ·skip
    go_simp;refine (TA.out _ gi0).mono ?_;rintro e wy ⟨hg,rfl⟩;exact ⟨rfl,jai E0.out (jaa (jaa g0.out gi0) hg)⟩
   exact AllReadyH.nil
  exact AllReadyH.nil
 | ok a =>
  rw [hk] at TA;have AL:=jac (jf3 hk)
  have EA:Hid (jdc A x y (rest.head?.map (·.2))=(jbz y tb).bind (fun b=>(ja6 a b).bind (fun dims=>match rest.head?.map (·.2) with
   | none=>.ok dims
   | some c=>(jaE dims c).bind (fun s=>(jal (decide (s=dims))).bind (fun _=>.ok dims))))):=by show _=_;rw [E.out,hk];rfl
  clear hk E;refine wp_region_held_drew (S:=(fun w'=>w'.cell? ⟨w.heap.size,0,none⟩=some (.string op)∧w'.cell? ⟨w.heap.size,1,none⟩=some (.string nam)∧w'.cell? ⟨w.heap.size,2,none⟩=some (.slice ia il ic)∧w'.cell? ⟨w.heap.size,3,none⟩=some (.string out)∧w'.cell? ⟨w.heap.size,4,none⟩=some (.slice ao al cap)∧w'.cell? ⟨b,off+2,none⟩=some (.slice d0.a d0.n d0.c))) (by kernel_rfl) (by go_keep) (fun hHeld=>?_);refine tkA 0 ?_
  try simp only [Act.put]
  refine tkA 1 ?_
  try simp only [Act.put]
  refine tkA 2 ?_
  try simp only [Act.put]
  refine tkA 3 ?_
  try simp only [Act.put]
  refine tkA 4 ?_
  try simp only [Act.put]
  refine wpAnyH_ready (rs:=[5]) (by kernel_rfl) (by simp) ?_;refine AllReadyH.cons rfl (fun K hK=>?_) ?_
  ·skip
   go_simp;refine (IA.out _ (jaf (jad _))).mono ?_;rintro e v0 ⟨rfl,hgi0⟩;have gi0:w0.grownBy v0 none:=jaa (jaf (jad _)) hgi0;obtain ⟨n0,n1,n2,n3,n4⟩:=jak (n:=⟨op,nam,⟨ia,il,ic⟩,out,⟨ao,al,cap⟩⟩) (BX.out v0 (gi0));have zk:=D0.out v0 gi0
   try dsimp only
   refine hK.out _ _ (by first | assumption | go_keep) (fun hHeld=>?_);clear hK K
   try simp only [Act.put]
   refine wpAnyH_ready (rs:=[6]) (by kernel_rfl) (by simp) ?_;refine AllReadyH.cons rfl (fun K hK=>?_) ?_
   ·skip
    go_simp;refine (TA.out _ gi0).mono ?_;rintro e t0 ⟨hgt0,v,rfl,⟨s0a,s0n,s0c⟩,rfl,hs0⟩;have gt0:w0.grownBy t0 none:=jaa gi0 hgt0;obtain ⟨n0,n1,n2,n3,n4⟩:=jak (n:=⟨op,nam,⟨ia,il,ic⟩,out,⟨ao,al,cap⟩⟩) (BX.out t0 (gt0));have zk:=D0.out t0 gt0
    try dsimp only
    refine hK.out _ _ (by first | assumption | go_keep) (fun hHeld=>?_);clear hK K
    try simp only [Act.put]
    refine tkA 7 ?_
    try simp only [Act.put]
    refine wpAnyH_done (by kernel_rfl) ?_ _
    try go_simp
    simp only [Sl.v];have zk:=D1.out t0 gt0;go_wp2_with fail
    cases hk1:jbz y tb with
    | error c =>
     rw [hk1] at TB;have E1:Hid (jdc A x y (rest.head?.map (·.2))=.error c):=by show _=_;rw [EA.out,hk1];rfl
     clear hk1;refine wp_region_held_drew (S:=(fun w'=>w'.cell? ⟨w.heap.size,0,none⟩=some (.string op)∧w'.cell? ⟨w.heap.size,1,none⟩=some (.string nam)∧w'.cell? ⟨w.heap.size,2,none⟩=some (.slice ia il ic)∧w'.cell? ⟨w.heap.size,3,none⟩=some (.string out)∧w'.cell? ⟨w.heap.size,4,none⟩=some (.slice ao al cap)∧w'.cell? ⟨b,off+3+2,none⟩=some (.slice d1.a d1.n d1.c))) (by kernel_rfl) (by go_keep) (fun hHeld=>?_);refine tkA 0 ?_
     try simp only [Act.put]
     refine tkA 1 ?_
     try simp only [Act.put]
     refine tkA 2 ?_
     try simp only [Act.put]
     refine tkA 3 ?_
     try simp only [Act.put]
     refine tkA 4 ?_
     try simp only [Act.put]
     refine wpAnyH_ready (rs:=[5]) (by kernel_rfl) (by simp) ?_;refine AllReadyH.cons rfl (fun K hK=>?_) ?_
     ·skip
      go_simp;refine (IB.out _ (jaf (gt0))).mono ?_;rintro e v1 ⟨rfl,hgi1⟩;have gi1:w0.grownBy v1 none:=jaa (jaf (gt0)) hgi1;obtain ⟨n0,n1,n2,n3,n4⟩:=jak (n:=⟨op,nam,⟨ia,il,ic⟩,out,⟨ao,al,cap⟩⟩) (BX.out v1 (gi1));have zk:=D1.out v1 gi1
      try dsimp only
      refine hK.out _ _ (by first | assumption | go_keep) (fun hHeld=>?_);clear hK K
      try simp only [Act.put]
      refine wpAnyH_ready (rs:=[6]) (by kernel_rfl) (by simp) ?_;refine AllReadyH.cons rfl (fun K hK=>?_) ?_
      ·skip
       go_simp;refine (TB.out _ gi1).mono ?_;rintro e wy ⟨hg,rfl⟩;exact ⟨rfl,jai E1.out (jaa (jaa g0.out gi1) hg)⟩
      exact AllReadyH.nil
     exact AllReadyH.nil
    | ok b' =>
     rw [hk1] at TB;have BL:=jac (jf3 hk1)
     have EB:Hid (jdc A x y (rest.head?.map (·.2))=(ja6 a b').bind (fun dims=>match rest.head?.map (·.2) with
      | none=>.ok dims
      | some c=>(jaE dims c).bind (fun s=>(jal (decide (s=dims))).bind (fun _=>.ok dims)))):=by show _=_;rw [EA.out,hk1];rfl
     clear hk1;refine wp_region_held_drew (S:=(fun w'=>w'.cell? ⟨w.heap.size,0,none⟩=some (.string op)∧w'.cell? ⟨w.heap.size,1,none⟩=some (.string nam)∧w'.cell? ⟨w.heap.size,2,none⟩=some (.slice ia il ic)∧w'.cell? ⟨w.heap.size,3,none⟩=some (.string out)∧w'.cell? ⟨w.heap.size,4,none⟩=some (.slice ao al cap)∧w'.cell? ⟨b,off+3+2,none⟩=some (.slice d1.a d1.n d1.c))) (by kernel_rfl) (by go_keep) (fun hHeld=>?_);refine tkA 0 ?_
     try simp only [Act.put]
     refine tkA 1 ?_
     try simp only [Act.put]
     refine tkA 2 ?_
     try simp only [Act.put]
     refine tkA 3 ?_
     try simp only [Act.put]
     refine tkA 4 ?_
     try simp only [Act.put]
     refine wpAnyH_ready (rs:=[5]) (by kernel_rfl) (by simp) ?_;refine AllReadyH.cons rfl (fun K hK=>?_) ?_
     ·skip
      go_simp;refine (IB.out _ (jaf (gt0))).mono ?_;rintro e v1 ⟨rfl,hgi1⟩;have gi1:w0.grownBy v1 none:=jaa (jaf (gt0)) hgi1;obtain ⟨n0,n1,n2,n3,n4⟩:=jak (n:=⟨op,nam,⟨ia,il,ic⟩,out,⟨ao,al,cap⟩⟩) (BX.out v1 (gi1));have zk:=D1.out v1 gi1
      try dsimp only
      refine hK.out _ _ (by first | assumption | go_keep) (fun hHeld=>?_);clear hK K
      try simp only [Act.put]
      refine wpAnyH_ready (rs:=[6]) (by kernel_rfl) (by simp) ?_;refine AllReadyH.cons rfl (fun K hK=>?_) ?_
      ·skip
       go_simp;refine (TB.out _ gi1).mono ?_;rintro e t1 ⟨hgt1,v,rfl,⟨s1a,s1n,s1c⟩,rfl,hs1⟩;have gt1:w0.grownBy t1 none:=jaa gi1 hgt1;obtain ⟨n0,n1,n2,n3,n4⟩:=jak (n:=⟨op,nam,⟨ia,il,ic⟩,out,⟨ao,al,cap⟩⟩) (BX.out t1 (gt1));have zk:=D1.out t1 gt1
       try dsimp only
       refine hK.out _ _ (by first | assumption | go_keep) (fun hHeld=>?_);clear hK K
       try simp only [Act.put]
       refine tkA 7 ?_
       try simp only [Act.put]
       refine wpAnyH_done (by kernel_rfl) ?_ _
       try go_simp
       simp only [Sl.v];have g01:t0.grownBy t1 none:=jaa (jaf (jad _)) (jaa hgi1 hgt1);have PR:=jac (jfN ⟨s0a,s0n,s0c⟩ ⟨s1a,s1n,s1c⟩ a b' t1 (hs0.more g01) hs1 AL.out BL.out);simp only at PR;have GT:=jac (jaa g0.out gt1);clear zk n0 n1 n2 n3 n4 hHeld
       cases hk2:ja6 a b' with
       | error c =>
        rw [hk2] at PR;have E2:Hid (jdc A x y (rest.head?.map (·.2))=.error c):=by show _=_;rw [EB.out,hk2];rfl
        clear hk2;go_wp2_with (first | (go_at_call 123;refine PR.out.mono ?_;rintro e w' ⟨hg,rfl⟩) | fail);exact ⟨rfl,jai E2.out (jaa GT.out hg)⟩
       | ok dims =>
        rw [hk2] at PR
        have E2:Hid (jdc A x y (rest.head?.map (·.2))=match rest.head?.map (·.2) with
         | none=>.ok dims
         | some c=>(jaE dims c).bind (fun s=>(jal (decide (s=dims))).bind (fun _=>.ok dims))):=by show _=_;rw [EB.out,hk2];rfl
        clear hk2
        cases rest with
        | nil =>
         have b3:((m:Int)==3)=false:=by have:=HM.out;simp at this;rw [this];decide
         have E3:Hid (jdc A x y (([]:List (Val×List Int)).head?.map (·.2))=.ok dims):=E2.out;go_wp2_with (first | (go_at_call 123;refine PR.out.mono ?_;rintro e w' ⟨hg,v,rfl,⟨da,dn,dc⟩,rfl,hd⟩;simp only [Sl.v]) | fail);go_ret;exact jap E3.out (jaa GT.out hg) ⟨⟨da,dn,dc⟩,rfl,hd⟩
        | cons p2 r2 =>
         have hm3:m=3:=by have:=HM.out;simp at this hr;rw [this,hr];rfl
         have b3:((m:Int)==3)=true:=by rw [hm3];decide
         obtain ⟨-,z2⟩:=HV.out.at 2 (by simp);simp only [List.getElem_cons_zero,List.getElem_cons_succ] at z2;have HZ:=jac (HV.out.dims p2 (by simp));obtain ⟨⟨pn2,pt2,d2⟩,z⟩:=p2;simp only at z2 HZ;have z2':w.cell? ⟨b,off+6+2,none⟩=some (.slice d2.a d2.n d2.c):=z2;have E3:Hid (jdc A x y ((((⟨pn2,pt2,d2⟩,z):Val×List Int)::r2).head?.map (·.2))=(jaE dims z).bind (fun s=>(jal (decide (s=dims))).bind (fun _=>.ok dims))):=E2.out;have Z2:=jac z2';have hi2:(2:Int)<(m:Int):=by rw [hm3];decide
         have hi3:2<m:=by omega
         clear z2 z2' hm3;go_wp2_with (first | (go_at_call 123;refine PR.out.mono ?_;rintro e w5 ⟨hg5,v,rfl,⟨da,dn,dc⟩,rfl,hd⟩;simp only [Sl.v];have z5:=jae Z2.out (jaa GT.out hg5)) | fail);have G5:=jac (jaa GT.out hg5);have SP:=jac (spread_any ⟨da,dn,dc⟩ d2 dims z w5 hd (HZ.out.more G5.out));simp only at SP;have HD:=jac hd;clear hg5 hd z5
         cases hk3:jaE dims z with
         | error c =>
          rw [hk3] at SP;have E4:Hid (jdc A x y ((((⟨pn2,pt2,d2⟩,z):Val×List Int)::r2).head?.map (·.2))=.error c):=by show _=_;rw [E3.out,hk3];rfl
          clear hk3;refine SP.out.mono ?_;rintro e w' ⟨hg,rfl⟩;exact ⟨rfl,jai E4.out (jaa G5.out hg)⟩
         | ok s =>
          rw [hk3] at SP;have E4:Hid (jdc A x y ((((⟨pn2,pt2,d2⟩,z):Val×List Int)::r2).head?.map (·.2))=(jal (decide (s=dims))).bind (fun _=>.ok dims)):=by show _=_;rw [E3.out,hk3];rfl
          clear hk3;refine SP.out.mono ?_;rintro e w6 ⟨hg6,v,rfl,⟨ea,en,ec⟩,rfl,hown⟩;simp only [Sl.v];have G6:=jac (jaa G5.out hg6);have EQ:=jac (jeA ⟨ea,en,ec⟩ ⟨da,dn,dc⟩ s dims w6 hown.ints (HD.out.more hg6));simp only at EQ;have HD6:=jac (HD.out.more hg6);clear hg6 hown
          cases hk4:decide (s=dims) with
          | true =>
           rw [hk4] at EQ;have E5:Hid (jdc A x y ((((⟨pn2,pt2,d2⟩,z):Val×List Int)::r2).head?.map (·.2))=.ok dims):=by show _=_;rw [E4.out,hk4];rfl
           clear hk4;go_wp2_with (first | (go_at_call 41;refine EQ.out.mono ?_;rintro e w7 ⟨rfl,nn,rfl⟩) | (go_at_call 71;refine (jaq _).mono ?_;rintro e w' ⟨rfl,rfl⟩) | fail);go_ret;exact jap E5.out (ja7 G6.out _) ⟨⟨da,dn,dc⟩,rfl,HD6.out.more (ja7 (jad _) _)⟩
          | false =>
           rw [hk4] at EQ;have E5:Hid (jdc A x y ((((⟨pn2,pt2,d2⟩,z):Val×List Int)::r2).head?.map (·.2))=.error 4):=by show _=_;rw [E4.out,hk4];rfl
           clear hk4;go_wp2_with (first | (go_at_call 41;refine EQ.out.mono ?_;rintro e w7 ⟨rfl,nn,rfl⟩) | (go_at_call 71;refine (jav _).mono ?_;rintro e w' ⟨rfl,rfl⟩) | fail);exact ⟨rfl,jai E5.out (ja7 G6.out _)⟩
      exact AllReadyH.nil
     exact AllReadyH.nil
   exact AllReadyH.nil
  exact AllReadyH.nil
end Go.Proofs.YteigfipgmghgmaaGreatDoor
namespace Go.Proofs.YteigfipgmghgmaaGreatDoor
open Go.RowKit
theorem jgC (u:Sl) (p0 p1:Val×List Int) (rest:List (Val×List Int)) (w:World) (hv:ValsIn w u.v (p0::p1::rest)) (hr:rest.length≤1000000):Calls Tryz.prog 127 #[.slice u.a u.n u.c] w (jaJ w (jbl p0.2 ((p1::rest).map (·.2))) jbd):=by
 obtain ⟨xa,xc,e1,q1,q2,q3⟩:=hv.vals.form;rw [List.length_map] at e1 q1 q3;obtain ⟨ua,un,uc⟩:=u;simp only [Sl.v,Value.slice.injEq] at e1;obtain ⟨rfl,rfl,rfl⟩:=e1;have HV:=jac hv;obtain ⟨b,off,rfl⟩:=hv.vals.addr (k:=0) (by simp);obtain ⟨-,z0⟩:=hv.at 0 (by simp);rw [Nat.zero_mul,Nat.add_zero] at z0;simp only [List.getElem_cons_zero] at z0;have HX:=jac (hv.dims p0 (by simp));obtain ⟨⟨pn0,pt0,⟨xa0,xn0,xc0⟩⟩,x⟩:=p0;simp only at z0 HX ⊢;obtain ⟨xx,xcc,ex,f1,f2,f3⟩:=HX.out.sl;simp only [Sl.v,Value.slice.injEq] at ex;obtain ⟨rfl,rfl,rfl⟩:=ex;obtain ⟨rs,hrs⟩ : ∃ rs,rs=p1::rest:=⟨_,rfl⟩
 rw [← hrs] at HV q1 q3 ⊢;have hrl:1≤rs.length:=by rw [hrs];simp
 have hrl2:rs.length≤1000001:=by rw [hrs];simp;omega
 obtain ⟨m,hm⟩ : ∃ m,m=((((⟨pn0,pt0,⟨xa0,x.length,xc0⟩⟩,x):Val×List Int)::rs):List (Val×List Int)).length:=⟨_,rfl⟩
 have hm1:m=rs.length+1:=by rw [hm];simp
 rw [← hm] at q1 q3 ⊢;have hm0:0<m:=by omega
 have hm0':(0:Int)<(m:Int):=by omega
 have hm2:(1:Int)≤(m:Int):=by omega
 have hm3:1≤m:=by omega
 have huc:¬ uc=1:=by omega
 have huc2:1≤uc:=by omega
 have hmr:m - 1=rs.length:=by omega
 have HM:=jac hm1;have Z0:=jac z0;clear hv hm hm1 hrs z0
 by_cases h2:2≤x.length
 ·have E0:Hid (jbl x (rs.map (·.2))=(jal ((rs.map (·.2)).all (fun y=>y==(x.drop 1).take 1))).bind (fun _=>.ok x)):=by show _=_;unfold jbl;simp [jal,h2];rfl
  have h2':(2:Int)≤(x.length:Int):=by omega
  have z0:=Z0.out;go_enter Tryz.func127,Tryz.ntmps127;go_wp2_with (first | (go_at_call 71;refine (jaq _).mono ?_;rintro e w' ⟨rfl,rfl⟩) | fail);go_loopw [17] (fun i wr=>∃ k:Nat,k≤rs.length∧i=.int .i64 k∧(∀ j (hj:j<rs.length),j<k→rs[j].2=(x.drop 1).take 1)∧w.grownBy wr none) (fun i _=>rs.length - (intOf i).toNat)
  case atStart=>exact ⟨0,Nat.zero_le _,rfl,fun j hj h=>absurd h (by omega),jad _⟩
  case round =>
   obtain ⟨k,hk,rfl,hall,hg⟩:=hrel;have HL:=jac hall;have HG:=jac hg;clear hall hg z0
   by_cases hkl:k<rs.length
   ·obtain ⟨y0,y1,y2⟩:=(HV.out.more HG.out).vals.val (k+1) (by rw [List.length_map];simp;omega);have HY:=jac (HV.out.dims (rs[k]) (List.mem_cons_of_mem _ (List.getElem_mem hkl)));simp only [List.map_cons,List.getElem_cons_succ,List.getElem_map] at y0 y1 y2;have ea:off+(k+1)*3=off+3+k*3:=by omega
    rw [ea] at y0 y1 y2;obtain ⟨p,hp⟩ : ∃ p,p=rs[k]:=⟨_,rfl⟩
    rw [← hp] at y0 y1 y2 HY;have HP:=jac hp;obtain ⟨⟨vn,vt,⟨da,dn,dc⟩⟩,y⟩:=p;simp only at y0 y1 y2 HY;clear ea hp;obtain ⟨xb,xo,rfl,-⟩:=HX.out.get (k:=0) (by omega);have hxc:¬ xc0=1:=by omega
    have hx1:1≤x.length:=by omega
    have hxc2:2≤xc0:=by omega
    have hxc3:(2:Int)≤(xc0:Int):=by omega
    have XT:Hid (IsInts w (.slice (some ⟨xb,xo+1,none⟩) 1 (xc0 - 1)) ((x.drop 1).take 1)):=by
     have h:=HX.out.back (k:=1) hx1;simp only [if_neg hxc,Addr.add_lit] at h;exact h.front (by simp;omega)
    obtain ⟨w1,hw1⟩ : ∃ w1,w1=wr.alloc (.cells #[.string vn,.int .i64 vt,.slice da dn dc] 53):=⟨_,rfl⟩
    have g1:Hid (w.grownBy w1 none):=by show w.grownBy w1 none;rw [hw1];exact jaa HG.out (jab _ _)
    have hb1:=heap_alloc_new wr (.cells #[.string vn,.int .i64 vt,.slice da dn dc] 53);rw [← hw1] at hb1;have q1':w1.cell? ⟨wr.heap.size,2,none⟩=some (.slice da dn dc):=(cell_of_row _ _ 2 _ _ (0,0) hb1).trans rfl;have EQ:=jac (fun (wx:World) (hx:w1.grownBy wx none)=>jeA ⟨da,dn,dc⟩ ⟨some ⟨xb,xo+1,none⟩,1,xc0 - 1⟩ y ((x.drop 1).take 1) wx (HY.out.more (jaa g1.out hx)) (XT.out.more (jaa g1.out hx)));simp only at EQ;clear hb1;go_wp2_with fail;rw [← hw1];clear hw1 y0 y1 y2
    cases hd:decide (y=(x.drop 1).take 1) with
    | true =>
     rw [hd] at EQ
     have HKT:Hid (∀ j (hj:j<rs.length),j<k+1→rs[j].2=(x.drop 1).take 1):=fun j hj h=>by
      rcases jaK h with h | rfl
      ·exact HL.out j hj h
      ·rw [← HP.out];simpa using hd
     clear hd;refine wp_region_held_drew (S:=(fun w'=>w'.cell? ⟨wr.heap.size,2,none⟩=some (.slice da dn dc))) (by kernel_rfl) (by go_keep) (fun hHeld=>?_);refine tkA 0 ?_
     try simp only [Act.put]
     refine tkA 1 ?_
     try simp only [Act.put]
     refine tkA 2 ?_
     try simp only [Act.put]
     refine tkA 3 ?_
     try simp only [Act.put]
     refine wpAnyH_ready (rs:=[4]) (by kernel_rfl) (by simp) ?_;refine AllReadyH.cons rfl (fun K hK=>?_) ?_
     ·skip
      go_simp;refine (EQ.out _ (jaf (jad _))).mono ?_;rintro e wy ⟨rfl,nn,rfl⟩
      try dsimp only
      refine hK.out _ _ (by first | assumption | go_keep) (fun hHeld=>?_);clear hK K
      try simp only [Act.put]
      refine wpAnyH_ready (rs:=[5]) (by kernel_rfl) (by simp) ?_;refine AllReadyH.cons rfl (fun K hK=>?_) ?_
      ·skip
       go_simp;refine (jaq _).mono ?_;rintro e wy ⟨rfl,rfl⟩
       try dsimp only
       refine hK.out _ _ (by first | assumption | go_keep) (fun hHeld=>?_);clear hK K
       try simp only [Act.put]
       refine wpAnyH_done (by kernel_rfl) ?_ _
       try go_simp
       go_wp2_with fail;go_roundw
       case rel=>exact ⟨k+1,by omega,by go_num,HKT.out,ja7 g1.out _⟩
       case measure=>simp [intOf];omega
      exact AllReadyH.nil
     exact AllReadyH.nil
    | false =>
     rw [hd] at EQ
     have E3:Hid (jbl x (rs.map (·.2))=.error 4):=by
      show _=_;rw [E0.out,show (rs.map (·.2)).all (fun y=>y==(x.drop 1).take 1)=false from ?_]
      ·rfl
      ·rw [List.all_eq_false];exact ⟨y,List.mem_map.2 ⟨rs[k],List.getElem_mem hkl,by rw [← HP.out]⟩,by simpa using hd⟩
     clear hd;refine wp_region_held_drew (S:=(fun w'=>w'.cell? ⟨wr.heap.size,2,none⟩=some (.slice da dn dc))) (by kernel_rfl) (by go_keep) (fun hHeld=>?_);refine tkA 0 ?_
     try simp only [Act.put]
     refine tkA 1 ?_
     try simp only [Act.put]
     refine tkA 2 ?_
     try simp only [Act.put]
     refine tkA 3 ?_
     try simp only [Act.put]
     refine wpAnyH_ready (rs:=[4]) (by kernel_rfl) (by simp) ?_;refine AllReadyH.cons rfl (fun K hK=>?_) ?_
     ·skip
      go_simp;refine (EQ.out _ (jaf (jad _))).mono ?_;rintro e wy ⟨rfl,nn,rfl⟩
      try dsimp only
      refine hK.out _ _ (by first | assumption | go_keep) (fun hHeld=>?_);clear hK K
      try simp only [Act.put]
      refine wpAnyH_ready (rs:=[5]) (by kernel_rfl) (by simp) ?_;refine AllReadyH.cons rfl (fun K hK=>?_) ?_
      ·skip
       go_simp;refine (jav _).mono ?_;rintro e wy ⟨rfl,rfl⟩;exact ⟨rfl,jai E3.out (ja7 g1.out _)⟩
      exact AllReadyH.nil
     exact AllReadyH.nil
   ·have E3 : Hid (jbl x (rs.map (·.2)) = .ok x) := by
      show _=_;rw [E0.out,show (rs.map (·.2)).all (fun y=>y==(x.drop 1).take 1)=true from ?_]
      ·rfl
      ·rw [List.all_eq_true];intro y hy;obtain ⟨q,hq,rfl⟩:=List.mem_map.1 hy;obtain ⟨j,hj,rfl⟩:=List.mem_iff_getElem.1 hq;simpa using HL.out j hj (by omega)
    go_wp2;go_ret;exact jap E3.out HG.out ⟨⟨_,_,_⟩,rfl,HX.out.more HG.out⟩
 ·have b2:decide ((2:Int)≤(x.length:Int))=false:=by simp;omega
  have E1:Hid (jbl x (rs.map (·.2))=.error 4):=by show _=_;unfold jbl;simp [jal,h2];rfl
  have z0:=Z0.out;clear h2;go_enter Tryz.func127,Tryz.ntmps127;go_wp2_with (first | (go_at_call 71;refine (jav _).mono ?_;rintro e w' ⟨rfl,rfl⟩) | fail);exact ⟨rfl,jai E1.out (jad _)⟩
end Go.Proofs.YteigfipgmghgmaaGreatDoor
namespace Go.Proofs.YteigfipgmghgmaaGreatDoor
open Go.RowKit
theorem juO (n:Nod) (A:At) (u:Sl) (v0:Val) (x:List Int) (w:World) (hop:n.op∈([⟨#[73,100,101,110,116,105,116,121]⟩,⟨#[78,101,103]⟩,⟨#[65,98,115]⟩,⟨#[78,111,116]⟩,⟨#[82,101,108,117]⟩,⟨#[83,113,114,116]⟩,⟨#[70,108,111,111,114]⟩,⟨#[69,120,112]⟩,⟨#[83,105,103,109,111,105,100]⟩,⟨#[84,97,110,104]⟩,⟨#[67,108,105,112]⟩,⟨#[67,97,115,116]⟩]:List ByteArray)) (hn:NodeOk w n A) (hv:ValsIn w u.v [(v0,x)])  : Calls Tryz.prog 75 #[jaz n,.slice u.a u.n u.c] w (jaJ w (.ok x) jbd):=by
 obtain ⟨xa,xc,e1,q1,q2,q3⟩:=hv.vals.form;simp only [List.map_cons,List.map_nil,List.length_cons,List.length_nil,Nat.zero_add] at e1 q1 q3;obtain ⟨ua,un,uc⟩:=u;simp only [Sl.v,Value.slice.injEq] at e1;obtain ⟨rfl,rfl,rfl⟩:=e1;obtain ⟨b,off,rfl⟩:=hv.vals.addr (k:=0) (by simp);obtain ⟨-,z0⟩:=hv.at 0 (by simp);rw [Nat.zero_mul,Nat.add_zero] at z0;simp only [List.getElem_cons_zero] at z0;have HX:=jac (hv.dims (v0,x) (by simp));obtain ⟨vn0,vt0,⟨d0a,d0n,d0c⟩⟩:=v0;simp only at z0 HX;have Z0:=jac z0;clear hv z0;have NK:=jac hn;obtain ⟨op,nam,⟨ia,il,ic⟩,out,⟨ao,al,cap⟩⟩:=n;unfold jaz;simp only;obtain ⟨w0,hw0⟩ : ∃ w0,w0=w.alloc (.cells #[.string op,.string nam,.slice ia il ic,.string out,.slice ao al cap] 25):=⟨_,rfl⟩
 have g0:Hid (w.grownBy w0 none):=by show w.grownBy w0 none;rw [hw0];exact jab _ _
 have hb0:=heap_alloc_new w (.cells #[.string op,.string nam,.slice ia il ic,.string out,.slice ao al cap] 25);rw [← hw0] at hb0;have BX:Hid (∀ wx,w0.grownBy wx none→wx.heap[w.heap.size]?=some (.cells #[.string op,.string nam,.slice ia il ic,.string out,.slice ao al cap] 25 (0,0))):=fun wx hg=>jag hb0 hg;clear hb0 hn;simp only at hop;have z0:(w.alloc (.cells #[.string op,.string nam,.slice ia il ic,.string out,.slice ao al cap] 25)).cell? ⟨b,off+2,none⟩=some (.slice d0a d0n d0c):=jae Z0.out (jab _ _);simp only [List.mem_cons,List.not_mem_nil,or_false] at hop
 rcases hop with rfl | rfl | rfl | rfl | rfl | rfl | rfl | rfl | rfl | rfl | rfl | rfl
 all_goals
  go_enter Tryz.func75,Tryz.ntmps75;go_wp2;go_ret;exact jap rfl (by rw [← hw0];exact g0.out) ⟨⟨d0a,d0n,d0c⟩,rfl,HX.out.more (jab _ _)⟩
theorem jrk (n:Nod) (A:At) (u:Sl) (v0 v1:Val) (x y:List Int) (w:World) (hop:n.op∈([⟨#[65,100,100]⟩,⟨#[83,117,98]⟩,⟨#[77,117,108]⟩,⟨#[68,105,118]⟩,⟨#[77,97,120]⟩,⟨#[77,105,110]⟩,⟨#[65,110,100]⟩,⟨#[79,114]⟩,⟨#[88,111,114]⟩,⟨#[69,113,117,97,108]⟩,⟨#[76,101,115,115]⟩,⟨#[71,114,101,97,116,101,114]⟩]:List ByteArray)) (hn:NodeOk w n A) (hv:ValsIn w u.v [(v0,x),(v1,y)])  : Calls Tryz.prog 75 #[jaz n,.slice u.a u.n u.c] w (jaJ w (jaE x y) jbd):=by
 obtain ⟨xa,xc,e1,q1,q2,q3⟩:=hv.vals.form;simp only [List.map_cons,List.map_nil,List.length_cons,List.length_nil,Nat.zero_add,Nat.reduceAdd] at e1 q1 q3;obtain ⟨ua,un,uc⟩:=u;simp only [Sl.v,Value.slice.injEq] at e1;obtain ⟨rfl,rfl,rfl⟩:=e1;obtain ⟨b,off,rfl⟩:=hv.vals.addr (k:=0) (by simp);obtain ⟨-,z0⟩:=hv.at 0 (by simp);rw [Nat.zero_mul,Nat.add_zero] at z0;simp only [List.getElem_cons_zero] at z0;have HX:=jac (hv.dims (v0,x) (by simp));obtain ⟨-,z1⟩:=hv.at 1 (by simp);rw [Nat.one_mul] at z1;simp only [List.getElem_cons_zero,List.getElem_cons_succ] at z1;have HY:=jac (hv.dims (v1,y) (by simp));obtain ⟨vn1,vt1,⟨d1a,d1n,d1c⟩⟩:=v1;simp only at z1 HY;have Z1:=jac z1;clear z1;obtain ⟨vn0,vt0,⟨d0a,d0n,d0c⟩⟩:=v0;simp only at z0 HX;have Z0:=jac z0;clear hv z0;have NK:=jac hn;obtain ⟨op,nam,⟨ia,il,ic⟩,out,⟨ao,al,cap⟩⟩:=n;unfold jaz;simp only;obtain ⟨w0,hw0⟩ : ∃ w0,w0=w.alloc (.cells #[.string op,.string nam,.slice ia il ic,.string out,.slice ao al cap] 25):=⟨_,rfl⟩
 have g0:Hid (w.grownBy w0 none):=by show w.grownBy w0 none;rw [hw0];exact jab _ _
 have hb0:=heap_alloc_new w (.cells #[.string op,.string nam,.slice ia il ic,.string out,.slice ao al cap] 25);rw [← hw0] at hb0;have BX:Hid (∀ wx,w0.grownBy wx none→wx.heap[w.heap.size]?=some (.cells #[.string op,.string nam,.slice ia il ic,.string out,.slice ao al cap] 25 (0,0))):=fun wx hg=>jag hb0 hg;clear hb0 hn;simp only at hop;have z0:(w.alloc (.cells #[.string op,.string nam,.slice ia il ic,.string out,.slice ao al cap] 25)).cell? ⟨b,off+2,none⟩=some (.slice d0a d0n d0c):=jae Z0.out (jab _ _);have z1:(w.alloc (.cells #[.string op,.string nam,.slice ia il ic,.string out,.slice ao al cap] 25)).cell? ⟨b,off+3+2,none⟩=some (.slice d1a d1n d1c):=jae Z1.out (jab _ _);have C:=jac (spread_any ⟨d0a,d0n,d0c⟩ ⟨d1a,d1n,d1c⟩ x y w0 (HX.out.more g0.out) (HY.out.more g0.out));simp only at C;simp only [List.mem_cons,List.not_mem_nil,or_false] at hop
 rcases hop with rfl | rfl | rfl | rfl | rfl | rfl | rfl | rfl | rfl | rfl | rfl | rfl
 all_goals
  go_enter Tryz.func75,Tryz.ntmps75;go_wp2_with fail;rw [← hw0];clear hw0
  cases hk:jaE x y with
  | error c =>
   rw [hk] at C;have HK:=jac hk;clear hk;refine C.out.mono ?_;rintro e w' ⟨hg,rfl⟩;exact ⟨rfl,jai (by first | exact HK.out | rfl) (jaa g0.out hg)⟩
  | ok zs =>
   rw [hk] at C;have HK:=jac hk;clear hk;refine C.out.mono ?_;rintro e w' ⟨hg,v,rfl,⟨s1,s2,s3⟩,rfl,hs⟩;simp only [Sl.v];go_wp2;go_ret;exact jap (by first | exact HK.out | rfl) (jaa g0.out hg) ⟨⟨s1,s2,s3⟩,rfl,hs.ints⟩
end Go.Proofs.YteigfipgmghgmaaGreatDoor
namespace Go.Proofs.YteigfipgmghgmaaGreatDoor
open Go.RowKit
theorem ji6 (n:Nod) (A:At) (u:Sl) (v0:Val) (x:List Int) (w:World) (hop:n.op∈([⟨#[82,101,100,117,99,101,83,117,109]⟩,⟨#[82,101,100,117,99,101,77,97,120]⟩,⟨#[82,101,100,117,99,101,77,101,97,110]⟩,⟨#[65,114,103,77,97,120]⟩]:List ByteArray)) (hn:NodeOk w n A) (hv:ValsIn w u.v [(v0,x)]) (hf:Fine x):Calls Tryz.prog 75 #[jaz n,.slice u.a u.n u.c] w (jaJ w (jcl A x) jbd):=by
 obtain ⟨xa,xc,e1,q1,q2,q3⟩:=hv.vals.form;simp only [List.map_cons,List.map_nil,List.length_cons,List.length_nil,Nat.zero_add] at e1 q1 q3;obtain ⟨ua,un,uc⟩:=u;simp only [Sl.v,Value.slice.injEq] at e1;obtain ⟨rfl,rfl,rfl⟩:=e1;obtain ⟨b,off,rfl⟩:=hv.vals.addr (k:=0) (by simp);obtain ⟨-,z0⟩:=hv.at 0 (by simp);rw [Nat.zero_mul,Nat.add_zero] at z0;simp only [List.getElem_cons_zero] at z0;have HX:=jac (hv.dims (v0,x) (by simp));obtain ⟨vn0,vt0,⟨d0a,d0n,d0c⟩⟩:=v0;simp only at z0 HX;have Z0:=jac z0;clear hv z0;have NK:=jac hn;obtain ⟨op,nam,⟨ia,il,ic⟩,out,⟨ao,al,cap⟩⟩:=n;unfold jaz;simp only;obtain ⟨w0,hw0⟩ : ∃ w0,w0=w.alloc (.cells #[.string op,.string nam,.slice ia il ic,.string out,.slice ao al cap] 25):=⟨_,rfl⟩
 have g0:Hid (w.grownBy w0 none):=by show w.grownBy w0 none;rw [hw0];exact jab _ _
 have hb0:=heap_alloc_new w (.cells #[.string op,.string nam,.slice ia il ic,.string out,.slice ao al cap] 25);rw [← hw0] at hb0;have BX:Hid (∀ wx,w0.grownBy wx none→wx.heap[w.heap.size]?=some (.cells #[.string op,.string nam,.slice ia il ic,.string out,.slice ao al cap] 25 (0,0))):=fun wx hg=>jag hb0 hg;clear hb0 hn;simp only at hop;have z0:(w.alloc (.cells #[.string op,.string nam,.slice ia il ic,.string out,.slice ao al cap] 25)).cell? ⟨b,off+2,none⟩=some (.slice d0a d0n d0c):=jae Z0.out (jab _ _);have C:=jac (jjV ⟨op,nam,⟨ia,il,ic⟩,out,⟨ao,al,cap⟩⟩ A ⟨d0a,d0n,d0c⟩ x w0 (NK.out.more g0.out) (HX.out.more g0.out) hf);unfold jaz at C;simp only at C;simp only [List.mem_cons,List.not_mem_nil,or_false] at hop
 rcases hop with rfl | rfl | rfl | rfl
 all_goals
  go_enter Tryz.func75,Tryz.ntmps75;go_wp2_with fail;rw [← hw0];clear hw0
  cases hk:jcl A x with
  | error c =>
   rw [hk] at C;have HK:=jac hk;clear hk;refine C.out.mono ?_;rintro e w' ⟨hg,rfl⟩;exact ⟨rfl,jai (by first | exact HK.out | rfl) (jaa g0.out hg)⟩
  | ok zs =>
   rw [hk] at C;have HK:=jac hk;clear hk;refine C.out.mono ?_;rintro e w' ⟨hg,v,rfl,⟨s1,s2,s3⟩,rfl,hs⟩;simp only [Sl.v];go_wp2;go_ret;exact jap (by first | exact HK.out | rfl) (jaa g0.out hg) ⟨⟨s1,s2,s3⟩,rfl,hs⟩
theorem jf4 (n:Nod) (A:At) (u:Sl) (v0:Val) (x:List Int) (w:World) (hop:n.op∈([⟨#[84,114,97,110,115,112,111,115,101]⟩]:List ByteArray)) (hn:NodeOk w n A) (hv:ValsIn w u.v [(v0,x)]) (hf:Fine x):Calls Tryz.prog 75 #[jaz n,.slice u.a u.n u.c] w (jaJ w (jbc A x) jbd):=by
 obtain ⟨xa,xc,e1,q1,q2,q3⟩:=hv.vals.form;simp only [List.map_cons,List.map_nil,List.length_cons,List.length_nil,Nat.zero_add] at e1 q1 q3;obtain ⟨ua,un,uc⟩:=u;simp only [Sl.v,Value.slice.injEq] at e1;obtain ⟨rfl,rfl,rfl⟩:=e1;obtain ⟨b,off,rfl⟩:=hv.vals.addr (k:=0) (by simp);obtain ⟨-,z0⟩:=hv.at 0 (by simp);rw [Nat.zero_mul,Nat.add_zero] at z0;simp only [List.getElem_cons_zero] at z0;have HX:=jac (hv.dims (v0,x) (by simp));obtain ⟨vn0,vt0,⟨d0a,d0n,d0c⟩⟩:=v0;simp only at z0 HX;have Z0:=jac z0;clear hv z0;have NK:=jac hn;obtain ⟨op,nam,⟨ia,il,ic⟩,out,⟨ao,al,cap⟩⟩:=n;unfold jaz;simp only;obtain ⟨w0,hw0⟩ : ∃ w0,w0=w.alloc (.cells #[.string op,.string nam,.slice ia il ic,.string out,.slice ao al cap] 25):=⟨_,rfl⟩
 have g0:Hid (w.grownBy w0 none):=by show w.grownBy w0 none;rw [hw0];exact jab _ _
 have hb0:=heap_alloc_new w (.cells #[.string op,.string nam,.slice ia il ic,.string out,.slice ao al cap] 25);rw [← hw0] at hb0;have BX:Hid (∀ wx,w0.grownBy wx none→wx.heap[w.heap.size]?=some (.cells #[.string op,.string nam,.slice ia il ic,.string out,.slice ao al cap] 25 (0,0))):=fun wx hg=>jag hb0 hg;clear hb0 hn;simp only at hop;have z0:(w.alloc (.cells #[.string op,.string nam,.slice ia il ic,.string out,.slice ao al cap] 25)).cell? ⟨b,off+2,none⟩=some (.slice d0a d0n d0c):=jae Z0.out (jab _ _);have C:=jac (jgy ⟨op,nam,⟨ia,il,ic⟩,out,⟨ao,al,cap⟩⟩ A ⟨d0a,d0n,d0c⟩ x w0 (NK.out.more g0.out) (HX.out.more g0.out) hf);unfold jaz at C;simp only at C;simp only [List.mem_cons,List.not_mem_nil,or_false] at hop;subst hop
 all_goals
  go_enter Tryz.func75,Tryz.ntmps75;go_wp2_with fail;rw [← hw0];clear hw0
  cases hk:jbc A x with
  | error c =>
   rw [hk] at C;have HK:=jac hk;clear hk;refine C.out.mono ?_;rintro e w' ⟨hg,rfl⟩;exact ⟨rfl,jai (by first | exact HK.out | rfl) (jaa g0.out hg)⟩
  | ok zs =>
   rw [hk] at C;have HK:=jac hk;clear hk;refine C.out.mono ?_;rintro e w' ⟨hg,v,rfl,⟨s1,s2,s3⟩,rfl,hs⟩;simp only [Sl.v];go_wp2;go_ret;exact jap (by first | exact HK.out | rfl) (jaa g0.out hg) ⟨⟨s1,s2,s3⟩,rfl,hs⟩
theorem jkm (n:Nod) (A:At) (u:Sl) (v0:Val) (x:List Int) (w:World) (hop:n.op∈([⟨#[83,108,105,99,101]⟩]:List ByteArray)) (hn:NodeOk w n A) (hv:ValsIn w u.v [(v0,x)]) (hf:Fine x):Calls Tryz.prog 75 #[jaz n,.slice u.a u.n u.c] w (jaJ w (jct A x) jbd):=by
 obtain ⟨xa,xc,e1,q1,q2,q3⟩:=hv.vals.form;simp only [List.map_cons,List.map_nil,List.length_cons,List.length_nil,Nat.zero_add] at e1 q1 q3;obtain ⟨ua,un,uc⟩:=u;simp only [Sl.v,Value.slice.injEq] at e1;obtain ⟨rfl,rfl,rfl⟩:=e1;obtain ⟨b,off,rfl⟩:=hv.vals.addr (k:=0) (by simp);obtain ⟨-,z0⟩:=hv.at 0 (by simp);rw [Nat.zero_mul,Nat.add_zero] at z0;simp only [List.getElem_cons_zero] at z0;have HX:=jac (hv.dims (v0,x) (by simp));obtain ⟨vn0,vt0,⟨d0a,d0n,d0c⟩⟩:=v0;simp only at z0 HX;have Z0:=jac z0;clear hv z0;have NK:=jac hn;obtain ⟨op,nam,⟨ia,il,ic⟩,out,⟨ao,al,cap⟩⟩:=n;unfold jaz;simp only;obtain ⟨w0,hw0⟩ : ∃ w0,w0=w.alloc (.cells #[.string op,.string nam,.slice ia il ic,.string out,.slice ao al cap] 25):=⟨_,rfl⟩
 have g0:Hid (w.grownBy w0 none):=by show w.grownBy w0 none;rw [hw0];exact jab _ _
 have hb0:=heap_alloc_new w (.cells #[.string op,.string nam,.slice ia il ic,.string out,.slice ao al cap] 25);rw [← hw0] at hb0;have BX:Hid (∀ wx,w0.grownBy wx none→wx.heap[w.heap.size]?=some (.cells #[.string op,.string nam,.slice ia il ic,.string out,.slice ao al cap] 25 (0,0))):=fun wx hg=>jag hb0 hg;clear hb0 hn;simp only at hop;have z0:(w.alloc (.cells #[.string op,.string nam,.slice ia il ic,.string out,.slice ao al cap] 25)).cell? ⟨b,off+2,none⟩=some (.slice d0a d0n d0c):=jae Z0.out (jab _ _);have C:=jac (jlZ ⟨op,nam,⟨ia,il,ic⟩,out,⟨ao,al,cap⟩⟩ A ⟨d0a,d0n,d0c⟩ x w0 (NK.out.more g0.out) (HX.out.more g0.out) hf);unfold jaz at C;simp only at C;simp only [List.mem_cons,List.not_mem_nil,or_false] at hop;subst hop
 all_goals
  go_enter Tryz.func75,Tryz.ntmps75;go_wp2_with fail;rw [← hw0];clear hw0
  cases hk:jct A x with
  | error c =>
   rw [hk] at C;have HK:=jac hk;clear hk;refine C.out.mono ?_;rintro e w' ⟨hg,rfl⟩;exact ⟨rfl,jai (by first | exact HK.out | rfl) (jaa g0.out hg)⟩
  | ok zs =>
   rw [hk] at C;have HK:=jac hk;clear hk;refine C.out.mono ?_;rintro e w' ⟨hg,v,rfl,⟨s1,s2,s3⟩,rfl,hs⟩;simp only [Sl.v];go_wp2;go_ret;exact jap (by first | exact HK.out | rfl) (jaa g0.out hg) ⟨⟨s1,s2,s3⟩,rfl,hs⟩
theorem jgD (n:Nod) (A:At) (u:Sl) (v0:Val) (x:List Int) (w:World) (hop:n.op∈([⟨#[70,108,97,116,116,101,110]⟩]:List ByteArray)) (hn:NodeOk w n A) (hv:ValsIn w u.v [(v0,x)]) (hf:Fine x):Calls Tryz.prog 75 #[jaz n,.slice u.a u.n u.c] w (jaJ w (jbG A x) jbd):=by
 obtain ⟨xa,xc,e1,q1,q2,q3⟩:=hv.vals.form;simp only [List.map_cons,List.map_nil,List.length_cons,List.length_nil,Nat.zero_add] at e1 q1 q3;obtain ⟨ua,un,uc⟩:=u;simp only [Sl.v,Value.slice.injEq] at e1;obtain ⟨rfl,rfl,rfl⟩:=e1;obtain ⟨b,off,rfl⟩:=hv.vals.addr (k:=0) (by simp);obtain ⟨-,z0⟩:=hv.at 0 (by simp);rw [Nat.zero_mul,Nat.add_zero] at z0;simp only [List.getElem_cons_zero] at z0;have HX:=jac (hv.dims (v0,x) (by simp));obtain ⟨vn0,vt0,⟨d0a,d0n,d0c⟩⟩:=v0;simp only at z0 HX;have Z0:=jac z0;clear hv z0;have NK:=jac hn;obtain ⟨op,nam,⟨ia,il,ic⟩,out,⟨ao,al,cap⟩⟩:=n;unfold jaz;simp only;obtain ⟨w0,hw0⟩ : ∃ w0,w0=w.alloc (.cells #[.string op,.string nam,.slice ia il ic,.string out,.slice ao al cap] 25):=⟨_,rfl⟩
 have g0:Hid (w.grownBy w0 none):=by show w.grownBy w0 none;rw [hw0];exact jab _ _
 have hb0:=heap_alloc_new w (.cells #[.string op,.string nam,.slice ia il ic,.string out,.slice ao al cap] 25);rw [← hw0] at hb0;have BX:Hid (∀ wx,w0.grownBy wx none→wx.heap[w.heap.size]?=some (.cells #[.string op,.string nam,.slice ia il ic,.string out,.slice ao al cap] 25 (0,0))):=fun wx hg=>jag hb0 hg;clear hb0 hn;simp only at hop;have z0:(w.alloc (.cells #[.string op,.string nam,.slice ia il ic,.string out,.slice ao al cap] 25)).cell? ⟨b,off+2,none⟩=some (.slice d0a d0n d0c):=jae Z0.out (jab _ _);have C:=jac (jhH ⟨op,nam,⟨ia,il,ic⟩,out,⟨ao,al,cap⟩⟩ A ⟨d0a,d0n,d0c⟩ x w0 (NK.out.more g0.out) (HX.out.more g0.out) hf);unfold jaz at C;simp only at C;simp only [List.mem_cons,List.not_mem_nil,or_false] at hop;subst hop
 all_goals
  go_enter Tryz.func75,Tryz.ntmps75;go_wp2_with fail;rw [← hw0];clear hw0
  cases hk:jbG A x with
  | error c =>
   rw [hk] at C;have HK:=jac hk;clear hk;refine C.out.mono ?_;rintro e w' ⟨hg,rfl⟩;exact ⟨rfl,jai (by first | exact HK.out | rfl) (jaa g0.out hg)⟩
  | ok zs =>
   rw [hk] at C;have HK:=jac hk;clear hk;refine C.out.mono ?_;rintro e w' ⟨hg,v,rfl,⟨s1,s2,s3⟩,rfl,hs⟩;simp only [Sl.v];go_wp2;go_ret;exact jap (by first | exact HK.out | rfl) (jaa g0.out hg) ⟨⟨s1,s2,s3⟩,rfl,hs⟩
theorem jkn (n:Nod) (A:At) (u:Sl) (v0:Val) (x:List Int) (w:World) (hop:n.op∈([⟨#[77,97,120,80,111,111,108]⟩,⟨#[65,118,101,114,97,103,101,80,111,111,108]⟩]:List ByteArray)) (hn:NodeOk w n A) (hv:ValsIn w u.v [(v0,x)]) (hf:Fine x):Calls Tryz.prog 75 #[jaz n,.slice u.a u.n u.c] w (jaJ w (jbI A x) jbd):=by
 obtain ⟨xa,xc,e1,q1,q2,q3⟩:=hv.vals.form;simp only [List.map_cons,List.map_nil,List.length_cons,List.length_nil,Nat.zero_add] at e1 q1 q3;obtain ⟨ua,un,uc⟩:=u;simp only [Sl.v,Value.slice.injEq] at e1;obtain ⟨rfl,rfl,rfl⟩:=e1;obtain ⟨b,off,rfl⟩:=hv.vals.addr (k:=0) (by simp);obtain ⟨-,z0⟩:=hv.at 0 (by simp);rw [Nat.zero_mul,Nat.add_zero] at z0;simp only [List.getElem_cons_zero] at z0;have HX:=jac (hv.dims (v0,x) (by simp));obtain ⟨vn0,vt0,⟨d0a,d0n,d0c⟩⟩:=v0;simp only at z0 HX;have Z0:=jac z0;clear hv z0;have NK:=jac hn;obtain ⟨op,nam,⟨ia,il,ic⟩,out,⟨ao,al,cap⟩⟩:=n;unfold jaz;simp only;obtain ⟨w0,hw0⟩ : ∃ w0,w0=w.alloc (.cells #[.string op,.string nam,.slice ia il ic,.string out,.slice ao al cap] 25):=⟨_,rfl⟩
 have g0:Hid (w.grownBy w0 none):=by show w.grownBy w0 none;rw [hw0];exact jab _ _
 have hb0:=heap_alloc_new w (.cells #[.string op,.string nam,.slice ia il ic,.string out,.slice ao al cap] 25);rw [← hw0] at hb0;have BX:Hid (∀ wx,w0.grownBy wx none→wx.heap[w.heap.size]?=some (.cells #[.string op,.string nam,.slice ia il ic,.string out,.slice ao al cap] 25 (0,0))):=fun wx hg=>jag hb0 hg;clear hb0 hn;simp only at hop;have z0:(w.alloc (.cells #[.string op,.string nam,.slice ia il ic,.string out,.slice ao al cap] 25)).cell? ⟨b,off+2,none⟩=some (.slice d0a d0n d0c):=jae Z0.out (jab _ _);have C:=jac (jl1 ⟨op,nam,⟨ia,il,ic⟩,out,⟨ao,al,cap⟩⟩ A ⟨d0a,d0n,d0c⟩ x w0 (NK.out.more g0.out) (HX.out.more g0.out) hf);unfold jaz at C;simp only at C;simp only [List.mem_cons,List.not_mem_nil,or_false] at hop
 rcases hop with rfl | rfl
 all_goals
  go_enter Tryz.func75,Tryz.ntmps75;go_wp2_with fail;rw [← hw0];clear hw0
  cases hk:jbI A x with
  | error c =>
   rw [hk] at C;have HK:=jac hk;clear hk;refine C.out.mono ?_;rintro e w' ⟨hg,rfl⟩;exact ⟨rfl,jai (by first | exact HK.out | rfl) (jaa g0.out hg)⟩
  | ok zs =>
   rw [hk] at C;have HK:=jac hk;clear hk;refine C.out.mono ?_;rintro e w' ⟨hg,v,rfl,⟨s1,s2,s3⟩,rfl,hs⟩;simp only [Sl.v];go_wp2;go_ret;exact jap (by first | exact HK.out | rfl) (jaa g0.out hg) ⟨⟨s1,s2,s3⟩,rfl,hs⟩
theorem ji7 (n:Nod) (A:At) (u:Sl) (v0 v1:Val) (x y:List Int) (w:World) (hop:n.op∈([⟨#[77,97,116,77,117,108]⟩]:List ByteArray)) (hn:NodeOk w n A) (hv:ValsIn w u.v [(v0,x),(v1,y)]) (hf:Fine x) (hfy:Fine y):Calls Tryz.prog 75 #[jaz n,.slice u.a u.n u.c] w (jaJ w (ja6 x y) jbd):=by
 obtain ⟨xa,xc,e1,q1,q2,q3⟩:=hv.vals.form;simp only [List.map_cons,List.map_nil,List.length_cons,List.length_nil,Nat.zero_add,Nat.reduceAdd] at e1 q1 q3;obtain ⟨ua,un,uc⟩:=u;simp only [Sl.v,Value.slice.injEq] at e1;obtain ⟨rfl,rfl,rfl⟩:=e1;obtain ⟨b,off,rfl⟩:=hv.vals.addr (k:=0) (by simp);obtain ⟨-,z0⟩:=hv.at 0 (by simp);rw [Nat.zero_mul,Nat.add_zero] at z0;simp only [List.getElem_cons_zero] at z0;have HX:=jac (hv.dims (v0,x) (by simp));obtain ⟨-,z1⟩:=hv.at 1 (by simp);rw [Nat.one_mul] at z1;simp only [List.getElem_cons_zero,List.getElem_cons_succ] at z1;have HY:=jac (hv.dims (v1,y) (by simp));obtain ⟨vn1,vt1,⟨d1a,d1n,d1c⟩⟩:=v1;simp only at z1 HY;have Z1:=jac z1;clear z1;obtain ⟨vn0,vt0,⟨d0a,d0n,d0c⟩⟩:=v0;simp only at z0 HX;have Z0:=jac z0;clear hv z0;have NK:=jac hn;obtain ⟨op,nam,⟨ia,il,ic⟩,out,⟨ao,al,cap⟩⟩:=n;unfold jaz;simp only;obtain ⟨w0,hw0⟩ : ∃ w0,w0=w.alloc (.cells #[.string op,.string nam,.slice ia il ic,.string out,.slice ao al cap] 25):=⟨_,rfl⟩
 have g0:Hid (w.grownBy w0 none):=by show w.grownBy w0 none;rw [hw0];exact jab _ _
 have hb0:=heap_alloc_new w (.cells #[.string op,.string nam,.slice ia il ic,.string out,.slice ao al cap] 25);rw [← hw0] at hb0;have BX:Hid (∀ wx,w0.grownBy wx none→wx.heap[w.heap.size]?=some (.cells #[.string op,.string nam,.slice ia il ic,.string out,.slice ao al cap] 25 (0,0))):=fun wx hg=>jag hb0 hg;clear hb0 hn;simp only at hop;have z0:(w.alloc (.cells #[.string op,.string nam,.slice ia il ic,.string out,.slice ao al cap] 25)).cell? ⟨b,off+2,none⟩=some (.slice d0a d0n d0c):=jae Z0.out (jab _ _);have z1:(w.alloc (.cells #[.string op,.string nam,.slice ia il ic,.string out,.slice ao al cap] 25)).cell? ⟨b,off+3+2,none⟩=some (.slice d1a d1n d1c):=jae Z1.out (jab _ _);have C:=jac (jfN ⟨d0a,d0n,d0c⟩ ⟨d1a,d1n,d1c⟩ x y w0 (HX.out.more g0.out) (HY.out.more g0.out) hf.few hfy.few);simp only at C;simp only [List.mem_cons,List.not_mem_nil,or_false] at hop;subst hop
 all_goals
  go_enter Tryz.func75,Tryz.ntmps75;go_wp2_with fail;rw [← hw0];clear hw0
  cases hk:ja6 x y with
  | error c =>
   rw [hk] at C;have HK:=jac hk;clear hk;refine C.out.mono ?_;rintro e w' ⟨hg,rfl⟩;exact ⟨rfl,jai (by first | exact HK.out | rfl) (jaa g0.out hg)⟩
  | ok zs =>
   rw [hk] at C;have HK:=jac hk;clear hk;refine C.out.mono ?_;rintro e w' ⟨hg,v,rfl,⟨s1,s2,s3⟩,rfl,hs⟩;simp only [Sl.v];go_wp2;go_ret;exact jap (by first | exact HK.out | rfl) (jaa g0.out hg) ⟨⟨s1,s2,s3⟩,rfl,hs⟩
theorem ji8 (n:Nod) (A:At) (u:Sl) (v0:Val) (x:List Int) (w:World) (hop:n.op∈([⟨#[82,101,115,104,97,112,101]⟩]:List ByteArray)) (hn:NodeOk w n A) (hv:ValsIn w u.v [(v0,x)]) (hf:Fine x) (hll:(A.ints ⟨#[115,104,97,112,101]⟩ []).length≤100000000):Calls Tryz.prog 75 #[jaz n,.slice u.a u.n u.c] w (jaJ w (jaS x (A.ints ⟨#[115,104,97,112,101]⟩ [])) jbd):=by
 obtain ⟨xa,xc,e1,q1,q2,q3⟩:=hv.vals.form;simp only [List.map_cons,List.map_nil,List.length_cons,List.length_nil,Nat.zero_add] at e1 q1 q3;obtain ⟨ua,un,uc⟩:=u;simp only [Sl.v,Value.slice.injEq] at e1;obtain ⟨rfl,rfl,rfl⟩:=e1;obtain ⟨b,off,rfl⟩:=hv.vals.addr (k:=0) (by simp);obtain ⟨-,z0⟩:=hv.at 0 (by simp);rw [Nat.zero_mul,Nat.add_zero] at z0;simp only [List.getElem_cons_zero] at z0;have HX:=jac (hv.dims (v0,x) (by simp));obtain ⟨vn0,vt0,⟨d0a,d0n,d0c⟩⟩:=v0;simp only at z0 HX;have Z0:=jac z0;clear hv z0;have NK:=jac hn;obtain ⟨op,nam,⟨ia,il,ic⟩,out,⟨ao,al,cap⟩⟩:=n;unfold jaz;simp only;obtain ⟨w0,hw0⟩ : ∃ w0,w0=w.alloc (.cells #[.string op,.string nam,.slice ia il ic,.string out,.slice ao al cap] 25):=⟨_,rfl⟩
 have g0:Hid (w.grownBy w0 none):=by show w.grownBy w0 none;rw [hw0];exact jab _ _
 have hb0:=heap_alloc_new w (.cells #[.string op,.string nam,.slice ia il ic,.string out,.slice ao al cap] 25);rw [← hw0] at hb0;have BX:Hid (∀ wx,w0.grownBy wx none→wx.heap[w.heap.size]?=some (.cells #[.string op,.string nam,.slice ia il ic,.string out,.slice ao al cap] 25 (0,0))):=fun wx hg=>jag hb0 hg;clear hb0 hn;simp only at hop;have z0:(w.alloc (.cells #[.string op,.string nam,.slice ia il ic,.string out,.slice ao al cap] 25)).cell? ⟨b,off+2,none⟩=some (.slice d0a d0n d0c):=jae Z0.out (jab _ _);have NI:=jac (jbr ⟨op,nam,⟨ia,il,ic⟩,out,⟨ao,al,cap⟩⟩ A ⟨#[115,104,97,112,101]⟩ ⟨none,0,0⟩ [] w0 (NK.out.more g0.out) ⟨none,0,rfl,Nat.le_refl _,by decide,by simp,fun _=>⟨rfl,rfl⟩,fun h=>(by simp at h),fun z hz=>(by simp at hz)⟩);unfold jaz at NI;simp only at NI;simp only [List.mem_cons,List.not_mem_nil,or_false] at hop;subst hop
 all_goals
  go_enter Tryz.func75,Tryz.ntmps75;go_wp2_with fail;rw [← hw0];clear hw0;refine NI.out.mono ?_;rintro e w1 ⟨⟨l1,l2,l3⟩,rfl,hl,hg1⟩;have C:=jac (ji4 ⟨d0a,d0n,d0c⟩ ⟨l1,l2,l3⟩ x _ w1 (HX.out.more (jaa g0.out hg1)) hl hf hll);have G1:=jac (jaa g0.out hg1);simp only [Sl.v] at C ⊢;clear hl hg1 NI
  cases hk:jaS x (A.ints ⟨#[115,104,97,112,101]⟩ []) with
  | error c =>
   rw [hk] at C;have HK:=jac hk;clear hk;go_wp2_with (first | (go_at_call 111;refine C.out.mono ?_;rintro e w' ⟨hg,rfl⟩) | fail);exact ⟨rfl,jai (by first | exact HK.out | rfl) (jaa G1.out hg)⟩
  | ok zs =>
   rw [hk] at C;have HK:=jac hk;clear hk;go_wp2_with (first | (go_at_call 111;refine C.out.mono ?_;rintro e w' ⟨hg,v,rfl,⟨s1,s2,s3⟩,rfl,hs⟩;simp only [Sl.v]) | fail);go_ret;exact jap (by first | exact HK.out | rfl) (jaa G1.out hg) ⟨⟨s1,s2,s3⟩,rfl,hs⟩
theorem jrl (n:Nod) (A:At) (u:Sl) (v0:Val) (x:List Int) (w:World) (hop:n.op∈([⟨#[80,97,100]⟩]:List ByteArray)) (hn:NodeOk w n A) (hv:ValsIn w u.v [(v0,x)]) (hf:Fine x):Calls Tryz.prog 75 #[jaz n,.slice u.a u.n u.c] w (jaJ w (jcU x (A.ints ⟨#[112,97,100,115]⟩ [])) jbd):=by
 obtain ⟨xa,xc,e1,q1,q2,q3⟩:=hv.vals.form;simp only [List.map_cons,List.map_nil,List.length_cons,List.length_nil,Nat.zero_add] at e1 q1 q3;obtain ⟨ua,un,uc⟩:=u;simp only [Sl.v,Value.slice.injEq] at e1;obtain ⟨rfl,rfl,rfl⟩:=e1;obtain ⟨b,off,rfl⟩:=hv.vals.addr (k:=0) (by simp);obtain ⟨-,z0⟩:=hv.at 0 (by simp);rw [Nat.zero_mul,Nat.add_zero] at z0;simp only [List.getElem_cons_zero] at z0;have HX:=jac (hv.dims (v0,x) (by simp));obtain ⟨vn0,vt0,⟨d0a,d0n,d0c⟩⟩:=v0;simp only at z0 HX;have Z0:=jac z0;clear hv z0;have NK:=jac hn;obtain ⟨op,nam,⟨ia,il,ic⟩,out,⟨ao,al,cap⟩⟩:=n;unfold jaz;simp only;obtain ⟨w0,hw0⟩ : ∃ w0,w0=w.alloc (.cells #[.string op,.string nam,.slice ia il ic,.string out,.slice ao al cap] 25):=⟨_,rfl⟩
 have g0:Hid (w.grownBy w0 none):=by show w.grownBy w0 none;rw [hw0];exact jab _ _
 have hb0:=heap_alloc_new w (.cells #[.string op,.string nam,.slice ia il ic,.string out,.slice ao al cap] 25);rw [← hw0] at hb0;have BX:Hid (∀ wx,w0.grownBy wx none→wx.heap[w.heap.size]?=some (.cells #[.string op,.string nam,.slice ia il ic,.string out,.slice ao al cap] 25 (0,0))):=fun wx hg=>jag hb0 hg;clear hb0 hn;simp only at hop;have z0:(w.alloc (.cells #[.string op,.string nam,.slice ia il ic,.string out,.slice ao al cap] 25)).cell? ⟨b,off+2,none⟩=some (.slice d0a d0n d0c):=jae Z0.out (jab _ _);have NI:=jac (jbr ⟨op,nam,⟨ia,il,ic⟩,out,⟨ao,al,cap⟩⟩ A ⟨#[112,97,100,115]⟩ ⟨none,0,0⟩ [] w0 (NK.out.more g0.out) ⟨none,0,rfl,Nat.le_refl _,by decide,by simp,fun _=>⟨rfl,rfl⟩,fun h=>(by simp at h),fun z hz=>(by simp at hz)⟩);unfold jaz at NI;simp only at NI;simp only [List.mem_cons,List.not_mem_nil,or_false] at hop;subst hop
 all_goals
  go_enter Tryz.func75,Tryz.ntmps75;go_wp2_with fail;rw [← hw0];clear hw0;refine NI.out.mono ?_;rintro e w1 ⟨⟨l1,l2,l3⟩,rfl,hl,hg1⟩;have C:=jac (jlY ⟨d0a,d0n,d0c⟩ ⟨l1,l2,l3⟩ x _ w1 (HX.out.more (jaa g0.out hg1)) hl hf);have G1:=jac (jaa g0.out hg1);simp only [Sl.v] at C ⊢;clear hl hg1 NI
  cases hk:jcU x (A.ints ⟨#[112,97,100,115]⟩ []) with
  | error c =>
   rw [hk] at C;have HK:=jac hk;clear hk;go_wp2_with (first | (go_at_call 119;refine C.out.mono ?_;rintro e w' ⟨hg,rfl⟩) | fail);exact ⟨rfl,jai (by first | exact HK.out | rfl) (jaa G1.out hg)⟩
  | ok zs =>
   rw [hk] at C;have HK:=jac hk;clear hk;go_wp2_with (first | (go_at_call 119;refine C.out.mono ?_;rintro e w' ⟨hg,v,rfl,⟨s1,s2,s3⟩,rfl,hs⟩;simp only [Sl.v]) | fail);go_ret;exact jap (by first | exact HK.out | rfl) (jaa G1.out hg) ⟨⟨s1,s2,s3⟩,rfl,hs⟩
theorem ji9 (n:Nod) (A:At) (u:Sl) (v0:Val) (x:List Int) (w:World) (hop:n.op∈([⟨#[83,113,117,101,101,122,101]⟩]:List ByteArray)) (hn:NodeOk w n A) (hv:ValsIn w u.v [(v0,x)]) (hf:Fine x):Calls Tryz.prog 75 #[jaz n,.slice u.a u.n u.c] w (jaJ w (jbL x (A.ints ⟨#[97,120,101,115]⟩ [])) jbd):=by
 obtain ⟨xa,xc,e1,q1,q2,q3⟩:=hv.vals.form;simp only [List.map_cons,List.map_nil,List.length_cons,List.length_nil,Nat.zero_add] at e1 q1 q3;obtain ⟨ua,un,uc⟩:=u;simp only [Sl.v,Value.slice.injEq] at e1;obtain ⟨rfl,rfl,rfl⟩:=e1;obtain ⟨b,off,rfl⟩:=hv.vals.addr (k:=0) (by simp);obtain ⟨-,z0⟩:=hv.at 0 (by simp);rw [Nat.zero_mul,Nat.add_zero] at z0;simp only [List.getElem_cons_zero] at z0;have HX:=jac (hv.dims (v0,x) (by simp));obtain ⟨vn0,vt0,⟨d0a,d0n,d0c⟩⟩:=v0;simp only at z0 HX;have Z0:=jac z0;clear hv z0;have NK:=jac hn;obtain ⟨op,nam,⟨ia,il,ic⟩,out,⟨ao,al,cap⟩⟩:=n;unfold jaz;simp only;obtain ⟨w0,hw0⟩ : ∃ w0,w0=w.alloc (.cells #[.string op,.string nam,.slice ia il ic,.string out,.slice ao al cap] 25):=⟨_,rfl⟩
 have g0:Hid (w.grownBy w0 none):=by show w.grownBy w0 none;rw [hw0];exact jab _ _
 have hb0:=heap_alloc_new w (.cells #[.string op,.string nam,.slice ia il ic,.string out,.slice ao al cap] 25);rw [← hw0] at hb0;have BX:Hid (∀ wx,w0.grownBy wx none→wx.heap[w.heap.size]?=some (.cells #[.string op,.string nam,.slice ia il ic,.string out,.slice ao al cap] 25 (0,0))):=fun wx hg=>jag hb0 hg;clear hb0 hn;simp only at hop;have z0:(w.alloc (.cells #[.string op,.string nam,.slice ia il ic,.string out,.slice ao al cap] 25)).cell? ⟨b,off+2,none⟩=some (.slice d0a d0n d0c):=jae Z0.out (jab _ _);have NI:=jac (jbr ⟨op,nam,⟨ia,il,ic⟩,out,⟨ao,al,cap⟩⟩ A ⟨#[97,120,101,115]⟩ ⟨none,0,0⟩ [] w0 (NK.out.more g0.out) ⟨none,0,rfl,Nat.le_refl _,by decide,by simp,fun _=>⟨rfl,rfl⟩,fun h=>(by simp at h),fun z hz=>(by simp at hz)⟩);unfold jaz at NI;simp only at NI;simp only [List.mem_cons,List.not_mem_nil,or_false] at hop;subst hop
 all_goals
  go_enter Tryz.func75,Tryz.ntmps75;go_wp2_with fail;rw [← hw0];clear hw0;refine NI.out.mono ?_;rintro e w1 ⟨⟨l1,l2,l3⟩,rfl,hl,hg1⟩;have C:=jac (jiP ⟨d0a,d0n,d0c⟩ ⟨l1,l2,l3⟩ x _ w1 (HX.out.more (jaa g0.out hg1)) hl hf);have G1:=jac (jaa g0.out hg1);simp only [Sl.v] at C ⊢;clear hl hg1 NI
  cases hk:jbL x (A.ints ⟨#[97,120,101,115]⟩ []) with
  | error c =>
   rw [hk] at C;have HK:=jac hk;clear hk;go_wp2_with (first | (go_at_call 120;refine C.out.mono ?_;rintro e w' ⟨hg,rfl⟩) | fail);exact ⟨rfl,jai (by first | exact HK.out | rfl) (jaa G1.out hg)⟩
  | ok zs =>
   rw [hk] at C;have HK:=jac hk;clear hk;go_wp2_with (first | (go_at_call 120;refine C.out.mono ?_;rintro e w' ⟨hg,v,rfl,⟨s1,s2,s3⟩,rfl,hs⟩;simp only [Sl.v]) | fail);go_ret;exact jap (by first | exact HK.out | rfl) (jaa G1.out hg) ⟨⟨s1,s2,s3⟩,rfl,hs⟩
theorem jgE (n:Nod) (A:At) (u:Sl) (v0:Val) (x:List Int) (w:World) (hop:n.op∈([⟨#[85,110,115,113,117,101,101,122,101]⟩]:List ByteArray)) (hn:NodeOk w n A) (hv:ValsIn w u.v [(v0,x)]) (hf:Fine x) (hll:(A.ints ⟨#[97,120,101,115]⟩ []).length≤100000000):Calls Tryz.prog 75 #[jaz n,.slice u.a u.n u.c] w (jaJ w (jbw x (A.ints ⟨#[97,120,101,115]⟩ [])) jbd):=by
 obtain ⟨xa,xc,e1,q1,q2,q3⟩:=hv.vals.form;simp only [List.map_cons,List.map_nil,List.length_cons,List.length_nil,Nat.zero_add] at e1 q1 q3;obtain ⟨ua,un,uc⟩:=u;simp only [Sl.v,Value.slice.injEq] at e1;obtain ⟨rfl,rfl,rfl⟩:=e1;obtain ⟨b,off,rfl⟩:=hv.vals.addr (k:=0) (by simp);obtain ⟨-,z0⟩:=hv.at 0 (by simp);rw [Nat.zero_mul,Nat.add_zero] at z0;simp only [List.getElem_cons_zero] at z0;have HX:=jac (hv.dims (v0,x) (by simp));obtain ⟨vn0,vt0,⟨d0a,d0n,d0c⟩⟩:=v0;simp only at z0 HX;have Z0:=jac z0;clear hv z0;have NK:=jac hn;obtain ⟨op,nam,⟨ia,il,ic⟩,out,⟨ao,al,cap⟩⟩:=n;unfold jaz;simp only;obtain ⟨w0,hw0⟩ : ∃ w0,w0=w.alloc (.cells #[.string op,.string nam,.slice ia il ic,.string out,.slice ao al cap] 25):=⟨_,rfl⟩
 have g0:Hid (w.grownBy w0 none):=by show w.grownBy w0 none;rw [hw0];exact jab _ _
 have hb0:=heap_alloc_new w (.cells #[.string op,.string nam,.slice ia il ic,.string out,.slice ao al cap] 25);rw [← hw0] at hb0;have BX:Hid (∀ wx,w0.grownBy wx none→wx.heap[w.heap.size]?=some (.cells #[.string op,.string nam,.slice ia il ic,.string out,.slice ao al cap] 25 (0,0))):=fun wx hg=>jag hb0 hg;clear hb0 hn;simp only at hop;have z0:(w.alloc (.cells #[.string op,.string nam,.slice ia il ic,.string out,.slice ao al cap] 25)).cell? ⟨b,off+2,none⟩=some (.slice d0a d0n d0c):=jae Z0.out (jab _ _);have NI:=jac (jbr ⟨op,nam,⟨ia,il,ic⟩,out,⟨ao,al,cap⟩⟩ A ⟨#[97,120,101,115]⟩ ⟨none,0,0⟩ [] w0 (NK.out.more g0.out) ⟨none,0,rfl,Nat.le_refl _,by decide,by simp,fun _=>⟨rfl,rfl⟩,fun h=>(by simp at h),fun z hz=>(by simp at hz)⟩);unfold jaz at NI;simp only at NI;simp only [List.mem_cons,List.not_mem_nil,or_false] at hop;subst hop
 all_goals
  go_enter Tryz.func75,Tryz.ntmps75;go_wp2_with fail;rw [← hw0];clear hw0;refine NI.out.mono ?_;rintro e w1 ⟨⟨l1,l2,l3⟩,rfl,hl,hg1⟩;have C:=jac (jgz ⟨d0a,d0n,d0c⟩ ⟨l1,l2,l3⟩ x _ w1 (HX.out.more (jaa g0.out hg1)) hl hf hll);have G1:=jac (jaa g0.out hg1);simp only [Sl.v] at C ⊢;clear hl hg1 NI
  cases hk:jbw x (A.ints ⟨#[97,120,101,115]⟩ []) with
  | error c =>
   rw [hk] at C;have HK:=jac hk;clear hk;go_wp2_with (first | (go_at_call 121;refine C.out.mono ?_;rintro e w' ⟨hg,rfl⟩) | fail);exact ⟨rfl,jai (by first | exact HK.out | rfl) (jaa G1.out hg)⟩
  | ok zs =>
   rw [hk] at C;have HK:=jac hk;clear hk;go_wp2_with (first | (go_at_call 121;refine C.out.mono ?_;rintro e w' ⟨hg,v,rfl,⟨s1,s2,s3⟩,rfl,hs⟩;simp only [Sl.v]) | fail);go_ret;exact jap (by first | exact HK.out | rfl) (jaa G1.out hg) ⟨⟨s1,s2,s3⟩,rfl,hs⟩
end Go.Proofs.YteigfipgmghgmaaGreatDoor
namespace Go.Proofs.YteigfipgmghgmaaGreatDoor
open Go.RowKit
theorem jko (n:Nod) (A:At) (u:Sl) (v0:Val) (x:List Int) (w:World) (hop:n.op=⟨#[69,120,112,97,110,100]⟩) (hn:NodeOk w n A) (hv:ValsIn w u.v [(v0,x)])  : Calls Tryz.prog 75 #[jaz n,.slice u.a u.n u.c] w (jaJ w (jaE x ((A.ints ⟨#[115,104,97,112,101]⟩ []).map jbA)) jbd):=by
 obtain ⟨xa,xc,e1,q1,q2,q3⟩:=hv.vals.form;simp only [List.map_cons,List.map_nil,List.length_cons,List.length_nil,Nat.zero_add] at e1 q1 q3;obtain ⟨ua,un,uc⟩:=u;simp only [Sl.v,Value.slice.injEq] at e1;obtain ⟨rfl,rfl,rfl⟩:=e1;obtain ⟨b,off,rfl⟩:=hv.vals.addr (k:=0) (by simp);obtain ⟨-,z0⟩:=hv.at 0 (by simp);rw [Nat.zero_mul,Nat.add_zero] at z0;simp only [List.getElem_cons_zero] at z0;have HX:=jac (hv.dims (v0,x) (by simp));obtain ⟨vn0,vt0,⟨d0a,d0n,d0c⟩⟩:=v0;simp only at z0 HX;have Z0:=jac z0;clear hv z0;have NK:=jac hn;obtain ⟨op,nam,⟨ia,il,ic⟩,out,⟨ao,al,cap⟩⟩:=n;unfold jaz;simp only;obtain ⟨w0,hw0⟩ : ∃ w0,w0=w.alloc (.cells #[.string op,.string nam,.slice ia il ic,.string out,.slice ao al cap] 25):=⟨_,rfl⟩
 have g0:Hid (w.grownBy w0 none):=by show w.grownBy w0 none;rw [hw0];exact jab _ _
 have hb0:=heap_alloc_new w (.cells #[.string op,.string nam,.slice ia il ic,.string out,.slice ao al cap] 25);rw [← hw0] at hb0;have BX:Hid (∀ wx,w0.grownBy wx none→wx.heap[w.heap.size]?=some (.cells #[.string op,.string nam,.slice ia il ic,.string out,.slice ao al cap] 25 (0,0))):=fun wx hg=>jag hb0 hg;clear hb0 hn;simp only at hop;subst hop;have z0:(w.alloc (.cells #[.string ⟨#[69,120,112,97,110,100]⟩,.string nam,.slice ia il ic,.string out,.slice ao al cap] 25)).cell? ⟨b,off+2,none⟩=some (.slice d0a d0n d0c):=jae Z0.out (jab _ _);have NI:=jac (jbr ⟨⟨#[69,120,112,97,110,100]⟩,nam,⟨ia,il,ic⟩,out,⟨ao,al,cap⟩⟩ A ⟨#[115,104,97,112,101]⟩ ⟨none,0,0⟩ [] w0 (NK.out.more g0.out) ⟨none,0,rfl,Nat.le_refl _,by decide,by simp,fun _=>⟨rfl,rfl⟩,fun h=>(by simp at h),fun z hz=>(by simp at hz)⟩);unfold jaz at NI;simp only at NI;go_enter Tryz.func75,Tryz.ntmps75;go_wp2_with fail;rw [← hw0];clear hw0;refine NI.out.mono ?_;rintro e w1 ⟨⟨l1,l2,l3⟩,rfl,hl,hg1⟩;have WH:=jac (jlU _ _ w1 hl);have G1:=jac (jaa g0.out hg1);simp only [Sl.v] at WH ⊢;clear hl hg1 NI;go_wp2_with (first | (go_at_call 113;refine WH.out.mono ?_;rintro e w2 ⟨⟨m1,m2,m3⟩,rfl,hm,hg2⟩;simp only) | fail);have G2:=jac (jaa G1.out hg2);have C:=jac (spread_any ⟨d0a,d0n,d0c⟩ ⟨m1,m2,m3⟩ x _ w2 (HX.out.more G2.out) hm);simp only at C;clear hm hg2 WH
 cases hk:jaE x ((A.ints ⟨#[115,104,97,112,101]⟩ []).map jbA) with
 | error c =>
  rw [hk] at C;have HK:=jac hk;clear hk;refine C.out.mono ?_;rintro e w' ⟨hg,rfl⟩;exact ⟨rfl,jai (by first | exact HK.out | rfl) (jaa G2.out hg)⟩
 | ok zs =>
  rw [hk] at C;have HK:=jac hk;clear hk;refine C.out.mono ?_;rintro e w' ⟨hg,v,rfl,⟨s1,s2,s3⟩,rfl,hs⟩;simp only [Sl.v];go_wp2;go_ret;exact jap (by first | exact HK.out | rfl) (jaa G2.out hg) ⟨⟨s1,s2,s3⟩,rfl,hs.ints⟩
theorem jja (n:Nod) (A:At) (u:Sl) (v0:Val) (x:List Int) (w:World) (hop:n.op=⟨#[83,111,102,116,109,97,120]⟩) (hn:NodeOk w n A) (hv:ValsIn w u.v [(v0,x)]) (hf:Fine x):Calls Tryz.prog 75 #[jaz n,.slice u.a u.n u.c] w (jaJ w ((jb7 (jca A x.length) x.length).bind (fun _=>.ok x)) jbd):=by
 obtain ⟨xa,xc,e1,q1,q2,q3⟩:=hv.vals.form;simp only [List.map_cons,List.map_nil,List.length_cons,List.length_nil,Nat.zero_add] at e1 q1 q3;obtain ⟨ua,un,uc⟩:=u;simp only [Sl.v,Value.slice.injEq] at e1;obtain ⟨rfl,rfl,rfl⟩:=e1;obtain ⟨b,off,rfl⟩:=hv.vals.addr (k:=0) (by simp);obtain ⟨-,z0⟩:=hv.at 0 (by simp);rw [Nat.zero_mul,Nat.add_zero] at z0;simp only [List.getElem_cons_zero] at z0;have HX:=jac (hv.dims (v0,x) (by simp));obtain ⟨vn0,vt0,⟨d0a,d0n,d0c⟩⟩:=v0;simp only at z0 HX;have Z0:=jac z0;clear hv z0;have NK:=jac hn;obtain ⟨op,nam,⟨ia,il,ic⟩,out,⟨ao,al,cap⟩⟩:=n;unfold jaz;simp only;obtain ⟨w0,hw0⟩ : ∃ w0,w0=w.alloc (.cells #[.string op,.string nam,.slice ia il ic,.string out,.slice ao al cap] 25):=⟨_,rfl⟩
 have g0:Hid (w.grownBy w0 none):=by show w.grownBy w0 none;rw [hw0];exact jab _ _
 have hb0:=heap_alloc_new w (.cells #[.string op,.string nam,.slice ia il ic,.string out,.slice ao al cap] 25);rw [← hw0] at hb0;have BX:Hid (∀ wx,w0.grownBy wx none→wx.heap[w.heap.size]?=some (.cells #[.string op,.string nam,.slice ia il ic,.string out,.slice ao al cap] 25 (0,0))):=fun wx hg=>jag hb0 hg;clear hb0 hn;simp only at hop;subst hop;have z0:(w.alloc (.cells #[.string ⟨#[83,111,102,116,109,97,120]⟩,.string nam,.slice ia il ic,.string out,.slice ao al cap] 25)).cell? ⟨b,off+2,none⟩=some (.slice d0a d0n d0c):=jae Z0.out (jab _ _);have FEW:=hf.few;obtain ⟨xx,xcc,ex,f1,f2,f3⟩:=HX.out.sl;simp only [Sl.v,Value.slice.injEq] at ex;obtain ⟨rfl,rfl,rfl⟩:=ex;have AL:=jac (jdB ⟨⟨#[83,111,102,116,109,97,120]⟩,nam,⟨ia,il,ic⟩,out,⟨ao,al,cap⟩⟩ A x.length w0 (NK.out.more g0.out) (by omega));unfold jaz at AL;simp only at AL;go_enter Tryz.func75,Tryz.ntmps75;go_wp2_with fail;rw [← hw0];clear hw0;refine AL.out.mono ?_;rintro e w1 ⟨⟨l1,l2,l3⟩,rfl,hl,hg1⟩;have C:=jac (jcC ⟨l1,l2,l3⟩ _ x.length w1 hl (by omega));have G1:=jac (jaa g0.out hg1);simp only [Sl.v] at C ⊢;clear hl hg1 AL
 cases hk:jb7 (jca A x.length) x.length with
 | error c =>
  rw [hk] at C;have HK:Hid ((jb7 (jca A x.length) x.length).bind (fun _=>.ok x)=.error c):=by show _=_;rw [hk];rfl
  clear hk;go_wp2_with (first | (go_at_call 108;refine C.out.mono ?_;rintro e w' ⟨hg,rfl⟩) | fail);exact ⟨rfl,jai (by first | exact HK.out | rfl) (jaa G1.out hg)⟩
 | ok is =>
  rw [hk] at C;have HK:Hid ((jb7 (jca A x.length) x.length).bind (fun _=>.ok x)=.ok x):=by show _=_;rw [hk];rfl
  clear hk;go_wp2_with (first | (go_at_call 108;refine C.out.mono ?_;rintro e w' ⟨hg,v,rfl,B,rfl,-,-⟩) | fail);go_ret;exact jap (by first | exact HK.out | rfl) (jaa G1.out hg) ⟨⟨d0a,x.length,d0c⟩,rfl,HX.out.more (jaa G1.out hg)⟩
theorem jeP (n:Nod) (A:At) (u:Sl) (w:World) (hop:n.op=⟨#[67,111,110,115,116,97,110,116]⟩) (hn:NodeOk w n A) (D:List Int) (hD:IsInts w (jfv A).dv.v D):Calls Tryz.prog 75 #[jaz n,.slice u.a u.n u.c] w (jaJ w (.ok D) jbd):=by
 obtain ⟨ua,un,uc⟩:=u;simp only;have NK:=jac hn;obtain ⟨op,nam,⟨ia,il,ic⟩,out,⟨ao,al,cap⟩⟩:=n;unfold jaz;simp only;obtain ⟨w0,hw0⟩ : ∃ w0,w0=w.alloc (.cells #[.string op,.string nam,.slice ia il ic,.string out,.slice ao al cap] 25):=⟨_,rfl⟩
 have g0:Hid (w.grownBy w0 none):=by show w.grownBy w0 none;rw [hw0];exact jab _ _
 have hb0:=heap_alloc_new w (.cells #[.string op,.string nam,.slice ia il ic,.string out,.slice ao al cap] 25);rw [← hw0] at hb0;have BX:Hid (∀ wx,w0.grownBy wx none→wx.heap[w.heap.size]?=some (.cells #[.string op,.string nam,.slice ia il ic,.string out,.slice ao al cap] 25 (0,0))):=fun wx hg=>jag hb0 hg;clear hb0 hn;simp only at hop;subst hop;have V0:=jac (jeN ⟨⟨#[67,111,110,115,116,97,110,116]⟩,nam,⟨ia,il,ic⟩,out,⟨ao,al,cap⟩⟩ A w0 (NK.out.more g0.out));unfold jaz at V0;simp only at V0;have hfl:=jmj;have HD:=jac hD;clear hD;go_enter Tryz.func75,Tryz.ntmps75;go_wp2_with fail;rw [← hw0];clear hw0;refine V0.out.mono ?_;rintro e w1 ⟨rfl,hg1⟩;go_wp2;go_ret;exact ⟨jaa g0.out hg1,_,rfl,(jfv A).dv,rfl,HD.out.more (jaa g0.out hg1)⟩
theorem jdf (n:Nod) (A:At) (u:Sl) (p0 p1:Val×List Int) (rest:List (Val×List Int)) (w:World) (hop:n.op=⟨#[66,97,116,99,104,78,111,114,109,97,108,105,122,97,116,105,111,110]⟩) (hn:NodeOk w n A) (hv:ValsIn w u.v (p0::p1::rest)) (hr:rest.length≤1000000):Calls Tryz.prog 75 #[jaz n,.slice u.a u.n u.c] w (jaJ w (jbl p0.2 ((p1::rest).map (·.2))) jbd):=by
 obtain ⟨xa,xc,e1,q1,q2,q3⟩:=hv.vals.form;rw [List.length_map] at e1 q1 q3;obtain ⟨ua,un,uc⟩:=u;simp only [Sl.v,Value.slice.injEq] at e1;obtain ⟨rfl,rfl,rfl⟩:=e1;obtain ⟨b,off,rfl⟩:=hv.vals.addr (k:=0) (by simp);obtain ⟨-,z0⟩:=hv.at 0 (by simp);rw [Nat.zero_mul,Nat.add_zero] at z0;simp only [List.getElem_cons_zero] at z0;have HV:=jac hv;obtain ⟨⟨vn0,vt0,⟨d0a,d0n,d0c⟩⟩,x⟩:=p0;simp only at z0;have Z0:=jac z0;obtain ⟨m,hm⟩ : ∃ m,m=((((⟨vn0,vt0,⟨d0a,d0n,d0c⟩⟩,x):Val×List Int)::p1::rest):List (Val×List Int)).length:=⟨_,rfl⟩
 have hm0:0<m:=by rw [hm];simp
 have hm0':(0:Int)<(m:Int):=by omega
 have HM:=jac hm;rw [← hm] at q1 q3 ⊢;clear hv z0 hm;have NK:=jac hn;obtain ⟨op,nam,⟨ia,il,ic⟩,out,⟨ao,al,cap⟩⟩:=n;unfold jaz;simp only;obtain ⟨w0,hw0⟩ : ∃ w0,w0=w.alloc (.cells #[.string op,.string nam,.slice ia il ic,.string out,.slice ao al cap] 25):=⟨_,rfl⟩
 have g0:Hid (w.grownBy w0 none):=by show w.grownBy w0 none;rw [hw0];exact jab _ _
 have hb0:=heap_alloc_new w (.cells #[.string op,.string nam,.slice ia il ic,.string out,.slice ao al cap] 25);rw [← hw0] at hb0;have BX:Hid (∀ wx,w0.grownBy wx none→wx.heap[w.heap.size]?=some (.cells #[.string op,.string nam,.slice ia il ic,.string out,.slice ao al cap] 25 (0,0))):=fun wx hg=>jag hb0 hg;clear hb0 hn;simp only at hop;subst hop;have z0:(w.alloc (.cells #[.string ⟨#[66,97,116,99,104,78,111,114,109,97,108,105,122,97,116,105,111,110]⟩,.string nam,.slice ia il ic,.string out,.slice ao al cap] 25)).cell? ⟨b,off+2,none⟩=some (.slice d0a d0n d0c):=jae Z0.out (jab _ _);have C:=jac (jgC ⟨some ⟨b,off,none⟩,m,uc⟩ _ p1 rest w0 (by rw [HM.out];exact HV.out.more g0.out) hr);simp only at C;go_enter Tryz.func75,Tryz.ntmps75;go_wp2_with fail;rw [← hw0];clear hw0
 cases hk:jbl x ((p1::rest).map (·.2)) with
 | error c =>
  rw [hk] at C;have HK:=jac hk;clear hk;refine C.out.mono ?_;rintro e w' ⟨hg,rfl⟩;exact ⟨rfl,jai (by first | exact HK.out | rfl) (jaa g0.out hg)⟩
 | ok zs =>
  rw [hk] at C;have HK:=jac hk;clear hk;refine C.out.mono ?_;rintro e w' ⟨hg,v,rfl,⟨s1,s2,s3⟩,rfl,hs⟩;simp only [Sl.v];go_wp2;go_ret;exact jap (by first | exact HK.out | rfl) (jaa g0.out hg) ⟨⟨s1,s2,s3⟩,rfl,hs⟩
theorem joV (n:Nod) (A:At) (u:Sl) (p0 p1:Val×List Int) (rest:List (Val×List Int)) (w:World) (hop:n.op=⟨#[71,101,109,109]⟩) (hn:NodeOk w n A) (hv:ValsIn w u.v (p0::p1::rest)) (hr:rest.length≤1):Calls Tryz.prog 75 #[jaz n,.slice u.a u.n u.c] w (jaJ w (jdc A p0.2 p1.2 (rest.head?.map (·.2))) jbd):=by
 obtain ⟨xa,xc,e1,q1,q2,q3⟩:=hv.vals.form;rw [List.length_map] at e1 q1 q3;obtain ⟨ua,un,uc⟩:=u;simp only [Sl.v,Value.slice.injEq] at e1;obtain ⟨rfl,rfl,rfl⟩:=e1;obtain ⟨b,off,rfl⟩:=hv.vals.addr (k:=0) (by simp);obtain ⟨-,z0⟩:=hv.at 0 (by simp);rw [Nat.zero_mul,Nat.add_zero] at z0;simp only [List.getElem_cons_zero] at z0;have HV:=jac hv;obtain ⟨⟨vn0,vt0,⟨d0a,d0n,d0c⟩⟩,x⟩:=p0;simp only at z0;have Z0:=jac z0;obtain ⟨m,hm⟩ : ∃ m,m=((((⟨vn0,vt0,⟨d0a,d0n,d0c⟩⟩,x):Val×List Int)::p1::rest):List (Val×List Int)).length:=⟨_,rfl⟩
 have hm0:0<m:=by rw [hm];simp
 have hm0':(0:Int)<(m:Int):=by omega
 have HM:=jac hm;rw [← hm] at q1 q3 ⊢;clear hv z0 hm;have NK:=jac hn;obtain ⟨op,nam,⟨ia,il,ic⟩,out,⟨ao,al,cap⟩⟩:=n;unfold jaz;simp only;obtain ⟨w0,hw0⟩ : ∃ w0,w0=w.alloc (.cells #[.string op,.string nam,.slice ia il ic,.string out,.slice ao al cap] 25):=⟨_,rfl⟩
 have g0:Hid (w.grownBy w0 none):=by show w.grownBy w0 none;rw [hw0];exact jab _ _
 have hb0:=heap_alloc_new w (.cells #[.string op,.string nam,.slice ia il ic,.string out,.slice ao al cap] 25);rw [← hw0] at hb0;have BX:Hid (∀ wx,w0.grownBy wx none→wx.heap[w.heap.size]?=some (.cells #[.string op,.string nam,.slice ia il ic,.string out,.slice ao al cap] 25 (0,0))):=fun wx hg=>jag hb0 hg;clear hb0 hn;simp only at hop;subst hop;have z0:(w.alloc (.cells #[.string ⟨#[71,101,109,109]⟩,.string nam,.slice ia il ic,.string out,.slice ao al cap] 25)).cell? ⟨b,off+2,none⟩=some (.slice d0a d0n d0c):=jae Z0.out (jab _ _);have C:=jac (jrj ⟨⟨#[71,101,109,109]⟩,nam,⟨ia,il,ic⟩,out,⟨ao,al,cap⟩⟩ A ⟨some ⟨b,off,none⟩,m,uc⟩ _ p1 rest w0 (NK.out.more g0.out) (by rw [HM.out];exact HV.out.more g0.out) hr);unfold jaz at C;simp only at C;go_enter Tryz.func75,Tryz.ntmps75;go_wp2_with fail;rw [← hw0];clear hw0
 cases hk:jdc A x p1.2 (rest.head?.map (·.2)) with
 | error c =>
  rw [hk] at C;have HK:=jac hk;clear hk;refine C.out.mono ?_;rintro e w' ⟨hg,rfl⟩;exact ⟨rfl,jai (by first | exact HK.out | rfl) (jaa g0.out hg)⟩
 | ok zs =>
  rw [hk] at C;have HK:=jac hk;clear hk;refine C.out.mono ?_;rintro e w' ⟨hg,v,rfl,⟨s1,s2,s3⟩,rfl,hs⟩;simp only [Sl.v];go_wp2;go_ret;exact jap (by first | exact HK.out | rfl) (jaa g0.out hg) ⟨⟨s1,s2,s3⟩,rfl,hs⟩
theorem jdu (n:Nod) (A:At) (u:Sl) (v0:Val) (x:List Int) (w:World) (hop:n.op=⟨#[71,108,111,98,97,108,65,118,101,114,97,103,101,80,111,111,108]⟩) (hn:NodeOk w n A) (hv:ValsIn w u.v [(v0,x)])  : Calls Tryz.prog 75 #[jaz n,.slice u.a u.n u.c] w (jaJ w ((jal (decide (x.length=4))).bind (fun _=>.ok [x.getD 0 0,x.getD 1 0,1,1])) jbd):=by
 obtain ⟨xa,xc,e1,q1,q2,q3⟩:=hv.vals.form;simp only [List.map_cons,List.map_nil,List.length_cons,List.length_nil,Nat.zero_add] at e1 q1 q3;obtain ⟨ua,un,uc⟩:=u;simp only [Sl.v,Value.slice.injEq] at e1;obtain ⟨rfl,rfl,rfl⟩:=e1;obtain ⟨b,off,rfl⟩:=hv.vals.addr (k:=0) (by simp);obtain ⟨-,z0⟩:=hv.at 0 (by simp);rw [Nat.zero_mul,Nat.add_zero] at z0;simp only [List.getElem_cons_zero] at z0;have HX:=jac (hv.dims (v0,x) (by simp));obtain ⟨vn0,vt0,⟨d0a,d0n,d0c⟩⟩:=v0;simp only at z0 HX;have Z0:=jac z0;clear hv z0;have NK:=jac hn;obtain ⟨op,nam,⟨ia,il,ic⟩,out,⟨ao,al,cap⟩⟩:=n;unfold jaz;simp only;obtain ⟨w0,hw0⟩ : ∃ w0,w0=w.alloc (.cells #[.string op,.string nam,.slice ia il ic,.string out,.slice ao al cap] 25):=⟨_,rfl⟩
 have g0:Hid (w.grownBy w0 none):=by show w.grownBy w0 none;rw [hw0];exact jab _ _
 have hb0:=heap_alloc_new w (.cells #[.string op,.string nam,.slice ia il ic,.string out,.slice ao al cap] 25);rw [← hw0] at hb0;have BX:Hid (∀ wx,w0.grownBy wx none→wx.heap[w.heap.size]?=some (.cells #[.string op,.string nam,.slice ia il ic,.string out,.slice ao al cap] 25 (0,0))):=fun wx hg=>jag hb0 hg;clear hb0 hn;simp only at hop;subst hop;have z0:(w.alloc (.cells #[.string ⟨#[71,108,111,98,97,108,65,118,101,114,97,103,101,80,111,111,108]⟩,.string nam,.slice ia il ic,.string out,.slice ao al cap] 25)).cell? ⟨b,off+2,none⟩=some (.slice d0a d0n d0c):=jae Z0.out (jab _ _);obtain ⟨xx,xcc,ex,f1,f2,f3⟩:=HX.out.sl;simp only [Sl.v,Value.slice.injEq] at ex;obtain ⟨rfl,rfl,rfl⟩:=ex
 by_cases hl:x.length=4
 ·have b0:((x.length:Int)==4)=true:=by simp [hl]
  have HK:Hid ((jal (decide (x.length=4))).bind (fun _=>.ok [x.getD 0 0,x.getD 1 0,1,1])=.ok [x.getD 0 0,x.getD 1 0,1,1]):=by show _=_;simp [jal,hl];rfl
  obtain ⟨xb,xo,rfl,hcx⟩:=HX.out.get (k:=0) (by omega);have X0:=hcx 0 (by omega);have X1:=hcx 1 (by omega);have b0':=HX.out.wf (x.getD 0 0) (jaU (by omega));have b1':=HX.out.wf (x.getD 1 0) (jaU (by omega));rw [Nat.add_zero] at X0;obtain ⟨x0,hx0⟩ : ∃ z,z=x.getD 0 0:=⟨_,rfl⟩
  obtain ⟨x1,hx1⟩ : ∃ z,z=x.getD 1 0:=⟨_,rfl⟩
  rw [← hx0] at X0 b0';rw [← hx1] at X1 b1';have HX0:=jac hx0;have HX1:=jac hx1;have y0:=jae X0 g0.out;have y1:=jae X1 g0.out;have l0:(0:Int)<(x.length:Int):=by omega
  have l1:(1:Int)<(x.length:Int):=by omega
  have m0:0<x.length:=by omega
  have m1:1<x.length:=by omega
  clear hx0 hx1 hl hcx X0 X1;go_enter Tryz.func75,Tryz.ntmps75;go_wp2_with (first | (go_at_call 71;refine (jaq _).mono ?_;rintro e w' ⟨rfl,rfl⟩) | fail);rw [← hw0];clear hw0 z0;go_region_held3 (fun w'=>w'.cell? ⟨xb,xo,none⟩=some (.int .i64 x0)∧w'.cell? ⟨xb,xo+1,none⟩=some (.int .i64 x1)) (go_keep) (fail);go_wp2;go_ret;exact jap HK.out (jaa (jaf g0.out) (jab _ _)) ⟨⟨_,4,4⟩,rfl,by rw [← HX0.out,← HX1.out];exact jbu _ [x0,x1,1,1] 3 (by simp) (fun y hy=>by simp at hy;rcases hy with rfl | rfl | rfl | rfl <;> first | assumption | omega)⟩
 ·have b0:((x.length:Int)==4)=false:=by simpa using (fun h=>hl (by omega):¬ (x.length:Int)=4)
  have HK:Hid ((jal (decide (x.length=4))).bind (fun _=>.ok [x.getD 0 0,x.getD 1 0,1,1])=.error 4):=by show _=_;simp [jal,hl];rfl
  clear hl;go_enter Tryz.func75,Tryz.ntmps75;go_wp2_with (first | (go_at_call 71;refine (jav _).mono ?_;rintro e w' ⟨rfl,rfl⟩) | fail);rw [← hw0];exact ⟨rfl,jai HK.out g0.out⟩
end Go.Proofs.YteigfipgmghgmaaGreatDoor
