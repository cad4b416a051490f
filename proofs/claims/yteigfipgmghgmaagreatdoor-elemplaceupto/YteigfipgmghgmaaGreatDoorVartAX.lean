/- A part. -/
import Derived.Test.YteigfipgmghgmaaGreatDoorMVart
import Derived.Test.YteigfipgmghgmaaGreatDoorVartAU
import Derived.Test.YteigfipgmghgmaaGreatDoorVartAO
import Derived.Test.YteigfipgmghgmaaGreatDoorVartAP
set_option maxHeartbeats 16000000
set_option maxRecDepth 100000
namespace Go.Proofs.YteigfipgmghgmaaGreatDoor
open Go.RowKit
theorem ValsIn.tail {w:World} {b off n c:Nat} {p:Val×List Int} {l:List (Val×List Int)} (h:ValsIn w (.slice (some ⟨b,off,none⟩) n c) (p::l)):ValsIn w (.slice (some ⟨b,off+3,none⟩) l.length (c - 1)) l:=by
 refine ⟨?_,fun q hq=>h.dims q (List.mem_cons_of_mem _ hq)⟩;obtain ⟨ao,cap,e,h1,h2,h3,h4,h5⟩:=h.vals
 cases e
 simp only [List.map_cons,List.length_cons] at h1 h3 h5;refine ⟨_,c - 1,by rw [List.length_map],by omega,by omega,by omega,(fun h=>by cases h),fun hp=>⟨b,off+3,rfl,fun k hk j hj=>?_⟩⟩;obtain ⟨b',off',e',hc⟩:=h5 (by omega)
 cases e'
 have:=hc (k+1) (by omega) j hj;simp only [List.getElem_cons_succ] at this;rw [show off+3+k*3+j=off+(k+1)*3+j by omega];exact this
theorem jmq (n:Nod) (A:At) (u:Sl) (p0 p1 p2:Val×List Int) (w:World) (hop:n.op=⟨#[87,104,101,114,101]⟩) (hn:NodeOk w n A) (hv:ValsIn w u.v [p0,p1,p2]):Calls Tryz.prog 74 #[jaz n,.slice u.a u.n u.c] w (jaJ w ((jal (p0.1.ty==9)).bind (fun _=>jaO (jaD [p1,p2]))) fun t v _=>v=.int .i64 t):=by
 obtain ⟨xa,xc,e1,q1,q2,q3⟩:=hv.vals.form;simp only [List.map_cons,List.map_nil,List.length_cons,List.length_nil,Nat.zero_add,Nat.reduceAdd] at e1 q1 q3;obtain ⟨ua,un,uc⟩:=u;simp only [Sl.v,Value.slice.injEq] at e1;obtain ⟨rfl,rfl,rfl⟩:=e1;obtain ⟨b,off,rfl⟩:=hv.vals.addr (k:=0) (by simp);obtain ⟨z1,-⟩:=hv.at 0 (by simp);rw [Nat.zero_mul,Nat.add_zero] at z1;simp only [List.getElem_cons_zero] at z1;have HT:=jac hv.tail;simp only [List.length_cons,List.length_nil,Nat.zero_add,Nat.reduceAdd] at HT;have Z1:=jac z1;have huc:¬ uc=1:=by omega
 have huc2:1≤uc:=by omega
 obtain ⟨T,hT⟩ : ∃ T,T=p0.1.ty:=⟨_,rfl⟩
 rw [← hT] at Z1 ⊢;clear hv z1 hT;have NK:=jac hn;obtain ⟨op,nam,⟨ia,il,ic⟩,out,⟨ao,al,cap⟩⟩:=n;unfold jaz;simp only;obtain ⟨w0,hw0⟩ : ∃ w0,w0=w.alloc (.cells #[.string op,.string nam,.slice ia il ic,.string out,.slice ao al cap] 25):=⟨_,rfl⟩
 have g0:Hid (w.grownBy w0 none):=by show w.grownBy w0 none;rw [hw0];exact jab _ _
 have hb0:=heap_alloc_new w (.cells #[.string op,.string nam,.slice ia il ic,.string out,.slice ao al cap] 25);rw [← hw0] at hb0;have BX:Hid (∀ wx,w0.grownBy wx none→wx.heap[w.heap.size]?=some (.cells #[.string op,.string nam,.slice ia il ic,.string out,.slice ao al cap] 25 (0,0))):=fun wx hg=>jag hb0 hg;clear hb0 hn;simp only at hop;subst hop;have z2:(w.alloc (.cells #[.string ⟨#[87,104,101,114,101]⟩,.string nam,.slice ia il ic,.string out,.slice ao al cap] 25)).cell? ⟨b,off+1,none⟩=some (.int .i64 T):=jae Z1.out (jab _ _);have SM:=jac (jbt ⟨some ⟨b,off+3,none⟩,2,uc - 1⟩ [p1,p2] w0 (HT.out.more g0.out) (by simp) (by simp));simp only at SM
 cases h1:(T==9) with
 | false =>
  go_enter Tryz.func74,Tryz.ntmps74;go_wp2_with (first | (go_at_call 71;refine (jav _).mono ?_;rintro e w' ⟨rfl,rfl⟩) | fail);exact ⟨rfl,jai (by rfl) (by rw [← hw0];exact g0.out)⟩
 | true =>
  go_enter Tryz.func74,Tryz.ntmps74;go_wp2_with (first | (go_at_call 71;refine (jaq _).mono ?_;rintro e w' ⟨rfl,rfl⟩) | fail);rw [← hw0];clear hw0
  cases hk:jaO ([p1,p2].map (·.1.ty)) with
  | error c =>
   rw [hk] at SM;have HK:Hid (jaO (jaD [p1,p2])=.error c):=hk;clear hk;refine SM.out.mono ?_;rintro e w' ⟨hg,rfl⟩;exact ⟨rfl,jai HK.out (jaa g0.out hg)⟩
  | ok t =>
   rw [hk] at SM;have HK:Hid (jaO (jaD [p1,p2])=.ok t):=hk;clear hk;refine SM.out.mono ?_;rintro e w' ⟨hg,v,rfl,rfl⟩;go_wp2;go_ret;exact jap HK.out (jaa g0.out hg) rfl
theorem jmr (n:Nod) (A:At) (u:Sl) (v0 v1 v2:Val) (x y z:List Int) (w:World) (hop:n.op=⟨#[87,104,101,114,101]⟩) (hn:NodeOk w n A) (hv:ValsIn w u.v [(v0,x),(v1,y),(v2,z)]):Calls Tryz.prog 75 #[jaz n,.slice u.a u.n u.c] w (jaJ w ((jaE x y).bind (fun l=>jaE l z)) jbd):=by
 obtain ⟨xa,xc,e1,q1,q2,q3⟩:=hv.vals.form;simp only [List.map_cons,List.map_nil,List.length_cons,List.length_nil,Nat.zero_add,Nat.reduceAdd] at e1 q1 q3;obtain ⟨ua,un,uc⟩:=u;simp only [Sl.v,Value.slice.injEq] at e1;obtain ⟨rfl,rfl,rfl⟩:=e1;obtain ⟨b,off,rfl⟩:=hv.vals.addr (k:=0) (by simp);obtain ⟨-,z0⟩:=hv.at 0 (by simp);obtain ⟨-,z1⟩:=hv.at 1 (by simp);obtain ⟨-,z2⟩:=hv.at 2 (by simp);rw [Nat.zero_mul,Nat.add_zero] at z0;simp only [List.getElem_cons_zero,List.getElem_cons_succ,Nat.one_mul,Nat.reduceMul] at z0 z1 z2;have HX:=jac (hv.dims (v0,x) (by simp));have HY:=jac (hv.dims (v1,y) (by simp));have HZ:=jac (hv.dims (v2,z) (by simp));obtain ⟨vn0,vt0,⟨d0a,d0n,d0c⟩⟩:=v0;obtain ⟨vn1,vt1,d1⟩:=v1;obtain ⟨vn2,vt2,d2⟩:=v2;simp only at z0 z1 z2 HX HY HZ;have Z0:=jac z0;have Z1:=jac z1;have Z2:=jac z2;clear hv z0 z1 z2;have NK:=jac hn;obtain ⟨op,nam,⟨ia,il,ic⟩,out,⟨ao,al,cap⟩⟩:=n;unfold jaz;simp only;obtain ⟨w0,hw0⟩ : ∃ w0,w0=w.alloc (.cells #[.string op,.string nam,.slice ia il ic,.string out,.slice ao al cap] 25):=⟨_,rfl⟩
 have g0:Hid (w.grownBy w0 none):=by show w.grownBy w0 none;rw [hw0];exact jab _ _
 have hb0:=heap_alloc_new w (.cells #[.string op,.string nam,.slice ia il ic,.string out,.slice ao al cap] 25);rw [← hw0] at hb0;have BX:Hid (∀ wx,w0.grownBy wx none→wx.heap[w.heap.size]?=some (.cells #[.string op,.string nam,.slice ia il ic,.string out,.slice ao al cap] 25 (0,0))):=fun wx hg=>jag hb0 hg;clear hb0 hn;simp only at hop;subst hop;have z0:(w.alloc (.cells #[.string ⟨#[87,104,101,114,101]⟩,.string nam,.slice ia il ic,.string out,.slice ao al cap] 25)).cell? ⟨b,off+2,none⟩=some (.slice d0a d0n d0c):=jae Z0.out (jab _ _);have S1:=jac (fun (wx:World) (hg:w0.grownBy wx none)=>spread_any ⟨d0a,d0n,d0c⟩ d1 x y wx (HX.out.more (jaa g0.out hg)) (HY.out.more (jaa g0.out hg)));simp only at S1;have i1:(1:Int)<3:=by decide
 have i2:(2:Int)<3:=by decide
 go_enter Tryz.func75,Tryz.ntmps75;go_wp2_with fail;rw [← hw0];clear hw0 z0;have k1:=jae Z1.out g0.out;have k2:=jae Z2.out g0.out
 cases hk1:jaE x y with
 | error c =>
  rw [hk1] at S1;have E1:Hid ((jaE x y).bind (fun l=>jaE l z)=.error c):=by show _=_;rw [hk1];rfl
  refine wp_region_held_drew (S:=(fun w'=>w'.cell? ⟨b,off+3+2,none⟩=some (.slice d1.a d1.n d1.c)∧w'.cell? ⟨b,off+6+2,none⟩=some (.slice d2.a d2.n d2.c))) (by kernel_rfl) (by go_keep) (fun hHeld=>?_);refine tkA 0 ?_
  try simp only [Act.put]
  refine tkA 1 ?_
  try simp only [Act.put]
  refine tkA 2 ?_
  try simp only [Act.put]
  refine tkA 3 ?_
  try simp only [Act.put]
  refine tkA 4 ?_
  try simp only [Act.put]
  refine tkA 6 ?_
  try simp only [Act.put]
  refine tkA 7 ?_
  try simp only [Act.put]
  refine tkA 8 ?_
  try simp only [Act.put]
  refine tkA 9 ?_
  try simp only [Act.put]
  refine wpAnyH_ready (rs:=[5]) (by kernel_rfl) (by simp) ?_;refine AllReadyH.cons rfl (fun K hK=>?_) ?_
  ·skip
   go_simp;refine (S1.out _ (jaf (jad _))).mono ?_;rintro e wy ⟨hg,rfl⟩;exact ⟨rfl,jai E1.out (jaa (jaf g0.out) hg)⟩
  exact AllReadyH.nil
 | ok l =>
  rw [hk1] at S1
  cases hk2:jaE l z with
  | error c =>
   have E2:Hid ((jaE x y).bind (fun l=>jaE l z)=.error c):=by show _=_;rw [hk1];exact hk2
   refine wp_region_held_drew (S:=(fun w'=>w'.cell? ⟨b,off+3+2,none⟩=some (.slice d1.a d1.n d1.c)∧w'.cell? ⟨b,off+6+2,none⟩=some (.slice d2.a d2.n d2.c))) (by kernel_rfl) (by go_keep) (fun hHeld=>?_);refine tkA 0 ?_
   try simp only [Act.put]
   refine tkA 1 ?_
   try simp only [Act.put]
   refine tkA 2 ?_
   try simp only [Act.put]
   refine tkA 3 ?_
   try simp only [Act.put]
   refine tkA 4 ?_
   try simp only [Act.put]
   refine tkA 6 ?_
   try simp only [Act.put]
   refine tkA 7 ?_
   try simp only [Act.put]
   refine tkA 8 ?_
   try simp only [Act.put]
   refine tkA 9 ?_
   try simp only [Act.put]
   refine wpAnyH_ready (rs:=[5]) (by kernel_rfl) (by simp) ?_;refine AllReadyH.cons rfl (fun K hK=>?_) ?_
   ·skip
    go_simp;refine (S1.out _ (jaf (jad _))).mono ?_;rintro e w1 ⟨hg1,v,rfl,⟨s1,s2,s3⟩,rfl,hs⟩;have g1:w.grownBy w1 none:=jaa (jaf g0.out) hg1;have k1:=jae Z1.out g1;have k2:=jae Z2.out g1;have C2:=spread_any ⟨s1,s2,s3⟩ d2 l z w1 hs.ints (HZ.out.more g1);rw [hk2] at C2
    try dsimp only
    refine hK.out _ _ (by first | assumption | go_keep) (fun hHeld=>?_);clear hK K
    try simp only [Act.put]
    refine wpAnyH_ready (rs:=[10]) (by kernel_rfl) (by simp) ?_;refine AllReadyH.cons rfl (fun K hK=>?_) ?_
    ·skip
     go_simp;refine C2.mono ?_;rintro e wy ⟨hg,rfl⟩;exact ⟨rfl,jai (by first | exact E2.out | exact hk2) (jaa g1 hg)⟩
    exact AllReadyH.nil
   exact AllReadyH.nil
  | ok zs =>
   have E2:Hid ((jaE x y).bind (fun l=>jaE l z)=.ok zs):=by show _=_;rw [hk1];exact hk2
   refine wp_region_held_drew (S:=(fun w'=>w'.cell? ⟨b,off+3+2,none⟩=some (.slice d1.a d1.n d1.c)∧w'.cell? ⟨b,off+6+2,none⟩=some (.slice d2.a d2.n d2.c))) (by kernel_rfl) (by go_keep) (fun hHeld=>?_);refine tkA 0 ?_
   try simp only [Act.put]
   refine tkA 1 ?_
   try simp only [Act.put]
   refine tkA 2 ?_
   try simp only [Act.put]
   refine tkA 3 ?_
   try simp only [Act.put]
   refine tkA 4 ?_
   try simp only [Act.put]
   refine tkA 6 ?_
   try simp only [Act.put]
   refine tkA 7 ?_
   try simp only [Act.put]
   refine tkA 8 ?_
   try simp only [Act.put]
   refine tkA 9 ?_
   try simp only [Act.put]
   refine wpAnyH_ready (rs:=[5]) (by kernel_rfl) (by simp) ?_;refine AllReadyH.cons rfl (fun K hK=>?_) ?_
   ·skip
    go_simp;refine (S1.out _ (jaf (jad _))).mono ?_;rintro e w1 ⟨hg1,v,rfl,⟨s1,s2,s3⟩,rfl,hs⟩;have g1:w.grownBy w1 none:=jaa (jaf g0.out) hg1;have k1:=jae Z1.out g1;have k2:=jae Z2.out g1;have C2:=spread_any ⟨s1,s2,s3⟩ d2 l z w1 hs.ints (HZ.out.more g1);rw [hk2] at C2
    try dsimp only
    refine hK.out _ _ (by first | assumption | go_keep) (fun hHeld=>?_);clear hK K
    try simp only [Act.put]
    refine wpAnyH_ready (rs:=[10]) (by kernel_rfl) (by simp) ?_;refine AllReadyH.cons rfl (fun K hK=>?_) ?_
    ·skip
     go_simp;refine C2.mono ?_;rintro e w2 ⟨hg2,v,rfl,⟨r1,r2,r3⟩,rfl,hr⟩;have g2:w.grownBy w2 none:=jaa g1 hg2;have k1:=jae Z1.out g2;have k2:=jae Z2.out g2
     try dsimp only
     refine hK.out _ _ (by first | assumption | go_keep) (fun hHeld=>?_);clear hK K
     try simp only [Act.put]
     refine tkA 11 ?_
     try simp only [Act.put]
     refine wpAnyH_done (by kernel_rfl) ?_ _
     try go_simp
     simp only [Sl.v];go_wp2;go_ret;exact jap (by first | exact E2.out | exact hk2) g2 ⟨⟨r1,r2,r3⟩,rfl,hr.ints⟩
    exact AllReadyH.nil
   exact AllReadyH.nil
end Go.Proofs.YteigfipgmghgmaaGreatDoor
namespace Go.Proofs.YteigfipgmghgmaaGreatDoor
open Go.RowKit
theorem jms {axis:Nat} {ys:List (List Int)} {k:Nat} (hk:k<ys.length) (dims:List Int):je0 axis (ys.drop k) dims=(jal (decide (ys[k].length=dims.length))).bind (fun _=>(jal (jjR dims axis ys[k])).bind (fun _=>je0 axis (ys.drop (k+1)) (dims.set axis (dims.getD axis 0+ys[k].getD axis 0)))):=by
 rw [List.drop_eq_getElem_cons hk]
 rfl
theorem jf5 {l:List Int} {k:Nat} (hk:k<l.length):l.getD k 0∈l:=by
 rw [List.getD,List.getElem?_eq_getElem hk];exact List.getElem_mem hk
theorem joW {dims y:List Int} {axis i:Nat} (hi:i<y.length) (ha:i≠axis) (h:y.getD i 0≠dims.getD i 0):jjR dims axis y=false:=by
 unfold jjR;rw [List.all_eq_false];exact ⟨i,List.mem_range.2 hi,by rw [Bool.not_eq_true,Bool.or_eq_false_iff];exact ⟨by simpa using ha,by simpa using h⟩⟩
theorem jmt {dims y:List Int} {axis:Nat} (h:∀ i,i<y.length→i=axis∨y.getD i 0=dims.getD i 0):jjR dims axis y=true:=by
 unfold jjR;rw [List.all_eq_true];intro i hi
 rcases h i (List.mem_range.1 hi) with h1 | h1
 ·simp [h1]
 ·rw [Bool.or_eq_true];exact .inr (by simpa using h1)
theorem jmu (n:Nod) (A:At) (u:Sl) (p0:Val×List Int) (rs:List (Val×List Int)) (w:World) (hn:NodeOk w n A) (hv:ValsIn w u.v (p0::rs)) (hr:rs.length≤19) (hf:∀ p∈p0::rs,Fine p.2):Calls Tryz.prog 115 #[jaz n,.slice u.a u.n u.c] w (jaJ w (jcI A p0.2 (rs.map (·.2))) jbd):=by
 obtain ⟨xa,xc,e1,q1,q2,q3⟩:=hv.vals.form;rw [List.length_map] at e1 q1 q3;obtain ⟨ua,un,uc⟩:=u;simp only [Sl.v,Value.slice.injEq] at e1;obtain ⟨rfl,rfl,rfl⟩:=e1;have HV:=jac hv;obtain ⟨b,off,rfl⟩:=hv.vals.addr (k:=0) (by simp);obtain ⟨-,z0⟩:=hv.at 0 (by simp);rw [Nat.zero_mul,Nat.add_zero] at z0;simp only [List.getElem_cons_zero] at z0;have HX:=jac (hv.dims p0 (by simp));have HF:=jac hf;have FX:=jac (hf p0 (by simp));obtain ⟨⟨pn0,pt0,⟨d0a,d0n,d0c⟩⟩,x⟩:=p0;simp only at z0 HX FX ⊢;have FEW:=FX.out.few;have PB:Hid (∀ z∈x,1≤z∧z≤65536):=fun z hz=>⟨FX.out.pos z hz,FX.out.le_each hz⟩
 obtain ⟨m,hm⟩ : ∃ m,m=((((⟨pn0,pt0,⟨d0a,d0n,d0c⟩⟩,x):Val×List Int)::rs):List (Val×List Int)).length:=⟨_,rfl⟩
 have hm1:m=rs.length+1:=by rw [hm];simp
 rw [← hm] at q1 q3 ⊢;have hm0:0<m:=by omega
 have hm0':(0:Int)<(m:Int):=by omega
 have hm2:(1:Int)≤(m:Int):=by omega
 have hm3:1≤m:=by omega
 have huc2:1≤uc:=by omega
 have hmr:m - 1=rs.length:=by omega
 have Z0:=jac z0;have RG:=hn.int ⟨#[97,120,105,115]⟩ 0 (by omega);have hucr:rs.length+1≤uc:=by omega
 clear hv hm z0 hf;have NK:=jac hn;obtain ⟨op,nam,⟨ia,il,ic⟩,out,⟨ao,al,cap⟩⟩:=n;unfold jaz;simp only;obtain ⟨w0,hw0⟩ : ∃ w0,w0=w.alloc (.cells #[.string op,.string nam,.slice ia il ic,.string out,.slice ao al cap] 25):=⟨_,rfl⟩
 have g0:Hid (w.grownBy w0 none):=by show w.grownBy w0 none;rw [hw0];exact jab _ _
 have hb0:=heap_alloc_new w (.cells #[.string op,.string nam,.slice ia il ic,.string out,.slice ao al cap] 25);rw [← hw0] at hb0;have BX:Hid (∀ wx,w0.grownBy wx none→wx.heap[w.heap.size]?=some (.cells #[.string op,.string nam,.slice ia il ic,.string out,.slice ao al cap] 25 (0,0))):=fun wx hg=>jag hb0 hg;clear hb0 hn;have I0:=jac (fun (wx:World) (hg:w.grownBy wx none)=>jb2 ⟨op,nam,⟨ia,il,ic⟩,out,⟨ao,al,cap⟩⟩ A ⟨#[97,120,105,115]⟩ 0 wx (NK.out.more hg));have CL:=jac (jdX ⟨d0a,d0n,d0c⟩ x w0 (HX.out.more g0.out));unfold jaz at I0;simp only at I0 CL;obtain ⟨z,hz⟩ : ∃ z,z=A.int ⟨#[97,120,105,115]⟩ 0:=⟨_,rfl⟩
 rw [← hz] at I0 RG;have E0:Hid (jcI A x (rs.map (·.2))=(jd9 z x.length).bind (fun axis=>je0 axis (rs.map (·.2)) x)):=by show _=_;rw [hz];rfl
 have AO:=jac (fun wx=>je2 z x.length wx (by omega) RG.1);have z0:(w.alloc (.cells #[.string op,.string nam,.slice ia il ic,.string out,.slice ao al cap] 25)).cell? ⟨b,off+2,none⟩=some (.slice d0a d0n d0c):=jae Z0.out (jab _ _);clear hz hm1;go_enter Tryz.func115,Tryz.ntmps115;go_wp2_with fail;rw [← hw0];clear hw0 z0;refine CL.out.mono ?_;rintro e w1 ⟨⟨qa,qn,qc⟩,rfl,ho,hg1⟩;have HO:=jac ho;have hqn:qn=x.length:=by obtain ⟨a1,c4,e,-⟩:=ho.ints.sl;simp only [Sl.v,Value.slice.injEq] at e;exact e.2.1
 subst hqn;simp only;obtain ⟨n0,n1,n2,n3,n4⟩:=jak (n:=⟨op,nam,⟨ia,il,ic⟩,out,⟨ao,al,cap⟩⟩) (BX.out w1 (hg1));have G1:=jac (jaa g0.out hg1);clear ho hg1 CL;go_wp2_with fail;refine (I0.out w1 G1.out).mono ?_;rintro e w2 ⟨rfl,hg2⟩;have G2:=jac (jaa G1.out hg2);have HO2:=jac (HO.out.new hg2);clear hg2 HO I0 n0 n1 n2 n3 n4
 cases hk:jd9 z x.length with
 | error c =>
  rw [hk] at AO;have E:Hid (jcI A x (rs.map (·.2))=.error c):=by show _=_;rw [E0.out,hk];rfl
  clear hk;go_wp2_with (first | (go_at_call 117;refine (AO.out _).mono ?_;rintro e w' ⟨hg,rfl⟩) | fail);exact ⟨rfl,jai E.out (jaa G2.out hg)⟩
 | ok axis =>
  rw [hk] at AO;have E1:Hid (jcI A x (rs.map (·.2))=je0 axis (rs.map (·.2)) x):=by show _=_;rw [E0.out,hk];rfl
  have hax:axis<x.length:=by
   unfold jd9 at hk
   cases ha:jcs z x.length with
   | none=>rw [ha] at hk;cases hk
   | some i=>rw [ha] at hk;cases hk;exact jeF ha
  clear hk;obtain ⟨g,gcap,eo,hbg,hgl,hlc,hcm⟩:=HO2.out.shape (by omega);simp only [Sl.v,Value.slice.injEq] at eo;obtain ⟨rfl,-,rfl⟩:=eo;have HO3:=jac (HO2.out.base_le g0.out.size);have hwg:w.heap.size≤g:=Nat.le_trans g0.out.size hbg;simp only [Sl.v] at HO3;clear HO2;have hax':(axis:Int)<(x.length:Int):=by omega
  by_cases huc:uc=1
  ·have hrs0:rs=[]:=List.length_eq_zero_iff.1 (by omega);subst hrs0;have E2:Hid (jcI A x (([]:List (Val×List Int)).map (·.2))=.ok x):=E1.out;subst huc;go_wp2_with (first | (go_at_call 117;refine (AO.out _).mono ?_;rintro e w' ⟨-,v,rfl,rfl,rfl⟩) | fail);refine wp_loop_rounds 1 ?_;rw [rounds_succ];go_wp2;go_ret;exact jap E2.out G2.out ⟨⟨_,_,_⟩,rfl,HO3.out.ints⟩
  ·go_wp2_with (first | (go_at_call 117;refine (AO.out _).mono ?_;rintro e w' ⟨-,v,rfl,rfl,rfl⟩) | fail);clear AO;go_loopw [24] (fun i wr=>∃ (k:Nat) (D:List Int),k≤rs.length∧i=.int .i64 k∧Owns wr w.heap.size (.slice (some ⟨g,0,none⟩) x.length qc) D∧D.length=x.length∧je0 axis ((rs.map (·.2)).drop k) D=je0 axis (rs.map (·.2)) x∧(∀ z∈D,0≤z∧z≤65536+65536*k)∧w.grownBy wr none) (fun i _=>rs.length - (intOf i).toNat)
   case atStart=>exact ⟨0,x,Nat.zero_le _,rfl,HO3.out,rfl,by rw [List.drop_zero],fun z hz=>by have:=PB.out z hz;omega,G2.out⟩
   case round =>
    obtain ⟨k,D,hk,rfl,ho,hD,hst,hbd,hg⟩:=hrel;have HG:=jac hg;have HO4:=jac ho
    by_cases hkl:k<rs.length
    ·obtain ⟨y0,y1,y2⟩:=(HV.out.more hg).vals.val (k+1) (by rw [List.length_map];simp;omega);have HY:=jac (HV.out.dims (rs[k]) (List.mem_cons_of_mem _ (List.getElem_mem hkl)));have FY:=jac (HF.out (rs[k]) (List.mem_cons_of_mem _ (List.getElem_mem hkl)));simp only [List.map_cons,List.getElem_cons_succ,List.getElem_map] at y0 y1 y2;have ea:off+(k+1)*3=off+3+k*3:=by omega
     rw [ea] at y0 y1 y2;rw [jms (by rw [List.length_map];exact hkl)] at hst;simp only [List.getElem_map] at hst;obtain ⟨p,hp⟩ : ∃ p,p=rs[k]:=⟨_,rfl⟩
     rw [← hp] at y0 y1 y2 HY FY hst;obtain ⟨⟨vn,vt,⟨da,dn,dc⟩⟩,y⟩:=p;simp only at y0 y1 y2 HY FY hst;obtain ⟨yx,ycc,ey,f1,f2,f3⟩:=HY.out.sl;simp only [Sl.v,Value.slice.injEq] at ey;obtain ⟨rfl,rfl,rfl⟩:=ey;have YF:=FY.out.few;obtain ⟨w3,hw3⟩ : ∃ w3,w3=wr.alloc (.cells #[.string vn,.int .i64 vt,.slice da y.length dc] 53):=⟨_,rfl⟩
     have g3:Hid (w.grownBy w3 none):=by show w.grownBy w3 none;rw [hw3];exact jaa hg (jab _ _)
     have hb3:=heap_alloc_new wr (.cells #[.string vn,.int .i64 vt,.slice da y.length dc] 53);rw [← hw3] at hb3;have v2:w3.cell? ⟨wr.heap.size,2,none⟩=some (.slice da y.length dc):=(cell_of_row _ _ 2 _ _ (0,0) hb3).trans rfl;have HO5:Hid (Owns w3 w.heap.size (.slice (some ⟨g,0,none⟩) x.length qc) D):=by show Owns _ _ _ _;rw [hw3];exact ho.new (jab _ _)
     have HST:=jac hst;have HBD:=jac hbd;have HDD:=jac hD;clear hb3 ea hp ho hg hst hbd hD;go_wp2_with fail;rw [← hw3];clear hw3 y0 y1 y2
     by_cases hyl:y.length=x.length
     ·have byl:((y.length:Int)==(x.length:Int))=true:=by simp [hyl]
      have HYL:=jac hyl;have HST2:Hid ((jal (jjR D axis y)).bind (fun _=>je0 axis ((rs.map (·.2)).drop (k+1)) (D.set axis (D.getD axis 0+y.getD axis 0)))=je0 axis (rs.map (·.2)) x):=by show _=_;rw [← HST.out];simp [jal,hyl,HDD.out];rfl
      clear hyl HST;go_wp2_with (first | (go_at_call 71;refine (jaq _).mono ?_;rintro e w' ⟨rfl,rfl⟩) | fail);go_loopw [38] (fun i wx=>w3=wx∧∃ t:Nat,t≤y.length∧i=.int .i64 t∧∀ i,i<t→i=axis∨y.getD i 0=D.getD i 0) (fun i _=>y.length - (intOf i).toNat)
      case atStart=>exact ⟨rfl,0,Nat.zero_le _,rfl,fun i h=>absurd h (by omega)⟩
      case round =>
       obtain ⟨hw,t,ht,rfl,hall⟩:=hrel;subst hw;have HA:=jac hall;have HO6:Hid (Owns w3 w.heap.size (.slice (some ⟨g,0,none⟩) D.length qc) D):=by show Owns _ _ _ _;rw [HDD.out];exact HO5.out
       clear hall byl
       by_cases htl:t<y.length
       ·obtain ⟨yb,yo,rfl,hcy⟩:=HY.out.get htl;have cy:=jae (hcy t htl) g3.out;have htx:t<x.length:=by have:=HYL.out;omega
        have htx':(t:Int)<(x.length:Int):=by omega
        obtain ⟨cd,fd⟩:=HO6.out.cells (k:=t) (by rw [HDD.out];exact htx);obtain ⟨P,hP⟩ : ∃ P,P=y.getD t 0:=⟨_,rfl⟩
        obtain ⟨Q,hQ⟩ : ∃ Q,Q=D.getD t 0:=⟨_,rfl⟩
        rw [← hP] at cy;rw [← hQ] at cd;have HP:=jac hP;have HQ:=jac hQ;clear hP hQ hcy
        by_cases hta:t=axis
        ·have bta:((t:Int)==(axis:Int))=true:=by simp [hta]
         have HTA:=jac hta;clear hta;go_wp2_with (first | (go_at_call 71;refine (jaq _).mono ?_;rintro e w' ⟨rfl,rfl⟩) | fail);go_roundw
         case rel =>
          refine ⟨by trivial,t+1,by omega,by go_num,fun i hi=>?_⟩
          rcases jaK hi with h | rfl
          ·exact HA.out i h
          ·exact .inl HTA.out
         case measure=>simp [intOf];omega
        ·have bta:((t:Int)==(axis:Int))=false:=by simpa using (fun h=>hta (by omega):¬ (t:Int)=axis)
         have HTA:=jac hta;clear hta
         by_cases hpq:P=Q
         ·have bpq:(P==Q)=true:=by simp [hpq]
          have HPQ:=jac hpq;clear hpq;go_wp2_with (first | (go_at_call 71;refine (jaq _).mono ?_;rintro e w' ⟨rfl,rfl⟩) | fail);go_roundw
          case rel =>
           refine ⟨by trivial,t+1,by omega,by go_num,fun i hi=>?_⟩
           rcases jaK hi with h | rfl
           ·exact HA.out i h
           ·exact .inr (by rw [← HP.out,← HQ.out];exact HPQ.out)
          case measure=>simp [intOf];omega
         ·have bpq:(P==Q)=false:=by simpa using hpq
          have E2:Hid (jcI A x (rs.map (·.2))=.error 4):=by
           show _=_;rw [E1.out,← HST2.out,joW htl HTA.out (by rw [← HP.out,← HQ.out];exact hpq)]
           rfl
          clear hpq;go_wp2_with (first | (go_at_call 71;refine (jav _).mono ?_;rintro e w' ⟨rfl,rfl⟩) | fail);exact ⟨rfl,jai E2.out g3.out⟩
       ·have hyp:axis<y.length:=by have:=HYL.out;omega
        obtain ⟨yb,yo,rfl,hcy⟩:=HY.out.get hyp;have cy:=jae (hcy axis hyp) g3.out;have by1:=FY.out.pos _ (jf5 hyp);have by2:=FY.out.le_each (jf5 hyp);obtain ⟨cd,fd⟩:=HO6.out.cells (k:=axis) (by rw [HDD.out];exact hax);have bd:=HBD.out (D.getD axis 0) (jf5 (by rw [HDD.out];exact hax))
        have HST3:Hid (je0 axis ((rs.map (·.2)).drop (k+1)) (D.set axis (D.getD axis 0+y.getD axis 0))=je0 axis (rs.map (·.2)) x):=by
         show _=_;rw [← HST2.out,jmt (fun i hi=>HA.out i (by omega))]
         rfl
        obtain ⟨P,hP⟩ : ∃ P,P=y.getD axis 0:=⟨_,rfl⟩
        obtain ⟨Q,hQ⟩ : ∃ Q,Q=D.getD axis 0:=⟨_,rfl⟩
        rw [← hP] at cy by1 by2 HST3;rw [← hQ] at cd bd HST3;have hk19:(k:Int)≤19:=by omega
        obtain ⟨so,sg⟩:=HO6.out.put axis (Q+P) (by omega);have SO:Hid (Owns (w3.setCell ⟨g,axis,none⟩ (.int .i64 (Q+P))) w.heap.size (.slice (some ⟨g,0,none⟩) x.length qc) (D.set axis (Q+P))):=by show Owns _ _ _ _;rw [← HDD.out];exact so
        have SG:=jac (jaG g3.out sg hwg)
        have HB:Hid (∀ z∈D.set axis (Q+P),0≤z∧z≤65536+65536*((k+1:Nat):Int)):=fun z hz=>by
         rcases List.mem_or_eq_of_mem_set hz with h1 | rfl
         ·have:=HBD.out z h1;omega
         ·omega
        have hyp':(axis:Int)<(y.length:Int):=by omega
        clear hP hQ hcy so sg;go_wp2_with fail;go_region;go_wp2_with fail;go_roundw
        case rel=>exact ⟨k+1,_,by omega,by go_num,SO.out.new (jaf (jad _)),by rw [List.length_set];exact HDD.out,HST3.out,HB.out,jaf SG.out⟩
        case measure=>simp [intOf];omega
     ·have byl:((y.length:Int)==(x.length:Int))=false:=by simpa using (fun h=>hyl (by omega):¬ (y.length:Int)=x.length)
      have E2:Hid (jcI A x (rs.map (·.2))=.error 4):=by show _=_;rw [E1.out,← HST.out];simp [jal,hyl,HDD.out];rfl
      clear hyl;rw [byl];refine (jav _).mono ?_;rintro e w' ⟨rfl,rfl⟩;exact ⟨rfl,jai E2.out g3.out⟩
    ·have E2 : Hid (jcI A x (rs.map (·.2)) = .ok D) := by
       show _=_;rw [E1.out,← hst,List.drop_of_length_le (by rw [List.length_map];omega)]
       rfl
     clear ho hg hst hbd;go_wp2;go_ret;exact jap E2.out HG.out ⟨⟨_,_,_⟩,rfl,HO4.out.ints⟩
end Go.Proofs.YteigfipgmghgmaaGreatDoor
namespace Go.Proofs.YteigfipgmghgmaaGreatDoor
open Go.RowKit
theorem jkp (n:Nod) (A:At) (u:Sl) (p0:Val×List Int) (rs:List (Val×List Int)) (w:World) (hop:n.op=⟨#[67,111,110,99,97,116]⟩) (hn:NodeOk w n A) (hv:ValsIn w u.v (p0::rs)) (hr:rs.length≤19) (hf:∀ p∈p0::rs,Fine p.2):Calls Tryz.prog 75 #[jaz n,.slice u.a u.n u.c] w (jaJ w (jcI A p0.2 (rs.map (·.2))) jbd):=by
 obtain ⟨xa,xc,e1,q1,q2,q3⟩:=hv.vals.form;rw [List.length_map] at e1 q1 q3;obtain ⟨ua,un,uc⟩:=u;simp only [Sl.v,Value.slice.injEq] at e1;obtain ⟨rfl,rfl,rfl⟩:=e1;obtain ⟨b,off,rfl⟩:=hv.vals.addr (k:=0) (by simp);obtain ⟨-,z0⟩:=hv.at 0 (by simp);rw [Nat.zero_mul,Nat.add_zero] at z0;simp only [List.getElem_cons_zero] at z0;have HV:=jac hv;have HF:=jac hf;obtain ⟨⟨vn0,vt0,⟨d0a,d0n,d0c⟩⟩,x⟩:=p0;simp only at z0;have Z0:=jac z0;obtain ⟨m,hm⟩ : ∃ m,m=((((⟨vn0,vt0,⟨d0a,d0n,d0c⟩⟩,x):Val×List Int)::rs):List (Val×List Int)).length:=⟨_,rfl⟩
 have hm0:0<m:=by rw [hm];simp
 have hm0':(0:Int)<(m:Int):=by omega
 have HM:=jac hm;rw [← hm] at q1 q3 ⊢;clear hv z0 hm hf;have NK:=jac hn;obtain ⟨op,nam,⟨ia,il,ic⟩,out,⟨ao,al,cap⟩⟩:=n;unfold jaz;simp only;obtain ⟨w0,hw0⟩ : ∃ w0,w0=w.alloc (.cells #[.string op,.string nam,.slice ia il ic,.string out,.slice ao al cap] 25):=⟨_,rfl⟩
 have g0:Hid (w.grownBy w0 none):=by show w.grownBy w0 none;rw [hw0];exact jab _ _
 have hb0:=heap_alloc_new w (.cells #[.string op,.string nam,.slice ia il ic,.string out,.slice ao al cap] 25);rw [← hw0] at hb0;have BX:Hid (∀ wx,w0.grownBy wx none→wx.heap[w.heap.size]?=some (.cells #[.string op,.string nam,.slice ia il ic,.string out,.slice ao al cap] 25 (0,0))):=fun wx hg=>jag hb0 hg;clear hb0 hn;simp only at hop;subst hop;have z0:(w.alloc (.cells #[.string ⟨#[67,111,110,99,97,116]⟩,.string nam,.slice ia il ic,.string out,.slice ao al cap] 25)).cell? ⟨b,off+2,none⟩=some (.slice d0a d0n d0c):=jae Z0.out (jab _ _);have C:=jac (jmu ⟨⟨#[67,111,110,99,97,116]⟩,nam,⟨ia,il,ic⟩,out,⟨ao,al,cap⟩⟩ A ⟨some ⟨b,off,none⟩,m,uc⟩ _ rs w0 (NK.out.more g0.out) (by rw [HM.out];exact HV.out.more g0.out) hr HF.out);unfold jaz at C;simp only at C;go_enter Tryz.func75,Tryz.ntmps75;go_wp2_with fail;rw [← hw0];clear hw0
 cases hk:jcI A x (rs.map (·.2)) with
 | error c =>
  rw [hk] at C;have HK:=jac hk;clear hk;refine C.out.mono ?_;rintro e w' ⟨hg,rfl⟩;exact ⟨rfl,jai (by first | exact HK.out | rfl) (jaa g0.out hg)⟩
 | ok zs =>
  rw [hk] at C;have HK:=jac hk;clear hk;refine C.out.mono ?_;rintro e w' ⟨hg,v,rfl,⟨s1,s2,s3⟩,rfl,hs⟩;simp only [Sl.v];go_wp2;go_ret;exact jap (by first | exact HK.out | rfl) (jaa g0.out hg) ⟨⟨s1,s2,s3⟩,rfl,hs⟩
end Go.Proofs.YteigfipgmghgmaaGreatDoor
namespace Go.Proofs.YteigfipgmghgmaaGreatDoor
open Go.RowKit
theorem jf6 {z:Int} (h0:0≤z) (h1:z≤9223372036854775807):IntKind.i64.wrap z=z:=by
 rw [IntKind.wrap_i64];omega
def jcq (A:At) (x k:List Int):R (List Int):=(jal (decide (1≤A.int ⟨#[103,114,111,117,112]⟩ 1))).bind (fun _=>(jal (decide (x.getD 1 0 % A.int ⟨#[103,114,111,117,112]⟩ 1=0∧k.getD 0 0 % A.int ⟨#[103,114,111,117,112]⟩ 1=0∧x.getD 1 0 / A.int ⟨#[103,114,111,117,112]⟩ 1=k.getD 1 0))).bind (fun _=>(jaI A x [k.getD 2 0,k.getD 3 0] 0).bind (fun a=>(jaI A x [k.getD 2 0,k.getD 3 0] 1).bind (fun b=>.ok [x.getD 0 0,k.getD 0 0,a,b]))))
theorem joX (n:Nod) (A:At) (u:Sl) (p0 p1 p2:Val×List Int) (w:World) (hn:NodeOk w n A) (hv:ValsIn w u.v [p0,p1,p2]) (hl4:p0.2.length=4) (hk4:p1.2.length=4) (hz:¬ (p2.2.length=1∧p2.2.getD 0 0=p1.2.getD 0 0)):Calls Tryz.prog 125 #[jaz n,.slice u.a u.n u.c] w (jaJ w (.error 4:R (List Int)) jbd):=by
 obtain ⟨xa,xc,e1,q1,q2,q3⟩:=hv.vals.form;simp only [List.map_cons,List.map_nil,List.length_cons,List.length_nil,Nat.zero_add,Nat.reduceAdd] at e1 q1 q3;obtain ⟨ua,un,uc⟩:=u;simp only [Sl.v,Value.slice.injEq] at e1;obtain ⟨rfl,rfl,rfl⟩:=e1;obtain ⟨b,off,rfl⟩:=hv.vals.addr (k:=0) (by simp);obtain ⟨-,z0⟩:=hv.at 0 (by simp);obtain ⟨-,z1⟩:=hv.at 1 (by simp);obtain ⟨-,z2⟩:=hv.at 2 (by simp);rw [Nat.zero_mul,Nat.add_zero] at z0;simp only [List.getElem_cons_zero,List.getElem_cons_succ,Nat.one_mul,Nat.reduceMul] at z0 z1 z2;have HX:=jac (hv.dims p0 (by simp));have HK:=jac (hv.dims p1 (by simp));have HZ:=jac (hv.dims p2 (by simp));obtain ⟨⟨vn0,vt0,⟨d0a,d0n,d0c⟩⟩,x⟩:=p0;obtain ⟨⟨vn1,vt1,⟨d1a,d1n,d1c⟩⟩,k⟩:=p1;obtain ⟨⟨vn2,vt2,⟨d2a,d2n,d2c⟩⟩,z⟩:=p2;simp only at z0 z1 z2 HX HK HZ hz hl4 hk4 ⊢;obtain ⟨xx,xcc,ex,f1,f2,f3⟩:=HX.out.sl;simp only [Sl.v,Value.slice.injEq] at ex;obtain ⟨rfl,rfl,rfl⟩:=ex;obtain ⟨kx,kcc,ek,g1,g2,g3⟩:=HK.out.sl;simp only [Sl.v,Value.slice.injEq] at ek;obtain ⟨rfl,rfl,rfl⟩:=ek;obtain ⟨zx,zcc,ez,h1,h2,h3⟩:=HZ.out.sl;simp only [Sl.v,Value.slice.injEq] at ez;obtain ⟨rfl,rfl,rfl⟩:=ez;have Z0:=jac z0;have Z1:=jac z1;have Z2:=jac z2;have bx:((x.length:Int)==4)=true:=by simp [hl4]
 have bk:((k.length:Int)==4)=true:=by simp [hk4]
 have HK4:=jac hk4;clear hv z0 z1 z2 hl4 hk4;have NK:=jac hn;obtain ⟨op,nam,⟨ia,il,ic⟩,out,⟨ao,al,cap⟩⟩:=n;unfold jaz;simp only;obtain ⟨w0,hw0⟩ : ∃ w0,w0=w.alloc (.cells #[.string op,.string nam,.slice ia il ic,.string out,.slice ao al cap] 25):=⟨_,rfl⟩
 have g0:Hid (w.grownBy w0 none):=by show w.grownBy w0 none;rw [hw0];exact jab _ _
 have hb0:=heap_alloc_new w (.cells #[.string op,.string nam,.slice ia il ic,.string out,.slice ao al cap] 25);rw [← hw0] at hb0;have BX:Hid (∀ wx,w0.grownBy wx none→wx.heap[w.heap.size]?=some (.cells #[.string op,.string nam,.slice ia il ic,.string out,.slice ao al cap] 25 (0,0))):=fun wx hg=>jag hb0 hg;clear hb0 hn;go_enter Tryz.func125,Tryz.ntmps125;go_wp2_with fail;rw [← hw0];clear hw0;have y0:=jae Z0.out g0.out;have y1:=jae Z1.out g0.out;have i1:(1:Int)<3:=by decide
 have i2:(2:Int)<3:=by decide
 go_quiet (fail)
 have gq:w0.grownBy (w0.drewN nq) none:=⟨rfl,rfl,rfl,Nat.le_refl _,fun k hk hn=>rfl⟩
 obtain ⟨wq,hwq⟩ : ∃ wq,wq=w0.drewN nq:=⟨_,rfl⟩
 rw [← hwq] at gq ⊢;have GQ:=jac (jaa g0.out gq);clear hwq y0 y1 gq;have y2:=jae Z2.out GQ.out;go_wp2_with (first | (go_at_call 71;refine (jaq _).mono ?_;rintro e w' ⟨rfl,rfl⟩) | fail)
 by_cases hzl:z.length=1
 ·have bz:((z.length:Int)==1)=true:=by simp [hzl]
  have hne:z.getD 0 0≠k.getD 0 0:=fun h=>hz ⟨hzl,h⟩;obtain ⟨zb,zo,rfl,hcz⟩:=HZ.out.get (k:=0) (by omega);obtain ⟨wb,wo,rfl,hck⟩:=HK.out.get (k:=0) (by have:=HK4.out;omega);have cz:=jae (hcz 0 (by omega)) GQ.out;have ck:=jae (hck 0 (by have:=HK4.out;omega)) GQ.out;rw [Nat.add_zero] at cz ck;obtain ⟨zz,hzz⟩ : ∃ q,q=z.getD 0 0:=⟨_,rfl⟩
  obtain ⟨k0,hk0⟩ : ∃ q,q=k.getD 0 0:=⟨_,rfl⟩
  rw [← hzz] at cz hne;rw [← hk0] at ck hne;have bne:(zz==k0)=false:=by simpa using hne
  obtain ⟨d2n,hd2⟩ : ∃ q,q=z.length:=⟨_,rfl⟩
  obtain ⟨kn,hkn⟩ : ∃ q,q=k.length:=⟨_,rfl⟩
  have m0:0<d2n:=by omega
  have m0':(0:Int)<(d2n:Int):=by omega
  have m1:0<kn:=by have:=HK4.out;omega
  have m1':(0:Int)<(kn:Int):=by omega
  rw [← hd2] at y2 bz;rw [← hkn] at bk ⊢;clear hzz hk0 hcz hck hne hz hzl hd2 hkn;refine wp_region_held_drew (S:=(fun w'=>w'.cell? ⟨b,off+6+2,none⟩=some (.slice (some ⟨zb,zo,none⟩) d2n d2c)∧w'.cell? ⟨zb,zo,none⟩=some (.int .i64 zz)∧w'.cell? ⟨wb,wo,none⟩=some (.int .i64 k0))) (by kernel_rfl) (by go_keep) (fun hHeld=>?_);refine tkB 0 ?_
  try simp only [Act.put]
  refine tkB 1 ?_
  try simp only [Act.put]
  refine tkB 2 ?_
  try simp only [Act.put]
  refine tkB 3 ?_
  try simp only [Act.put]
  refine tkB 4 ?_
  try simp only [Act.put]
  refine wpAnyH_take (i:=5) (v:=.bool true) rfl (by kernel_rfl) (by kernel_rfl) (by kernel_rfl) (fun _ _ _ h=>h) (Or.inl ⟨by kernel_rfl,?_⟩) (by assumption) ?_
  ·(intro w hSw;(try dsimp only at hSw);go_simp;(try simp only [bz]))
  try simp only [Act.put]
  refine tkB 6 ?_
  try simp only [Act.put]
  refine tkB 7 ?_
  try simp only [Act.put]
  refine tkB 8 ?_
  try simp only [Act.put]
  refine tkB 9 ?_
  try simp only [Act.put]
  refine tkB 10 ?_
  try simp only [Act.put]
  refine tkB 11 ?_
  try simp only [Act.put]
  refine tkB 12 ?_
  try simp only [Act.put]
  refine tkB 13 ?_
  try simp only [Act.put]
  refine tkB 14 ?_
  try simp only [Act.put]
  refine tkB 15 ?_
  try simp only [Act.put]
  refine wpAnyH_take (i:=16) (v:=.bool false) rfl (by kernel_rfl) (by kernel_rfl) (by kernel_rfl) (fun _ _ _ h=>h) (Or.inl ⟨by kernel_rfl,?_⟩) (by assumption) ?_
  ·(intro w hSw;(try dsimp only at hSw);go_simp;(try simp only [bne]))
  try simp only [Act.put]
  refine tkB 17 ?_
  try simp only [Act.put]
  refine wpAnyH_ready (rs:=[18]) (by kernel_rfl) (by simp) ?_;refine AllReadyH.cons rfl (fun K hK=>?_) ?_
  ·skip
   go_simp;refine (jav _).mono ?_;rintro e wy ⟨rfl,rfl⟩;exact ⟨rfl,jai rfl (jaf GQ.out)⟩
  exact AllReadyH.nil
 ·have bz:((z.length:Int)==1)=false:=by simpa using (fun h=>hzl (by omega):¬ (z.length:Int)=1)
  obtain ⟨d2n,hd2⟩ : ∃ q,q=z.length:=⟨_,rfl⟩
  rw [← hd2] at y2 bz;clear hd2 hz hzl;refine wp_region_held_drew (S:=(fun w'=>w'.cell? ⟨b,off+6+2,none⟩=some (.slice d2a d2n d2c))) (by kernel_rfl) (by go_keep) (fun hHeld=>?_);refine tkB 0 ?_
  try simp only [Act.put]
  refine tkB 1 ?_
  try simp only [Act.put]
  refine tkB 2 ?_
  try simp only [Act.put]
  refine tkB 3 ?_
  try simp only [Act.put]
  refine tkB 4 ?_
  try simp only [Act.put]
  refine wpAnyH_take (i:=5) (v:=.bool false) rfl (by kernel_rfl) (by kernel_rfl) (by kernel_rfl) (fun _ _ _ h=>h) (Or.inl ⟨by kernel_rfl,?_⟩) (by assumption) ?_
  ·(intro w hSw;(try dsimp only at hSw);go_simp;(try simp only [bz]))
  try simp only [Act.put]
  refine tkB 6 ?_
  try simp only [Act.put]
  refine tkU 7 ?_
  try simp only [Act.put]
  refine tkU 8 ?_
  try simp only [Act.put]
  refine tkU 9 ?_
  try simp only [Act.put]
  refine tkU 10 ?_
  try simp only [Act.put]
  refine tkU 11 ?_
  try simp only [Act.put]
  refine tkU 12 ?_
  try simp only [Act.put]
  refine tkU 13 ?_
  try simp only [Act.put]
  refine tkU 14 ?_
  try simp only [Act.put]
  refine tkU 15 ?_
  try simp only [Act.put]
  refine tkU 16 ?_
  try simp only [Act.put]
  refine tkB 17 ?_
  try simp only [Act.put]
  refine wpAnyH_ready (rs:=[18]) (by kernel_rfl) (by simp) ?_;refine AllReadyH.cons rfl (fun K hK=>?_) ?_
  ·skip
   go_simp;refine (jav _).mono ?_;rintro e wy ⟨rfl,rfl⟩;exact ⟨rfl,jai rfl (jaf GQ.out)⟩
  exact AllReadyH.nil
end Go.Proofs.YteigfipgmghgmaaGreatDoor
namespace Go.Proofs.YteigfipgmghgmaaGreatDoor
open Go.RowKit
theorem joY (n:Nod) (A:At) (u:Sl) (p0 p1:Val×List Int) (w:World) (hn:NodeOk w n A) (hv:ValsIn w u.v [p0,p1]) (hl4:p0.2.length=4) (hk4:p1.2.length=4) (hf:Fine p0.2) (hfk:Fine p1.2):Calls Tryz.prog 125 #[jaz n,.slice u.a u.n u.c] w (jaJ w (jcq A p0.2 p1.2) jbd):=by
 obtain ⟨xa,xc,e1,q1,q2,q3⟩:=hv.vals.form;simp only [List.map_cons,List.map_nil,List.length_cons,List.length_nil,Nat.zero_add,Nat.reduceAdd] at e1 q1 q3;obtain ⟨ua,un,uc⟩:=u;simp only [Sl.v,Value.slice.injEq] at e1;obtain ⟨rfl,rfl,rfl⟩:=e1;obtain ⟨b,off,rfl⟩:=hv.vals.addr (k:=0) (by simp);obtain ⟨-,z0⟩:=hv.at 0 (by simp);obtain ⟨-,z1⟩:=hv.at 1 (by simp);rw [Nat.zero_mul,Nat.add_zero] at z0;simp only [List.getElem_cons_zero,List.getElem_cons_succ,Nat.one_mul] at z0 z1;have HX:=jac (hv.dims p0 (by simp));have HK:=jac (hv.dims p1 (by simp));obtain ⟨⟨vn0,vt0,⟨d0a,d0n,d0c⟩⟩,x⟩:=p0;obtain ⟨⟨vn1,vt1,⟨d1a,d1n,d1c⟩⟩,k⟩:=p1;simp only at z0 z1 HX HK  hl4 hk4 hf hfk ⊢;obtain ⟨xx,xcc,ex,f1,f2,f3⟩:=HX.out.sl;simp only [Sl.v,Value.slice.injEq] at ex;obtain ⟨rfl,rfl,rfl⟩:=ex;obtain ⟨kx,kcc,ek,g1,g2,g3⟩:=HK.out.sl;simp only [Sl.v,Value.slice.injEq] at ek;obtain ⟨rfl,rfl,rfl⟩:=ek;have PB:Hid (∀ z∈x,1≤z∧z≤65536):=fun z hz=>⟨hf.pos z hz,hf.le_each hz⟩
 have PK:Hid (∀ z∈k,1≤z∧z≤65536):=fun z hz=>⟨hfk.pos z hz,hfk.le_each hz⟩
 obtain ⟨xb,xo,rfl,hcx⟩:=HX.out.get (k:=0) (by omega);obtain ⟨kb,ko,rfl,hck⟩:=HK.out.get (k:=0) (by omega);have X0:=jac (hcx 0 (by omega));have X1:=jac (hcx 1 (by omega));have K0:=jac (hck 0 (by omega));have K1:=jac (hck 1 (by omega));have K2:=jac (hck 2 (by omega));have K3:=jac (hck 3 (by omega));have bx0:=PB.out _ (jaU (l:=x) (k:=0) (by omega));have bx1:=PB.out _ (jaU (l:=x) (k:=1) (by omega));have bk0:=PK.out _ (jaU (l:=k) (k:=0) (by omega));have bk1:=PK.out _ (jaU (l:=k) (k:=1) (by omega));have bk2:=PK.out _ (jaU (l:=k) (k:=2) (by omega));have bk3:=PK.out _ (jaU (l:=k) (k:=3) (by omega));rw [Nat.add_zero] at X0 K0;obtain ⟨x0,hx0⟩ : ∃ q,q=x.getD 0 0:=⟨_,rfl⟩
 obtain ⟨x1,hx1⟩ : ∃ q,q=x.getD 1 0:=⟨_,rfl⟩
 obtain ⟨k0,hk0⟩ : ∃ q,q=k.getD 0 0:=⟨_,rfl⟩
 obtain ⟨k1,hk1⟩ : ∃ q,q=k.getD 1 0:=⟨_,rfl⟩
 obtain ⟨k2,hk2⟩ : ∃ q,q=k.getD 2 0:=⟨_,rfl⟩
 obtain ⟨k3,hk3⟩ : ∃ q,q=k.getD 3 0:=⟨_,rfl⟩
 obtain ⟨G,hG⟩ : ∃ q,q=A.int ⟨#[103,114,111,117,112]⟩ 1:=⟨_,rfl⟩
 have GB:=hn.int ⟨#[103,114,111,117,112]⟩ 1 (by decide);have E0:Hid (jcq A x k=(jal (decide (1≤G))).bind (fun _=>(jal (decide (x1 % G=0∧k0 % G=0∧x1 / G=k1))).bind (fun _=>(jaI A x [k2,k3] 0).bind (fun a=>(jaI A x [k2,k3] 1).bind (fun b=>.ok [x0,k0,a,b]))))):=by show _=_;unfold jcq;rw [hx0,hx1,hk0,hk1,hk2,hk3,hG]
 rw [← hx0] at X0 bx0;rw [← hx1] at X1 bx1;rw [← hk0] at K0 bk0;rw [← hk1] at K1 bk1;rw [← hk2] at K2 bk2;rw [← hk3] at K3 bk3;rw [← hG] at GB;have Z0:=jac z0;have Z1:=jac z1;have bx:((x.length:Int)==4)=true:=by simp [hl4]
 have bk:((k.length:Int)==4)=true:=by simp [hk4]
 have HL4:=jac hl4;have HK4:=jac hk4;have l0:(0:Int)<(x.length:Int):=by omega
 have l1:(1:Int)<(x.length:Int):=by omega
 have l2:0<x.length:=by omega
 have l3:1<x.length:=by omega
 have j0:(0:Int)<(k.length:Int):=by omega
 have j1:(1:Int)<(k.length:Int):=by omega
 have j2:(2:Int)<(k.length:Int):=by omega
 have j3:(3:Int)<(k.length:Int):=by omega
 have j4:0<k.length:=by omega
 have j5:1<k.length:=by omega
 have j6:2<k.length:=by omega
 have j7:3<k.length:=by omega
 have bG1:=GB.1;have bG2:=GB.2;clear hv z0 z1 hl4 hk4 hx0 hx1 hk0 hk1 hk2 hk3 hcx hck hf hfk GB;have NI:=jac (fun (wx:World) (hg:w.grownBy wx none)=>jb2 n A ⟨#[103,114,111,117,112]⟩ 1 wx (hn.more hg));rw [← hG] at NI;clear hG;have NK:=jac hn;obtain ⟨op,nam,⟨ia,il,ic⟩,out,⟨ao,al,cap⟩⟩:=n;unfold jaz;simp only;obtain ⟨w0,hw0⟩ : ∃ w0,w0=w.alloc (.cells #[.string op,.string nam,.slice ia il ic,.string out,.slice ao al cap] 25):=⟨_,rfl⟩
 have g0:Hid (w.grownBy w0 none):=by show w.grownBy w0 none;rw [hw0];exact jab _ _
 have hb0:=heap_alloc_new w (.cells #[.string op,.string nam,.slice ia il ic,.string out,.slice ao al cap] 25);rw [← hw0] at hb0;have BX:Hid (∀ wx,w0.grownBy wx none→wx.heap[w.heap.size]?=some (.cells #[.string op,.string nam,.slice ia il ic,.string out,.slice ao al cap] 25 (0,0))):=fun wx hg=>jag hb0 hg;clear hb0 hn;have PL:=jac (fun (wx:World) (hg:w.grownBy wx none) (v:Sl) (K:List Int) (lng:Nat) (hK:IsInts wx v.v K) (hlK:K.length=2) (bK:∀ z∈K,1≤z∧z≤65536) (ha:lng<2)=>jcY ⟨op,nam,⟨ia,il,ic⟩,out,⟨ao,al,cap⟩⟩ A ⟨some ⟨xb,xo,none⟩,x.length,d0c⟩ v x K lng wx (NK.out.more hg) (HX.out.more hg) hK HL4.out hlK PB.out bK ha);unfold jaz at NI PL;simp only at NI PL;go_enter Tryz.func125,Tryz.ntmps125;go_wp2_with fail;rw [← hw0];clear hw0;have y0:=jae Z0.out g0.out;have y1:=jae Z1.out g0.out;have i1:(1:Int)<2:=by decide
 have i2:(2:Int)<3:=by decide
 go_quiet (fail)
 have gq:w0.grownBy (w0.drewN nq) none:=⟨rfl,rfl,rfl,Nat.le_refl _,fun k hk hn=>rfl⟩
 obtain ⟨wq,hwq⟩ : ∃ wq,wq=w0.drewN nq:=⟨_,rfl⟩
 rw [← hwq] at gq ⊢;have GQ0:=jac gq;have GQ:=jac (jaa g0.out gq);clear hwq y0 y1 gq;obtain ⟨wp,hwp⟩ : ∃ wp,wp=wq:=⟨_,rfl⟩
 rw [← hwp] at GQ GQ0 ⊢;have GP0:=GQ0;have GP:=GQ;clear hwp;obtain ⟨n0,n1,n2,n3,n4⟩:=jak (n:=⟨op,nam,⟨ia,il,ic⟩,out,⟨ao,al,cap⟩⟩) (BX.out wp (GP0.out));go_wp2_with (first | (go_at_call 71;refine (jaq _).mono ?_;rintro e w' ⟨rfl,rfl⟩) | fail);refine (NI.out wp GP.out).mono ?_;rintro e w1 ⟨rfl,hg1⟩;go_wp2_with fail;have G1:=jac (jaa GP.out hg1);have G10:=jac (jaa GP0.out hg1);clear hg1 NI n0 n1 n2 n3 n4
 by_cases hG1:1≤G
 ·have E1:Hid (jcq A x k=(jal (decide (x1 % G=0∧k0 % G=0∧x1 / G=k1))).bind (fun _=>(jaI A x [k2,k3] 0).bind (fun a=>(jaI A x [k2,k3] 1).bind (fun b=>.ok [x0,k0,a,b])))):=by show _=_;rw [E0.out];simp [jal,hG1];rfl
  have y1:=jae X1.out G1.out;rw [show decide (1≤G)=true from decide_eq_true hG1];refine (jaq _).mono ?_;rintro e w' ⟨rfl,rfl⟩;go_wp2_with fail;clear y1;have t1:x1.tmod G=x1 % G:=Int.tmod_eq_emod_of_nonneg (by omega);have t2:k0.tmod G=k0 % G:=Int.tmod_eq_emod_of_nonneg (by omega);have t3:x1.tdiv G=x1 / G:=Int.tdiv_eq_ediv_of_nonneg (by omega);have q1:0≤x1 / G:=Int.ediv_nonneg (by omega) (by omega);have q2:x1 / G≤x1:=Int.ediv_le_self _ (by omega);have g0':¬ G=0:=by omega
  have wQ:IntKind.i64.wrap (x1 / G)=x1 / G:=jf6 (by omega) (by omega);have yk0:=jae K0.out G1.out;have yk1:=jae K1.out G1.out;obtain ⟨M1,hM1⟩ : ∃ q,q=x1 % G:=⟨_,rfl⟩
  obtain ⟨M2,hM2⟩ : ∃ q,q=k0 % G:=⟨_,rfl⟩
  obtain ⟨Q,hQ⟩ : ∃ q,q=x1 / G:=⟨_,rfl⟩
  rw [← hM1] at t1 E1;rw [← hM2] at t2 E1;rw [← hQ] at t3 E1 q1 q2 wQ;clear hM1 hM2 hQ hG1
  by_cases c1:M1=0
  ·have d1:(M1==0)=true:=by simp [c1]
   by_cases c2:M2=0
   ·have d2:(M2==0)=true:=by simp [c2]
    by_cases c3:Q=k1
    ·have d3:(Q==k1)=true:=by simp [c3]
     have E4:Hid (jcq A x k=(jaI A x [k2,k3] 0).bind (fun a=>(jaI A x [k2,k3] 1).bind (fun b=>.ok [x0,k0,a,b]))):=by show _=_;rw [E1.out];simp [jal,c1,c2,c3];rfl
     clear c1 c2 c3
     go_quiet (first | (go_at_call 71;refine (jaq _).mono ?_;rintro e w' ⟨rfl,rfl⟩;exact ⟨rfl,_,rfl⟩) | fail)
     have gq:w1.grownBy (w1.drewN nq) none:=⟨rfl,rfl,rfl,Nat.le_refl _,fun k hk hn=>rfl⟩
     obtain ⟨w2,hw2⟩ : ∃ w2,w2=w1.drewN nq:=⟨_,rfl⟩
     rw [← hw2] at gq ⊢;have G2:=jac (jaa G1.out gq);have G20:=jac (jaa G10.out gq);clear hw2 gq yk0 yk1 t1 t2 t3 q1 q2 d1 d2 d3 wQ;have yk2:=jae K2.out G2.out;have yk3:=jae K3.out G2.out;go_wp2_with fail;go_region_held3 (fun w'=>w'.cell? ⟨kb,ko+2,none⟩=some (.int .i64 k2)∧w'.cell? ⟨kb,ko+3,none⟩=some (.int .i64 k3)) (go_keep) (fail);obtain ⟨w4,hw4⟩ : ∃ w4,w4=(w2.alloc (.cells #[.int .i64 k2,.int .i64 k3] 2)).drew:=⟨_,rfl⟩
     have G4:Hid (w.grownBy w4 none):=by show w.grownBy w4 none;rw [hw4];exact jaf (jaa G2.out (jab _ _))
     have G04:Hid (w0.grownBy w4 none):=by show w0.grownBy w4 none;rw [hw4];exact jaf (jaa G20.out (jab _ _))
     have HKI:Hid (IsInts w4 (.slice (some ⟨w2.heap.size,0,none⟩) 2 2) [k2,k3]):=by show IsInts w4 _ _;rw [hw4];exact (jbu w2 [k2,k3] 2 (by simp) (fun y hy=>by simp at hy;omega)).more (jaf (jad _))
     rw [← hw4];clear hw4 yk2 yk3;have y0:=jae X0.out G4.out;have y1:=jae K0.out G4.out;have L0:=jac (fun (wx:World) (hg:w4.grownBy wx none)=>PL.out wx (jaa G4.out hg) ⟨some ⟨w2.heap.size,0,none⟩,2,2⟩ [k2,k3] 0 (HKI.out.more hg) rfl (fun z hz=>by simp at hz;omega) (by decide));have L1:=jac (fun (wx:World) (hg:w4.grownBy wx none)=>PL.out wx (jaa G4.out hg) ⟨some ⟨w2.heap.size,0,none⟩,2,2⟩ [k2,k3] 1 (HKI.out.more hg) rfl (fun z hz=>by simp at hz;omega) (by decide));simp only [Int.natCast_zero,Int.natCast_one] at L0 L1;obtain ⟨n0,n1,n2,n3,n4⟩:=jak (n:=⟨op,nam,⟨ia,il,ic⟩,out,⟨ao,al,cap⟩⟩) (BX.out w4 (G04.out));clear PL;go_wp2_with fail
     cases hA0:jaI A x [k2,k3] 0 with
     | error c =>
      rw [hA0] at L0;have E5:Hid (jcq A x k=.error c):=by show _=_;rw [E4.out,hA0];rfl
      clear hA0;refine wp_region_held_drew (S:=(fun w'=>w'.cell? ⟨w.heap.size,0,none⟩=some (.string op)∧w'.cell? ⟨w.heap.size,1,none⟩=some (.string nam)∧w'.cell? ⟨w.heap.size,2,none⟩=some (.slice ia il ic)∧w'.cell? ⟨w.heap.size,3,none⟩=some (.string out)∧w'.cell? ⟨w.heap.size,4,none⟩=some (.slice ao al cap)∧w'.cell? ⟨xb,xo,none⟩=some (.int .i64 x0)∧w'.cell? ⟨kb,ko,none⟩=some (.int .i64 k0))) (by kernel_rfl) (by go_keep) (fun hHeld=>?_);refine tkA 0 ?_
      try simp only [Act.put]
      refine tkA 1 ?_
      try simp only [Act.put]
      refine tkA 2 ?_
      try simp only [Act.put]
      refine tkA 3 ?_
      try simp only [Act.put]
      refine tkA 4 ?_
      try simp only [Act.put]
      refine tkA 5 ?_
      try simp only [Act.put]
      refine tkA 6 ?_
      try simp only [Act.put]
      refine tkA 7 ?_
      try simp only [Act.put]
      refine tkA 8 ?_
      try simp only [Act.put]
      refine tkA 10 ?_
      try simp only [Act.put]
      refine tkA 11 ?_
      try simp only [Act.put]
      refine tkA 12 ?_
      try simp only [Act.put]
      refine wpAnyH_ready (rs:=[9]) (by kernel_rfl) (by simp) ?_;refine AllReadyH.cons rfl (fun K hK=>?_) ?_
      ·skip
       go_simp;refine (L0.out _ (jaf (jad _))).mono ?_;rintro e wy ⟨hg,rfl⟩;exact ⟨rfl,jai E5.out (jaa (jaf G4.out) hg)⟩
      exact AllReadyH.nil
     | ok pa =>
      rw [hA0] at L0
      cases hA1:jaI A x [k2,k3] 1 with
      | error c =>
       rw [hA1] at L1;have E6:Hid (jcq A x k=.error c):=by show _=_;rw [E4.out,hA0,hA1];rfl
       clear hA0 hA1;refine wp_region_held_drew (S:=(fun w'=>w'.cell? ⟨w.heap.size,0,none⟩=some (.string op)∧w'.cell? ⟨w.heap.size,1,none⟩=some (.string nam)∧w'.cell? ⟨w.heap.size,2,none⟩=some (.slice ia il ic)∧w'.cell? ⟨w.heap.size,3,none⟩=some (.string out)∧w'.cell? ⟨w.heap.size,4,none⟩=some (.slice ao al cap)∧w'.cell? ⟨xb,xo,none⟩=some (.int .i64 x0)∧w'.cell? ⟨kb,ko,none⟩=some (.int .i64 k0))) (by kernel_rfl) (by go_keep) (fun hHeld=>?_);refine tkA 0 ?_
       try simp only [Act.put]
       refine tkA 1 ?_
       try simp only [Act.put]
       refine tkA 2 ?_
       try simp only [Act.put]
       refine tkA 3 ?_
       try simp only [Act.put]
       refine tkA 4 ?_
       try simp only [Act.put]
       refine tkA 5 ?_
       try simp only [Act.put]
       refine tkA 6 ?_
       try simp only [Act.put]
       refine tkA 7 ?_
       try simp only [Act.put]
       refine tkA 8 ?_
       try simp only [Act.put]
       refine tkA 10 ?_
       try simp only [Act.put]
       refine tkA 11 ?_
       try simp only [Act.put]
       refine tkA 12 ?_
       try simp only [Act.put]
       refine wpAnyH_ready (rs:=[9]) (by kernel_rfl) (by simp) ?_;refine AllReadyH.cons rfl (fun K hK=>?_) ?_
       ·skip
        go_simp;refine (L0.out _ (jaf (jad _))).mono ?_;rintro e w5 ⟨hg5,v,rfl,rfl,hb1,hb2⟩;have g5:=jaa (jaf (jad w4)) hg5;have g5w:=jaa G04.out g5;obtain ⟨n0,n1,n2,n3,n4⟩:=jak (n:=⟨op,nam,⟨ia,il,ic⟩,out,⟨ao,al,cap⟩⟩) (BX.out w5 (g5w));have y0:=jae X0.out (jaa g0.out g5w);have y1:=jae K0.out (jaa g0.out g5w)
        try dsimp only
        refine hK.out _ _ (by first | assumption | go_keep) (fun hHeld=>?_);clear hK K
        try simp only [Act.put]
        refine wpAnyH_ready (rs:=[13]) (by kernel_rfl) (by simp) ?_;refine AllReadyH.cons rfl (fun K hK=>?_) ?_
        ·skip
         go_simp;refine (L1.out _ g5).mono ?_;rintro e wy ⟨hg,rfl⟩;exact ⟨rfl,jai E6.out (jaa (jaa G4.out g5) hg)⟩
        exact AllReadyH.nil
       exact AllReadyH.nil
      | ok pb =>
       rw [hA1] at L1;have E7:Hid (jcq A x k=.ok [x0,k0,pa,pb]):=by show _=_;rw [E4.out,hA0,hA1];rfl
       clear hA0 hA1;refine wp_region_held_drew (S:=(fun w'=>w'.cell? ⟨w.heap.size,0,none⟩=some (.string op)∧w'.cell? ⟨w.heap.size,1,none⟩=some (.string nam)∧w'.cell? ⟨w.heap.size,2,none⟩=some (.slice ia il ic)∧w'.cell? ⟨w.heap.size,3,none⟩=some (.string out)∧w'.cell? ⟨w.heap.size,4,none⟩=some (.slice ao al cap)∧w'.cell? ⟨xb,xo,none⟩=some (.int .i64 x0)∧w'.cell? ⟨kb,ko,none⟩=some (.int .i64 k0))) (by kernel_rfl) (by go_keep) (fun hHeld=>?_);refine tkA 0 ?_
       try simp only [Act.put]
       refine tkA 1 ?_
       try simp only [Act.put]
       refine tkA 2 ?_
       try simp only [Act.put]
       refine tkA 3 ?_
       try simp only [Act.put]
       refine tkA 4 ?_
       try simp only [Act.put]
       refine tkA 5 ?_
       try simp only [Act.put]
       refine tkA 6 ?_
       try simp only [Act.put]
       refine tkA 7 ?_
       try simp only [Act.put]
       refine tkA 8 ?_
       try simp only [Act.put]
       refine tkA 10 ?_
       try simp only [Act.put]
       refine tkA 11 ?_
       try simp only [Act.put]
       refine tkA 12 ?_
       try simp only [Act.put]
       refine wpAnyH_ready (rs:=[9]) (by kernel_rfl) (by simp) ?_;refine AllReadyH.cons rfl (fun K hK=>?_) ?_
       ·skip
        go_simp;refine (L0.out _ (jaf (jad _))).mono ?_;rintro e w5 ⟨hg5,v,rfl,rfl,hb1,hb2⟩;have g5:=jaa (jaf (jad w4)) hg5;have g5w:=jaa G04.out g5;obtain ⟨n0,n1,n2,n3,n4⟩:=jak (n:=⟨op,nam,⟨ia,il,ic⟩,out,⟨ao,al,cap⟩⟩) (BX.out w5 (g5w));have y0:=jae X0.out (jaa g0.out g5w);have y1:=jae K0.out (jaa g0.out g5w)
        try dsimp only
        refine hK.out _ _ (by first | assumption | go_keep) (fun hHeld=>?_);clear hK K
        try simp only [Act.put]
        refine wpAnyH_ready (rs:=[13]) (by kernel_rfl) (by simp) ?_;refine AllReadyH.cons rfl (fun K hK=>?_) ?_
        ·skip
         go_simp;refine (L1.out _ g5).mono ?_;rintro e w6 ⟨hg6,v,rfl,rfl,hc1,hc2⟩;have g6:=jaa g5 hg6;have g6w:=jaa G04.out g6;obtain ⟨n0,n1,n2,n3,n4⟩:=jak (n:=⟨op,nam,⟨ia,il,ic⟩,out,⟨ao,al,cap⟩⟩) (BX.out w6 (g6w));have y0:=jae X0.out (jaa g0.out g6w);have y1:=jae K0.out (jaa g0.out g6w)
         try dsimp only
         refine hK.out _ _ (by first | assumption | go_keep) (fun hHeld=>?_);clear hK K
         try simp only [Act.put]
         refine wpAnyH_ready (rs:=[14]) (by kernel_rfl) (by simp) ?_;refine AllReadyH.cons rfl (fun K hK=>?_) ?_
         ·skip
          go_simp;have y0:=jae y0 (jab w6 (.cells #[.int .i64 x0,.int .i64 k0,.int .i64 pa,.int .i64 pb] 3));have y1:=jae y1 (jab w6 (.cells #[.int .i64 x0,.int .i64 k0,.int .i64 pa,.int .i64 pb] 3));obtain ⟨n0,n1,n2,n3,n4⟩:=jak (n:=⟨op,nam,⟨ia,il,ic⟩,out,⟨ao,al,cap⟩⟩) (BX.out _ (jaa g6w (jab w6 (.cells #[.int .i64 x0,.int .i64 k0,.int .i64 pa,.int .i64 pb] 3))));refine hK.out _ _ (by first | assumption | go_keep) (fun hHeld=>?_);clear hK K
          try simp only [Act.put]
          refine tkA 15 ?_
          try simp only [Act.put]
          refine wpAnyH_done (by kernel_rfl) ?_ _
          try go_simp
          go_wp2;go_ret;exact jap E7.out (jaa (jaa G4.out g6) (jab _ _)) ⟨⟨some ⟨w6.heap.size,0,none⟩,4,4⟩,rfl,jbu w6 [x0,k0,pa,pb] 3 (by simp) (fun y hy=>by simp at hy;omega)⟩
         exact AllReadyH.nil
        exact AllReadyH.nil
       exact AllReadyH.nil
    ·have d3:(Q==k1)=false:=by simpa using c3
     have E4:Hid (jcq A x k=.error 4):=by show _=_;rw [E1.out];simp [jal,c1,c2,c3];rfl
     clear c1 c2 c3;refine wp_region_held_drew (S:=(fun w'=>w'.cell? ⟨kb,ko,none⟩=some (.int .i64 k0)∧w'.cell? ⟨kb,ko+1,none⟩=some (.int .i64 k1))) (by kernel_rfl) (by go_keep) (fun hHeld=>?_);refine tkB 0 ?_
     try simp only [Act.put]
     refine tkB 1 ?_
     try simp only [Act.put]
     refine wpAnyH_take (i:=2) (v:=.int .i64 M1) rfl (by kernel_rfl) (by kernel_rfl) (by kernel_rfl) (fun _ _ _ h=>h) (Or.inl ⟨by kernel_rfl,?_⟩) (by assumption) ?_
     ·(intro w hSw;(try dsimp only at hSw);go_simp;(try simp only [t1]))
     try simp only [Act.put]
     refine wpAnyH_take (i:=3) (v:=.bool true) rfl (by kernel_rfl) (by kernel_rfl) (by kernel_rfl) (fun _ _ _ h=>h) (Or.inl ⟨by kernel_rfl,?_⟩) (by assumption) ?_
     ·(intro w hSw;(try dsimp only at hSw);go_simp;(try simp only [d1]))
     try simp only [Act.put]
     refine tkB 4 ?_
     try simp only [Act.put]
     refine tkB 5 ?_
     try simp only [Act.put]
     refine tkB 6 ?_
     try simp only [Act.put]
     refine tkB 7 ?_
     try simp only [Act.put]
     refine tkB 8 ?_
     try simp only [Act.put]
     refine wpAnyH_take (i:=9) (v:=.int .i64 M2) rfl (by kernel_rfl) (by kernel_rfl) (by kernel_rfl) (fun _ _ _ h=>h) (Or.inl ⟨by kernel_rfl,?_⟩) (by assumption) ?_
     ·(intro w hSw;(try dsimp only at hSw);go_simp;(try simp only [t2]))
     try simp only [Act.put]
     refine wpAnyH_take (i:=10) (v:=.bool true) rfl (by kernel_rfl) (by kernel_rfl) (by kernel_rfl) (fun _ _ _ h=>h) (Or.inl ⟨by kernel_rfl,?_⟩) (by assumption) ?_
     ·(intro w hSw;(try dsimp only at hSw);go_simp;(try simp only [d2]))
     try simp only [Act.put]
     refine tkB 11 ?_
     try simp only [Act.put]
     refine tkB 12 ?_
     try simp only [Act.put]
     refine tkB 13 ?_
     try simp only [Act.put]
     refine tkB 14 ?_
     try simp only [Act.put]
     refine wpAnyH_take (i:=15) (v:=.int .i64 Q) rfl (by kernel_rfl) (by kernel_rfl) (by kernel_rfl) (fun _ _ _ h=>h) (Or.inl ⟨by kernel_rfl,?_⟩) (by assumption) ?_
     ·(intro w hSw;(try dsimp only at hSw);go_simp;(try simp only [t3,wQ]))
     try simp only [Act.put]
     refine tkB 16 ?_
     try simp only [Act.put]
     refine tkB 17 ?_
     try simp only [Act.put]
     refine tkB 18 ?_
     try simp only [Act.put]
     refine wpAnyH_take (i:=19) (v:=.bool false) rfl (by kernel_rfl) (by kernel_rfl) (by kernel_rfl) (fun _ _ _ h=>h) (Or.inl ⟨by kernel_rfl,?_⟩) (by assumption) ?_
     ·(intro w hSw;(try dsimp only at hSw);go_simp;(try simp only [d3]))
     try simp only [Act.put]
     refine tkB 20 ?_
     try simp only [Act.put]
     refine wpAnyH_ready (rs:=[21]) (by kernel_rfl) (by simp) ?_;refine AllReadyH.cons rfl (fun K hK=>?_) ?_
     ·skip
      go_simp;refine (jav _).mono ?_;rintro e wy ⟨rfl,rfl⟩;exact ⟨rfl,jai E4.out (jaf G1.out)⟩
     exact AllReadyH.nil
   ·have d2:(M2==0)=false:=by simpa using c2
    have E4:Hid (jcq A x k=.error 4):=by show _=_;rw [E1.out];simp [jal,c1,c2];rfl
    clear c1 c2;refine wp_region_held_drew (S:=(fun w'=>w'.cell? ⟨kb,ko,none⟩=some (.int .i64 k0)∧w'.cell? ⟨kb,ko+1,none⟩=some (.int .i64 k1))) (by kernel_rfl) (by go_keep) (fun hHeld=>?_);refine tkB 0 ?_
    try simp only [Act.put]
    refine tkB 1 ?_
    try simp only [Act.put]
    refine wpAnyH_take (i:=2) (v:=.int .i64 M1) rfl (by kernel_rfl) (by kernel_rfl) (by kernel_rfl) (fun _ _ _ h=>h) (Or.inl ⟨by kernel_rfl,?_⟩) (by assumption) ?_
    ·(intro w hSw;(try dsimp only at hSw);go_simp;(try simp only [t1]))
    try simp only [Act.put]
    refine wpAnyH_take (i:=3) (v:=.bool true) rfl (by kernel_rfl) (by kernel_rfl) (by kernel_rfl) (fun _ _ _ h=>h) (Or.inl ⟨by kernel_rfl,?_⟩) (by assumption) ?_
    ·(intro w hSw;(try dsimp only at hSw);go_simp;(try simp only [d1]))
    try simp only [Act.put]
    refine tkB 4 ?_
    try simp only [Act.put]
    refine tkB 5 ?_
    try simp only [Act.put]
    refine tkB 6 ?_
    try simp only [Act.put]
    refine tkB 7 ?_
    try simp only [Act.put]
    refine tkB 8 ?_
    try simp only [Act.put]
    refine wpAnyH_take (i:=9) (v:=.int .i64 M2) rfl (by kernel_rfl) (by kernel_rfl) (by kernel_rfl) (fun _ _ _ h=>h) (Or.inl ⟨by kernel_rfl,?_⟩) (by assumption) ?_
    ·(intro w hSw;(try dsimp only at hSw);go_simp;(try simp only [t2]))
    try simp only [Act.put]
    refine wpAnyH_take (i:=10) (v:=.bool false) rfl (by kernel_rfl) (by kernel_rfl) (by kernel_rfl) (fun _ _ _ h=>h) (Or.inl ⟨by kernel_rfl,?_⟩) (by assumption) ?_
    ·(intro w hSw;(try dsimp only at hSw);go_simp;(try simp only [d2]))
    try simp only [Act.put]
    refine tkB 11 ?_
    try simp only [Act.put]
    refine tkB 12 ?_
    try simp only [Act.put]
    refine tkU 13 ?_
    try simp only [Act.put]
    refine tkU 14 ?_
    try simp only [Act.put]
    refine tkU 15 ?_
    try simp only [Act.put]
    refine tkU 16 ?_
    try simp only [Act.put]
    refine tkU 17 ?_
    try simp only [Act.put]
    refine tkU 18 ?_
    try simp only [Act.put]
    refine tkU 19 ?_
    try simp only [Act.put]
    refine tkB 20 ?_
    try simp only [Act.put]
    refine wpAnyH_ready (rs:=[21]) (by kernel_rfl) (by simp) ?_;refine AllReadyH.cons rfl (fun K hK=>?_) ?_
    ·skip
     go_simp;refine (jav _).mono ?_;rintro e wy ⟨rfl,rfl⟩;exact ⟨rfl,jai E4.out (jaf G1.out)⟩
    exact AllReadyH.nil
  ·have d1:(M1==0)=false:=by simpa using c1
   have E4:Hid (jcq A x k=.error 4):=by show _=_;rw [E1.out];simp [jal,c1];rfl
   clear c1;refine wp_region_held_drew (S:=(fun w'=>w'.cell? ⟨kb,ko,none⟩=some (.int .i64 k0)∧w'.cell? ⟨kb,ko+1,none⟩=some (.int .i64 k1))) (by kernel_rfl) (by go_keep) (fun hHeld=>?_);refine tkB 0 ?_
   try simp only [Act.put]
   refine tkB 1 ?_
   try simp only [Act.put]
   refine wpAnyH_take (i:=2) (v:=.int .i64 M1) rfl (by kernel_rfl) (by kernel_rfl) (by kernel_rfl) (fun _ _ _ h=>h) (Or.inl ⟨by kernel_rfl,?_⟩) (by assumption) ?_
   ·(intro w hSw;(try dsimp only at hSw);go_simp;(try simp only [t1]))
   try simp only [Act.put]
   refine wpAnyH_take (i:=3) (v:=.bool false) rfl (by kernel_rfl) (by kernel_rfl) (by kernel_rfl) (fun _ _ _ h=>h) (Or.inl ⟨by kernel_rfl,?_⟩) (by assumption) ?_
   ·(intro w hSw;(try dsimp only at hSw);go_simp;(try simp only [d1]))
   try simp only [Act.put]
   refine tkB 4 ?_
   try simp only [Act.put]
   refine tkU 5 ?_
   try simp only [Act.put]
   refine tkU 6 ?_
   try simp only [Act.put]
   refine tkU 7 ?_
   try simp only [Act.put]
   refine tkU 8 ?_
   try simp only [Act.put]
   refine tkU 9 ?_
   try simp only [Act.put]
   refine tkU 10 ?_
   try simp only [Act.put]
   refine tkB 11 ?_
   try simp only [Act.put]
   refine tkB 12 ?_
   try simp only [Act.put]
   refine tkU 13 ?_
   try simp only [Act.put]
   refine tkU 14 ?_
   try simp only [Act.put]
   refine tkU 15 ?_
   try simp only [Act.put]
   refine tkU 16 ?_
   try simp only [Act.put]
   refine tkU 17 ?_
   try simp only [Act.put]
   refine tkU 18 ?_
   try simp only [Act.put]
   refine tkU 19 ?_
   try simp only [Act.put]
   refine tkB 20 ?_
   try simp only [Act.put]
   refine wpAnyH_ready (rs:=[21]) (by kernel_rfl) (by simp) ?_;refine AllReadyH.cons rfl (fun K hK=>?_) ?_
   ·skip
    go_simp;refine (jav _).mono ?_;rintro e wy ⟨rfl,rfl⟩;exact ⟨rfl,jai E4.out (jaf G1.out)⟩
   exact AllReadyH.nil
 ·have E1:Hid (jcq A x k=.error 4):=by show _=_;rw [E0.out];simp [jal,hG1];rfl
  have bG:decide (1≤G)=false:=by simpa using hG1
  clear hG1;rw [bG];refine (jav _).mono ?_;rintro e w' ⟨rfl,rfl⟩;exact ⟨rfl,jai E1.out G1.out⟩
end Go.Proofs.YteigfipgmghgmaaGreatDoor
