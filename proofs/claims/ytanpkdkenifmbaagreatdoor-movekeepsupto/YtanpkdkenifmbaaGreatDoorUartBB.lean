/- A part. -/
import Derived.Test.YtanpkdkenifmbaaGreatDoorMUart
import Derived.Test.YtanpkdkenifmbaaGreatDoorUartAY
import Derived.Test.YtanpkdkenifmbaaGreatDoorUartBA
import Derived.Test.YtanpkdkenifmbaaGreatDoorUartAQ
import Derived.Test.YtanpkdkenifmbaaGreatDoorUartAZ
set_option maxHeartbeats 8000000
set_option maxRecDepth 100000
namespace Go.Proofs.YtanpkdkenifmbaaGreatDoor
open Go.RowKit
theorem ji8 (n:Nod) (A:At) (u:Sl) (v0:Val) (x:List Int) (w:World) (hop:n.op=⟨#[69,120,112,97,110,100]⟩) (hn:NodeOk w n A) (hv:ValsIn w u.v [(v0,x)])  : Calls Tryz.prog 71 #[jaA n,.slice u.a u.n u.c] w (jaH w (jaO x ((A.ints ⟨#[115,104,97,112,101]⟩ []).map jbA)) jbf):=by
 obtain ⟨xa,xc,e1,q1,q2,q3⟩:=hv.vals.form;simp only [List.map_cons,List.map_nil,List.length_cons,List.length_nil,Nat.zero_add] at e1 q1 q3;obtain ⟨ua,un,uc⟩:=u;simp only [Sl.v,Value.slice.injEq] at e1;obtain ⟨rfl,rfl,rfl⟩:=e1;obtain ⟨b,off,rfl⟩:=hv.vals.addr (k:=0) (by simp);obtain ⟨-,z0⟩:=hv.at 0 (by simp);rw [Nat.zero_mul,Nat.add_zero] at z0;simp only [List.getElem_cons_zero] at z0;have HX:=jac (hv.dims (v0,x) (by simp));obtain ⟨vn0,vt0,⟨d0a,d0n,d0c⟩⟩:=v0;simp only at z0 HX;have Z0:=jac z0;clear hv z0;have NK:=jac hn;obtain ⟨op,nam,⟨ia,il,ic⟩,out,⟨ao,al,cap⟩⟩:=n;unfold jaA;simp only;obtain ⟨w0,hw0⟩ : ∃ w0,w0=w.alloc (.cells #[.string op,.string nam,.slice ia il ic,.string out,.slice ao al cap] 25):=⟨_,rfl⟩
 have g0:Hid (w.grownBy w0 none):=by show w.grownBy w0 none;rw [hw0];exact jab _ _
 have hb0:=heap_alloc_new w (.cells #[.string op,.string nam,.slice ia il ic,.string out,.slice ao al cap] 25);rw [← hw0] at hb0;have BX:Hid (∀ wx,w0.grownBy wx none→wx.heap[w.heap.size]?=some (.cells #[.string op,.string nam,.slice ia il ic,.string out,.slice ao al cap] 25 (0,0))):=fun wx hg=>jag hb0 hg;clear hb0 hn;simp only at hop;subst hop;have z0:(w.alloc (.cells #[.string ⟨#[69,120,112,97,110,100]⟩,.string nam,.slice ia il ic,.string out,.slice ao al cap] 25)).cell? ⟨b,off+2,none⟩=some (.slice d0a d0n d0c):=jad Z0.out (jab _ _);have NI:=jac (jbj ⟨⟨#[69,120,112,97,110,100]⟩,nam,⟨ia,il,ic⟩,out,⟨ao,al,cap⟩⟩ A ⟨#[115,104,97,112,101]⟩ ⟨none,0,0⟩ [] w0 (NK.out.more g0.out) ⟨none,0,rfl,Nat.le_refl _,by decide,by simp,fun _=>⟨rfl,rfl⟩,fun h=>(by simp at h),fun z hz=>(by simp at hz)⟩);unfold jaA at NI;simp only at NI;go_enter Tryz.func71,Tryz.ntmps71;go_wp2_with fail;rw [← hw0];clear hw0;refine NI.out.mono ?_;rintro e w1 ⟨⟨l1,l2,l3⟩,rfl,hl,hg1⟩;have WH:=jac (jky _ _ w1 hl);have G1:=jac (jaa g0.out hg1);simp only [Sl.v] at WH ⊢;clear hl hg1 NI;go_wp2_with (first | (go_at_call 91;refine WH.out.mono ?_;rintro e w2 ⟨⟨m1,m2,m3⟩,rfl,hm,hg2⟩;simp only) | fail);have G2:=jac (jaa G1.out hg2);have C:=jac (spread_any ⟨d0a,d0n,d0c⟩ ⟨m1,m2,m3⟩ x _ w2 (HX.out.more G2.out) hm);simp only at C;clear hm hg2 WH
 cases hk:jaO x ((A.ints ⟨#[115,104,97,112,101]⟩ []).map jbA) with
 | error c =>
  rw [hk] at C;have HK:=jac hk;clear hk;refine C.out.mono ?_;rintro e w' ⟨hg,rfl⟩;exact ⟨rfl,jah (by first | exact HK.out | rfl) (jaa G2.out hg)⟩
 | ok zs =>
  rw [hk] at C;have HK:=jac hk;clear hk;refine C.out.mono ?_;rintro e w' ⟨hg,v,rfl,⟨s1,s2,s3⟩,rfl,hs⟩;simp only [Sl.v];go_wp2;go_ret;exact jap (by first | exact HK.out | rfl) (jaa G2.out hg) ⟨⟨s1,s2,s3⟩,rfl,hs.ints⟩
theorem jh3 (n:Nod) (A:At) (u:Sl) (v0:Val) (x:List Int) (w:World) (hop:n.op=⟨#[83,111,102,116,109,97,120]⟩) (hn:NodeOk w n A) (hv:ValsIn w u.v [(v0,x)]) (hf:Fine x):Calls Tryz.prog 71 #[jaA n,.slice u.a u.n u.c] w (jaH w ((jbT (jb0 A x.length) x.length).bind (fun _=>.ok x)) jbf):=by
 obtain ⟨xa,xc,e1,q1,q2,q3⟩:=hv.vals.form;simp only [List.map_cons,List.map_nil,List.length_cons,List.length_nil,Nat.zero_add] at e1 q1 q3;obtain ⟨ua,un,uc⟩:=u;simp only [Sl.v,Value.slice.injEq] at e1;obtain ⟨rfl,rfl,rfl⟩:=e1;obtain ⟨b,off,rfl⟩:=hv.vals.addr (k:=0) (by simp);obtain ⟨-,z0⟩:=hv.at 0 (by simp);rw [Nat.zero_mul,Nat.add_zero] at z0;simp only [List.getElem_cons_zero] at z0;have HX:=jac (hv.dims (v0,x) (by simp));obtain ⟨vn0,vt0,⟨d0a,d0n,d0c⟩⟩:=v0;simp only at z0 HX;have Z0:=jac z0;clear hv z0;have NK:=jac hn;obtain ⟨op,nam,⟨ia,il,ic⟩,out,⟨ao,al,cap⟩⟩:=n;unfold jaA;simp only;obtain ⟨w0,hw0⟩ : ∃ w0,w0=w.alloc (.cells #[.string op,.string nam,.slice ia il ic,.string out,.slice ao al cap] 25):=⟨_,rfl⟩
 have g0:Hid (w.grownBy w0 none):=by show w.grownBy w0 none;rw [hw0];exact jab _ _
 have hb0:=heap_alloc_new w (.cells #[.string op,.string nam,.slice ia il ic,.string out,.slice ao al cap] 25);rw [← hw0] at hb0;have BX:Hid (∀ wx,w0.grownBy wx none→wx.heap[w.heap.size]?=some (.cells #[.string op,.string nam,.slice ia il ic,.string out,.slice ao al cap] 25 (0,0))):=fun wx hg=>jag hb0 hg;clear hb0 hn;simp only at hop;subst hop;have z0:(w.alloc (.cells #[.string ⟨#[83,111,102,116,109,97,120]⟩,.string nam,.slice ia il ic,.string out,.slice ao al cap] 25)).cell? ⟨b,off+2,none⟩=some (.slice d0a d0n d0c):=jad Z0.out (jab _ _);have FEW:=hf.few;obtain ⟨xx,xcc,ex,f1,f2,f3⟩:=HX.out.sl;simp only [Sl.v,Value.slice.injEq] at ex;obtain ⟨rfl,rfl,rfl⟩:=ex;have AL:=jac (jdk ⟨⟨#[83,111,102,116,109,97,120]⟩,nam,⟨ia,il,ic⟩,out,⟨ao,al,cap⟩⟩ A x.length w0 (NK.out.more g0.out) (by omega));unfold jaA at AL;simp only at AL;go_enter Tryz.func71,Tryz.ntmps71;go_wp2_with fail;rw [← hw0];clear hw0;refine AL.out.mono ?_;rintro e w1 ⟨⟨l1,l2,l3⟩,rfl,hl,hg1⟩;have C:=jac (jco ⟨l1,l2,l3⟩ _ x.length w1 hl (by omega));have G1:=jac (jaa g0.out hg1);simp only [Sl.v] at C ⊢;clear hl hg1 AL
 cases hk:jbT (jb0 A x.length) x.length with
 | error c =>
  rw [hk] at C;have HK:Hid ((jbT (jb0 A x.length) x.length).bind (fun _=>.ok x)=.error c):=by show _=_;rw [hk];rfl
  clear hk;go_wp2_with (first | (go_at_call 87;refine C.out.mono ?_;rintro e w' ⟨hg,rfl⟩) | fail);exact ⟨rfl,jah (by first | exact HK.out | rfl) (jaa G1.out hg)⟩
 | ok is =>
  rw [hk] at C;have HK:Hid ((jbT (jb0 A x.length) x.length).bind (fun _=>.ok x)=.ok x):=by show _=_;rw [hk];rfl
  clear hk;go_wp2_with (first | (go_at_call 87;refine C.out.mono ?_;rintro e w' ⟨hg,v,rfl,B,rfl,-,-⟩) | fail);go_ret;exact jap (by first | exact HK.out | rfl) (jaa G1.out hg) ⟨⟨d0a,x.length,d0c⟩,rfl,HX.out.more (jaa G1.out hg)⟩
theorem jef (n:Nod) (A:At) (u:Sl) (w:World) (hop:n.op=⟨#[67,111,110,115,116,97,110,116]⟩) (hn:NodeOk w n A) (D:List Int) (hD:IsInts w (jeU A).dv.v D):Calls Tryz.prog 71 #[jaA n,.slice u.a u.n u.c] w (jaH w (.ok D) jbf):=by
 obtain ⟨ua,un,uc⟩:=u;simp only;have NK:=jac hn;obtain ⟨op,nam,⟨ia,il,ic⟩,out,⟨ao,al,cap⟩⟩:=n;unfold jaA;simp only;obtain ⟨w0,hw0⟩ : ∃ w0,w0=w.alloc (.cells #[.string op,.string nam,.slice ia il ic,.string out,.slice ao al cap] 25):=⟨_,rfl⟩
 have g0:Hid (w.grownBy w0 none):=by show w.grownBy w0 none;rw [hw0];exact jab _ _
 have hb0:=heap_alloc_new w (.cells #[.string op,.string nam,.slice ia il ic,.string out,.slice ao al cap] 25);rw [← hw0] at hb0;have BX:Hid (∀ wx,w0.grownBy wx none→wx.heap[w.heap.size]?=some (.cells #[.string op,.string nam,.slice ia il ic,.string out,.slice ao al cap] 25 (0,0))):=fun wx hg=>jag hb0 hg;clear hb0 hn;simp only at hop;subst hop;have V0:=jac (jed ⟨⟨#[67,111,110,115,116,97,110,116]⟩,nam,⟨ia,il,ic⟩,out,⟨ao,al,cap⟩⟩ A w0 (NK.out.more g0.out));unfold jaA at V0;simp only at V0;have hfl:=jkT;have HD:=jac hD;clear hD;go_enter Tryz.func71,Tryz.ntmps71;go_wp2_with fail;rw [← hw0];clear hw0;refine V0.out.mono ?_;rintro e w1 ⟨rfl,hg1⟩;go_wp2;go_ret;exact ⟨jaa g0.out hg1,_,rfl,(jeU A).dv,rfl,HD.out.more (jaa g0.out hg1)⟩
theorem jc2 (n:Nod) (A:At) (u:Sl) (p0 p1:Val×List Int) (rest:List (Val×List Int)) (w:World) (hop:n.op=⟨#[66,97,116,99,104,78,111,114,109,97,108,105,122,97,116,105,111,110]⟩) (hn:NodeOk w n A) (hv:ValsIn w u.v (p0::p1::rest)) (hr:rest.length≤1000000):Calls Tryz.prog 71 #[jaA n,.slice u.a u.n u.c] w (jaH w (jbl p0.2 ((p1::rest).map (·.2))) jbf):=by
 obtain ⟨xa,xc,e1,q1,q2,q3⟩:=hv.vals.form;rw [List.length_map] at e1 q1 q3;obtain ⟨ua,un,uc⟩:=u;simp only [Sl.v,Value.slice.injEq] at e1;obtain ⟨rfl,rfl,rfl⟩:=e1;obtain ⟨b,off,rfl⟩:=hv.vals.addr (k:=0) (by simp);obtain ⟨-,z0⟩:=hv.at 0 (by simp);rw [Nat.zero_mul,Nat.add_zero] at z0;simp only [List.getElem_cons_zero] at z0;have HV:=jac hv;obtain ⟨⟨vn0,vt0,⟨d0a,d0n,d0c⟩⟩,x⟩:=p0;simp only at z0;have Z0:=jac z0;obtain ⟨m,hm⟩ : ∃ m,m=((((⟨vn0,vt0,⟨d0a,d0n,d0c⟩⟩,x):Val×List Int)::p1::rest):List (Val×List Int)).length:=⟨_,rfl⟩
 have hm0:0<m:=by rw [hm];simp
 have hm0':(0:Int)<(m:Int):=by omega
 have HM:=jac hm;rw [← hm] at q1 q3 ⊢;clear hv z0 hm;have NK:=jac hn;obtain ⟨op,nam,⟨ia,il,ic⟩,out,⟨ao,al,cap⟩⟩:=n;unfold jaA;simp only;obtain ⟨w0,hw0⟩ : ∃ w0,w0=w.alloc (.cells #[.string op,.string nam,.slice ia il ic,.string out,.slice ao al cap] 25):=⟨_,rfl⟩
 have g0:Hid (w.grownBy w0 none):=by show w.grownBy w0 none;rw [hw0];exact jab _ _
 have hb0:=heap_alloc_new w (.cells #[.string op,.string nam,.slice ia il ic,.string out,.slice ao al cap] 25);rw [← hw0] at hb0;have BX:Hid (∀ wx,w0.grownBy wx none→wx.heap[w.heap.size]?=some (.cells #[.string op,.string nam,.slice ia il ic,.string out,.slice ao al cap] 25 (0,0))):=fun wx hg=>jag hb0 hg;clear hb0 hn;simp only at hop;subst hop;have z0:(w.alloc (.cells #[.string ⟨#[66,97,116,99,104,78,111,114,109,97,108,105,122,97,116,105,111,110]⟩,.string nam,.slice ia il ic,.string out,.slice ao al cap] 25)).cell? ⟨b,off+2,none⟩=some (.slice d0a d0n d0c):=jad Z0.out (jab _ _);have C:=jac (jf3 ⟨some ⟨b,off,none⟩,m,uc⟩ _ p1 rest w0 (by rw [HM.out];exact HV.out.more g0.out) hr);simp only at C;go_enter Tryz.func71,Tryz.ntmps71;go_wp2_with fail;rw [← hw0];clear hw0
 cases hk:jbl x ((p1::rest).map (·.2)) with
 | error c =>
  rw [hk] at C;have HK:=jac hk;clear hk;refine C.out.mono ?_;rintro e w' ⟨hg,rfl⟩;exact ⟨rfl,jah (by first | exact HK.out | rfl) (jaa g0.out hg)⟩
 | ok zs =>
  rw [hk] at C;have HK:=jac hk;clear hk;refine C.out.mono ?_;rintro e w' ⟨hg,v,rfl,⟨s1,s2,s3⟩,rfl,hs⟩;simp only [Sl.v];go_wp2;go_ret;exact jap (by first | exact HK.out | rfl) (jaa g0.out hg) ⟨⟨s1,s2,s3⟩,rfl,hs⟩
theorem jnn (n:Nod) (A:At) (u:Sl) (p0 p1:Val×List Int) (rest:List (Val×List Int)) (w:World) (hop:n.op=⟨#[71,101,109,109]⟩) (hn:NodeOk w n A) (hv:ValsIn w u.v (p0::p1::rest)) (hr:rest.length≤1):Calls Tryz.prog 71 #[jaA n,.slice u.a u.n u.c] w (jaH w (jcZ A p0.2 p1.2 (rest.head?.map (·.2))) jbf):=by
 obtain ⟨xa,xc,e1,q1,q2,q3⟩:=hv.vals.form;rw [List.length_map] at e1 q1 q3;obtain ⟨ua,un,uc⟩:=u;simp only [Sl.v,Value.slice.injEq] at e1;obtain ⟨rfl,rfl,rfl⟩:=e1;obtain ⟨b,off,rfl⟩:=hv.vals.addr (k:=0) (by simp);obtain ⟨-,z0⟩:=hv.at 0 (by simp);rw [Nat.zero_mul,Nat.add_zero] at z0;simp only [List.getElem_cons_zero] at z0;have HV:=jac hv;obtain ⟨⟨vn0,vt0,⟨d0a,d0n,d0c⟩⟩,x⟩:=p0;simp only at z0;have Z0:=jac z0;obtain ⟨m,hm⟩ : ∃ m,m=((((⟨vn0,vt0,⟨d0a,d0n,d0c⟩⟩,x):Val×List Int)::p1::rest):List (Val×List Int)).length:=⟨_,rfl⟩
 have hm0:0<m:=by rw [hm];simp
 have hm0':(0:Int)<(m:Int):=by omega
 have HM:=jac hm;rw [← hm] at q1 q3 ⊢;clear hv z0 hm;have NK:=jac hn;obtain ⟨op,nam,⟨ia,il,ic⟩,out,⟨ao,al,cap⟩⟩:=n;unfold jaA;simp only;obtain ⟨w0,hw0⟩ : ∃ w0,w0=w.alloc (.cells #[.string op,.string nam,.slice ia il ic,.string out,.slice ao al cap] 25):=⟨_,rfl⟩
 have g0:Hid (w.grownBy w0 none):=by show w.grownBy w0 none;rw [hw0];exact jab _ _
 have hb0:=heap_alloc_new w (.cells #[.string op,.string nam,.slice ia il ic,.string out,.slice ao al cap] 25);rw [← hw0] at hb0;have BX:Hid (∀ wx,w0.grownBy wx none→wx.heap[w.heap.size]?=some (.cells #[.string op,.string nam,.slice ia il ic,.string out,.slice ao al cap] 25 (0,0))):=fun wx hg=>jag hb0 hg;clear hb0 hn;simp only at hop;subst hop;have z0:(w.alloc (.cells #[.string ⟨#[71,101,109,109]⟩,.string nam,.slice ia il ic,.string out,.slice ao al cap] 25)).cell? ⟨b,off+2,none⟩=some (.slice d0a d0n d0c):=jad Z0.out (jab _ _);have C:=jac (jps ⟨⟨#[71,101,109,109]⟩,nam,⟨ia,il,ic⟩,out,⟨ao,al,cap⟩⟩ A ⟨some ⟨b,off,none⟩,m,uc⟩ _ p1 rest w0 (NK.out.more g0.out) (by rw [HM.out];exact HV.out.more g0.out) hr);unfold jaA at C;simp only at C;go_enter Tryz.func71,Tryz.ntmps71;go_wp2_with fail;rw [← hw0];clear hw0
 cases hk:jcZ A x p1.2 (rest.head?.map (·.2)) with
 | error c =>
  rw [hk] at C;have HK:=jac hk;clear hk;refine C.out.mono ?_;rintro e w' ⟨hg,rfl⟩;exact ⟨rfl,jah (by first | exact HK.out | rfl) (jaa g0.out hg)⟩
 | ok zs =>
  rw [hk] at C;have HK:=jac hk;clear hk;refine C.out.mono ?_;rintro e w' ⟨hg,v,rfl,⟨s1,s2,s3⟩,rfl,hs⟩;simp only [Sl.v];go_wp2;go_ret;exact jap (by first | exact HK.out | rfl) (jaa g0.out hg) ⟨⟨s1,s2,s3⟩,rfl,hs⟩
theorem jdb (n:Nod) (A:At) (u:Sl) (v0:Val) (x:List Int) (w:World) (hop:n.op=⟨#[71,108,111,98,97,108,65,118,101,114,97,103,101,80,111,111,108]⟩) (hn:NodeOk w n A) (hv:ValsIn w u.v [(v0,x)])  : Calls Tryz.prog 71 #[jaA n,.slice u.a u.n u.c] w (jaH w ((jal (decide (x.length=4))).bind (fun _=>.ok [x.getD 0 0,x.getD 1 0,1,1])) jbf):=by
 obtain ⟨xa,xc,e1,q1,q2,q3⟩:=hv.vals.form;simp only [List.map_cons,List.map_nil,List.length_cons,List.length_nil,Nat.zero_add] at e1 q1 q3;obtain ⟨ua,un,uc⟩:=u;simp only [Sl.v,Value.slice.injEq] at e1;obtain ⟨rfl,rfl,rfl⟩:=e1;obtain ⟨b,off,rfl⟩:=hv.vals.addr (k:=0) (by simp);obtain ⟨-,z0⟩:=hv.at 0 (by simp);rw [Nat.zero_mul,Nat.add_zero] at z0;simp only [List.getElem_cons_zero] at z0;have HX:=jac (hv.dims (v0,x) (by simp));obtain ⟨vn0,vt0,⟨d0a,d0n,d0c⟩⟩:=v0;simp only at z0 HX;have Z0:=jac z0;clear hv z0;have NK:=jac hn;obtain ⟨op,nam,⟨ia,il,ic⟩,out,⟨ao,al,cap⟩⟩:=n;unfold jaA;simp only;obtain ⟨w0,hw0⟩ : ∃ w0,w0=w.alloc (.cells #[.string op,.string nam,.slice ia il ic,.string out,.slice ao al cap] 25):=⟨_,rfl⟩
 have g0:Hid (w.grownBy w0 none):=by show w.grownBy w0 none;rw [hw0];exact jab _ _
 have hb0:=heap_alloc_new w (.cells #[.string op,.string nam,.slice ia il ic,.string out,.slice ao al cap] 25);rw [← hw0] at hb0;have BX:Hid (∀ wx,w0.grownBy wx none→wx.heap[w.heap.size]?=some (.cells #[.string op,.string nam,.slice ia il ic,.string out,.slice ao al cap] 25 (0,0))):=fun wx hg=>jag hb0 hg;clear hb0 hn;simp only at hop;subst hop;have z0:(w.alloc (.cells #[.string ⟨#[71,108,111,98,97,108,65,118,101,114,97,103,101,80,111,111,108]⟩,.string nam,.slice ia il ic,.string out,.slice ao al cap] 25)).cell? ⟨b,off+2,none⟩=some (.slice d0a d0n d0c):=jad Z0.out (jab _ _);obtain ⟨xx,xcc,ex,f1,f2,f3⟩:=HX.out.sl;simp only [Sl.v,Value.slice.injEq] at ex;obtain ⟨rfl,rfl,rfl⟩:=ex
 by_cases hl:x.length=4
 ·have b0:((x.length:Int)==4)=true:=by simp [hl]
  have HK:Hid ((jal (decide (x.length=4))).bind (fun _=>.ok [x.getD 0 0,x.getD 1 0,1,1])=.ok [x.getD 0 0,x.getD 1 0,1,1]):=by show _=_;simp [jal,hl];rfl
  obtain ⟨xb,xo,rfl,hcx⟩:=HX.out.get (k:=0) (by omega);have X0:=hcx 0 (by omega);have X1:=hcx 1 (by omega);have b0':=HX.out.wf (x.getD 0 0) (jaU (by omega));have b1':=HX.out.wf (x.getD 1 0) (jaU (by omega));rw [Nat.add_zero] at X0;obtain ⟨x0,hx0⟩ : ∃ z,z=x.getD 0 0:=⟨_,rfl⟩
  obtain ⟨x1,hx1⟩ : ∃ z,z=x.getD 1 0:=⟨_,rfl⟩
  rw [← hx0] at X0 b0';rw [← hx1] at X1 b1';have HX0:=jac hx0;have HX1:=jac hx1;have y0:=jad X0 g0.out;have y1:=jad X1 g0.out;have l0:(0:Int)<(x.length:Int):=by omega
  have l1:(1:Int)<(x.length:Int):=by omega
  have m0:0<x.length:=by omega
  have m1:1<x.length:=by omega
  clear hx0 hx1 hl hcx X0 X1;go_enter Tryz.func71,Tryz.ntmps71;go_wp2_with (first | (go_at_call 67;refine (jaq _).mono ?_;rintro e w' ⟨rfl,rfl⟩) | fail);rw [← hw0];clear hw0 z0;go_region_held3 (fun w'=>w'.cell? ⟨xb,xo,none⟩=some (.int .i64 x0)∧w'.cell? ⟨xb,xo+1,none⟩=some (.int .i64 x1)) (go_keep) (fail);go_wp2;go_ret;exact jap HK.out (jaa (jaf g0.out) (jab _ _)) ⟨⟨_,4,4⟩,rfl,by rw [← HX0.out,← HX1.out];exact jbt _ [x0,x1,1,1] 3 (by simp) (fun y hy=>by simp at hy;rcases hy with rfl | rfl | rfl | rfl <;> first | assumption | omega)⟩
 ·have b0:((x.length:Int)==4)=false:=by simpa using (fun h=>hl (by omega):¬ (x.length:Int)=4)
  have HK:Hid ((jal (decide (x.length=4))).bind (fun _=>.ok [x.getD 0 0,x.getD 1 0,1,1])=.error 4):=by show _=_;simp [jal,hl];rfl
  clear hl;go_enter Tryz.func71,Tryz.ntmps71;go_wp2_with (first | (go_at_call 67;refine (jav _).mono ?_;rintro e w' ⟨rfl,rfl⟩) | fail);rw [← hw0];exact ⟨rfl,jah HK.out g0.out⟩
end Go.Proofs.YtanpkdkenifmbaaGreatDoor
namespace Go.Proofs.YtanpkdkenifmbaaGreatDoor
open Go.RowKit
theorem ValsIn.tail {w:World} {b off n c:Nat} {p:Val×List Int} {l:List (Val×List Int)} (h:ValsIn w (.slice (some ⟨b,off,none⟩) n c) (p::l)):ValsIn w (.slice (some ⟨b,off+3,none⟩) l.length (c - 1)) l:=by
 refine ⟨?_,fun q hq=>h.dims q (List.mem_cons_of_mem _ hq)⟩;obtain ⟨ao,cap,e,h1,h2,h3,h4,h5⟩:=h.vals
 cases e
 simp only [List.map_cons,List.length_cons] at h1 h3 h5;refine ⟨_,c - 1,by rw [List.length_map],by omega,by omega,by omega,(fun h=>by cases h),fun hp=>⟨b,off+3,rfl,fun k hk j hj=>?_⟩⟩;obtain ⟨b',off',e',hc⟩:=h5 (by omega)
 cases e'
 have:=hc (k+1) (by omega) j hj;simp only [List.getElem_cons_succ] at this;rw [show off+3+k*3+j=off+(k+1)*3+j by omega];exact this
theorem jk0 (n:Nod) (A:At) (u:Sl) (p0 p1 p2:Val×List Int) (w:World) (hop:n.op=⟨#[87,104,101,114,101]⟩) (hn:NodeOk w n A) (hv:ValsIn w u.v [p0,p1,p2]):Calls Tryz.prog 70 #[jaA n,.slice u.a u.n u.c] w (jaH w ((jal (p0.1.ty==9)).bind (fun _=>ja1 (jaE [p1,p2]))) fun t v _=>v=.int .i64 t):=by
 obtain ⟨xa,xc,e1,q1,q2,q3⟩:=hv.vals.form;simp only [List.map_cons,List.map_nil,List.length_cons,List.length_nil,Nat.zero_add,Nat.reduceAdd] at e1 q1 q3;obtain ⟨ua,un,uc⟩:=u;simp only [Sl.v,Value.slice.injEq] at e1;obtain ⟨rfl,rfl,rfl⟩:=e1;obtain ⟨b,off,rfl⟩:=hv.vals.addr (k:=0) (by simp);obtain ⟨z1,-⟩:=hv.at 0 (by simp);rw [Nat.zero_mul,Nat.add_zero] at z1;simp only [List.getElem_cons_zero] at z1;have HT:=jac hv.tail;simp only [List.length_cons,List.length_nil,Nat.zero_add,Nat.reduceAdd] at HT;have Z1:=jac z1;have huc:¬ uc=1:=by omega
 have huc2:1≤uc:=by omega
 obtain ⟨T,hT⟩ : ∃ T,T=p0.1.ty:=⟨_,rfl⟩
 rw [← hT] at Z1 ⊢;clear hv z1 hT;have NK:=jac hn;obtain ⟨op,nam,⟨ia,il,ic⟩,out,⟨ao,al,cap⟩⟩:=n;unfold jaA;simp only;obtain ⟨w0,hw0⟩ : ∃ w0,w0=w.alloc (.cells #[.string op,.string nam,.slice ia il ic,.string out,.slice ao al cap] 25):=⟨_,rfl⟩
 have g0:Hid (w.grownBy w0 none):=by show w.grownBy w0 none;rw [hw0];exact jab _ _
 have hb0:=heap_alloc_new w (.cells #[.string op,.string nam,.slice ia il ic,.string out,.slice ao al cap] 25);rw [← hw0] at hb0;have BX:Hid (∀ wx,w0.grownBy wx none→wx.heap[w.heap.size]?=some (.cells #[.string op,.string nam,.slice ia il ic,.string out,.slice ao al cap] 25 (0,0))):=fun wx hg=>jag hb0 hg;clear hb0 hn;simp only at hop;subst hop;have z2:(w.alloc (.cells #[.string ⟨#[87,104,101,114,101]⟩,.string nam,.slice ia il ic,.string out,.slice ao al cap] 25)).cell? ⟨b,off+1,none⟩=some (.int .i64 T):=jad Z1.out (jab _ _);have SM:=jac (jbr ⟨some ⟨b,off+3,none⟩,2,uc - 1⟩ [p1,p2] w0 (HT.out.more g0.out) (by simp) (by simp));simp only at SM
 cases h1:(T==9) with
 | false =>
  go_enter Tryz.func70,Tryz.ntmps70;go_wp2_with (first | (go_at_call 67;refine (jav _).mono ?_;rintro e w' ⟨rfl,rfl⟩) | fail);exact ⟨rfl,jah (by rfl) (by rw [← hw0];exact g0.out)⟩
 | true =>
  go_enter Tryz.func70,Tryz.ntmps70;go_wp2_with (first | (go_at_call 67;refine (jaq _).mono ?_;rintro e w' ⟨rfl,rfl⟩) | fail);rw [← hw0];clear hw0
  cases hk:ja1 ([p1,p2].map (·.1.ty)) with
  | error c =>
   rw [hk] at SM;have HK:Hid (ja1 (jaE [p1,p2])=.error c):=hk;clear hk;refine SM.out.mono ?_;rintro e w' ⟨hg,rfl⟩;exact ⟨rfl,jah HK.out (jaa g0.out hg)⟩
  | ok t =>
   rw [hk] at SM;have HK:Hid (ja1 (jaE [p1,p2])=.ok t):=hk;clear hk;refine SM.out.mono ?_;rintro e w' ⟨hg,v,rfl,rfl⟩;go_wp2;go_ret;exact jap HK.out (jaa g0.out hg) rfl
theorem jk1 (n:Nod) (A:At) (u:Sl) (v0 v1 v2:Val) (x y z:List Int) (w:World) (hop:n.op=⟨#[87,104,101,114,101]⟩) (hn:NodeOk w n A) (hv:ValsIn w u.v [(v0,x),(v1,y),(v2,z)]):Calls Tryz.prog 71 #[jaA n,.slice u.a u.n u.c] w (jaH w ((jaO x y).bind (fun l=>jaO l z)) jbf):=by
 obtain ⟨xa,xc,e1,q1,q2,q3⟩:=hv.vals.form;simp only [List.map_cons,List.map_nil,List.length_cons,List.length_nil,Nat.zero_add,Nat.reduceAdd] at e1 q1 q3;obtain ⟨ua,un,uc⟩:=u;simp only [Sl.v,Value.slice.injEq] at e1;obtain ⟨rfl,rfl,rfl⟩:=e1;obtain ⟨b,off,rfl⟩:=hv.vals.addr (k:=0) (by simp);obtain ⟨-,z0⟩:=hv.at 0 (by simp);obtain ⟨-,z1⟩:=hv.at 1 (by simp);obtain ⟨-,z2⟩:=hv.at 2 (by simp);rw [Nat.zero_mul,Nat.add_zero] at z0;simp only [List.getElem_cons_zero,List.getElem_cons_succ,Nat.one_mul,Nat.reduceMul] at z0 z1 z2;have HX:=jac (hv.dims (v0,x) (by simp));have HY:=jac (hv.dims (v1,y) (by simp));have HZ:=jac (hv.dims (v2,z) (by simp));obtain ⟨vn0,vt0,⟨d0a,d0n,d0c⟩⟩:=v0;obtain ⟨vn1,vt1,d1⟩:=v1;obtain ⟨vn2,vt2,d2⟩:=v2;simp only at z0 z1 z2 HX HY HZ;have Z0:=jac z0;have Z1:=jac z1;have Z2:=jac z2;clear hv z0 z1 z2;have NK:=jac hn;obtain ⟨op,nam,⟨ia,il,ic⟩,out,⟨ao,al,cap⟩⟩:=n;unfold jaA;simp only;obtain ⟨w0,hw0⟩ : ∃ w0,w0=w.alloc (.cells #[.string op,.string nam,.slice ia il ic,.string out,.slice ao al cap] 25):=⟨_,rfl⟩
 have g0:Hid (w.grownBy w0 none):=by show w.grownBy w0 none;rw [hw0];exact jab _ _
 have hb0:=heap_alloc_new w (.cells #[.string op,.string nam,.slice ia il ic,.string out,.slice ao al cap] 25);rw [← hw0] at hb0;have BX:Hid (∀ wx,w0.grownBy wx none→wx.heap[w.heap.size]?=some (.cells #[.string op,.string nam,.slice ia il ic,.string out,.slice ao al cap] 25 (0,0))):=fun wx hg=>jag hb0 hg;clear hb0 hn;simp only at hop;subst hop;have z0:(w.alloc (.cells #[.string ⟨#[87,104,101,114,101]⟩,.string nam,.slice ia il ic,.string out,.slice ao al cap] 25)).cell? ⟨b,off+2,none⟩=some (.slice d0a d0n d0c):=jad Z0.out (jab _ _);have S1:=jac (fun (wx:World) (hg:w0.grownBy wx none)=>spread_any ⟨d0a,d0n,d0c⟩ d1 x y wx (HX.out.more (jaa g0.out hg)) (HY.out.more (jaa g0.out hg)));simp only at S1;have i1:(1:Int)<3:=by decide
 have i2:(2:Int)<3:=by decide
 go_enter Tryz.func71,Tryz.ntmps71;go_wp2_with fail;rw [← hw0];clear hw0 z0;have k1:=jad Z1.out g0.out;have k2:=jad Z2.out g0.out
 cases hk1:jaO x y with
 | error c =>
  rw [hk1] at S1;have E1:Hid ((jaO x y).bind (fun l=>jaO l z)=.error c):=by show _=_;rw [hk1];rfl
  refine wp_region_held_drew (S:=(fun w'=>w'.cell? ⟨b,off+3+2,none⟩=some (.slice d1.a d1.n d1.c)∧w'.cell? ⟨b,off+6+2,none⟩=some (.slice d2.a d2.n d2.c))) (by kernel_rfl) (by go_keep) (fun hHeld=>?_);refine tkA 0 ?_
  try simp only [Act.put]
  refine tkA 1 ?_
  try simp only [Act.put]
  refine tkA 2 ?_
  try simp only [Act.put]
  refine tkA 3 ?_
  try simp only [Act.put]
  refine tkA 4 ?_
  try simp only [Act.put]
  refine tkA 6 ?_
  try simp only [Act.put]
  refine tkA 7 ?_
  try simp only [Act.put]
  refine tkA 8 ?_
  try simp only [Act.put]
  refine tkA 9 ?_
  try simp only [Act.put]
  refine wpAnyH_ready (rs:=[5]) (by kernel_rfl) (by simp) ?_;refine AllReadyH.cons rfl (fun K hK=>?_) ?_
  ·skip
   go_simp;refine (S1.out _ (jaf (jae _))).mono ?_;rintro e wy ⟨hg,rfl⟩;exact ⟨rfl,jah E1.out (jaa (jaf g0.out) hg)⟩
  exact AllReadyH.nil
 | ok l =>
  rw [hk1] at S1
  cases hk2:jaO l z with
  | error c =>
   have E2:Hid ((jaO x y).bind (fun l=>jaO l z)=.error c):=by show _=_;rw [hk1];exact hk2
   refine wp_region_held_drew (S:=(fun w'=>w'.cell? ⟨b,off+3+2,none⟩=some (.slice d1.a d1.n d1.c)∧w'.cell? ⟨b,off+6+2,none⟩=some (.slice d2.a d2.n d2.c))) (by kernel_rfl) (by go_keep) (fun hHeld=>?_);refine tkA 0 ?_
   try simp only [Act.put]
   refine tkA 1 ?_
   try simp only [Act.put]
   refine tkA 2 ?_
   try simp only [Act.put]
   refine tkA 3 ?_
   try simp only [Act.put]
   refine tkA 4 ?_
   try simp only [Act.put]
   refine tkA 6 ?_
   try simp only [Act.put]
   refine tkA 7 ?_
   try simp only [Act.put]
   refine tkA 8 ?_
   try simp only [Act.put]
   refine tkA 9 ?_
   try simp only [Act.put]
   refine wpAnyH_ready (rs:=[5]) (by kernel_rfl) (by simp) ?_;refine AllReadyH.cons rfl (fun K hK=>?_) ?_
   ·skip
    go_simp;refine (S1.out _ (jaf (jae _))).mono ?_;rintro e w1 ⟨hg1,v,rfl,⟨s1,s2,s3⟩,rfl,hs⟩;have g1:w.grownBy w1 none:=jaa (jaf g0.out) hg1;have k1:=jad Z1.out g1;have k2:=jad Z2.out g1;have C2:=spread_any ⟨s1,s2,s3⟩ d2 l z w1 hs.ints (HZ.out.more g1);rw [hk2] at C2
    try dsimp only
    refine hK.out _ _ (by first | assumption | go_keep) (fun hHeld=>?_);clear hK K
    try simp only [Act.put]
    refine wpAnyH_ready (rs:=[10]) (by kernel_rfl) (by simp) ?_;refine AllReadyH.cons rfl (fun K hK=>?_) ?_
    ·skip
     go_simp;refine C2.mono ?_;rintro e wy ⟨hg,rfl⟩;exact ⟨rfl,jah (by first | exact E2.out | exact hk2) (jaa g1 hg)⟩
    exact AllReadyH.nil
   exact AllReadyH.nil
  | ok zs =>
   have E2:Hid ((jaO x y).bind (fun l=>jaO l z)=.ok zs):=by show _=_;rw [hk1];exact hk2
   refine wp_region_held_drew (S:=(fun w'=>w'.cell? ⟨b,off+3+2,none⟩=some (.slice d1.a d1.n d1.c)∧w'.cell? ⟨b,off+6+2,none⟩=some (.slice d2.a d2.n d2.c))) (by kernel_rfl) (by go_keep) (fun hHeld=>?_);refine tkA 0 ?_
   try simp only [Act.put]
   refine tkA 1 ?_
   try simp only [Act.put]
   refine tkA 2 ?_
   try simp only [Act.put]
   refine tkA 3 ?_
   try simp only [Act.put]
   refine tkA 4 ?_
   try simp only [Act.put]
   refine tkA 6 ?_
   try simp only [Act.put]
   refine tkA 7 ?_
   try simp only [Act.put]
   refine tkA 8 ?_
   try simp only [Act.put]
   refine tkA 9 ?_
   try simp only [Act.put]
   refine wpAnyH_ready (rs:=[5]) (by kernel_rfl) (by simp) ?_;refine AllReadyH.cons rfl (fun K hK=>?_) ?_
   ·skip
    go_simp;refine (S1.out _ (jaf (jae _))).mono ?_;rintro e w1 ⟨hg1,v,rfl,⟨s1,s2,s3⟩,rfl,hs⟩;have g1:w.grownBy w1 none:=jaa (jaf g0.out) hg1;have k1:=jad Z1.out g1;have k2:=jad Z2.out g1;have C2:=spread_any ⟨s1,s2,s3⟩ d2 l z w1 hs.ints (HZ.out.more g1);rw [hk2] at C2
    try dsimp only
    refine hK.out _ _ (by first | assumption | go_keep) (fun hHeld=>?_);clear hK K
    try simp only [Act.put]
    refine wpAnyH_ready (rs:=[10]) (by kernel_rfl) (by simp) ?_;refine AllReadyH.cons rfl (fun K hK=>?_) ?_
    ·skip
     go_simp;refine C2.mono ?_;rintro e w2 ⟨hg2,v,rfl,⟨r1,r2,r3⟩,rfl,hr⟩;have g2:w.grownBy w2 none:=jaa g1 hg2;have k1:=jad Z1.out g2;have k2:=jad Z2.out g2
     try dsimp only
     refine hK.out _ _ (by first | assumption | go_keep) (fun hHeld=>?_);clear hK K
     try simp only [Act.put]
     refine tkA 11 ?_
     try simp only [Act.put]
     refine wpAnyH_done (by kernel_rfl) ?_ _
     try go_simp
     simp only [Sl.v];go_wp2;go_ret;exact jap (by first | exact E2.out | exact hk2) g2 ⟨⟨r1,r2,r3⟩,rfl,hr.ints⟩
    exact AllReadyH.nil
   exact AllReadyH.nil
end Go.Proofs.YtanpkdkenifmbaaGreatDoor
namespace Go.Proofs.YtanpkdkenifmbaaGreatDoor
open Go.RowKit
theorem jk2 {axis:Nat} {ys:List (List Int)} {k:Nat} (hk:k<ys.length) (dims:List Int):jdj axis (ys.drop k) dims=(jal (decide (ys[k].length=dims.length))).bind (fun _=>(jal (jgU dims axis ys[k])).bind (fun _=>jdj axis (ys.drop (k+1)) (dims.set axis (dims.getD axis 0+ys[k].getD axis 0)))):=by
 rw [List.drop_eq_getElem_cons hk]
 rfl
theorem jfx {l:List Int} {k:Nat} (hk:k<l.length):l.getD k 0∈l:=by
 rw [List.getD,List.getElem?_eq_getElem hk];exact List.getElem_mem hk
theorem jno {dims y:List Int} {axis i:Nat} (hi:i<y.length) (ha:i≠axis) (h:y.getD i 0≠dims.getD i 0):jgU dims axis y=false:=by
 unfold jgU;rw [List.all_eq_false];exact ⟨i,List.mem_range.2 hi,by rw [Bool.not_eq_true,Bool.or_eq_false_iff];exact ⟨by simpa using ha,by simpa using h⟩⟩
theorem jk3 {dims y:List Int} {axis:Nat} (h:∀ i,i<y.length→i=axis∨y.getD i 0=dims.getD i 0):jgU dims axis y=true:=by
 unfold jgU;rw [List.all_eq_true];intro i hi
 rcases h i (List.mem_range.1 hi) with h1 | h1
 ·simp [h1]
 ·rw [Bool.or_eq_true];exact .inr (by simpa using h1)
theorem jk4 (n:Nod) (A:At) (u:Sl) (p0:Val×List Int) (rs:List (Val×List Int)) (w:World) (hn:NodeOk w n A) (hv:ValsIn w u.v (p0::rs)) (hr:rs.length≤19) (hf:∀ p∈p0::rs,Fine p.2):Calls Tryz.prog 93 #[jaA n,.slice u.a u.n u.c] w (jaH w (jcd A p0.2 (rs.map (·.2))) jbf):=by
 obtain ⟨xa,xc,e1,q1,q2,q3⟩:=hv.vals.form;rw [List.length_map] at e1 q1 q3;obtain ⟨ua,un,uc⟩:=u;simp only [Sl.v,Value.slice.injEq] at e1;obtain ⟨rfl,rfl,rfl⟩:=e1;have HV:=jac hv;obtain ⟨b,off,rfl⟩:=hv.vals.addr (k:=0) (by simp);obtain ⟨-,z0⟩:=hv.at 0 (by simp);rw [Nat.zero_mul,Nat.add_zero] at z0;simp only [List.getElem_cons_zero] at z0;have HX:=jac (hv.dims p0 (by simp));have HF:=jac hf;have FX:=jac (hf p0 (by simp));obtain ⟨⟨pn0,pt0,⟨d0a,d0n,d0c⟩⟩,x⟩:=p0;simp only at z0 HX FX ⊢;have FEW:=FX.out.few;have PB:Hid (∀ z∈x,1≤z∧z≤65536):=fun z hz=>⟨FX.out.pos z hz,FX.out.le_each hz⟩
 obtain ⟨m,hm⟩ : ∃ m,m=((((⟨pn0,pt0,⟨d0a,d0n,d0c⟩⟩,x):Val×List Int)::rs):List (Val×List Int)).length:=⟨_,rfl⟩
 have hm1:m=rs.length+1:=by rw [hm];simp
 rw [← hm] at q1 q3 ⊢;have hm0:0<m:=by omega
 have hm0':(0:Int)<(m:Int):=by omega
 have hm2:(1:Int)≤(m:Int):=by omega
 have hm3:1≤m:=by omega
 have huc2:1≤uc:=by omega
 have hmr:m - 1=rs.length:=by omega
 have Z0:=jac z0;have RG:=hn.int ⟨#[97,120,105,115]⟩ 0 (by omega);have hucr:rs.length+1≤uc:=by omega
 clear hv hm z0 hf;have NK:=jac hn;obtain ⟨op,nam,⟨ia,il,ic⟩,out,⟨ao,al,cap⟩⟩:=n;unfold jaA;simp only;obtain ⟨w0,hw0⟩ : ∃ w0,w0=w.alloc (.cells #[.string op,.string nam,.slice ia il ic,.string out,.slice ao al cap] 25):=⟨_,rfl⟩
 have g0:Hid (w.grownBy w0 none):=by show w.grownBy w0 none;rw [hw0];exact jab _ _
 have hb0:=heap_alloc_new w (.cells #[.string op,.string nam,.slice ia il ic,.string out,.slice ao al cap] 25);rw [← hw0] at hb0;have BX:Hid (∀ wx,w0.grownBy wx none→wx.heap[w.heap.size]?=some (.cells #[.string op,.string nam,.slice ia il ic,.string out,.slice ao al cap] 25 (0,0))):=fun wx hg=>jag hb0 hg;clear hb0 hn;have I0:=jac (fun (wx:World) (hg:w.grownBy wx none)=>jbK ⟨op,nam,⟨ia,il,ic⟩,out,⟨ao,al,cap⟩⟩ A ⟨#[97,120,105,115]⟩ 0 wx (NK.out.more hg));have CL:=jac (jdC ⟨d0a,d0n,d0c⟩ x w0 (HX.out.more g0.out));unfold jaA at I0;simp only at I0 CL;obtain ⟨z,hz⟩ : ∃ z,z=A.int ⟨#[97,120,105,115]⟩ 0:=⟨_,rfl⟩
 rw [← hz] at I0 RG;have E0:Hid (jcd A x (rs.map (·.2))=(jcl z x.length).bind (fun axis=>jdj axis (rs.map (·.2)) x)):=by show _=_;rw [hz];rfl
 have AO:=jac (fun wx=>jev z x.length wx (by omega) RG.1);have z0:(w.alloc (.cells #[.string op,.string nam,.slice ia il ic,.string out,.slice ao al cap] 25)).cell? ⟨b,off+2,none⟩=some (.slice d0a d0n d0c):=jad Z0.out (jab _ _);clear hz hm1;go_enter Tryz.func93,Tryz.ntmps93;go_wp2_with fail;rw [← hw0];clear hw0 z0;refine CL.out.mono ?_;rintro e w1 ⟨⟨qa,qn,qc⟩,rfl,ho,hg1⟩;have HO:=jac ho;have hqn:qn=x.length:=by obtain ⟨a1,c4,e,-⟩:=ho.ints.sl;simp only [Sl.v,Value.slice.injEq] at e;exact e.2.1
 subst hqn;simp only;obtain ⟨n0,n1,n2,n3,n4⟩:=jai (n:=⟨op,nam,⟨ia,il,ic⟩,out,⟨ao,al,cap⟩⟩) (BX.out w1 (hg1));have G1:=jac (jaa g0.out hg1);clear ho hg1 CL;go_wp2_with fail;refine (I0.out w1 G1.out).mono ?_;rintro e w2 ⟨rfl,hg2⟩;have G2:=jac (jaa G1.out hg2);have HO2:=jac (HO.out.new hg2);clear hg2 HO I0 n0 n1 n2 n3 n4
 cases hk:jcl z x.length with
 | error c =>
  rw [hk] at AO;have E:Hid (jcd A x (rs.map (·.2))=.error c):=by show _=_;rw [E0.out,hk];rfl
  clear hk;go_wp2_with (first | (go_at_call 95;refine (AO.out _).mono ?_;rintro e w' ⟨hg,rfl⟩) | fail);exact ⟨rfl,jah E.out (jaa G2.out hg)⟩
 | ok axis =>
  rw [hk] at AO;have E1:Hid (jcd A x (rs.map (·.2))=jdj axis (rs.map (·.2)) x):=by show _=_;rw [E0.out,hk];rfl
  have hax:axis<x.length:=by
   unfold jcl at hk
   cases ha:ja4 z x.length with
   | none=>rw [ha] at hk;cases hk
   | some i=>rw [ha] at hk;cases hk;exact jbw ha
  clear hk;obtain ⟨g,gcap,eo,hbg,hgl,hlc,hcm⟩:=HO2.out.shape (by omega);simp only [Sl.v,Value.slice.injEq] at eo;obtain ⟨rfl,-,rfl⟩:=eo;have HO3:=jac (HO2.out.base_le g0.out.size);have hwg:w.heap.size≤g:=Nat.le_trans g0.out.size hbg;simp only [Sl.v] at HO3;clear HO2;have hax':(axis:Int)<(x.length:Int):=by omega
  by_cases huc:uc=1
  ·have hrs0:rs=[]:=List.length_eq_zero_iff.1 (by omega);subst hrs0;have E2:Hid (jcd A x (([]:List (Val×List Int)).map (·.2))=.ok x):=E1.out;subst huc;go_wp2_with (first | (go_at_call 95;refine (AO.out _).mono ?_;rintro e w' ⟨-,v,rfl,rfl,rfl⟩) | fail);refine wp_loop_rounds 1 ?_;rw [rounds_succ];go_wp2;go_ret;exact jap E2.out G2.out ⟨⟨_,_,_⟩,rfl,HO3.out.ints⟩
  ·go_wp2_with (first | (go_at_call 95;refine (AO.out _).mono ?_;rintro e w' ⟨-,v,rfl,rfl,rfl⟩) | fail);clear AO;go_loopw [24] (fun i wr=>∃ (k:Nat) (D:List Int),k≤rs.length∧i=.int .i64 k∧Owns wr w.heap.size (.slice (some ⟨g,0,none⟩) x.length qc) D∧D.length=x.length∧jdj axis ((rs.map (·.2)).drop k) D=jdj axis (rs.map (·.2)) x∧(∀ z∈D,0≤z∧z≤65536+65536*k)∧w.grownBy wr none) (fun i _=>rs.length - (intOf i).toNat)
   case atStart=>exact ⟨0,x,Nat.zero_le _,rfl,HO3.out,rfl,by rw [List.drop_zero],fun z hz=>by have:=PB.out z hz;omega,G2.out⟩
   case round =>
    obtain ⟨k,D,hk,rfl,ho,hD,hst,hbd,hg⟩:=hrel;have HG:=jac hg;have HO4:=jac ho
    by_cases hkl:k<rs.length
    ·obtain ⟨y0,y1,y2⟩:=(HV.out.more hg).vals.val (k+1) (by rw [List.length_map];simp;omega);have HY:=jac (HV.out.dims (rs[k]) (List.mem_cons_of_mem _ (List.getElem_mem hkl)));have FY:=jac (HF.out (rs[k]) (List.mem_cons_of_mem _ (List.getElem_mem hkl)));simp only [List.map_cons,List.getElem_cons_succ,List.getElem_map] at y0 y1 y2;have ea:off+(k+1)*3=off+3+k*3:=by omega
     rw [ea] at y0 y1 y2;rw [jk2 (by rw [List.length_map];exact hkl)] at hst;simp only [List.getElem_map] at hst;obtain ⟨p,hp⟩ : ∃ p,p=rs[k]:=⟨_,rfl⟩
     rw [← hp] at y0 y1 y2 HY FY hst;obtain ⟨⟨vn,vt,⟨da,dn,dc⟩⟩,y⟩:=p;simp only at y0 y1 y2 HY FY hst;obtain ⟨yx,ycc,ey,f1,f2,f3⟩:=HY.out.sl;simp only [Sl.v,Value.slice.injEq] at ey;obtain ⟨rfl,rfl,rfl⟩:=ey;have YF:=FY.out.few;obtain ⟨w3,hw3⟩ : ∃ w3,w3=wr.alloc (.cells #[.string vn,.int .i64 vt,.slice da y.length dc] 43):=⟨_,rfl⟩
     have g3:Hid (w.grownBy w3 none):=by show w.grownBy w3 none;rw [hw3];exact jaa hg (jab _ _)
     have hb3:=heap_alloc_new wr (.cells #[.string vn,.int .i64 vt,.slice da y.length dc] 43);rw [← hw3] at hb3;have v2:w3.cell? ⟨wr.heap.size,2,none⟩=some (.slice da y.length dc):=(cell_of_row _ _ 2 _ _ (0,0) hb3).trans rfl;have HO5:Hid (Owns w3 w.heap.size (.slice (some ⟨g,0,none⟩) x.length qc) D):=by show Owns _ _ _ _;rw [hw3];exact ho.new (jab _ _)
     have HST:=jac hst;have HBD:=jac hbd;have HDD:=jac hD;clear hb3 ea hp ho hg hst hbd hD;go_wp2_with fail;rw [← hw3];clear hw3 y0 y1 y2
     by_cases hyl:y.length=x.length
     ·have byl:((y.length:Int)==(x.length:Int))=true:=by simp [hyl]
      have HYL:=jac hyl;have HST2:Hid ((jal (jgU D axis y)).bind (fun _=>jdj axis ((rs.map (·.2)).drop (k+1)) (D.set axis (D.getD axis 0+y.getD axis 0)))=jdj axis (rs.map (·.2)) x):=by show _=_;rw [← HST.out];simp [jal,hyl,HDD.out];rfl
      clear hyl HST;go_wp2_with (first | (go_at_call 67;refine (jaq _).mono ?_;rintro e w' ⟨rfl,rfl⟩) | fail);go_loopw [38] (fun i wx=>w3=wx∧∃ t:Nat,t≤y.length∧i=.int .i64 t∧∀ i,i<t→i=axis∨y.getD i 0=D.getD i 0) (fun i _=>y.length - (intOf i).toNat)
      case atStart=>exact ⟨rfl,0,Nat.zero_le _,rfl,fun i h=>absurd h (by omega)⟩
      case round =>
       obtain ⟨hw,t,ht,rfl,hall⟩:=hrel;subst hw;have HA:=jac hall;have HO6:Hid (Owns w3 w.heap.size (.slice (some ⟨g,0,none⟩) D.length qc) D):=by show Owns _ _ _ _;rw [HDD.out];exact HO5.out
       clear hall byl
       by_cases htl:t<y.length
       ·obtain ⟨yb,yo,rfl,hcy⟩:=HY.out.get htl;have cy:=jad (hcy t htl) g3.out;have htx:t<x.length:=by have:=HYL.out;omega
        have htx':(t:Int)<(x.length:Int):=by omega
        obtain ⟨cd,fd⟩:=HO6.out.cells (k:=t) (by rw [HDD.out];exact htx);obtain ⟨P,hP⟩ : ∃ P,P=y.getD t 0:=⟨_,rfl⟩
        obtain ⟨Q,hQ⟩ : ∃ Q,Q=D.getD t 0:=⟨_,rfl⟩
        rw [← hP] at cy;rw [← hQ] at cd;have HP:=jac hP;have HQ:=jac hQ;clear hP hQ hcy
        by_cases hta:t=axis
        ·have bta:((t:Int)==(axis:Int))=true:=by simp [hta]
         have HTA:=jac hta;clear hta;go_wp2_with (first | (go_at_call 67;refine (jaq _).mono ?_;rintro e w' ⟨rfl,rfl⟩) | fail);go_roundw
         case rel =>
          refine ⟨by trivial,t+1,by omega,by go_num,fun i hi=>?_⟩
          rcases jaL hi with h | rfl
          ·exact HA.out i h
          ·exact .inl HTA.out
         case measure=>simp [intOf];omega
        ·have bta:((t:Int)==(axis:Int))=false:=by simpa using (fun h=>hta (by omega):¬ (t:Int)=axis)
         have HTA:=jac hta;clear hta
         by_cases hpq:P=Q
         ·have bpq:(P==Q)=true:=by simp [hpq]
          have HPQ:=jac hpq;clear hpq;go_wp2_with (first | (go_at_call 67;refine (jaq _).mono ?_;rintro e w' ⟨rfl,rfl⟩) | fail);go_roundw
          case rel =>
           refine ⟨by trivial,t+1,by omega,by go_num,fun i hi=>?_⟩
           rcases jaL hi with h | rfl
           ·exact HA.out i h
           ·exact .inr (by rw [← HP.out,← HQ.out];exact HPQ.out)
          case measure=>simp [intOf];omega
         ·have bpq:(P==Q)=false:=by simpa using hpq
          have E2:Hid (jcd A x (rs.map (·.2))=.error 4):=by
           show _=_;rw [E1.out,← HST2.out,jno htl HTA.out (by rw [← HP.out,← HQ.out];exact hpq)]
           rfl
          clear hpq;go_wp2_with (first | (go_at_call 67;refine (jav _).mono ?_;rintro e w' ⟨rfl,rfl⟩) | fail);exact ⟨rfl,jah E2.out g3.out⟩
       ·have hyp:axis<y.length:=by have:=HYL.out;omega
        obtain ⟨yb,yo,rfl,hcy⟩:=HY.out.get hyp;have cy:=jad (hcy axis hyp) g3.out;have by1:=FY.out.pos _ (jfx hyp);have by2:=FY.out.le_each (jfx hyp);obtain ⟨cd,fd⟩:=HO6.out.cells (k:=axis) (by rw [HDD.out];exact hax);have bd:=HBD.out (D.getD axis 0) (jfx (by rw [HDD.out];exact hax))
        have HST3:Hid (jdj axis ((rs.map (·.2)).drop (k+1)) (D.set axis (D.getD axis 0+y.getD axis 0))=jdj axis (rs.map (·.2)) x):=by
         show _=_;rw [← HST2.out,jk3 (fun i hi=>HA.out i (by omega))]
         rfl
        obtain ⟨P,hP⟩ : ∃ P,P=y.getD axis 0:=⟨_,rfl⟩
        obtain ⟨Q,hQ⟩ : ∃ Q,Q=D.getD axis 0:=⟨_,rfl⟩
        rw [← hP] at cy by1 by2 HST3;rw [← hQ] at cd bd HST3;have hk19:(k:Int)≤19:=by omega
        obtain ⟨so,sg⟩:=HO6.out.put axis (Q+P) (by omega);have SO:Hid (Owns (w3.setCell ⟨g,axis,none⟩ (.int .i64 (Q+P))) w.heap.size (.slice (some ⟨g,0,none⟩) x.length qc) (D.set axis (Q+P))):=by show Owns _ _ _ _;rw [← HDD.out];exact so
        have SG:=jac (jay g3.out sg hwg)
        have HB:Hid (∀ z∈D.set axis (Q+P),0≤z∧z≤65536+65536*((k+1:Nat):Int)):=fun z hz=>by
         rcases List.mem_or_eq_of_mem_set hz with h1 | rfl
         ·have:=HBD.out z h1;omega
         ·omega
        have hyp':(axis:Int)<(y.length:Int):=by omega
        clear hP hQ hcy so sg;go_wp2_with fail;go_region;go_wp2_with fail;go_roundw
        case rel=>exact ⟨k+1,_,by omega,by go_num,SO.out.new (jaf (jae _)),by rw [List.length_set];exact HDD.out,HST3.out,HB.out,jaf SG.out⟩
        case measure=>simp [intOf];omega
     ·have byl:((y.length:Int)==(x.length:Int))=false:=by simpa using (fun h=>hyl (by omega):¬ (y.length:Int)=x.length)
      have E2:Hid (jcd A x (rs.map (·.2))=.error 4):=by show _=_;rw [E1.out,← HST.out];simp [jal,hyl,HDD.out];rfl
      clear hyl;rw [byl];refine (jav _).mono ?_;rintro e w' ⟨rfl,rfl⟩;exact ⟨rfl,jah E2.out g3.out⟩
    ·have E2 : Hid (jcd A x (rs.map (·.2)) = .ok D) := by
       show _=_;rw [E1.out,← hst,List.drop_of_length_le (by rw [List.length_map];omega)]
       rfl
     clear ho hg hst hbd;go_wp2;go_ret;exact jap E2.out HG.out ⟨⟨_,_,_⟩,rfl,HO4.out.ints⟩
end Go.Proofs.YtanpkdkenifmbaaGreatDoor
namespace Go.Proofs.YtanpkdkenifmbaaGreatDoor
open Go.RowKit
theorem ji9 (n:Nod) (A:At) (u:Sl) (p0:Val×List Int) (rs:List (Val×List Int)) (w:World) (hop:n.op=⟨#[67,111,110,99,97,116]⟩) (hn:NodeOk w n A) (hv:ValsIn w u.v (p0::rs)) (hr:rs.length≤19) (hf:∀ p∈p0::rs,Fine p.2):Calls Tryz.prog 71 #[jaA n,.slice u.a u.n u.c] w (jaH w (jcd A p0.2 (rs.map (·.2))) jbf):=by
 obtain ⟨xa,xc,e1,q1,q2,q3⟩:=hv.vals.form;rw [List.length_map] at e1 q1 q3;obtain ⟨ua,un,uc⟩:=u;simp only [Sl.v,Value.slice.injEq] at e1;obtain ⟨rfl,rfl,rfl⟩:=e1;obtain ⟨b,off,rfl⟩:=hv.vals.addr (k:=0) (by simp);obtain ⟨-,z0⟩:=hv.at 0 (by simp);rw [Nat.zero_mul,Nat.add_zero] at z0;simp only [List.getElem_cons_zero] at z0;have HV:=jac hv;have HF:=jac hf;obtain ⟨⟨vn0,vt0,⟨d0a,d0n,d0c⟩⟩,x⟩:=p0;simp only at z0;have Z0:=jac z0;obtain ⟨m,hm⟩ : ∃ m,m=((((⟨vn0,vt0,⟨d0a,d0n,d0c⟩⟩,x):Val×List Int)::rs):List (Val×List Int)).length:=⟨_,rfl⟩
 have hm0:0<m:=by rw [hm];simp
 have hm0':(0:Int)<(m:Int):=by omega
 have HM:=jac hm;rw [← hm] at q1 q3 ⊢;clear hv z0 hm hf;have NK:=jac hn;obtain ⟨op,nam,⟨ia,il,ic⟩,out,⟨ao,al,cap⟩⟩:=n;unfold jaA;simp only;obtain ⟨w0,hw0⟩ : ∃ w0,w0=w.alloc (.cells #[.string op,.string nam,.slice ia il ic,.string out,.slice ao al cap] 25):=⟨_,rfl⟩
 have g0:Hid (w.grownBy w0 none):=by show w.grownBy w0 none;rw [hw0];exact jab _ _
 have hb0:=heap_alloc_new w (.cells #[.string op,.string nam,.slice ia il ic,.string out,.slice ao al cap] 25);rw [← hw0] at hb0;have BX:Hid (∀ wx,w0.grownBy wx none→wx.heap[w.heap.size]?=some (.cells #[.string op,.string nam,.slice ia il ic,.string out,.slice ao al cap] 25 (0,0))):=fun wx hg=>jag hb0 hg;clear hb0 hn;simp only at hop;subst hop;have z0:(w.alloc (.cells #[.string ⟨#[67,111,110,99,97,116]⟩,.string nam,.slice ia il ic,.string out,.slice ao al cap] 25)).cell? ⟨b,off+2,none⟩=some (.slice d0a d0n d0c):=jad Z0.out (jab _ _);have C:=jac (jk4 ⟨⟨#[67,111,110,99,97,116]⟩,nam,⟨ia,il,ic⟩,out,⟨ao,al,cap⟩⟩ A ⟨some ⟨b,off,none⟩,m,uc⟩ _ rs w0 (NK.out.more g0.out) (by rw [HM.out];exact HV.out.more g0.out) hr HF.out);unfold jaA at C;simp only at C;go_enter Tryz.func71,Tryz.ntmps71;go_wp2_with fail;rw [← hw0];clear hw0
 cases hk:jcd A x (rs.map (·.2)) with
 | error c =>
  rw [hk] at C;have HK:=jac hk;clear hk;refine C.out.mono ?_;rintro e w' ⟨hg,rfl⟩;exact ⟨rfl,jah (by first | exact HK.out | rfl) (jaa g0.out hg)⟩
 | ok zs =>
  rw [hk] at C;have HK:=jac hk;clear hk;refine C.out.mono ?_;rintro e w' ⟨hg,v,rfl,⟨s1,s2,s3⟩,rfl,hs⟩;simp only [Sl.v];go_wp2;go_ret;exact jap (by first | exact HK.out | rfl) (jaa g0.out hg) ⟨⟨s1,s2,s3⟩,rfl,hs⟩
end Go.Proofs.YtanpkdkenifmbaaGreatDoor
namespace Go.Proofs.YtanpkdkenifmbaaGreatDoor
open Go.RowKit
theorem jfy {z:Int} (h0:0≤z) (h1:z≤9223372036854775807):IntKind.i64.wrap z=z:=by
 rw [IntKind.wrap_i64];omega
def jca (A:At) (x k:List Int):R (List Int):=(jal (decide (1≤A.int ⟨#[103,114,111,117,112]⟩ 1))).bind (fun _=>(jal (decide (x.getD 1 0 % A.int ⟨#[103,114,111,117,112]⟩ 1=0∧k.getD 0 0 % A.int ⟨#[103,114,111,117,112]⟩ 1=0∧x.getD 1 0 / A.int ⟨#[103,114,111,117,112]⟩ 1=k.getD 1 0))).bind (fun _=>(jaI A x [k.getD 2 0,k.getD 3 0] 0).bind (fun a=>(jaI A x [k.getD 2 0,k.getD 3 0] 1).bind (fun b=>.ok [x.getD 0 0,k.getD 0 0,a,b]))))
theorem jnp (n:Nod) (A:At) (u:Sl) (p0 p1 p2:Val×List Int) (w:World) (hn:NodeOk w n A) (hv:ValsIn w u.v [p0,p1,p2]) (hl4:p0.2.length=4) (hk4:p1.2.length=4) (hz:¬ (p2.2.length=1∧p2.2.getD 0 0=p1.2.getD 0 0)):Calls Tryz.prog 103 #[jaA n,.slice u.a u.n u.c] w (jaH w (.error 4:R (List Int)) jbf):=by
 obtain ⟨xa,xc,e1,q1,q2,q3⟩:=hv.vals.form;simp only [List.map_cons,List.map_nil,List.length_cons,List.length_nil,Nat.zero_add,Nat.reduceAdd] at e1 q1 q3;obtain ⟨ua,un,uc⟩:=u;simp only [Sl.v,Value.slice.injEq] at e1;obtain ⟨rfl,rfl,rfl⟩:=e1;obtain ⟨b,off,rfl⟩:=hv.vals.addr (k:=0) (by simp);obtain ⟨-,z0⟩:=hv.at 0 (by simp);obtain ⟨-,z1⟩:=hv.at 1 (by simp);obtain ⟨-,z2⟩:=hv.at 2 (by simp);rw [Nat.zero_mul,Nat.add_zero] at z0;simp only [List.getElem_cons_zero,List.getElem_cons_succ,Nat.one_mul,Nat.reduceMul] at z0 z1 z2;have HX:=jac (hv.dims p0 (by simp));have HK:=jac (hv.dims p1 (by simp));have HZ:=jac (hv.dims p2 (by simp));obtain ⟨⟨vn0,vt0,⟨d0a,d0n,d0c⟩⟩,x⟩:=p0;obtain ⟨⟨vn1,vt1,⟨d1a,d1n,d1c⟩⟩,k⟩:=p1;obtain ⟨⟨vn2,vt2,⟨d2a,d2n,d2c⟩⟩,z⟩:=p2;simp only at z0 z1 z2 HX HK HZ hz hl4 hk4 ⊢;obtain ⟨xx,xcc,ex,f1,f2,f3⟩:=HX.out.sl;simp only [Sl.v,Value.slice.injEq] at ex;obtain ⟨rfl,rfl,rfl⟩:=ex;obtain ⟨kx,kcc,ek,g1,g2,g3⟩:=HK.out.sl;simp only [Sl.v,Value.slice.injEq] at ek;obtain ⟨rfl,rfl,rfl⟩:=ek;obtain ⟨zx,zcc,ez,h1,h2,h3⟩:=HZ.out.sl;simp only [Sl.v,Value.slice.injEq] at ez;obtain ⟨rfl,rfl,rfl⟩:=ez;have Z0:=jac z0;have Z1:=jac z1;have Z2:=jac z2;have bx:((x.length:Int)==4)=true:=by simp [hl4]
 have bk:((k.length:Int)==4)=true:=by simp [hk4]
 have HK4:=jac hk4;clear hv z0 z1 z2 hl4 hk4;have NK:=jac hn;obtain ⟨op,nam,⟨ia,il,ic⟩,out,⟨ao,al,cap⟩⟩:=n;unfold jaA;simp only;obtain ⟨w0,hw0⟩ : ∃ w0,w0=w.alloc (.cells #[.string op,.string nam,.slice ia il ic,.string out,.slice ao al cap] 25):=⟨_,rfl⟩
 have g0:Hid (w.grownBy w0 none):=by show w.grownBy w0 none;rw [hw0];exact jab _ _
 have hb0:=heap_alloc_new w (.cells #[.string op,.string nam,.slice ia il ic,.string out,.slice ao al cap] 25);rw [← hw0] at hb0;have BX:Hid (∀ wx,w0.grownBy wx none→wx.heap[w.heap.size]?=some (.cells #[.string op,.string nam,.slice ia il ic,.string out,.slice ao al cap] 25 (0,0))):=fun wx hg=>jag hb0 hg;clear hb0 hn;go_enter Tryz.func103,Tryz.ntmps103;go_wp2_with fail;rw [← hw0];clear hw0;have y0:=jad Z0.out g0.out;have y1:=jad Z1.out g0.out;have i1:(1:Int)<3:=by decide
 have i2:(2:Int)<3:=by decide
 go_quiet (fail)
 have gq:w0.grownBy (w0.drewN nq) none:=⟨rfl,rfl,rfl,Nat.le_refl _,fun k hk hn=>rfl⟩
 obtain ⟨wq,hwq⟩ : ∃ wq,wq=w0.drewN nq:=⟨_,rfl⟩
 rw [← hwq] at gq ⊢;have GQ:=jac (jaa g0.out gq);clear hwq y0 y1 gq;have y2:=jad Z2.out GQ.out;go_wp2_with (first | (go_at_call 67;refine (jaq _).mono ?_;rintro e w' ⟨rfl,rfl⟩) | fail)
 by_cases hzl:z.length=1
 ·have bz:((z.length:Int)==1)=true:=by simp [hzl]
  have hne:z.getD 0 0≠k.getD 0 0:=fun h=>hz ⟨hzl,h⟩;obtain ⟨zb,zo,rfl,hcz⟩:=HZ.out.get (k:=0) (by omega);obtain ⟨wb,wo,rfl,hck⟩:=HK.out.get (k:=0) (by have:=HK4.out;omega);have cz:=jad (hcz 0 (by omega)) GQ.out;have ck:=jad (hck 0 (by have:=HK4.out;omega)) GQ.out;rw [Nat.add_zero] at cz ck;obtain ⟨zz,hzz⟩ : ∃ q,q=z.getD 0 0:=⟨_,rfl⟩
  obtain ⟨k0,hk0⟩ : ∃ q,q=k.getD 0 0:=⟨_,rfl⟩
  rw [← hzz] at cz hne;rw [← hk0] at ck hne;have bne:(zz==k0)=false:=by simpa using hne
  obtain ⟨d2n,hd2⟩ : ∃ q,q=z.length:=⟨_,rfl⟩
  obtain ⟨kn,hkn⟩ : ∃ q,q=k.length:=⟨_,rfl⟩
  have m0:0<d2n:=by omega
  have m0':(0:Int)<(d2n:Int):=by omega
  have m1:0<kn:=by have:=HK4.out;omega
  have m1':(0:Int)<(kn:Int):=by omega
  rw [← hd2] at y2 bz;rw [← hkn] at bk ⊢;clear hzz hk0 hcz hck hne hz hzl hd2 hkn;refine wp_region_held_drew (S:=(fun w'=>w'.cell? ⟨b,off+6+2,none⟩=some (.slice (some ⟨zb,zo,none⟩) d2n d2c)∧w'.cell? ⟨zb,zo,none⟩=some (.int .i64 zz)∧w'.cell? ⟨wb,wo,none⟩=some (.int .i64 k0))) (by kernel_rfl) (by go_keep) (fun hHeld=>?_);refine tkB 0 ?_
  try simp only [Act.put]
  refine tkB 1 ?_
  try simp only [Act.put]
  refine tkB 2 ?_
  try simp only [Act.put]
  refine tkB 3 ?_
  try simp only [Act.put]
  refine tkB 4 ?_
  try simp only [Act.put]
  refine wpAnyH_take (i:=5) (v:=.bool true) rfl (by kernel_rfl) (by kernel_rfl) (by kernel_rfl) (fun _ _ _ h=>h) (Or.inl ⟨by kernel_rfl,?_⟩) (by assumption) ?_
  ·(intro w hSw;(try dsimp only at hSw);go_simp;(try simp only [bz]))
  try simp only [Act.put]
  refine tkB 6 ?_
  try simp only [Act.put]
  refine tkB 7 ?_
  try simp only [Act.put]
  refine tkB 8 ?_
  try simp only [Act.put]
  refine tkB 9 ?_
  try simp only [Act.put]
  refine tkB 10 ?_
  try simp only [Act.put]
  refine tkB 11 ?_
  try simp only [Act.put]
  refine tkB 12 ?_
  try simp only [Act.put]
  refine tkB 13 ?_
  try simp only [Act.put]
  refine tkB 14 ?_
  try simp only [Act.put]
  refine tkB 15 ?_
  try simp only [Act.put]
  refine wpAnyH_take (i:=16) (v:=.bool false) rfl (by kernel_rfl) (by kernel_rfl) (by kernel_rfl) (fun _ _ _ h=>h) (Or.inl ⟨by kernel_rfl,?_⟩) (by assumption) ?_
  ·(intro w hSw;(try dsimp only at hSw);go_simp;(try simp only [bne]))
  try simp only [Act.put]
  refine tkB 17 ?_
  try simp only [Act.put]
  refine wpAnyH_ready (rs:=[18]) (by kernel_rfl) (by simp) ?_;refine AllReadyH.cons rfl (fun K hK=>?_) ?_
  ·skip
   go_simp;refine (jav _).mono ?_;rintro e wy ⟨rfl,rfl⟩;exact ⟨rfl,jah rfl (jaf GQ.out)⟩
  exact AllReadyH.nil
 ·have bz:((z.length:Int)==1)=false:=by simpa using (fun h=>hzl (by omega):¬ (z.length:Int)=1)
  obtain ⟨d2n,hd2⟩ : ∃ q,q=z.length:=⟨_,rfl⟩
  rw [← hd2] at y2 bz;clear hd2 hz hzl;refine wp_region_held_drew (S:=(fun w'=>w'.cell? ⟨b,off+6+2,none⟩=some (.slice d2a d2n d2c))) (by kernel_rfl) (by go_keep) (fun hHeld=>?_);refine tkB 0 ?_
  try simp only [Act.put]
  refine tkB 1 ?_
  try simp only [Act.put]
  refine tkB 2 ?_
  try simp only [Act.put]
  refine tkB 3 ?_
  try simp only [Act.put]
  refine tkB 4 ?_
  try simp only [Act.put]
  refine wpAnyH_take (i:=5) (v:=.bool false) rfl (by kernel_rfl) (by kernel_rfl) (by kernel_rfl) (fun _ _ _ h=>h) (Or.inl ⟨by kernel_rfl,?_⟩) (by assumption) ?_
  ·(intro w hSw;(try dsimp only at hSw);go_simp;(try simp only [bz]))
  try simp only [Act.put]
  refine tkB 6 ?_
  try simp only [Act.put]
  refine tkU 7 ?_
  try simp only [Act.put]
  refine tkU 8 ?_
  try simp only [Act.put]
  refine tkU 9 ?_
  try simp only [Act.put]
  refine tkU 10 ?_
  try simp only [Act.put]
  refine tkU 11 ?_
  try simp only [Act.put]
  refine tkU 12 ?_
  try simp only [Act.put]
  refine tkU 13 ?_
  try simp only [Act.put]
  refine tkU 14 ?_
  try simp only [Act.put]
  refine tkU 15 ?_
  try simp only [Act.put]
  refine tkU 16 ?_
  try simp only [Act.put]
  refine tkB 17 ?_
  try simp only [Act.put]
  refine wpAnyH_ready (rs:=[18]) (by kernel_rfl) (by simp) ?_;refine AllReadyH.cons rfl (fun K hK=>?_) ?_
  ·skip
   go_simp;refine (jav _).mono ?_;rintro e wy ⟨rfl,rfl⟩;exact ⟨rfl,jah rfl (jaf GQ.out)⟩
  exact AllReadyH.nil
end Go.Proofs.YtanpkdkenifmbaaGreatDoor
