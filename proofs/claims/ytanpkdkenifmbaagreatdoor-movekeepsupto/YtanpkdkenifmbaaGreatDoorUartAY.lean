/- A part. -/
import Derived.Test.YtanpkdkenifmbaaGreatDoorMUart
import Derived.Test.YtanpkdkenifmbaaGreatDoorUartAW
import Derived.Test.YtanpkdkenifmbaaGreatDoorUartAQ
set_option maxHeartbeats 2000000
set_option maxRecDepth 100000
namespace Go.Proofs.YtanpkdkenifmbaaGreatDoor
open Go.RowKit
theorem jf1 (n:Nod) (A:At) (u:Sl) (vs:List (Val×List Int)) (w:World) (hop:n.op=⟨#[82,101,100,117,99,101,83,117,109]⟩) (hn:NodeOk w n A) (hv:ValsIn w u.v vs) (hl:vs.length=1) (_hf:vs.length≤1000000) (_ht:∀ s∈jaE vs,jan s=true):Calls Tryz.prog 70 #[jaA n,.slice u.a u.n u.c] w (jaH w ((jal ((jaE vs).getD 0 0 != 9)).bind (fun _=>.ok ((jaE vs).getD 0 0))) fun t v _=>v=.int .i64 t):=by
 obtain ⟨xa,xc,e1,p1,p2,p3⟩:=hv.vals.form;rw [List.length_map] at e1 p1 p3;obtain ⟨ua,un,uc⟩:=u;simp only [Sl.v,Value.slice.injEq] at e1;obtain ⟨rfl,rfl,rfl⟩:=e1;have HV:=jac hv;obtain ⟨b,off,rfl⟩:=hv.vals.addr (k:=0) (by rw [List.length_map];omega);obtain ⟨z1,-⟩:=hv.at 0 (by omega);rw [Nat.zero_mul,Nat.add_zero] at z1;have hT:(jaE vs).getD 0 0=vs[0].1.ty:=by unfold jaE;rw [List.getD,List.getElem?_eq_getElem (by rw [List.length_map];omega)];simp
 obtain ⟨T,hT0⟩ : ∃ T,T=vs[0].1.ty:=⟨_,rfl⟩
 rw [← hT0] at z1 hT;rw [hT];have Z1:=jac z1;have hp:(0:Int)<(vs.length:Int):=by omega
 have hp2:0<vs.length:=by omega
 clear hv _ht hT hT0 z1 hl _hf;have NK:=jac hn;obtain ⟨op,nam,⟨ia,il,ic⟩,out,⟨ao,al,cap⟩⟩:=n;unfold jaA;simp only;obtain ⟨w0,hw0⟩ : ∃ w0,w0=w.alloc (.cells #[.string op,.string nam,.slice ia il ic,.string out,.slice ao al cap] 25):=⟨_,rfl⟩
 have g0:Hid (w.grownBy w0 none):=by show w.grownBy w0 none;rw [hw0];exact jab _ _
 have hb0:=heap_alloc_new w (.cells #[.string op,.string nam,.slice ia il ic,.string out,.slice ao al cap] 25);rw [← hw0] at hb0;have BX:Hid (∀ wx,w0.grownBy wx none→wx.heap[w.heap.size]?=some (.cells #[.string op,.string nam,.slice ia il ic,.string out,.slice ao al cap] 25 (0,0))):=fun wx hg=>jag hb0 hg;clear hb0 hn;simp only at hop;subst hop;have z2:(w.alloc (.cells #[.string ⟨#[82,101,100,117,99,101,83,117,109]⟩,.string nam,.slice ia il ic,.string out,.slice ao al cap] 25)).cell? ⟨b,off+1,none⟩=some (.int .i64 T):=jad Z1.out (jab _ _)
 cases h1:(T != 9) with
 | true =>
  go_enter Tryz.func70,Tryz.ntmps70;go_wp2_with (first | (go_at_call 67;refine (jaq _).mono ?_;rintro e w' ⟨rfl,rfl⟩) | fail);go_ret;exact jap (by rfl) (by rw [← hw0];exact g0.out) rfl
 | false =>
  go_enter Tryz.func70,Tryz.ntmps70;go_wp2_with (first | (go_at_call 67;refine (jav _).mono ?_;rintro e w' ⟨rfl,rfl⟩) | fail);exact ⟨rfl,jah (by rfl) (by rw [← hw0];exact g0.out)⟩
theorem jf2 (n:Nod) (A:At) (u:Sl) (vs:List (Val×List Int)) (w:World) (hop:n.op=⟨#[82,101,100,117,99,101,77,97,120]⟩) (hn:NodeOk w n A) (hv:ValsIn w u.v vs) (hl:vs.length=1) (_hf:vs.length≤1000000) (_ht:∀ s∈jaE vs,jan s=true):Calls Tryz.prog 70 #[jaA n,.slice u.a u.n u.c] w (jaH w ((jal ((jaE vs).getD 0 0 != 9)).bind (fun _=>.ok ((jaE vs).getD 0 0))) fun t v _=>v=.int .i64 t):=by
 obtain ⟨xa,xc,e1,p1,p2,p3⟩:=hv.vals.form;rw [List.length_map] at e1 p1 p3;obtain ⟨ua,un,uc⟩:=u;simp only [Sl.v,Value.slice.injEq] at e1;obtain ⟨rfl,rfl,rfl⟩:=e1;have HV:=jac hv;obtain ⟨b,off,rfl⟩:=hv.vals.addr (k:=0) (by rw [List.length_map];omega);obtain ⟨z1,-⟩:=hv.at 0 (by omega);rw [Nat.zero_mul,Nat.add_zero] at z1;have hT:(jaE vs).getD 0 0=vs[0].1.ty:=by unfold jaE;rw [List.getD,List.getElem?_eq_getElem (by rw [List.length_map];omega)];simp
 obtain ⟨T,hT0⟩ : ∃ T,T=vs[0].1.ty:=⟨_,rfl⟩
 rw [← hT0] at z1 hT;rw [hT];have Z1:=jac z1;have hp:(0:Int)<(vs.length:Int):=by omega
 have hp2:0<vs.length:=by omega
 clear hv _ht hT hT0 z1 hl _hf;have NK:=jac hn;obtain ⟨op,nam,⟨ia,il,ic⟩,out,⟨ao,al,cap⟩⟩:=n;unfold jaA;simp only;obtain ⟨w0,hw0⟩ : ∃ w0,w0=w.alloc (.cells #[.string op,.string nam,.slice ia il ic,.string out,.slice ao al cap] 25):=⟨_,rfl⟩
 have g0:Hid (w.grownBy w0 none):=by show w.grownBy w0 none;rw [hw0];exact jab _ _
 have hb0:=heap_alloc_new w (.cells #[.string op,.string nam,.slice ia il ic,.string out,.slice ao al cap] 25);rw [← hw0] at hb0;have BX:Hid (∀ wx,w0.grownBy wx none→wx.heap[w.heap.size]?=some (.cells #[.string op,.string nam,.slice ia il ic,.string out,.slice ao al cap] 25 (0,0))):=fun wx hg=>jag hb0 hg;clear hb0 hn;simp only at hop;subst hop;have z2:(w.alloc (.cells #[.string ⟨#[82,101,100,117,99,101,77,97,120]⟩,.string nam,.slice ia il ic,.string out,.slice ao al cap] 25)).cell? ⟨b,off+1,none⟩=some (.int .i64 T):=jad Z1.out (jab _ _)
 cases h1:(T != 9) with
 | true =>
  go_enter Tryz.func70,Tryz.ntmps70;go_wp2_with (first | (go_at_call 67;refine (jaq _).mono ?_;rintro e w' ⟨rfl,rfl⟩) | fail);go_ret;exact jap (by rfl) (by rw [← hw0];exact g0.out) rfl
 | false =>
  go_enter Tryz.func70,Tryz.ntmps70;go_wp2_with (first | (go_at_call 67;refine (jav _).mono ?_;rintro e w' ⟨rfl,rfl⟩) | fail);exact ⟨rfl,jah (by rfl) (by rw [← hw0];exact g0.out)⟩
theorem ji3 (n:Nod) (A:At) (u:Sl) (vs:List (Val×List Int)) (w:World) (hop:n.op=⟨#[65,114,103,77,97,120]⟩) (hn:NodeOk w n A) (hv:ValsIn w u.v vs) (hl:vs.length=1) (_hf:vs.length≤1000000) (_ht:∀ s∈jaE vs,jan s=true):Calls Tryz.prog 70 #[jaA n,.slice u.a u.n u.c] w (jaH w ((jal ((jaE vs).getD 0 0 != 9)).bind (fun _=>.ok (7:Int))) fun t v _=>v=.int .i64 t):=by
 obtain ⟨xa,xc,e1,p1,p2,p3⟩:=hv.vals.form;rw [List.length_map] at e1 p1 p3;obtain ⟨ua,un,uc⟩:=u;simp only [Sl.v,Value.slice.injEq] at e1;obtain ⟨rfl,rfl,rfl⟩:=e1;have HV:=jac hv;obtain ⟨b,off,rfl⟩:=hv.vals.addr (k:=0) (by rw [List.length_map];omega);obtain ⟨z1,-⟩:=hv.at 0 (by omega);rw [Nat.zero_mul,Nat.add_zero] at z1;have hT:(jaE vs).getD 0 0=vs[0].1.ty:=by unfold jaE;rw [List.getD,List.getElem?_eq_getElem (by rw [List.length_map];omega)];simp
 obtain ⟨T,hT0⟩ : ∃ T,T=vs[0].1.ty:=⟨_,rfl⟩
 rw [← hT0] at z1 hT;rw [hT];have Z1:=jac z1;have hp:(0:Int)<(vs.length:Int):=by omega
 have hp2:0<vs.length:=by omega
 clear hv _ht hT hT0 z1 hl _hf;have NK:=jac hn;obtain ⟨op,nam,⟨ia,il,ic⟩,out,⟨ao,al,cap⟩⟩:=n;unfold jaA;simp only;obtain ⟨w0,hw0⟩ : ∃ w0,w0=w.alloc (.cells #[.string op,.string nam,.slice ia il ic,.string out,.slice ao al cap] 25):=⟨_,rfl⟩
 have g0:Hid (w.grownBy w0 none):=by show w.grownBy w0 none;rw [hw0];exact jab _ _
 have hb0:=heap_alloc_new w (.cells #[.string op,.string nam,.slice ia il ic,.string out,.slice ao al cap] 25);rw [← hw0] at hb0;have BX:Hid (∀ wx,w0.grownBy wx none→wx.heap[w.heap.size]?=some (.cells #[.string op,.string nam,.slice ia il ic,.string out,.slice ao al cap] 25 (0,0))):=fun wx hg=>jag hb0 hg;clear hb0 hn;simp only at hop;subst hop;have z2:(w.alloc (.cells #[.string ⟨#[65,114,103,77,97,120]⟩,.string nam,.slice ia il ic,.string out,.slice ao al cap] 25)).cell? ⟨b,off+1,none⟩=some (.int .i64 T):=jad Z1.out (jab _ _)
 cases h1:(T != 9) with
 | true =>
  go_enter Tryz.func70,Tryz.ntmps70;go_wp2_with (first | (go_at_call 67;refine (jaq _).mono ?_;rintro e w' ⟨rfl,rfl⟩) | fail);go_ret;exact jap (by rfl) (by rw [← hw0];exact g0.out) rfl
 | false =>
  go_enter Tryz.func70,Tryz.ntmps70;go_wp2_with (first | (go_at_call 67;refine (jav _).mono ?_;rintro e w' ⟨rfl,rfl⟩) | fail);exact ⟨rfl,jah (by rfl) (by rw [← hw0];exact g0.out)⟩
theorem jfs (n:Nod) (A:At) (u:Sl) (vs:List (Val×List Int)) (w:World) (hop:n.op=⟨#[71,97,116,104,101,114]⟩) (hn:NodeOk w n A) (hv:ValsIn w u.v vs) (hl:vs.length=2) (_hf:vs.length≤1000000) (_ht:∀ s∈jaE vs,jan s=true):Calls Tryz.prog 70 #[jaA n,.slice u.a u.n u.c] w (jaH w ((jal ((jaE vs).getD 1 0==6||(jaE vs).getD 1 0==7)).bind (fun _=>.ok ((jaE vs).getD 0 0))) fun t v _=>v=.int .i64 t):=by
 obtain ⟨xa,xc,e1,p1,p2,p3⟩:=hv.vals.form;rw [List.length_map] at e1 p1 p3;obtain ⟨ua,un,uc⟩:=u;simp only [Sl.v,Value.slice.injEq] at e1;obtain ⟨rfl,rfl,rfl⟩:=e1;have HV:=jac hv;obtain ⟨b,off,rfl⟩:=hv.vals.addr (k:=0) (by rw [List.length_map];omega);obtain ⟨z1,-⟩:=hv.at 0 (by omega);rw [Nat.zero_mul,Nat.add_zero] at z1;obtain ⟨y1,-⟩:=hv.at 1 (by omega);have hT:(jaE vs).getD 0 0=vs[0].1.ty:=by unfold jaE;rw [List.getD,List.getElem?_eq_getElem (by rw [List.length_map];omega)];simp
 have hU:(jaE vs).getD 1 0=vs[1].1.ty:=by unfold jaE;rw [List.getD,List.getElem?_eq_getElem (by rw [List.length_map];omega)];simp
 obtain ⟨T,hT0⟩ : ∃ T,T=vs[0].1.ty:=⟨_,rfl⟩
 obtain ⟨U,hU0⟩ : ∃ U,U=vs[1].1.ty:=⟨_,rfl⟩
 rw [← hT0] at z1 hT;rw [← hU0] at y1 hU;rw [hT,hU];have Z1:=jac z1;have Y1:=jac y1;have hp:(0:Int)<(vs.length:Int):=by omega
 have hp2:0<vs.length:=by omega
 have hq:(1:Int)<(vs.length:Int):=by omega
 have hq2:1<vs.length:=by omega
 clear hv _ht hT hT0 z1 hU hU0 y1 hl _hf;have NK:=jac hn;obtain ⟨op,nam,⟨ia,il,ic⟩,out,⟨ao,al,cap⟩⟩:=n;unfold jaA;simp only;obtain ⟨w0,hw0⟩ : ∃ w0,w0=w.alloc (.cells #[.string op,.string nam,.slice ia il ic,.string out,.slice ao al cap] 25):=⟨_,rfl⟩
 have g0:Hid (w.grownBy w0 none):=by show w.grownBy w0 none;rw [hw0];exact jab _ _
 have hb0:=heap_alloc_new w (.cells #[.string op,.string nam,.slice ia il ic,.string out,.slice ao al cap] 25);rw [← hw0] at hb0;have BX:Hid (∀ wx,w0.grownBy wx none→wx.heap[w.heap.size]?=some (.cells #[.string op,.string nam,.slice ia il ic,.string out,.slice ao al cap] 25 (0,0))):=fun wx hg=>jag hb0 hg;clear hb0 hn;simp only at hop;subst hop;have z2:(w.alloc (.cells #[.string ⟨#[71,97,116,104,101,114]⟩,.string nam,.slice ia il ic,.string out,.slice ao al cap] 25)).cell? ⟨b,off+1,none⟩=some (.int .i64 T):=jad Z1.out (jab _ _);have y2:(w.alloc (.cells #[.string ⟨#[71,97,116,104,101,114]⟩,.string nam,.slice ia il ic,.string out,.slice ao al cap] 25)).cell? ⟨b,off+3+1,none⟩=some (.int .i64 U):=by have h:=jad Y1.out (jab w (.cells #[.string ⟨#[71,97,116,104,101,114]⟩,.string nam,.slice ia il ic,.string out,.slice ao al cap] 25));rw [Nat.one_mul] at h;exact h
 cases h1:(U==6) with
 | true =>
  go_enter Tryz.func70,Tryz.ntmps70;go_wp2_with (first | (go_at_call 67;refine (jaq _).mono ?_;rintro e w' ⟨rfl,rfl⟩) | fail);go_ret;exact jap (by rfl) (by rw [← hw0];exact g0.out) rfl
 | false =>
  cases h2:(U==7) with
  | true =>
   go_enter Tryz.func70,Tryz.ntmps70;go_wp2_with (first | (go_at_call 67;refine (jaq _).mono ?_;rintro e w' ⟨rfl,rfl⟩) | fail);go_ret;exact jap (by rfl) (by rw [← hw0];exact g0.out) rfl
  | false =>
   go_enter Tryz.func70,Tryz.ntmps70;go_wp2_with (first | (go_at_call 67;refine (jav _).mono ?_;rintro e w' ⟨rfl,rfl⟩) | fail);exact ⟨rfl,jah (by rfl) (by rw [← hw0];exact g0.out)⟩
theorem jnj (n:Nod) (A:At) (u:Sl) (w:World) (hop:n.op=⟨#[67,97,115,116]⟩) (hn:NodeOk w n A):Calls Tryz.prog 70 #[jaA n,.slice u.a u.n u.c] w (jaH w ((jfX (jbA (A.int ⟨#[116,111]⟩ 0))).bind (fun _=>.ok (jbA (A.int ⟨#[116,111]⟩ 0)))) fun t v _=>v=.int .i64 t):=by
 obtain ⟨ua,un,uc⟩:=u;simp only;have NK:=jac hn;obtain ⟨op,nam,⟨ia,il,ic⟩,out,⟨ao,al,cap⟩⟩:=n;unfold jaA;simp only;obtain ⟨w0,hw0⟩ : ∃ w0,w0=w.alloc (.cells #[.string op,.string nam,.slice ia il ic,.string out,.slice ao al cap] 25):=⟨_,rfl⟩
 have g0:Hid (w.grownBy w0 none):=by show w.grownBy w0 none;rw [hw0];exact jab _ _
 have hb0:=heap_alloc_new w (.cells #[.string op,.string nam,.slice ia il ic,.string out,.slice ao al cap] 25);rw [← hw0] at hb0;have BX:Hid (∀ wx,w0.grownBy wx none→wx.heap[w.heap.size]?=some (.cells #[.string op,.string nam,.slice ia il ic,.string out,.slice ao al cap] 25 (0,0))):=fun wx hg=>jag hb0 hg;clear hb0 hn;simp only at hop;subst hop;have I0:=jac (jbK ⟨⟨#[67,97,115,116]⟩,nam,⟨ia,il,ic⟩,out,⟨ao,al,cap⟩⟩ A ⟨#[116,111]⟩ 0 w0 (NK.out.more g0.out));unfold jaA at I0;simp only at I0;obtain ⟨z,hz⟩ : ∃ z,z=A.int ⟨#[116,111]⟩ 0:=⟨_,rfl⟩
 rw [← hz] at I0 ⊢;have WH:=jac (fun wx=>whole_any z wx);have TY:=jac (fun wx=>jl6 (jbA z) wx);obtain ⟨y,hy⟩ : ∃ y,y=jbA z:=⟨_,rfl⟩
 rw [← hy] at WH TY ⊢;clear hz hy;go_enter Tryz.func70,Tryz.ntmps70;go_wp2_with fail;rw [← hw0];clear hw0;refine I0.out.mono ?_;rintro e w1 ⟨rfl,hg1⟩
 cases hk:jfX y with
 | error c =>
  rw [hk] at TY;have HK:=jac hk;clear hk;go_wp2_with (first | (go_at_call 83;refine (WH.out _).mono ?_;rintro e w' ⟨rfl,rfl⟩) | (go_at_call 68;refine (TY.out _).mono ?_;rintro e w' ⟨hg,rfl⟩) | fail);exact ⟨rfl,jah (by rw [HK.out];rfl) (jaa (jaa g0.out hg1) hg)⟩
 | ok t =>
  rw [hk] at TY;have HK:=jac hk;clear hk;go_wp2_with (first | (go_at_call 83;refine (WH.out _).mono ?_;rintro e w' ⟨rfl,rfl⟩) | (go_at_call 68;refine (TY.out _).mono ?_;rintro e w' ⟨-,v,rfl,rfl,rfl⟩) | fail);go_ret;exact jap (by rw [HK.out];rfl) (jaa g0.out hg1) rfl
theorem jhb (n:Nod) (A:At) (u:Sl) (w:World) (hop:n.op=⟨#[67,111,110,115,116,97,110,116]⟩) (hn:NodeOk w n A):Calls Tryz.prog 70 #[jaA n,.slice u.a u.n u.c] w (jaH w (.ok (jeU A).ty) fun t v _=>v=.int .i64 t):=by
 obtain ⟨ua,un,uc⟩:=u;simp only;have NK:=jac hn;obtain ⟨op,nam,⟨ia,il,ic⟩,out,⟨ao,al,cap⟩⟩:=n;unfold jaA;simp only;obtain ⟨w0,hw0⟩ : ∃ w0,w0=w.alloc (.cells #[.string op,.string nam,.slice ia il ic,.string out,.slice ao al cap] 25):=⟨_,rfl⟩
 have g0:Hid (w.grownBy w0 none):=by show w.grownBy w0 none;rw [hw0];exact jab _ _
 have hb0:=heap_alloc_new w (.cells #[.string op,.string nam,.slice ia il ic,.string out,.slice ao al cap] 25);rw [← hw0] at hb0;have BX:Hid (∀ wx,w0.grownBy wx none→wx.heap[w.heap.size]?=some (.cells #[.string op,.string nam,.slice ia il ic,.string out,.slice ao al cap] 25 (0,0))):=fun wx hg=>jag hb0 hg;clear hb0 hn;simp only at hop;subst hop;have V0:=jac (jed ⟨⟨#[67,111,110,115,116,97,110,116]⟩,nam,⟨ia,il,ic⟩,out,⟨ao,al,cap⟩⟩ A w0 (NK.out.more g0.out));unfold jaA at V0;simp only at V0;have hfl:=jkS;go_enter Tryz.func70,Tryz.ntmps70;go_wp2_with fail;rw [← hw0];clear hw0;refine V0.out.mono ?_;rintro e w1 ⟨rfl,hg1⟩;go_wp2;go_ret;exact ⟨jaa g0.out hg1,_,rfl,rfl⟩
theorem jkX (n:Nod) (A:At) (u:Sl) (vs:List (Val×List Int)) (w:World) (hop:n.op=⟨#[69,113,117,97,108]⟩) (hn:NodeOk w n A) (hv:ValsIn w u.v vs) (hl:vs.length=2) (hf:vs.length≤1000000) (ht:∀ s∈jaE vs,jan s=true):Calls Tryz.prog 70 #[jaA n,.slice u.a u.n u.c] w (jaH w ((ja1 (jaE vs)).bind (fun t=>(jal (jbn [69,113,117,97,108] t)).bind (fun _=>.ok (9:Int)))) fun t v _=>v=.int .i64 t):=by
 obtain ⟨xa,xc,e1,p1,p2,p3⟩:=hv.vals.form;rw [List.length_map] at e1 p1 p3;obtain ⟨ua,un,uc⟩:=u;simp only [Sl.v,Value.slice.injEq] at e1;obtain ⟨rfl,rfl,rfl⟩:=e1;have HV:=jac hv;have HT:=jac ht;have hp:0<vs.length:=by omega
 clear hv ht hl;have NK:=jac hn;obtain ⟨op,nam,⟨ia,il,ic⟩,out,⟨ao,al,cap⟩⟩:=n;unfold jaA;simp only;obtain ⟨w0,hw0⟩ : ∃ w0,w0=w.alloc (.cells #[.string op,.string nam,.slice ia il ic,.string out,.slice ao al cap] 25):=⟨_,rfl⟩
 have g0:Hid (w.grownBy w0 none):=by show w.grownBy w0 none;rw [hw0];exact jab _ _
 have hb0:=heap_alloc_new w (.cells #[.string op,.string nam,.slice ia il ic,.string out,.slice ao al cap] 25);rw [← hw0] at hb0;have BX:Hid (∀ wx,w0.grownBy wx none→wx.heap[w.heap.size]?=some (.cells #[.string op,.string nam,.slice ia il ic,.string out,.slice ao al cap] 25 (0,0))):=fun wx hg=>jag hb0 hg;clear hb0 hn;simp only at hop;subst hop;have SM:=jac (fun (wx:World) (hg:w0.grownBy wx none)=>jbr ⟨ua,vs.length,uc⟩ vs wx (HV.out.more (jaa g0.out hg)) hp hf);simp only at SM;obtain ⟨n0,n1,n2,n3,n4⟩:=jai (n:=⟨⟨#[69,113,117,97,108]⟩,nam,⟨ia,il,ic⟩,out,⟨ao,al,cap⟩⟩) (BX.out w0 (jae _));simp only at n0;clear n1 n2 n3 n4;go_enter Tryz.func70,Tryz.ntmps70;go_wp2_with fail;rw [← hw0];clear hw0
 cases hk:ja1 (vs.map (·.1.ty)) with
 | error c =>
  rw [hk] at SM;have E:Hid ((ja1 (jaE vs)).bind (fun t=>(jal (jbn [69,113,117,97,108] t)).bind (fun _=>.ok (9:Int)))=.error c):=by show _=_;unfold jaE;rw [hk];rfl
  clear hk;refine wp_region_held_drew (S:=(fun w'=>w'.cell? ⟨w.heap.size,0,none⟩=some (.string ⟨#[69,113,117,97,108]⟩))) (by kernel_rfl) (by go_keep) (fun hHeld=>?_);refine tkA 0 ?_
  try simp only [Act.put]
  refine tkA 1 ?_
  try simp only [Act.put]
  refine tkA 2 ?_
  try simp only [Act.put]
  refine wpAnyH_ready (rs:=[3]) (by kernel_rfl) (by simp) ?_;refine AllReadyH.cons rfl (fun K hK=>?_) ?_
  ·skip
   go_simp;refine (SM.out _ (jaf (jae _))).mono ?_;rintro e wy ⟨hg,rfl⟩;exact ⟨rfl,jah E.out (jaa (jaf g0.out) hg)⟩
  exact AllReadyH.nil
 | ok t =>
  have htt:=jdp hk (by simpa using hp) HT.out;rw [hk] at SM;have E:Hid ((ja1 (jaE vs)).bind (fun t=>(jal (jbn [69,113,117,97,108] t)).bind (fun _=>.ok (9:Int)))=(jal (jbn [69,113,117,97,108] t)).bind (fun _=>.ok (9:Int))):=by show _=_;unfold jaE;rw [hk];rfl
  clear hk;have BL:(⟨#[69,113,117,97,108]⟩ : ByteArray).toList=[69,113,117,97,108]:=jaj _;have MU:=jac (fun wx=>jc1 ⟨#[69,113,117,97,108]⟩ t (by rw [BL];decide) htt wx);rw [BL] at MU;clear BL
  cases h1:jbn [69,113,117,97,108] t with
  | true =>
   rw [h1] at MU;have E2:Hid ((ja1 (jaE vs)).bind (fun t=>(jal (jbn [69,113,117,97,108] t)).bind (fun _=>.ok (9:Int)))=.ok 9):=by show _=_;rw [E.out,h1];rfl
   clear h1;refine wp_region_held_drew (S:=(fun w'=>w'.cell? ⟨w.heap.size,0,none⟩=some (.string ⟨#[69,113,117,97,108]⟩))) (by kernel_rfl) (by go_keep) (fun hHeld=>?_);refine tkA 0 ?_
   try simp only [Act.put]
   refine tkA 1 ?_
   try simp only [Act.put]
   refine tkA 2 ?_
   try simp only [Act.put]
   refine wpAnyH_ready (rs:=[3]) (by kernel_rfl) (by simp) ?_;refine AllReadyH.cons rfl (fun K hK=>?_) ?_
   ·skip
    go_simp;refine (SM.out _ (jaf (jae _))).mono ?_;rintro e w2 ⟨hg2,v,rfl,rfl⟩;have g2:=jaa (jaf (jae w0)) hg2;obtain ⟨n0,n1,n2,n3,n4⟩:=jai (n:=⟨⟨#[69,113,117,97,108]⟩,nam,⟨ia,il,ic⟩,out,⟨ao,al,cap⟩⟩) (BX.out w2 g2);clear n1 n2 n3 n4
    try dsimp only
    refine hK.out _ _ (by first | assumption | go_keep) (fun hHeld=>?_);clear hK K
    try simp only [Act.put]
    refine wpAnyH_ready (rs:=[4]) (by kernel_rfl) (by simp) ?_;refine AllReadyH.cons rfl (fun K hK=>?_) ?_
    ·skip
     go_simp;refine (MU.out _).mono ?_;rintro e w3 ⟨hg3,v,rfl,rfl⟩;have g3:=jaa g2 hg3;obtain ⟨n0,n1,n2,n3,n4⟩:=jai (n:=⟨⟨#[69,113,117,97,108]⟩,nam,⟨ia,il,ic⟩,out,⟨ao,al,cap⟩⟩) (BX.out w3 g3);clear n1 n2 n3 n4
     try dsimp only
     refine hK.out _ _ (by first | assumption | go_keep) (fun hHeld=>?_);clear hK K
     try simp only [Act.put]
     refine wpAnyH_done (by kernel_rfl) ?_ _
     try go_simp
     go_wp2;go_ret;exact jap E2.out (jaa g0.out g3) rfl
    exact AllReadyH.nil
   exact AllReadyH.nil
  | false =>
   rw [h1] at MU;have E2:Hid ((ja1 (jaE vs)).bind (fun t=>(jal (jbn [69,113,117,97,108] t)).bind (fun _=>.ok (9:Int)))=.error 4):=by show _=_;rw [E.out,h1];rfl
   clear h1;refine wp_region_held_drew (S:=(fun w'=>w'.cell? ⟨w.heap.size,0,none⟩=some (.string ⟨#[69,113,117,97,108]⟩))) (by kernel_rfl) (by go_keep) (fun hHeld=>?_);refine tkA 0 ?_
   try simp only [Act.put]
   refine tkA 1 ?_
   try simp only [Act.put]
   refine tkA 2 ?_
   try simp only [Act.put]
   refine wpAnyH_ready (rs:=[3]) (by kernel_rfl) (by simp) ?_;refine AllReadyH.cons rfl (fun K hK=>?_) ?_
   ·skip
    go_simp;refine (SM.out _ (jaf (jae _))).mono ?_;rintro e w2 ⟨hg2,v,rfl,rfl⟩;have g2:=jaa (jaf (jae w0)) hg2;obtain ⟨n0,n1,n2,n3,n4⟩:=jai (n:=⟨⟨#[69,113,117,97,108]⟩,nam,⟨ia,il,ic⟩,out,⟨ao,al,cap⟩⟩) (BX.out w2 g2);clear n1 n2 n3 n4
    try dsimp only
    refine hK.out _ _ (by first | assumption | go_keep) (fun hHeld=>?_);clear hK K
    try simp only [Act.put]
    refine wpAnyH_ready (rs:=[4]) (by kernel_rfl) (by simp) ?_;refine AllReadyH.cons rfl (fun K hK=>?_) ?_
    ·skip
     go_simp;refine (MU.out _).mono ?_;rintro e wy ⟨hg,rfl⟩;exact ⟨rfl,jah E2.out (jaa (jaa g0.out g2) hg)⟩
    exact AllReadyH.nil
   exact AllReadyH.nil
theorem jnk (n:Nod) (A:At) (u:Sl) (vs:List (Val×List Int)) (w:World) (hop:n.op=⟨#[76,101,115,115]⟩) (hn:NodeOk w n A) (hv:ValsIn w u.v vs) (hl:vs.length=2) (hf:vs.length≤1000000) (ht:∀ s∈jaE vs,jan s=true):Calls Tryz.prog 70 #[jaA n,.slice u.a u.n u.c] w (jaH w ((ja1 (jaE vs)).bind (fun t=>(jal (jbn [76,101,115,115] t)).bind (fun _=>.ok (9:Int)))) fun t v _=>v=.int .i64 t):=by
 obtain ⟨xa,xc,e1,p1,p2,p3⟩:=hv.vals.form;rw [List.length_map] at e1 p1 p3;obtain ⟨ua,un,uc⟩:=u;simp only [Sl.v,Value.slice.injEq] at e1;obtain ⟨rfl,rfl,rfl⟩:=e1;have HV:=jac hv;have HT:=jac ht;have hp:0<vs.length:=by omega
 clear hv ht hl;have NK:=jac hn;obtain ⟨op,nam,⟨ia,il,ic⟩,out,⟨ao,al,cap⟩⟩:=n;unfold jaA;simp only;obtain ⟨w0,hw0⟩ : ∃ w0,w0=w.alloc (.cells #[.string op,.string nam,.slice ia il ic,.string out,.slice ao al cap] 25):=⟨_,rfl⟩
 have g0:Hid (w.grownBy w0 none):=by show w.grownBy w0 none;rw [hw0];exact jab _ _
 have hb0:=heap_alloc_new w (.cells #[.string op,.string nam,.slice ia il ic,.string out,.slice ao al cap] 25);rw [← hw0] at hb0;have BX:Hid (∀ wx,w0.grownBy wx none→wx.heap[w.heap.size]?=some (.cells #[.string op,.string nam,.slice ia il ic,.string out,.slice ao al cap] 25 (0,0))):=fun wx hg=>jag hb0 hg;clear hb0 hn;simp only at hop;subst hop;have SM:=jac (fun (wx:World) (hg:w0.grownBy wx none)=>jbr ⟨ua,vs.length,uc⟩ vs wx (HV.out.more (jaa g0.out hg)) hp hf);simp only at SM;obtain ⟨n0,n1,n2,n3,n4⟩:=jai (n:=⟨⟨#[76,101,115,115]⟩,nam,⟨ia,il,ic⟩,out,⟨ao,al,cap⟩⟩) (BX.out w0 (jae _));simp only at n0;clear n1 n2 n3 n4;go_enter Tryz.func70,Tryz.ntmps70;go_wp2_with fail;rw [← hw0];clear hw0
 cases hk:ja1 (vs.map (·.1.ty)) with
 | error c =>
  rw [hk] at SM;have E:Hid ((ja1 (jaE vs)).bind (fun t=>(jal (jbn [76,101,115,115] t)).bind (fun _=>.ok (9:Int)))=.error c):=by show _=_;unfold jaE;rw [hk];rfl
  clear hk;refine wp_region_held_drew (S:=(fun w'=>w'.cell? ⟨w.heap.size,0,none⟩=some (.string ⟨#[76,101,115,115]⟩))) (by kernel_rfl) (by go_keep) (fun hHeld=>?_);refine tkA 0 ?_
  try simp only [Act.put]
  refine tkA 1 ?_
  try simp only [Act.put]
  refine tkA 2 ?_
  try simp only [Act.put]
  refine wpAnyH_ready (rs:=[3]) (by kernel_rfl) (by simp) ?_;refine AllReadyH.cons rfl (fun K hK=>?_) ?_
  ·skip
   go_simp;refine (SM.out _ (jaf (jae _))).mono ?_;rintro e wy ⟨hg,rfl⟩;exact ⟨rfl,jah E.out (jaa (jaf g0.out) hg)⟩
  exact AllReadyH.nil
 | ok t =>
  have htt:=jdp hk (by simpa using hp) HT.out;rw [hk] at SM;have E:Hid ((ja1 (jaE vs)).bind (fun t=>(jal (jbn [76,101,115,115] t)).bind (fun _=>.ok (9:Int)))=(jal (jbn [76,101,115,115] t)).bind (fun _=>.ok (9:Int))):=by show _=_;unfold jaE;rw [hk];rfl
  clear hk;have BL:(⟨#[76,101,115,115]⟩ : ByteArray).toList=[76,101,115,115]:=jaj _;have MU:=jac (fun wx=>jc1 ⟨#[76,101,115,115]⟩ t (by rw [BL];decide) htt wx);rw [BL] at MU;clear BL
  cases h1:jbn [76,101,115,115] t with
  | true =>
   rw [h1] at MU;have E2:Hid ((ja1 (jaE vs)).bind (fun t=>(jal (jbn [76,101,115,115] t)).bind (fun _=>.ok (9:Int)))=.ok 9):=by show _=_;rw [E.out,h1];rfl
   clear h1;refine wp_region_held_drew (S:=(fun w'=>w'.cell? ⟨w.heap.size,0,none⟩=some (.string ⟨#[76,101,115,115]⟩))) (by kernel_rfl) (by go_keep) (fun hHeld=>?_);refine tkA 0 ?_
   try simp only [Act.put]
   refine tkA 1 ?_
   try simp only [Act.put]
   refine tkA 2 ?_
   try simp only [Act.put]
   refine wpAnyH_ready (rs:=[3]) (by kernel_rfl) (by simp) ?_;refine AllReadyH.cons rfl (fun K hK=>?_) ?_
   ·skip
    go_simp;refine (SM.out _ (jaf (jae _))).mono ?_;rintro e w2 ⟨hg2,v,rfl,rfl⟩;have g2:=jaa (jaf (jae w0)) hg2;obtain ⟨n0,n1,n2,n3,n4⟩:=jai (n:=⟨⟨#[76,101,115,115]⟩,nam,⟨ia,il,ic⟩,out,⟨ao,al,cap⟩⟩) (BX.out w2 g2);clear n1 n2 n3 n4
    try dsimp only
    refine hK.out _ _ (by first | assumption | go_keep) (fun hHeld=>?_);clear hK K
    try simp only [Act.put]
    refine wpAnyH_ready (rs:=[4]) (by kernel_rfl) (by simp) ?_;refine AllReadyH.cons rfl (fun K hK=>?_) ?_
    ·skip
     go_simp;refine (MU.out _).mono ?_;rintro e w3 ⟨hg3,v,rfl,rfl⟩;have g3:=jaa g2 hg3;obtain ⟨n0,n1,n2,n3,n4⟩:=jai (n:=⟨⟨#[76,101,115,115]⟩,nam,⟨ia,il,ic⟩,out,⟨ao,al,cap⟩⟩) (BX.out w3 g3);clear n1 n2 n3 n4
     try dsimp only
     refine hK.out _ _ (by first | assumption | go_keep) (fun hHeld=>?_);clear hK K
     try simp only [Act.put]
     refine wpAnyH_done (by kernel_rfl) ?_ _
     try go_simp
     go_wp2;go_ret;exact jap E2.out (jaa g0.out g3) rfl
    exact AllReadyH.nil
   exact AllReadyH.nil
  | false =>
   rw [h1] at MU;have E2:Hid ((ja1 (jaE vs)).bind (fun t=>(jal (jbn [76,101,115,115] t)).bind (fun _=>.ok (9:Int)))=.error 4):=by show _=_;rw [E.out,h1];rfl
   clear h1;refine wp_region_held_drew (S:=(fun w'=>w'.cell? ⟨w.heap.size,0,none⟩=some (.string ⟨#[76,101,115,115]⟩))) (by kernel_rfl) (by go_keep) (fun hHeld=>?_);refine tkA 0 ?_
   try simp only [Act.put]
   refine tkA 1 ?_
   try simp only [Act.put]
   refine tkA 2 ?_
   try simp only [Act.put]
   refine wpAnyH_ready (rs:=[3]) (by kernel_rfl) (by simp) ?_;refine AllReadyH.cons rfl (fun K hK=>?_) ?_
   ·skip
    go_simp;refine (SM.out _ (jaf (jae _))).mono ?_;rintro e w2 ⟨hg2,v,rfl,rfl⟩;have g2:=jaa (jaf (jae w0)) hg2;obtain ⟨n0,n1,n2,n3,n4⟩:=jai (n:=⟨⟨#[76,101,115,115]⟩,nam,⟨ia,il,ic⟩,out,⟨ao,al,cap⟩⟩) (BX.out w2 g2);clear n1 n2 n3 n4
    try dsimp only
    refine hK.out _ _ (by first | assumption | go_keep) (fun hHeld=>?_);clear hK K
    try simp only [Act.put]
    refine wpAnyH_ready (rs:=[4]) (by kernel_rfl) (by simp) ?_;refine AllReadyH.cons rfl (fun K hK=>?_) ?_
    ·skip
     go_simp;refine (MU.out _).mono ?_;rintro e wy ⟨hg,rfl⟩;exact ⟨rfl,jah E2.out (jaa (jaa g0.out g2) hg)⟩
    exact AllReadyH.nil
   exact AllReadyH.nil
theorem jhX (n:Nod) (A:At) (u:Sl) (vs:List (Val×List Int)) (w:World) (hop:n.op=⟨#[71,114,101,97,116,101,114]⟩) (hn:NodeOk w n A) (hv:ValsIn w u.v vs) (hl:vs.length=2) (hf:vs.length≤1000000) (ht:∀ s∈jaE vs,jan s=true):Calls Tryz.prog 70 #[jaA n,.slice u.a u.n u.c] w (jaH w ((ja1 (jaE vs)).bind (fun t=>(jal (jbn [71,114,101,97,116,101,114] t)).bind (fun _=>.ok (9:Int)))) fun t v _=>v=.int .i64 t):=by
 obtain ⟨xa,xc,e1,p1,p2,p3⟩:=hv.vals.form;rw [List.length_map] at e1 p1 p3;obtain ⟨ua,un,uc⟩:=u;simp only [Sl.v,Value.slice.injEq] at e1;obtain ⟨rfl,rfl,rfl⟩:=e1;have HV:=jac hv;have HT:=jac ht;have hp:0<vs.length:=by omega
 clear hv ht hl;have NK:=jac hn;obtain ⟨op,nam,⟨ia,il,ic⟩,out,⟨ao,al,cap⟩⟩:=n;unfold jaA;simp only;obtain ⟨w0,hw0⟩ : ∃ w0,w0=w.alloc (.cells #[.string op,.string nam,.slice ia il ic,.string out,.slice ao al cap] 25):=⟨_,rfl⟩
 have g0:Hid (w.grownBy w0 none):=by show w.grownBy w0 none;rw [hw0];exact jab _ _
 have hb0:=heap_alloc_new w (.cells #[.string op,.string nam,.slice ia il ic,.string out,.slice ao al cap] 25);rw [← hw0] at hb0;have BX:Hid (∀ wx,w0.grownBy wx none→wx.heap[w.heap.size]?=some (.cells #[.string op,.string nam,.slice ia il ic,.string out,.slice ao al cap] 25 (0,0))):=fun wx hg=>jag hb0 hg;clear hb0 hn;simp only at hop;subst hop;have SM:=jac (fun (wx:World) (hg:w0.grownBy wx none)=>jbr ⟨ua,vs.length,uc⟩ vs wx (HV.out.more (jaa g0.out hg)) hp hf);simp only at SM;obtain ⟨n0,n1,n2,n3,n4⟩:=jai (n:=⟨⟨#[71,114,101,97,116,101,114]⟩,nam,⟨ia,il,ic⟩,out,⟨ao,al,cap⟩⟩) (BX.out w0 (jae _));simp only at n0;clear n1 n2 n3 n4;go_enter Tryz.func70,Tryz.ntmps70;go_wp2_with fail;rw [← hw0];clear hw0
 cases hk:ja1 (vs.map (·.1.ty)) with
 | error c =>
  rw [hk] at SM;have E:Hid ((ja1 (jaE vs)).bind (fun t=>(jal (jbn [71,114,101,97,116,101,114] t)).bind (fun _=>.ok (9:Int)))=.error c):=by show _=_;unfold jaE;rw [hk];rfl
  clear hk;refine wp_region_held_drew (S:=(fun w'=>w'.cell? ⟨w.heap.size,0,none⟩=some (.string ⟨#[71,114,101,97,116,101,114]⟩))) (by kernel_rfl) (by go_keep) (fun hHeld=>?_);refine tkA 0 ?_
  try simp only [Act.put]
  refine tkA 1 ?_
  try simp only [Act.put]
  refine tkA 2 ?_
  try simp only [Act.put]
  refine wpAnyH_ready (rs:=[3]) (by kernel_rfl) (by simp) ?_;refine AllReadyH.cons rfl (fun K hK=>?_) ?_
  ·skip
   go_simp;refine (SM.out _ (jaf (jae _))).mono ?_;rintro e wy ⟨hg,rfl⟩;exact ⟨rfl,jah E.out (jaa (jaf g0.out) hg)⟩
  exact AllReadyH.nil
 | ok t =>
  have htt:=jdp hk (by simpa using hp) HT.out;rw [hk] at SM;have E:Hid ((ja1 (jaE vs)).bind (fun t=>(jal (jbn [71,114,101,97,116,101,114] t)).bind (fun _=>.ok (9:Int)))=(jal (jbn [71,114,101,97,116,101,114] t)).bind (fun _=>.ok (9:Int))):=by show _=_;unfold jaE;rw [hk];rfl
  clear hk;have BL:(⟨#[71,114,101,97,116,101,114]⟩ : ByteArray).toList=[71,114,101,97,116,101,114]:=jaj _;have MU:=jac (fun wx=>jc1 ⟨#[71,114,101,97,116,101,114]⟩ t (by rw [BL];decide) htt wx);rw [BL] at MU;clear BL
  cases h1:jbn [71,114,101,97,116,101,114] t with
  | true =>
   rw [h1] at MU;have E2:Hid ((ja1 (jaE vs)).bind (fun t=>(jal (jbn [71,114,101,97,116,101,114] t)).bind (fun _=>.ok (9:Int)))=.ok 9):=by show _=_;rw [E.out,h1];rfl
   clear h1;refine wp_region_held_drew (S:=(fun w'=>w'.cell? ⟨w.heap.size,0,none⟩=some (.string ⟨#[71,114,101,97,116,101,114]⟩))) (by kernel_rfl) (by go_keep) (fun hHeld=>?_);refine tkA 0 ?_
   try simp only [Act.put]
   refine tkA 1 ?_
   try simp only [Act.put]
   refine tkA 2 ?_
   try simp only [Act.put]
   refine wpAnyH_ready (rs:=[3]) (by kernel_rfl) (by simp) ?_;refine AllReadyH.cons rfl (fun K hK=>?_) ?_
   ·skip
    go_simp;refine (SM.out _ (jaf (jae _))).mono ?_;rintro e w2 ⟨hg2,v,rfl,rfl⟩;have g2:=jaa (jaf (jae w0)) hg2;obtain ⟨n0,n1,n2,n3,n4⟩:=jai (n:=⟨⟨#[71,114,101,97,116,101,114]⟩,nam,⟨ia,il,ic⟩,out,⟨ao,al,cap⟩⟩) (BX.out w2 g2);clear n1 n2 n3 n4
    try dsimp only
    refine hK.out _ _ (by first | assumption | go_keep) (fun hHeld=>?_);clear hK K
    try simp only [Act.put]
    refine wpAnyH_ready (rs:=[4]) (by kernel_rfl) (by simp) ?_;refine AllReadyH.cons rfl (fun K hK=>?_) ?_
    ·skip
     go_simp;refine (MU.out _).mono ?_;rintro e w3 ⟨hg3,v,rfl,rfl⟩;have g3:=jaa g2 hg3;obtain ⟨n0,n1,n2,n3,n4⟩:=jai (n:=⟨⟨#[71,114,101,97,116,101,114]⟩,nam,⟨ia,il,ic⟩,out,⟨ao,al,cap⟩⟩) (BX.out w3 g3);clear n1 n2 n3 n4
     try dsimp only
     refine hK.out _ _ (by first | assumption | go_keep) (fun hHeld=>?_);clear hK K
     try simp only [Act.put]
     refine wpAnyH_done (by kernel_rfl) ?_ _
     try go_simp
     go_wp2;go_ret;exact jap E2.out (jaa g0.out g3) rfl
    exact AllReadyH.nil
   exact AllReadyH.nil
  | false =>
   rw [h1] at MU;have E2:Hid ((ja1 (jaE vs)).bind (fun t=>(jal (jbn [71,114,101,97,116,101,114] t)).bind (fun _=>.ok (9:Int)))=.error 4):=by show _=_;rw [E.out,h1];rfl
   clear h1;refine wp_region_held_drew (S:=(fun w'=>w'.cell? ⟨w.heap.size,0,none⟩=some (.string ⟨#[71,114,101,97,116,101,114]⟩))) (by kernel_rfl) (by go_keep) (fun hHeld=>?_);refine tkA 0 ?_
   try simp only [Act.put]
   refine tkA 1 ?_
   try simp only [Act.put]
   refine tkA 2 ?_
   try simp only [Act.put]
   refine wpAnyH_ready (rs:=[3]) (by kernel_rfl) (by simp) ?_;refine AllReadyH.cons rfl (fun K hK=>?_) ?_
   ·skip
    go_simp;refine (SM.out _ (jaf (jae _))).mono ?_;rintro e w2 ⟨hg2,v,rfl,rfl⟩;have g2:=jaa (jaf (jae w0)) hg2;obtain ⟨n0,n1,n2,n3,n4⟩:=jai (n:=⟨⟨#[71,114,101,97,116,101,114]⟩,nam,⟨ia,il,ic⟩,out,⟨ao,al,cap⟩⟩) (BX.out w2 g2);clear n1 n2 n3 n4
    try dsimp only
    refine hK.out _ _ (by first | assumption | go_keep) (fun hHeld=>?_);clear hK K
    try simp only [Act.put]
    refine wpAnyH_ready (rs:=[4]) (by kernel_rfl) (by simp) ?_;refine AllReadyH.cons rfl (fun K hK=>?_) ?_
    ·skip
     go_simp;refine (MU.out _).mono ?_;rintro e wy ⟨hg,rfl⟩;exact ⟨rfl,jah E2.out (jaa (jaa g0.out g2) hg)⟩
    exact AllReadyH.nil
   exact AllReadyH.nil
end Go.Proofs.YtanpkdkenifmbaaGreatDoor
namespace Go.Proofs.YtanpkdkenifmbaaGreatDoor
open Go.RowKit
def jft:Option Nat→Int
 | none => -1
 | some j=>j
def jr9 (x:List Int) (d:Int) (i:Nat) (left:Option Nat):R (Option Nat×Int):=if d = -1 then (if left=none then .ok (some i,1) else .error 4) else if d=0 then (if i<x.length then .ok (left,x.getD i 0) else .error 4) else .ok (left,d)
theorem ji4 {x l:List Int} {count:Int} {k:Nat} (hk:k<l.length) (left:Option Nat) (known:Int) (acc:List Int):jbG x count (l.drop k) k left known acc=(jr9 x (l.getD k 0) k left).bind (fun q=>(jal (decide (1≤q.2∧q.2≤count))).bind (fun _=>(jal (decide (known*q.2≤count))).bind (fun _=>jbG x count (l.drop (k+1)) (k+1) q.1 (known*q.2) (acc++[q.2])))):=by
 rw [jbc l k hk]
 rfl
def putL (left:Option Nat) (acc:List Int) (q:Int):List Int:=match left with
 | some j=>acc.set j q
 | none=>acc
def endS (count:Int) (q:Option Nat×Int×List Int):R (List Int):=(jal (decide (count % q.2.1=0∧(q.1≠none∨q.2.1=count)))).bind (fun _=>.ok (putL q.1 q.2.2 (count / q.2.1)))
theorem jnl (left:Option Nat):(jft left<0)↔left=none:=by
 cases left <;> simp [jft] <;> omega
theorem jhY (u v:Sl) (x l:List Int) (w:World) (hx:IsInts w u.v x) (hv:IsInts w v.v l) (hf:Fine x) (hll:l.length≤100000000):Calls Tryz.prog 90 #[.slice u.a u.n u.c,.slice v.a v.n v.c] w (jaH w (jaS x l) jbf):=by
 obtain ⟨ux,uc,eu,c1,c2,c3⟩:=hx.sl;obtain ⟨ua,un,uu⟩:=u;simp only [Sl.v,Value.slice.injEq] at eu;obtain ⟨rfl,rfl,rfl⟩:=eu;obtain ⟨vx,vc,ev,d1,d2,d3⟩:=hv.sl;obtain ⟨va,vn,vv⟩:=v;simp only [Sl.v,Value.slice.injEq] at ev;obtain ⟨rfl,rfl,rfl⟩:=ev;have HX:=jac hx;have HV:=jac hv;have FEW:=hf.few;have CO:=jac (jb2 _ x w hx);have P1:jaR x=.ok (jaB x):=by unfold jaR;rw [if_pos hf.ok]
 rw [P1] at CO;have E0:Hid (jaS x l=(jbG x (jaB x) l 0 none 1 []).bind (endS (jaB x))):=by show _=_;unfold jaS;rw [P1];rfl
 have B1:=hf.le;have B2:=hf.prod_pos;obtain ⟨count,hcnt⟩ : ∃ c,c=jaB x:=⟨_,rfl⟩
 rw [← hcnt] at CO E0 B1 B2;clear hx hf hv P1 hcnt;simp only at CO ⊢;go_enter Tryz.func90,Tryz.ntmps90;go_wp2_with (first | (go_at_call 69;refine CO.out.mono ?_;rintro e w' ⟨-,v,rfl,rfl,rfl⟩) | fail);clear CO;go_loopw [6,7,8,15] (fun lf kn s i wr=>∃ (k:Nat) (left:Option Nat) (known:Int) (acc:List Int) (u:Sl),k≤l.length∧i=.int .i64 k∧lf=.int .i64 (jft left)∧kn=.int .i64 known∧s=.slice u.a u.n u.c∧Owns wr w.heap.size u.v acc∧acc.length=k∧(∀ j,left=some j→j<k)∧(1≤known∧known≤count)∧jbG x count (l.drop k) k left known acc=jbG x count l 0 none 1 []∧w.grownBy wr none) (fun _ _ _ i _=>l.length - (intOf i).toNat)
 case atStart=>exact ⟨0,none,1,[],⟨none,0,0⟩,Nat.zero_le _,rfl,rfl,rfl,rfl,jbg _ _,rfl,(fun j h=>by cases h),by omega,by rw [List.drop_zero],jae _⟩
 case round =>
  obtain ⟨k,left,known,acc,⟨qa,qn,qc⟩,hk,rfl,rfl,rfl,rfl,ho,hal,hlf,⟨hk1,hk2⟩,hst,hg⟩:=hrel;simp only;have HO1:=jac ho;have HG:=jac hg;have HLF:=jac hlf;have HAL:=jac hal;have hsz:=hg.size;clear hlf hal ho
  by_cases hkl:k<l.length
  ·obtain ⟨b,off,rfl,hc⟩:=HV.out.get hkl;have hcell:wr.cell? ⟨b,off+k,none⟩=some (.int .i64 (l.getD k 0)):=jad (hc k hkl) hg;have hwf:=HV.out.wf (l.getD k 0) (by simp [List.getD,hkl]);rw [ji4 hkl] at hst;obtain ⟨d,hd0⟩ : ∃ d,d=l.getD k 0:=⟨_,rfl⟩
   rw [← hd0] at hcell hst hwf;clear hc hd0;have hab:((acc.length:Int)+1)*8≤140737488351232:=by have:=HAL.out;omega
   by_cases hm:d = -1
   ·subst hm
    by_cases hlf:left=none
    ·subst hlf;simp only [jft];have hst2:(jal (decide (1≤(1:Int)∧1≤count))).bind (fun _=>(jal (decide (known*1≤count))).bind (fun _=>jbG x count (l.drop (k+1)) (k+1) (some k) (known*1) (acc++[1])))=jbG x count l 0 none 1 []:=by rw [← hst];rfl
     clear hst hg
     by_cases h1:1≤(1:Int)
     ·by_cases h2:(1:Int)≤count
      ·obtain ⟨P,hP⟩ : ∃ P,P=known*(1:Int):=⟨_,rfl⟩
       have hP1:1≤P:=by rw [hP];have:=Int.mul_le_mul hk1 h1 (by omega) (by omega);omega
       have hPm:P≤65536*65536:=by rw [hP];exact Int.mul_le_mul (by omega) (by omega) (by omega) (by omega)
       rw [← hP] at hst2;have hPx:known*(1:Int)=P:=hP.symm;clear hP
       by_cases h3:P≤count
       ·have HST:Hid (jbG x count (l.drop (k+1)) (k+1) (some k) P (acc++[(1:Int)])=jbG x count l 0 none 1 []):=by show _=_;rw [← hst2];simp [jal,h2,h3];rfl
        clear hst2;go_wp2_with (first | (go_at_call 67;refine (jaq _).mono ?_;rintro e w' ⟨rfl,rfl⟩) | (at_builtin;refine jbm rfl (.tmp 53) (.tmp 55) rfl w.heap.size _ _ rfl HO1.out (1:Int) rfl (by omega) (by omega) (by omega) ?_;intro v' w4 hown hgrow) | fail);obtain ⟨⟨xa,xn,xc⟩,rfl⟩:=hown.sl;have HO2:=jac hown;have HG2:=jac (hgrow w (Nat.le_refl _) HG.out);clear hown hgrow;go_roundw
        case rel=>exact ⟨k+1,(some k),P,_,⟨xa,xn,xc⟩,by omega,by go_num,by first | rfl | simp [jft],rfl,rfl,HO2.out,by have:=HAL.out;simp;omega,(fun j h=>by cases h;omega),⟨hP1,h3⟩,HST.out,HG2.out⟩
        case measure=>simp [intOf];omega
       ·have E3:Hid (jaS x l=.error 4):=by show _=_;rw [E0.out,← hst2];simp [jal,h2,h3];rfl
        have b3:decide (P≤count)=false:=by simpa using h3
        clear hst2;go_wp2_with (first | (go_at_call 67;refine (jaq _).mono ?_;rintro e w' ⟨rfl,rfl⟩;have done1:True:=trivial) | (go_at_call 67;refine (jav _).mono ?_;rintro e w' ⟨rfl,rfl⟩) | fail);exact ⟨rfl,jah E3.out HG.out⟩
      ·exact absurd (by omega) h2
     ·exact absurd (by omega) h1
    ·have E3:Hid (jaS x l=.error 4):=by show _=_;rw [E0.out,← hst];simp [jr9,hlf];rfl
     have hnn:¬ jft left<0:=fun h=>hlf ((jnl left).1 h);have bnn:decide (jft left<0)=false:=by simpa using hnn
     clear hst;go_wp2_with (first | (go_at_call 67;refine (jav _).mono ?_;rintro e w' ⟨rfl,rfl⟩) | fail);exact ⟨rfl,jah E3.out HG.out⟩
   ·have bm:(d == -1)=false:=by simpa using hm
    by_cases hz:d=0
    ·subst hz
     by_cases hkx:k<x.length
     ·obtain ⟨b',off',rfl,hcx⟩:=HX.out.get hkx;have hcx2:wr.cell? ⟨b',off'+k,none⟩=some (.int .i64 (x.getD k 0)):=jad (hcx k hkx) hg;have hkx':(k:Int)<(x.length:Int):=by omega
      have hwfx:=HX.out.wf (x.getD k 0) (by simp [List.getD,hkx]);obtain ⟨y,hy⟩ : ∃ y,y=x.getD k 0:=⟨_,rfl⟩
      have hst2:(jal (decide (1≤y∧y≤count))).bind (fun _=>(jal (decide (known*y≤count))).bind (fun _=>jbG x count (l.drop (k+1)) (k+1) left (known*y) (acc++[y])))=jbG x count l 0 none 1 []:=by rw [← hst];simp only [jr9,if_neg hm,if_pos,if_pos hkx];rw [← hy];rfl
      rw [← hy] at hcx2 hwfx;clear hcx hy;clear hst hg
      by_cases h1:1≤y
      ·by_cases h2:y≤count
       ·obtain ⟨P,hP⟩ : ∃ P,P=known*y:=⟨_,rfl⟩
        have hP1:1≤P:=by rw [hP];have:=Int.mul_le_mul hk1 h1 (by omega) (by omega);omega
        have hPm:P≤65536*65536:=by rw [hP];exact Int.mul_le_mul (by omega) (by omega) (by omega) (by omega)
        rw [← hP] at hst2;have hPx:known*y=P:=hP.symm;clear hP
        by_cases h3:P≤count
        ·have HST:Hid (jbG x count (l.drop (k+1)) (k+1) left P (acc++[y])=jbG x count l 0 none 1 []):=by show _=_;rw [← hst2];simp [jal,h1,h2,h3];rfl
         clear hst2;go_wp2_with (first | (go_at_call 67;refine (jaq _).mono ?_;rintro e w' ⟨rfl,rfl⟩) | (at_builtin;refine jbm rfl (.tmp 53) (.tmp 55) rfl w.heap.size _ _ rfl HO1.out y rfl (by omega) (by omega) (by omega) ?_;intro v' w4 hown hgrow) | fail);obtain ⟨⟨xa,xn,xc⟩,rfl⟩:=hown.sl;have HO2:=jac hown;have HG2:=jac (hgrow w (Nat.le_refl _) HG.out);clear hown hgrow;go_roundw
         case rel=>exact ⟨k+1,left,P,_,⟨xa,xn,xc⟩,by omega,by go_num,by first | rfl | simp [jft],rfl,rfl,HO2.out,by have:=HAL.out;simp;omega,(fun j h=>by have:=HLF.out j h;omega),⟨hP1,h3⟩,HST.out,HG2.out⟩
         case measure=>simp [intOf];omega
        ·have E3:Hid (jaS x l=.error 4):=by show _=_;rw [E0.out,← hst2];simp [jal,h1,h2,h3];rfl
         have b3:decide (P≤count)=false:=by simpa using h3
         clear hst2;go_wp2_with (first | (go_at_call 67;refine (jaq _).mono ?_;rintro e w' ⟨rfl,rfl⟩;have done1:True:=trivial) | (go_at_call 67;refine (jav _).mono ?_;rintro e w' ⟨rfl,rfl⟩) | fail);exact ⟨rfl,jah E3.out HG.out⟩
       ·have E3:Hid (jaS x l=.error 4):=by show _=_;rw [E0.out,← hst2];simp [jal,h2];rfl
        have b3:decide (y≤count)=false:=by simpa using h2
        clear hst2;go_wp2_with (first | (go_at_call 67;refine (jaq _).mono ?_;rintro e w' ⟨rfl,rfl⟩) | (go_at_call 67;refine (jav _).mono ?_;rintro e w' ⟨rfl,rfl⟩) | fail);exact ⟨rfl,jah E3.out HG.out⟩
      ·have E3:Hid (jaS x l=.error 4):=by show _=_;rw [E0.out,← hst2];simp [jal,h1];rfl
       have b3:decide (1≤y)=false:=by simpa using h1
       clear hst2;go_wp2_with (first | (go_at_call 67;refine (jaq _).mono ?_;rintro e w' ⟨rfl,rfl⟩) | (go_at_call 67;refine (jav _).mono ?_;rintro e w' ⟨rfl,rfl⟩) | fail);exact ⟨rfl,jah E3.out HG.out⟩
     ·have E3:Hid (jaS x l=.error 4):=by show _=_;rw [E0.out,← hst];simp [jr9,hkx];rfl
      have bnn:decide ((k:Int)<(x.length:Int))=false:=by simpa using hkx
      clear hst;go_wp2_with (first | (go_at_call 67;refine (jav _).mono ?_;rintro e w' ⟨rfl,rfl⟩) | fail);exact ⟨rfl,jah E3.out HG.out⟩
    ·have bz:(d==0)=false:=by simpa using hz
     have hst2:(jal (decide (1≤d∧d≤count))).bind (fun _=>(jal (decide (known*d≤count))).bind (fun _=>jbG x count (l.drop (k+1)) (k+1) left (known*d) (acc++[d])))=jbG x count l 0 none 1 []:=by rw [← hst];simp only [jr9,if_neg hm,if_neg hz];rfl
     clear hst hg
     by_cases h1:1≤d
     ·by_cases h2:d≤count
      ·obtain ⟨P,hP⟩ : ∃ P,P=known*d:=⟨_,rfl⟩
       have hP1:1≤P:=by rw [hP];have:=Int.mul_le_mul hk1 h1 (by omega) (by omega);omega
       have hPm:P≤65536*65536:=by rw [hP];exact Int.mul_le_mul (by omega) (by omega) (by omega) (by omega)
       rw [← hP] at hst2;have hPx:known*d=P:=hP.symm;clear hP
       by_cases h3:P≤count
       ·have HST:Hid (jbG x count (l.drop (k+1)) (k+1) left P (acc++[d])=jbG x count l 0 none 1 []):=by show _=_;rw [← hst2];simp [jal,h1,h2,h3];rfl
        clear hst2;go_wp2_with (first | (go_at_call 67;refine (jaq _).mono ?_;rintro e w' ⟨rfl,rfl⟩) | (at_builtin;refine jbm rfl (.tmp 53) (.tmp 55) rfl w.heap.size _ _ rfl HO1.out d rfl (by omega) (by omega) (by omega) ?_;intro v' w4 hown hgrow) | fail);obtain ⟨⟨xa,xn,xc⟩,rfl⟩:=hown.sl;have HO2:=jac hown;have HG2:=jac (hgrow w (Nat.le_refl _) HG.out);clear hown hgrow;go_roundw
        case rel=>exact ⟨k+1,left,P,_,⟨xa,xn,xc⟩,by omega,by go_num,by first | rfl | simp [jft],rfl,rfl,HO2.out,by have:=HAL.out;simp;omega,(fun j h=>by have:=HLF.out j h;omega),⟨hP1,h3⟩,HST.out,HG2.out⟩
        case measure=>simp [intOf];omega
       ·have E3:Hid (jaS x l=.error 4):=by show _=_;rw [E0.out,← hst2];simp [jal,h1,h2,h3];rfl
        have b3:decide (P≤count)=false:=by simpa using h3
        clear hst2;go_wp2_with (first | (go_at_call 67;refine (jaq _).mono ?_;rintro e w' ⟨rfl,rfl⟩;have done1:True:=trivial) | (go_at_call 67;refine (jav _).mono ?_;rintro e w' ⟨rfl,rfl⟩) | fail);exact ⟨rfl,jah E3.out HG.out⟩
      ·have E3:Hid (jaS x l=.error 4):=by show _=_;rw [E0.out,← hst2];simp [jal,h2];rfl
       have b3:decide (d≤count)=false:=by simpa using h2
       clear hst2;go_wp2_with (first | (go_at_call 67;refine (jaq _).mono ?_;rintro e w' ⟨rfl,rfl⟩) | (go_at_call 67;refine (jav _).mono ?_;rintro e w' ⟨rfl,rfl⟩) | fail);exact ⟨rfl,jah E3.out HG.out⟩
     ·have E3:Hid (jaS x l=.error 4):=by show _=_;rw [E0.out,← hst2];simp [jal,h1];rfl
      have b3:decide (1≤d)=false:=by simpa using h1
      clear hst2;go_wp2_with (first | (go_at_call 67;refine (jaq _).mono ?_;rintro e w' ⟨rfl,rfl⟩) | (go_at_call 67;refine (jav _).mono ?_;rintro e w' ⟨rfl,rfl⟩) | fail);exact ⟨rfl,jah E3.out HG.out⟩
  ·have hkk:k=l.length:=by omega
   have E1:Hid (jaS x l=endS count (left,known,acc)):=by
    show _=_;rw [E0.out,← hst,List.drop_of_length_le (by omega)]
    rfl
   have hk0:¬ known=0:=by omega
   have hmod:count.tmod known=count % known:=Int.tmod_eq_emod_of_nonneg (by omega);have hdiv:count.tdiv known=count / known:=Int.tdiv_eq_ediv_of_nonneg (by omega);have hq1:0≤count / known:=Int.ediv_nonneg (by omega) (by omega);have hq2:count / known≤count:=Int.ediv_le_self _ (by omega);obtain ⟨Q,hQ⟩ : ∃ Q,Q=count / known:=⟨_,rfl⟩
   obtain ⟨M,hM⟩ : ∃ M,M=count % known:=⟨_,rfl⟩
   have E2:Hid (endS count (left,known,acc)=(jal (decide (M=0∧(left≠none∨known=count)))).bind (fun _=>.ok (putL left acc Q))):=by show _=_;rw [hQ,hM];rfl
   rw [← hQ] at hdiv hq1 hq2;rw [← hM] at hmod;clear hst hg hQ hM hkk
   by_cases hM0:M=0
   ·subst hM0
    cases left with
    | some j =>
     have hj:=HLF.out j rfl;have E3:Hid (jaS x l=.ok (acc.set j Q)):=by show _=_;rw [E1.out,E2.out];simp [jal,putL];rfl
     have hal:=HAL.out;obtain ⟨g,gcap,eo,hbg,hgl,hlc,hcm⟩:=HO1.out.shape (by omega);simp only [Value.slice.injEq] at eo;obtain ⟨rfl,rfl,rfl⟩:=eo;obtain ⟨cc,fc⟩:=HO1.out.cells (k:=j) (by omega);obtain ⟨so,sg⟩:=HO1.out.put j Q (by omega);have SO:=jac so;have SG:=jac (jay HG.out sg hbg);have hja:(j:Int)<(acc.length:Int):=by omega
     simp only [jft];clear so sg hal;go_wp2_with (first | (go_at_call 67;refine (jaq _).mono ?_;rintro e w' ⟨rfl,rfl⟩) | fail);go_ret;exact jap E3.out SG.out ⟨⟨_,_,_⟩,rfl,SO.out.ints⟩
    | none =>
     simp only [jft]
     by_cases hkc:known=count
     ·have bkc:(known==count)=true:=by simp [hkc]
      have E3:Hid (jaS x l=.ok acc):=by show _=_;rw [E1.out,E2.out];simp [jal,hkc,putL];rfl
      clear hkc;go_wp2_with (first | (go_at_call 67;refine (jaq _).mono ?_;rintro e w' ⟨rfl,rfl⟩) | fail);go_ret;exact jap E3.out HG.out ⟨⟨qa,qn,qc⟩,rfl,HO1.out.ints⟩
     ·have bkc:(known==count)=false:=by simpa using hkc
      have E3:Hid (jaS x l=.error 4):=by show _=_;rw [E1.out,E2.out];simp [jal,hkc];rfl
      clear hkc;go_wp2_with (first | (go_at_call 67;refine (jav _).mono ?_;rintro e w' ⟨rfl,rfl⟩) | fail);exact ⟨rfl,jah E3.out HG.out⟩
   ·have bM:(M==0)=false:=by simpa using hM0
    have E3:Hid (jaS x l=.error 4):=by show _=_;rw [E1.out,E2.out];simp [jal,hM0];rfl
    clear hM0;go_wp2_with (first | (go_at_call 67;refine (jav _).mono ?_;rintro e w' ⟨rfl,rfl⟩) | fail);exact ⟨rfl,jah E3.out HG.out⟩
end Go.Proofs.YtanpkdkenifmbaaGreatDoor
namespace Go.Proofs.YtanpkdkenifmbaaGreatDoor
open Go.RowKit
theorem jaU {l:List Int} {k:Nat} (hk:k<l.length):l.getD k 0∈l:=by
 rw [List.getD,List.getElem?_eq_getElem hk];exact List.getElem_mem hk
def jpq (X Y T:Int) (along:Nat) (di pa:List Int):R Int:=(jal (decide (0≤X+pa.getD along 0+pa.getD (2+along) 0 - di.getD along 0*(Y - 1) - 1))).bind (fun _=>.ok ((X+pa.getD along 0+pa.getD (2+along) 0 - di.getD along 0*(Y - 1) - 1) / T+1))
theorem jcN (n:Nod) (A:At) (u v:Sl) (x K:List Int) (along:Nat) (w:World) (hn:NodeOk w n A) (hx:IsInts w u.v x) (hK:IsInts w v.v K) (hlx:x.length=4) (hlK:K.length=2) (bx:∀ z∈x,1≤z∧z≤65536) (bK:∀ z∈K,1≤z∧z≤65536) (ha:along<2) :
    Calls Tryz.prog 123 #[jaA n,.slice u.a u.n u.c,.slice v.a v.n v.c,.int .i64 along] w (jaH w (jaI A x K along) fun z v _=>v=.int .i64 z∧1≤z∧z≤1000000):=by
     obtain ⟨ux,uc,eu,c1,c2,c3⟩:=hx.sl;obtain ⟨ua,un,uu⟩:=u;simp only [Sl.v,Value.slice.injEq] at eu;obtain ⟨rfl,rfl,rfl⟩:=eu;obtain ⟨vx,vc,ev,d1,d2,d3⟩:=hK.sl;obtain ⟨va,vn,vv⟩:=v;simp only [Sl.v,Value.slice.injEq] at ev;obtain ⟨rfl,rfl,rfl⟩:=ev;obtain ⟨xb,xo,rfl,hcx⟩:=hx.get (k:=0) (by omega);obtain ⟨kb,ko,rfl,hck⟩:=hK.get (k:=0) (by omega);have XC:=jac (hcx (2+along) (by omega));have KC:=jac (hck along (by omega));have BX:=bx _ (jaU (l:=x) (k:=2+along) (by omega));have BK:=bK _ (jaU (l:=K) (k:=along) (by omega));rw [hlx,hlK];rw [hlx] at c1;rw [hlK] at d1;have E0:Hid (jaI A x K along=(jaZ (A.ints ⟨#[115,116,114,105,100,101,115]⟩ [1,1]) 2 1).bind (fun st=>(jaZ (A.ints ⟨#[100,105,108,97,116,105,111,110,115]⟩ [1,1]) 2 1).bind (fun di=>(jeu A).bind (fun pa=>jpq (x.getD (2+along) 0) (K.getD along 0) (st.getD along 0) along di pa)))):=rfl;obtain ⟨X,hX⟩ : ∃ X,X=x.getD (2+along) 0:=⟨_,rfl⟩
     obtain ⟨Y,hY⟩ : ∃ Y,Y=K.getD along 0:=⟨_,rfl⟩
     rw [← hX] at XC E0 BX;rw [← hY] at KC E0 BK;clear hx hK hcx hck bx bK hlx hlK hX hY c3 d3;have NK:=jac hn;obtain ⟨op,nam,⟨ia,il,ic⟩,out,⟨ao,al,cap⟩⟩:=n;unfold jaA;simp only;obtain ⟨w0,hw0⟩ : ∃ w0,w0=w.alloc (.cells #[.string op,.string nam,.slice ia il ic,.string out,.slice ao al cap] 25):=⟨_,rfl⟩
     have g0:Hid (w.grownBy w0 none):=by show w.grownBy w0 none;rw [hw0];exact jab _ _
     have hb0:=heap_alloc_new w (.cells #[.string op,.string nam,.slice ia il ic,.string out,.slice ao al cap] 25);rw [← hw0] at hb0;have BX:Hid (∀ wx,w0.grownBy wx none→wx.heap[w.heap.size]?=some (.cells #[.string op,.string nam,.slice ia il ic,.string out,.slice ao al cap] 25 (0,0))):=fun wx hg=>jag hb0 hg;clear hb0 hn;have ST:=jac (jhJ ⟨op,nam,⟨ia,il,ic⟩,out,⟨ao,al,cap⟩⟩ A w0 (NK.out.more g0.out));have DI:=jac (fun (wx:World) (hg:w.grownBy wx none)=>jgX ⟨op,nam,⟨ia,il,ic⟩,out,⟨ao,al,cap⟩⟩ A wx (NK.out.more hg));have PA:=jac (fun (wx:World) (hg:w.grownBy wx none)=>jgf ⟨op,nam,⟨ia,il,ic⟩,out,⟨ao,al,cap⟩⟩ A wx (NK.out.more hg));unfold jaA at ST DI PA;simp only at ST DI PA;go_enter Tryz.func123,Tryz.ntmps123;go_wp2_with fail;rw [← hw0];clear hw0;refine ST.out.mono ?_;rintro e w1 ⟨s,rfl,hs,hg1⟩;have G1:=jac hg1;have WS:=jac (jdB s _ 2 1 w1 hs (by decide));have HS:=jac hs;clear hs hg1 ST
     cases hk:jaZ (A.ints ⟨#[115,116,114,105,100,101,115]⟩ [1,1]) 2 1 with
     | error c =>
      rw [hk] at WS;have E:Hid (jaI A x K along=.error c):=by show _=_;rw [E0.out,hk];rfl
      clear hk;go_wp2_with (first | (go_at_call 124;refine WS.out.mono ?_;rintro e w' ⟨hg,rfl⟩) | fail);exact ⟨rfl,jah E.out (jaa g0.out (jaa G1.out hg))⟩
     | ok st =>
      rw [hk] at WS E0;obtain ⟨e1,stl,stb⟩:=jdA hk;have BST:=jac (stb _ (jaU (l:=st) (k:=along) (by omega)));rw [← e1] at HS
      have SC:Hid (∀ wx,w1.grownBy wx none→∃ b off,s.a=some ⟨b,off,none⟩∧wx.cell? ⟨b,off+along,none⟩=some (.int .i64 (st.getD along 0))):=fun wx hg=>by
       obtain ⟨s1,s2,s3⟩:=s;obtain ⟨b,off,e,hc⟩:=HS.out.get (k:=along) (by omega);exact ⟨b,off,e,jad (hc along (by omega)) hg⟩
      have SL:s.n=2:=by
       obtain ⟨a',c',e,-⟩:=HS.out.sl;have:s.n=st.length:=by simp only [Sl.v,Value.slice.injEq] at e;exact e.2.1
       rw [this,stl]
      obtain ⟨b,off,esa,hsc⟩:=SC.out w1 (jae _);obtain ⟨sa,sn,sc⟩:=s;simp only at esa SL;subst esa SL;simp only [Sl.v] at WS ⊢;have E1:Hid (jaI A x K along=(jaZ (A.ints ⟨#[100,105,108,97,116,105,111,110,115]⟩ [1,1]) 2 1).bind (fun di=>(jeu A).bind (fun pa=>jpq X Y (st.getD along 0) along di pa))):=E0.out;obtain ⟨T,hT⟩ : ∃ T,T=st.getD along 0:=⟨_,rfl⟩
      rw [← hT] at hsc E1 BST;have ha2:(along:Int)<2:=by omega
      obtain ⟨n0,n1,n2,n3,n4⟩:=jai (n:=⟨op,nam,⟨ia,il,ic⟩,out,⟨ao,al,cap⟩⟩) (BX.out w1 (G1.out));clear hk e1 stl stb hT SC E0 HS;go_wp2_with (first | (go_at_call 124;refine WS.out.mono ?_;rintro e w' ⟨-,v,rfl,rfl,-,rfl⟩) | fail);clear hsc WS;refine (DI.out w1 (jaa g0.out G1.out)).mono ?_;rintro e w2 ⟨s,rfl,hs,hg2⟩;have G2:=jac (jaa G1.out hg2);have WD:=jac (jdB s _ 2 1 w2 hs (by decide));have HS:=jac hs;clear hs hg2 DI n0 n1 n2 n3 n4
      cases hk:jaZ (A.ints ⟨#[100,105,108,97,116,105,111,110,115]⟩ [1,1]) 2 1 with
      | error c =>
       rw [hk] at WD;have E:Hid (jaI A x K along=.error c):=by show _=_;rw [E1.out,hk];rfl
       clear hk;go_wp2_with (first | (go_at_call 124;refine WD.out.mono ?_;rintro e w' ⟨hg,rfl⟩) | fail);exact ⟨rfl,jah E.out (jaa g0.out (jaa G2.out hg))⟩
      | ok di =>
       rw [hk] at WD E1;obtain ⟨e1,dil,dib⟩:=jdA hk;have BDI:=jac (dib _ (jaU (l:=di) (k:=along) (by omega)));rw [← e1] at HS
       have SL:s.n=2:=by
        obtain ⟨a',c',e,-⟩:=HS.out.sl;have:s.n=di.length:=by simp only [Sl.v,Value.slice.injEq] at e;exact e.2.1
        rw [this,dil]
       obtain ⟨sa,sn,sc'⟩:=s;obtain ⟨b2,off2,esa,hc2⟩:=HS.out.get (k:=along) (by omega);simp only at esa SL;subst esa SL;have hsc:=hc2 along (by omega);simp only [Sl.v] at WD ⊢;have E2:Hid (jaI A x K along=(jeu A).bind (fun pa=>jpq X Y T along di pa)):=E1.out;obtain ⟨D,hD⟩ : ∃ D,D=di.getD along 0:=⟨_,rfl⟩
       rw [← hD] at hsc BDI;have HDX:=jac hD;obtain ⟨n0,n1,n2,n3,n4⟩:=jai (n:=⟨op,nam,⟨ia,il,ic⟩,out,⟨ao,al,cap⟩⟩) (BX.out w2 (G2.out));clear hk e1 dil dib hD E1 HS hc2;go_wp2_with (first | (go_at_call 124;refine WD.out.mono ?_;rintro e w' ⟨-,v,rfl,rfl,-,rfl⟩) | fail);clear hsc WD;have P3:=jac (PA.out w2 (jaa g0.out G2.out));clear PA n0 n1 n2 n3 n4
       cases hk:jeu A with
       | error c =>
        rw [hk] at P3;have E:Hid (jaI A x K along=.error c):=by show _=_;rw [E2.out,hk];rfl
        clear hk;refine P3.out.mono ?_;rintro e w' ⟨hg,rfl⟩;exact ⟨rfl,jah E.out (jaa g0.out (jaa G2.out hg))⟩
       | ok pa =>
        rw [hk] at P3 E2;have E3:Hid (jaI A x K along=jpq X Y T along di pa):=E2.out;clear hk E2;refine P3.out.mono ?_;rintro e w3 ⟨hg3,v,rfl,⟨pa1,pn,pc⟩,rfl,hp,hpl,hpb⟩;have G3:=jac (jaa g0.out (jaa G2.out hg3));obtain ⟨pb,po,epa,hpc⟩:=hp.get (k:=0) (by omega)
        have SL:pn=4:=by
         obtain ⟨a',c',e,-⟩:=hp.sl
         cases e
         exact hpl
        subst epa SL;have p1:=hpc along (by omega);have p2:=hpc (2+along) (by omega);have q1:=hpb _ (jaU (l:=pa) (k:=along) (by omega));have q2:=hpb _ (jaU (l:=pa) (k:=2+along) (by omega));have xc:=jad XC.out G3.out;have kc:=jad KC.out G3.out
        have pcb:4≤pc∧pc≤9223372036854775807:=by
         obtain ⟨a',c',e,f1,f2,-⟩:=hp.sl;simp only [Sl.v,Value.slice.injEq] at e;rw [hpl] at f1;rw [e.2.2];exact ⟨f1,f2⟩
        obtain ⟨pc1,pc2⟩:=pcb;have E4:Hid (jaI A x K along=(jal (decide (0≤X+pa.getD along 0+pa.getD (2+along) 0 - D*(Y - 1) - 1))).bind (fun _=>.ok ((X+pa.getD along 0+pa.getD (2+along) 0 - D*(Y - 1) - 1) / T+1))):=by show _=_;rw [E3.out,HDX.out];rfl
        obtain ⟨M,hM⟩ : ∃ M,M=D*(Y - 1):=⟨_,rfl⟩
        have bd:=BDI.out;have bt:=BST.out;have m1:0≤M:=by rw [hM];exact Int.mul_nonneg (by omega) (by omega)
        have m2:M≤100*65536:=by rw [hM];exact Int.mul_le_mul (by omega) (by omega) (by omega) (by omega)
        obtain ⟨U,hU⟩ : ∃ U,U=pa.getD along 0:=⟨_,rfl⟩
        obtain ⟨V,hV⟩ : ∃ V,V=pa.getD (2+along) 0:=⟨_,rfl⟩
        rw [← hM,← hU,← hV] at E4;rw [← hU] at p1 q1;rw [← hV] at p2 q2;have hM':D*(Y - 1)=M:=hM.symm;clear hM hU hV hp hpl hpb hpc E3 P3 HDX hg3;obtain ⟨N,hN0⟩ : ∃ N,N=X+U+V - M - 1:=⟨_,rfl⟩
        rw [← hN0] at E4;have hN1:X+U+V - M - 1=N:=hN0.symm;have bN:N≤200000:=by omega
        clear hN0
        rcases (show along=0∨along=1 by omega) with rfl | rfl
        ·skip
         simp only [Sl.v,Nat.add_zero,Int.natCast_zero] at *
         have hN:0≤N→N / T+1≤1000000∧1≤N / T+1:=fun h=>by
          have h1:N / T≤N:=Int.ediv_le_self _ h;have h2:0≤N / T:=Int.ediv_nonneg h (by omega);omega
         have hdv:0≤N→N.tdiv T=N / T:=fun h=>Int.tdiv_eq_ediv_of_nonneg h;have ht0:¬ T=0:=by omega
         have wz2:IntKind.i64.wrap 2=2:=by decide
         have wz3:IntKind.i64.wrap 3=3:=by decide
         have cN:Hid (0≤N→1≤N / T+1∧N / T+1≤1000000):=fun h=>⟨(hN h).2,(hN h).1⟩
         go_wp2_with fail
         go_quiet (fail)
         clear xc kc p1 p2 wz2 wz3
         by_cases h0:0≤N
         ·have E5:Hid (jaI A x K 0=.ok (N / T+1)):=by show _=_;rw [E4.out];simp [jal,h0];rfl
          have hdv':=hdv h0;have hb:=hN h0;clear hN hdv;go_wp2_with (first | (go_at_call 67;refine (jaq _).mono ?_;rintro e w' ⟨rfl,rfl⟩) | fail);go_ret;exact jap E5.out (jbb G3.out _) ⟨rfl,cN.out h0⟩
         ·have E5:Hid (jaI A x K 0=.error 4):=by show _=_;rw [E4.out];simp [jal,h0];rfl
          have hd0:decide (0≤N)=false:=by simpa using h0
          clear hN hdv;go_wp2_with (first | (go_at_call 67;refine (jav _).mono ?_;rintro e w' ⟨rfl,rfl⟩) | fail);exact ⟨rfl,jah E5.out (jbb G3.out _)⟩
        ·skip
         simp only [Sl.v,Nat.reduceAdd,Int.natCast_one] at *
         have hN:0≤N→N / T+1≤1000000∧1≤N / T+1:=fun h=>by
          have h1:N / T≤N:=Int.ediv_le_self _ h;have h2:0≤N / T:=Int.ediv_nonneg h (by omega);omega
         have hdv:0≤N→N.tdiv T=N / T:=fun h=>Int.tdiv_eq_ediv_of_nonneg h;have ht0:¬ T=0:=by omega
         have wz2:IntKind.i64.wrap 2=2:=by decide
         have wz3:IntKind.i64.wrap 3=3:=by decide
         have cN:Hid (0≤N→1≤N / T+1∧N / T+1≤1000000):=fun h=>⟨(hN h).2,(hN h).1⟩
         go_wp2_with fail
         go_quiet (fail)
         clear xc kc p1 p2 wz2 wz3
         by_cases h0:0≤N
         ·have E5:Hid (jaI A x K 1=.ok (N / T+1)):=by show _=_;rw [E4.out];simp [jal,h0];rfl
          have hdv':=hdv h0;have hb:=hN h0;clear hN hdv;go_wp2_with (first | (go_at_call 67;refine (jaq _).mono ?_;rintro e w' ⟨rfl,rfl⟩) | fail);go_ret;exact jap E5.out (jbb G3.out _) ⟨rfl,cN.out h0⟩
         ·have E5:Hid (jaI A x K 1=.error 4):=by show _=_;rw [E4.out];simp [jal,h0];rfl
          have hd0:decide (0≤N)=false:=by simpa using h0
          clear hN hdv;go_wp2_with (first | (go_at_call 67;refine (jav _).mono ?_;rintro e w' ⟨rfl,rfl⟩) | fail);exact ⟨rfl,jah E5.out (jbb G3.out _)⟩
end Go.Proofs.YtanpkdkenifmbaaGreatDoor
