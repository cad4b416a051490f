/- A part. -/
import Derived.Test.YtanpkdkenifmbaaGreatDoorUartAQ
import Derived.Test.YtanpkdkenifmbaaGreatDoorUartAV
import Derived.Test.YtanpkdkenifmbaaGreatDoorUartAP
import Derived.Deep.RegionHeld3
set_option maxHeartbeats 40000000
set_option maxRecDepth 100000
namespace Go.Proofs.YtanpkdkenifmbaaGreatDoor
open Go.RowKit
theorem ValsIn.at {w:World} {b off n c:Nat} {vs:List (Val×List Int)} (h:ValsIn w (.slice (some ⟨b,off,none⟩) n c) vs) (k:Nat) (hk:k<vs.length):w.cell? ⟨b,off+k*3+1,none⟩=some (.int .i64 (vs[k].1.ty))∧w.cell? ⟨b,off+k*3+2,none⟩=some (.slice vs[k].1.dv.a vs[k].1.dv.n vs[k].1.dv.c):=by
 obtain ⟨-,h1,h2⟩:=h.vals.val k (by rw [List.length_map];exact hk);rw [List.getElem_map] at h1 h2;exact ⟨h1,h2⟩
theorem jdp {ts:List Int} {t:Int} (h:ja1 ts=.ok t) (hp:0<ts.length) (ht:∀ s∈ts,jan s=true):jan t=true:=by
 cases ts with
 | nil=>simp at hp
 | cons a l =>
  by_cases hc:l.all (fun s=>s==a)=true
  ·have e:ja1 (a::l)=.ok a:=by simp only [ja1];rw [if_pos hc]
   rw [e] at h
   cases h
   exact ht t (by simp)
  ·have e:ja1 (a::l)=.error 4:=by simp only [ja1];rw [if_neg hc]
   rw [e] at h
   cases h
def jaE (vs:List (Val×List Int)):List Int:=vs.map (·.1.ty)
theorem jna (n:Nod) (A:At) (u:Sl) (vs:List (Val×List Int)) (w:World) (hop:n.op∈([⟨#[67,111,110,99,97,116]⟩,⟨#[82,101,115,104,97,112,101]⟩,⟨#[69,120,112,97,110,100]⟩,⟨#[84,114,97,110,115,112,111,115,101]⟩,⟨#[83,108,105,99,101]⟩,⟨#[83,113,117,101,101,122,101]⟩,⟨#[85,110,115,113,117,101,101,122,101]⟩,⟨#[70,108,97,116,116,101,110]⟩]:List ByteArray)) (hn:NodeOk w n A) (hv:ValsIn w u.v vs) (hp:0<vs.length) (hf:vs.length≤1000000) (ht:∀ s∈jaE vs,jan s=true):Calls Tryz.prog 70 #[jaA n,.slice u.a u.n u.c] w (jaH w (ja1 (jaE vs)) fun t v _=>v=.int .i64 t):=by
 obtain ⟨xa,xc,e1,p1,p2,p3⟩:=hv.vals.form;rw [List.length_map] at e1 p1 p3;obtain ⟨ua,un,uc⟩:=u;simp only [Sl.v,Value.slice.injEq] at e1;obtain ⟨rfl,rfl,rfl⟩:=e1;have HV:=jac hv;have HT:=jac ht;clear hv ht;have NK:=jac hn;obtain ⟨op,nam,⟨ia,il,ic⟩,out,⟨ao,al,cap⟩⟩:=n;unfold jaA;simp only;obtain ⟨w0,hw0⟩ : ∃ w0,w0=w.alloc (.cells #[.string op,.string nam,.slice ia il ic,.string out,.slice ao al cap] 25):=⟨_,rfl⟩
 have g0:Hid (w.grownBy w0 none):=by show w.grownBy w0 none;rw [hw0];exact jab _ _
 have hb0:=heap_alloc_new w (.cells #[.string op,.string nam,.slice ia il ic,.string out,.slice ao al cap] 25);rw [← hw0] at hb0;have BX:Hid (∀ wx,w0.grownBy wx none→wx.heap[w.heap.size]?=some (.cells #[.string op,.string nam,.slice ia il ic,.string out,.slice ao al cap] 25 (0,0))):=fun wx hg=>jag hb0 hg;clear hb0 hn;simp only at hop;have SM:=jac (jbr ⟨ua,vs.length,uc⟩ vs w0 (HV.out.more g0.out) hp hf);simp only at SM;have HK:Hid (jaE vs=vs.map (·.1.ty)):=rfl;simp only [List.mem_cons,List.not_mem_nil,or_false] at hop
 rcases hop with rfl | rfl | rfl | rfl | rfl | rfl | rfl | rfl
 all_goals
  go_enter Tryz.func70,Tryz.ntmps70;go_wp2_with fail;rw [← hw0];clear hw0
  cases hk:ja1 (vs.map (·.1.ty)) with
  | error c =>
   rw [hk] at SM;have E:Hid (ja1 (jaE vs)=.error c):=hk;clear hk;refine SM.out.mono ?_;rintro e w' ⟨hg,rfl⟩;exact ⟨rfl,jah E.out (jaa g0.out hg)⟩
  | ok t =>
   rw [hk] at SM;have E:Hid (ja1 (jaE vs)=.ok t):=hk;clear hk;refine SM.out.mono ?_;rintro e w' ⟨hg,v,rfl,rfl⟩;go_wp2;go_ret;exact jap E.out (jaa g0.out hg) rfl
theorem jkP (n:Nod) (A:At) (u:Sl) (vs:List (Val×List Int)) (w:World) (hop:n.op∈([⟨#[67,108,105,112]⟩,⟨#[83,111,102,116,109,97,120]⟩,⟨#[82,101,100,117,99,101,77,101,97,110]⟩,⟨#[80,97,100]⟩,⟨#[77,97,116,77,117,108]⟩,⟨#[71,101,109,109]⟩,⟨#[67,111,110,118]⟩,⟨#[77,97,120,80,111,111,108]⟩,⟨#[65,118,101,114,97,103,101,80,111,111,108]⟩,⟨#[71,108,111,98,97,108,65,118,101,114,97,103,101,80,111,111,108]⟩,⟨#[66,97,116,99,104,78,111,114,109,97,108,105,122,97,116,105,111,110]⟩]:List ByteArray)) (hn:NodeOk w n A) (hv:ValsIn w u.v vs) (hp:0<vs.length) (hf:vs.length≤1000000) (ht:∀ s∈jaE vs,jan s=true):Calls Tryz.prog 70 #[jaA n,.slice u.a u.n u.c] w (jaH w ((ja1 (jaE vs)).bind (fun t=>(jal (t==1)).bind (fun _=>.ok (1:Int)))) fun t v _=>v=.int .i64 t):=by
 obtain ⟨xa,xc,e1,p1,p2,p3⟩:=hv.vals.form;rw [List.length_map] at e1 p1 p3;obtain ⟨ua,un,uc⟩:=u;simp only [Sl.v,Value.slice.injEq] at e1;obtain ⟨rfl,rfl,rfl⟩:=e1;have HV:=jac hv;have HT:=jac ht;clear hv ht;have NK:=jac hn;obtain ⟨op,nam,⟨ia,il,ic⟩,out,⟨ao,al,cap⟩⟩:=n;unfold jaA;simp only;obtain ⟨w0,hw0⟩ : ∃ w0,w0=w.alloc (.cells #[.string op,.string nam,.slice ia il ic,.string out,.slice ao al cap] 25):=⟨_,rfl⟩
 have g0:Hid (w.grownBy w0 none):=by show w.grownBy w0 none;rw [hw0];exact jab _ _
 have hb0:=heap_alloc_new w (.cells #[.string op,.string nam,.slice ia il ic,.string out,.slice ao al cap] 25);rw [← hw0] at hb0;have BX:Hid (∀ wx,w0.grownBy wx none→wx.heap[w.heap.size]?=some (.cells #[.string op,.string nam,.slice ia il ic,.string out,.slice ao al cap] 25 (0,0))):=fun wx hg=>jag hb0 hg;clear hb0 hn;simp only at hop;have SM:=jac (jbr ⟨ua,vs.length,uc⟩ vs w0 (HV.out.more g0.out) hp hf);simp only at SM;obtain ⟨X,hX⟩ : ∃ X,X=(ja1 (jaE vs)).bind (fun t=>(jal (t==1)).bind (fun _=>.ok (1:Int))):=⟨_,rfl⟩
 have E0:Hid (X=(ja1 (vs.map (·.1.ty))).bind (fun t=>(jal (t==1)).bind (fun _=>.ok (1:Int)))):=hX;rw [← hX];clear hX;simp only [List.mem_cons,List.not_mem_nil,or_false] at hop
 rcases hop with rfl | rfl | rfl | rfl | rfl | rfl | rfl | rfl | rfl | rfl | rfl
 all_goals
  go_enter Tryz.func70,Tryz.ntmps70;go_wp2_with fail;rw [← hw0];clear hw0
  cases hk:ja1 (vs.map (·.1.ty)) with
  | error c =>
   rw [hk] at SM;have E:Hid (X=.error c):=by show _=_;rw [E0.out,hk];rfl
   clear hk;refine SM.out.mono ?_;rintro e w' ⟨hg,rfl⟩;exact ⟨rfl,jah E.out (jaa g0.out hg)⟩
  | ok t =>
   rw [hk] at SM;have E:Hid (X=(jal (t==1)).bind (fun _=>.ok (1:Int))):=by show _=_;rw [E0.out,hk];rfl
   clear hk;refine SM.out.mono ?_;rintro e w' ⟨hg,v,rfl,rfl⟩
   cases h1:(t==1) with
   | true =>
    have E2:Hid (X=.ok (1:Int)):=by show _=_;rw [E.out,h1];rfl
    go_wp2_with (first | (go_at_call 67;refine (jaq _).mono ?_;rintro e w'' ⟨rfl,rfl⟩) | fail);go_ret;exact jap E2.out (jaa g0.out hg) rfl
   | false =>
    have E2:Hid (X=.error 4):=by show _=_;rw [E.out,h1];rfl
    go_wp2_with (first | (go_at_call 67;refine (jav _).mono ?_;rintro e w'' ⟨rfl,rfl⟩) | fail);exact ⟨rfl,jah E2.out (jaa g0.out hg)⟩
theorem jpm (n:Nod) (A:At) (u:Sl) (vs:List (Val×List Int)) (w:World) (hop:n.op∈([⟨#[65,100,100]⟩,⟨#[83,117,98]⟩,⟨#[77,117,108]⟩,⟨#[68,105,118]⟩,⟨#[77,97,120]⟩,⟨#[77,105,110]⟩,⟨#[65,110,100]⟩,⟨#[79,114]⟩,⟨#[88,111,114]⟩]:List ByteArray)) (hn:NodeOk w n A) (hv:ValsIn w u.v vs) (hl:vs.length=2) (hf:vs.length≤1000000) (ht:∀ s∈jaE vs,jan s=true):Calls Tryz.prog 70 #[jaA n,.slice u.a u.n u.c] w (jaH w ((ja1 (jaE vs)).bind (fun t=>(jal (jbn n.op.toList t)).bind (fun _=>.ok t))) fun t v _=>v=.int .i64 t):=by
 obtain ⟨xa,xc,e1,p1,p2,p3⟩:=hv.vals.form;rw [List.length_map] at e1 p1 p3;obtain ⟨ua,un,uc⟩:=u;simp only [Sl.v,Value.slice.injEq] at e1;obtain ⟨rfl,rfl,rfl⟩:=e1;have HV:=jac hv;have HT:=jac ht;clear hv ht;have NK:=jac hn;obtain ⟨op,nam,⟨ia,il,ic⟩,out,⟨ao,al,cap⟩⟩:=n;unfold jaA;simp only;obtain ⟨w0,hw0⟩ : ∃ w0,w0=w.alloc (.cells #[.string op,.string nam,.slice ia il ic,.string out,.slice ao al cap] 25):=⟨_,rfl⟩
 have g0:Hid (w.grownBy w0 none):=by show w.grownBy w0 none;rw [hw0];exact jab _ _
 have hb0:=heap_alloc_new w (.cells #[.string op,.string nam,.slice ia il ic,.string out,.slice ao al cap] 25);rw [← hw0] at hb0;have BX:Hid (∀ wx,w0.grownBy wx none→wx.heap[w.heap.size]?=some (.cells #[.string op,.string nam,.slice ia il ic,.string out,.slice ao al cap] 25 (0,0))):=fun wx hg=>jag hb0 hg;clear hb0 hn;simp only at hop;have hp:0<vs.length:=by omega
 have SM:=jac (jbr ⟨ua,vs.length,uc⟩ vs w0 (HV.out.more g0.out) hp hf);simp only at SM;have b2:((vs.length:Int)==2)=true:=by rw [hl];decide
 have HM:op.toList∈jjN:=by
  simp only [List.mem_cons,List.not_mem_nil,or_false] at hop;rw [jaj]
  rcases hop with rfl | rfl | rfl | rfl | rfl | rfl | rfl | rfl | rfl <;> decide
 have MU0:=jac (fun (t:Int) (htt:jan t=true) (wx:World)=>jc1 op t HM htt wx);have BX2:=jac (fun (wx:World) (hx:w0.grownBy wx none)=>jai (n:=⟨op,nam,⟨ia,il,ic⟩,out,⟨ao,al,cap⟩⟩) (BX.out wx hx));simp only at BX2;obtain ⟨L,hL⟩ : ∃ L,L=op.toList:=⟨_,rfl⟩
 rw [← hL] at MU0 ⊢;obtain ⟨X,hX⟩ : ∃ X,X=(ja1 (jaE vs)).bind (fun t=>(jal (jbn L t)).bind (fun _=>.ok t)):=⟨_,rfl⟩
 have E0:Hid (X=(ja1 (vs.map (·.1.ty))).bind (fun t=>(jal (jbn L t)).bind (fun _=>.ok t))):=hX;rw [← hX];clear hl HM hL hX BX;simp only [List.mem_cons,List.not_mem_nil,or_false] at hop
 rcases hop with rfl | rfl | rfl | rfl | rfl | rfl | rfl | rfl | rfl
 all_goals
  go_enter Tryz.func70,Tryz.ntmps70;go_wp2_with fail;rw [← hw0];clear hw0
  cases hk:ja1 (vs.map (·.1.ty)) with
  | error c =>
   rw [hk] at SM;have E:Hid (X=.error c):=by show _=_;rw [E0.out,hk];rfl
   clear hk;refine SM.out.mono ?_;rintro e w' ⟨hg,rfl⟩;exact ⟨rfl,jah E.out (jaa g0.out hg)⟩
  | ok t =>
   have htt:=jdp hk (by simpa using hp) HT.out;rw [hk] at SM;have E:Hid (X=(jal (jbn L t)).bind (fun _=>.ok t)):=by show _=_;rw [E0.out,hk];rfl
   clear hk;refine SM.out.mono ?_;rintro e w1 ⟨hg,v,rfl,rfl⟩;obtain ⟨n0,n1,n2,n3,n4⟩:=BX2.out w1 hg;have MU:=jac (MU0.out t htt w1)
   cases h1:jbn L t with
   | true =>
    rw [h1] at MU;have E2:Hid (X=.ok t):=by show _=_;rw [E.out,h1];rfl
    clear h1;go_wp2_with (first | (go_at_call 85;refine MU.out.mono ?_;rintro e w2 ⟨hg2,v,rfl,rfl⟩) | fail);go_ret;exact jap E2.out (jaa (jaa g0.out hg) hg2) rfl
   | false =>
    rw [h1] at MU;have E2:Hid (X=.error 4):=by show _=_;rw [E.out,h1];rfl
    clear h1;go_wp2_with (first | (go_at_call 85;refine MU.out.mono ?_;rintro e w2 ⟨hg2,rfl⟩) | fail);exact ⟨rfl,jah E2.out (jaa (jaa g0.out hg) hg2)⟩
theorem jpn (n:Nod) (A:At) (u:Sl) (vs:List (Val×List Int)) (w:World) (hop:n.op∈([⟨#[73,100,101,110,116,105,116,121]⟩,⟨#[78,101,103]⟩,⟨#[65,98,115]⟩,⟨#[78,111,116]⟩,⟨#[82,101,108,117]⟩,⟨#[83,113,114,116]⟩,⟨#[70,108,111,111,114]⟩,⟨#[69,120,112]⟩,⟨#[83,105,103,109,111,105,100]⟩,⟨#[84,97,110,104]⟩]:List ByteArray)) (hn:NodeOk w n A) (hv:ValsIn w u.v vs) (hl:vs.length=1) (hf:vs.length≤1000000) (ht:∀ s∈jaE vs,jan s=true):Calls Tryz.prog 70 #[jaA n,.slice u.a u.n u.c] w (jaH w ((ja1 (jaE vs)).bind (fun t=>(jal (jcz n.op.toList t)).bind (fun _=>.ok t))) fun t v _=>v=.int .i64 t):=by
 obtain ⟨xa,xc,e1,p1,p2,p3⟩:=hv.vals.form;rw [List.length_map] at e1 p1 p3;obtain ⟨ua,un,uc⟩:=u;simp only [Sl.v,Value.slice.injEq] at e1;obtain ⟨rfl,rfl,rfl⟩:=e1;have HV:=jac hv;have HT:=jac ht;clear hv ht;have NK:=jac hn;obtain ⟨op,nam,⟨ia,il,ic⟩,out,⟨ao,al,cap⟩⟩:=n;unfold jaA;simp only;obtain ⟨w0,hw0⟩ : ∃ w0,w0=w.alloc (.cells #[.string op,.string nam,.slice ia il ic,.string out,.slice ao al cap] 25):=⟨_,rfl⟩
 have g0:Hid (w.grownBy w0 none):=by show w.grownBy w0 none;rw [hw0];exact jab _ _
 have hb0:=heap_alloc_new w (.cells #[.string op,.string nam,.slice ia il ic,.string out,.slice ao al cap] 25);rw [← hw0] at hb0;have BX:Hid (∀ wx,w0.grownBy wx none→wx.heap[w.heap.size]?=some (.cells #[.string op,.string nam,.slice ia il ic,.string out,.slice ao al cap] 25 (0,0))):=fun wx hg=>jag hb0 hg;clear hb0 hn;simp only at hop;have hp:0<vs.length:=by omega
 have SM:=jac (jbr ⟨ua,vs.length,uc⟩ vs w0 (HV.out.more g0.out) hp hf);simp only at SM;have b2:((vs.length:Int)==2)=false:=by rw [hl];decide
 have HM:op.toList∈jgu:=by
  simp only [List.mem_cons,List.not_mem_nil,or_false] at hop;rw [jaj]
  rcases hop with rfl | rfl | rfl | rfl | rfl | rfl | rfl | rfl | rfl | rfl <;> decide
 have MU0:=jac (fun (t:Int) (htt:jan t=true) (wx:World)=>jfo op t HM htt wx);have BX2:=jac (fun (wx:World) (hx:w0.grownBy wx none)=>jai (n:=⟨op,nam,⟨ia,il,ic⟩,out,⟨ao,al,cap⟩⟩) (BX.out wx hx));simp only at BX2;obtain ⟨L,hL⟩ : ∃ L,L=op.toList:=⟨_,rfl⟩
 rw [← hL] at MU0 ⊢;obtain ⟨X,hX⟩ : ∃ X,X=(ja1 (jaE vs)).bind (fun t=>(jal (jcz L t)).bind (fun _=>.ok t)):=⟨_,rfl⟩
 have E0:Hid (X=(ja1 (vs.map (·.1.ty))).bind (fun t=>(jal (jcz L t)).bind (fun _=>.ok t))):=hX;rw [← hX];clear hl HM hL hX BX;simp only [List.mem_cons,List.not_mem_nil,or_false] at hop
 rcases hop with rfl | rfl | rfl | rfl | rfl | rfl | rfl | rfl | rfl | rfl
 all_goals
  go_enter Tryz.func70,Tryz.ntmps70;go_wp2_with fail;rw [← hw0];clear hw0
  cases hk:ja1 (vs.map (·.1.ty)) with
  | error c =>
   rw [hk] at SM;have E:Hid (X=.error c):=by show _=_;rw [E0.out,hk];rfl
   clear hk;refine SM.out.mono ?_;rintro e w' ⟨hg,rfl⟩;exact ⟨rfl,jah E.out (jaa g0.out hg)⟩
  | ok t =>
   have htt:=jdp hk (by simpa using hp) HT.out;rw [hk] at SM;have E:Hid (X=(jal (jcz L t)).bind (fun _=>.ok t)):=by show _=_;rw [E0.out,hk];rfl
   clear hk;refine SM.out.mono ?_;rintro e w1 ⟨hg,v,rfl,rfl⟩;obtain ⟨n0,n1,n2,n3,n4⟩:=BX2.out w1 hg;have MU:=jac (MU0.out t htt w1)
   cases h1:jcz L t with
   | true =>
    rw [h1] at MU;have E2:Hid (X=.ok t):=by show _=_;rw [E.out,h1];rfl
    clear h1;go_wp2_with (first | (go_at_call 73;refine MU.out.mono ?_;rintro e w2 ⟨hg2,v,rfl,rfl⟩) | fail);go_ret;exact jap E2.out (jaa (jaa g0.out hg) hg2) rfl
   | false =>
    rw [h1] at MU;have E2:Hid (X=.error 4):=by show _=_;rw [E.out,h1];rfl
    clear h1;go_wp2_with (first | (go_at_call 73;refine MU.out.mono ?_;rintro e w2 ⟨hg2,rfl⟩) | fail);exact ⟨rfl,jah E2.out (jaa (jaa g0.out hg) hg2)⟩
end Go.Proofs.YtanpkdkenifmbaaGreatDoor
namespace Go.Proofs.YtanpkdkenifmbaaGreatDoor
open Go.RowKit
def jeN:List (Val×List Int)→R Unit
 | []=>.ok ()
 | p::l=>(jfX p.1.ty).bind (fun _=>(jaR p.2).bind (fun _=>jeN l))
def jdq (t:Int):List ByteArray→R Unit
 | []=>.ok ()
 | o::l=>(jal (jcz o.toList t)).bind (fun _=>jdq t l)
theorem jnb {vs:List (Val×List Int)} {k:Nat} (hk:k<vs.length):jeN (vs.drop k)=(jfX vs[k].1.ty).bind (fun _=>(jaR vs[k].2).bind (fun _=>jeN (vs.drop (k+1)))):=by
 rw [List.drop_eq_getElem_cons hk]
 rfl
theorem jkQ {t:Int} {os:List ByteArray} {k:Nat} (hk:k<os.length):jdq t (os.drop k)=(jal (jcz os[k].toList t)).bind (fun _=>jdq t (os.drop (k+1))):=by
 rw [List.drop_eq_getElem_cons hk]
 rfl
theorem jnc:(Tryz.prog.info? 43).map (·.size)=some 3:=by kernel_rfl
theorem ji0 {fn : Func} {p : Tmp} (h : fn.results = #[.cell p 43]) (tmps : Array Value) (w : World) (B : Nat) (hp : tmps.getD p undef = .pointer (some ⟨B, 0, none⟩)) {a0 a1 a2 : Value}
    (hb:w.heap[B]?=some (.cells #[a0,a1,a2] 43 (0,0))):(results fn tmps).run Tryz.prog w=.ok (.agg #[a0,a1,a2]) w :=
     results_cell_row h tmps w B 43 #[a0,a1,a2] (0,0) _ hp hb Tryz.underlying43 rfl (by rw [jnc];rfl)
theorem jhQ (nm:ByteArray) (t:Int) (u:Sl) (ds:List Int) (w:World) (hd:IsInts w u.v ds) (hs:nm.size≤281474976710656):Calls Tryz.prog 74 #[.string nm,.int .i64 t,.slice u.a u.n u.c] w fun e w'=>∃ s:Sl,e=.returned (.agg #[.string nm,.int .i64 t,.slice s.a s.n s.c])∧Owns w' w.heap.size s.v ds∧w.grownBy w' none:=by
 obtain ⟨w0,hw0⟩ : ∃ w0,w0=w.alloc (.cells #[.string ⟨#[]⟩,.int .i64 0,.slice none 0 0] 43):=⟨_,rfl⟩
 have g0:Hid (w.grownBy w0 none):=by show w.grownBy w0 none;rw [hw0];exact jab _ _
 have hb0:=heap_alloc_new w (.cells #[.string ⟨#[]⟩,.int .i64 0,.slice none 0 0] 43);rw [← hw0] at hb0;have BX:Hid (∀ wx,w0.grownBy wx none→wx.heap[w.heap.size]?=some (.cells #[.string ⟨#[]⟩,.int .i64 0,.slice none 0 0] 43 (0,0))):=fun wx hg=>jag hb0 hg;have SC:=jac (jdg nm w0 hs);have HD:=jac hd;clear hb0 hd;go_enter Tryz.func74,Tryz.ntmps74;go_wp2_with fail;rw [← hw0];clear hw0;refine SC.out.mono ?_;rintro e w1 ⟨rfl,hg1⟩;have CL:=jac (jdC u ds w1 (HD.out.more (jaa g0.out hg1)));go_wp2_with (first | (go_at_call 58;refine CL.out.mono ?_;rintro e w2 ⟨⟨s1,s2,s3⟩,rfl,ho,hg2⟩;simp only;have g2:=jaa hg1 hg2;have B2:=BX.out w2 g2;obtain ⟨f0,f1,f2⟩:=ja3 B2;have c0:=(cell_of_row _ _ 0 _ _ (0,0) B2).trans rfl;have c1:=(cell_of_row _ _ 1 _ _ (0,0) B2).trans rfl;have c2:=(cell_of_row _ _ 2 _ _ (0,0) B2).trans rfl) | fail);obtain ⟨hX,gX⟩:=jbu (.string nm) (.int .i64 t) (.slice s1 s2 s3) B2;have gf:w.grownBy _ none:=jay (jaa g0.out g2) gX (Nat.le_refl _);refine bodyPost_ret (ji0 rfl _ _ w.heap.size rfl hX) rfl ?_;refine ⟨⟨s1,s2,s3⟩,rfl,?_,gf⟩;have hb:w.heap.size<w1.heap.size:=by have:=(BX.out w1 hg1);exact (Array.getElem?_eq_some_iff.1 this).1
 have h:=(ho.base_le (b':=w.heap.size+1) (by omega)).more gX (by
  rcases ho.1.2 with ⟨e,-⟩ | ⟨gg,cap,cur,e,hgg,-⟩
  ·exact .inl (by rw [e];rfl)
  ·exact .inr (by rw [e];simp [Value.ownBlock];omega))
 exact h.base_le (by omega)
end Go.Proofs.YtanpkdkenifmbaaGreatDoor
namespace Go.Proofs.YtanpkdkenifmbaaGreatDoor
open Go.RowKit
def jbB (ck:Int) (lens:Bool) (vs:List (Val×List Int)) (tS:R Int) (dS:R (List Int)) (os:List ByteArray):R (Int×List Int) :=
 (jfW ck).bind (fun _=>(jal lens).bind (fun _=>(jeN vs).bind (fun _=>tS.bind (fun t=>dS.bind (fun d=>(jaR d).bind (fun _=>(jdq t os).bind (fun _=>.ok (t,d))))))))
theorem ji1 {s:ByteArray} (h:jaw s=true):s.toList∈jgu:=by
 unfold jaw at h;rw [List.any_eq_true] at h;obtain ⟨n,hn,he⟩:=h;have e:n=s.toList:=by simpa using he
 rw [← e]
 revert n
 unfold jjy jgu;intro n hn _ _;exact hn
theorem jkR (o:Option Atr):∀ s∈jdU o,jaw s=true:=by
 intro s hs;unfold jdU at hs
 cases o with
 | none=>simp at hs
 | some a =>
  simp only at hs
  split at hs
  ·rename_i hall;obtain ⟨p,hp,rfl⟩:=List.mem_map.1 hs;exact List.all_eq_true.1 hall p hp
  ·simp at hs
theorem jnd {xs:List Atr} (h:∀ a∈xs,a.s.size≤1048576) (P:Atr→Bool):(jdU (xs.find? P)).length≤1048577:=by
 unfold jdU
 cases hf:xs.find? P with
 | none=>simp
 | some a =>
  have h1:=h a (List.mem_of_find?_eq_some hf);have h2:=jiC a.s.data.toList;simp only
  split
  ·rw [List.length_map];have h3:a.s.data.toList.length=a.s.size:=by rw [Array.length_toList];rfl
   omega
  ·simp
theorem jfp (n : Nod) (A : At) (ins : List ByteArray) (u : Sl) (vs : List (Val × List Int)) (w : World) (hl : Laid w) (hni : NodeIn w n ins A.xs A.cs) (hv : ValsIn w u.v vs) (ho : n.out.size ≤ 281474976710656) (tS : R Int) (dS : R (List Int))
    (TM:jbE (jcu n.op) n.op ins n.out A.xs A.cs=0→vs.length=ins.length→jeN vs=.ok ()→∀ wx,w.grownBy wx none→Calls Tryz.prog 70 #[jaA n,.slice u.a u.n u.c] wx (jaH wx tS fun t v _=>v=.int .i64 t∧jan t=true))
    (DM:jbE (jcu n.op) n.op ins n.out A.xs A.cs=0→vs.length=ins.length→jeN vs=.ok ()→∀ wx,w.grownBy wx none→Calls Tryz.prog 71 #[jaA n,.slice u.a u.n u.c] wx (jaH wx dS jbf)) :
    Calls Tryz.prog 53 #[jaA n,.slice u.a u.n u.c] w (jaH w (jbB (jbE (jcu n.op) n.op ins n.out A.xs A.cs) (decide (vs.length=ins.length)) vs tS dS (jdU (A.xs.find? (isA ⟨#[116,104,101,110]⟩ 3)))) fun r v w'=>∃ s:Sl,v=.agg #[.string n.out,.int .i64 r.1,.slice s.a s.n s.c]∧Owns w' w.heap.size s.v r.2):=by
     obtain ⟨xa,xc,e1,q1,q2,q3⟩:=hv.vals.form;rw [List.length_map] at e1 q1 q3;obtain ⟨ua,un,uc⟩:=u;simp only [Sl.v,Value.slice.injEq] at e1;obtain ⟨rfl,rfl,rfl⟩:=e1;have CK:=jac (fun (wx:World) (hg:w.grownBy wx none)=>joO n ins A.xs A.cs wx (hl.more hg) (hni.more hg));have TH:=jac (fun (wx:World) (hg:w.grownBy wx none)=>jjD n A.xs wx (hl.more hg) (hni.more hg).av (fun a ha=>by have:=hni.short a ha;omega));have IL:=jac hni.ins;obtain ⟨ck,hck⟩ : ∃ c,c=jbE (jcu n.op) n.op ins n.out A.xs A.cs:=⟨_,rfl⟩
     obtain ⟨os,hos⟩ : ∃ os,os=jdU (A.xs.find? (isA ⟨#[116,104,101,110]⟩ 3)):=⟨_,rfl⟩
     have OS:Hid (∀ s∈os,jaw s=true):=by show ∀ s∈os,_;rw [hos];exact jkR _
     have OsB:Hid (os.length≤1048577):=by show os.length≤_;rw [hos];exact jnd hni.short _
     rw [← hck] at CK TM DM ⊢;rw [← hos] at TH ⊢;have HV:=jac hv;have HTM:=jac TM;have HDM:=jac DM;clear hck hos hl hni hv TM DM;obtain ⟨op,nam,⟨ia,il,ic⟩,out,⟨ao,al,cap⟩⟩:=n;unfold jaA at CK TH HTM HDM ⊢;simp only at CK TH HTM HDM IL ho ⊢;obtain ⟨ix,icc,ei,i1,i2,i3⟩:=IL.out.form;simp only [Sl.v,Value.slice.injEq] at ei;obtain ⟨rfl,rfl,rfl⟩:=ei;obtain ⟨w0,hw0⟩ : ∃ w0,w0=(w.alloc (.cells #[.string op,.string nam,.slice ia ins.length ic,.string out,.slice ao al cap] 25)).alloc (.cells #[.string ⟨#[]⟩,.int .i64 0,.slice none 0 0] 43):=⟨_,rfl⟩
     have g0:Hid (w.grownBy w0 none):=by show w.grownBy w0 none;rw [hw0];exact jaa (jab _ _) (jab _ _)
     have hbx:=jaJ w (.cells #[.string op,.string nam,.slice ia ins.length ic,.string out,.slice ao al cap] 25) (.cells #[.string ⟨#[]⟩,.int .i64 0,.slice none 0 0] 43);rw [← hw0] at hbx;have BX:Hid (∀ wx,w0.grownBy wx none→wx.heap[w.heap.size]?=some (.cells #[.string op,.string nam,.slice ia ins.length ic,.string out,.slice ao al cap] 25 (0,0))∧wx.heap[w.heap.size+1]?=some (.cells #[.string ⟨#[]⟩,.int .i64 0,.slice none 0 0] 43 (0,0))):=fun wx hg=>⟨jag hbx.1 hg,jag hbx.2 hg⟩
     clear hbx;go_enter Tryz.func53,Tryz.ntmps53;go_wp2_with fail;rw [← hw0];clear hw0;refine (CK.out w0 g0.out).mono ?_;rintro e w1 ⟨rfl,hg1⟩;have G1:=jac hg1;clear hg1 CK
     by_cases hc0:ck=0
     ·subst hc0;obtain ⟨n0,n1,n2,n3,n4⟩:=jai (n:=⟨op,nam,⟨ia,ins.length,ic⟩,out,⟨ao,al,cap⟩⟩) (BX.out w1 G1.out).1
      by_cases hlen:vs.length=ins.length
      ·have bl:((vs.length:Int)==(ins.length:Int))=true:=by simp [hlen]
       have TM2:=jac (HTM.out rfl hlen);have DM2:=jac (HDM.out rfl hlen);have E0:Hid (jbB 0 (decide (vs.length=ins.length)) vs tS dS os=(jeN vs).bind (fun _=>tS.bind (fun t=>dS.bind (fun d=>(jaR d).bind (fun _=>(jdq t os).bind (fun _=>.ok (t,d))))))):=by show _=_;unfold jbB;simp [jfW,jal,hlen];rfl
       clear hlen HTM HDM;go_wp2_with (first | (go_at_call 65;refine (jgV _).mono ?_;rintro e w' ⟨rfl,rfl⟩) | (go_at_call 67;refine (jaq _).mono ?_;rintro e w' ⟨rfl,rfl⟩) | fail);clear n0 n1 n2 n3 n4 bl;go_loopw [25] (fun i wr=>∃ k:Nat,k≤vs.length∧i=.int .i64 k∧jeN (vs.drop k)=jeN vs∧w0.grownBy wr none) (fun i _=>vs.length - (intOf i).toNat)
       case atStart=>exact ⟨0,Nat.zero_le _,rfl,by rw [List.drop_zero],G1.out⟩
       case round =>
        obtain ⟨k,hk,rfl,hst,hg⟩:=hrel;have HG:=jac hg
        by_cases hkl:k<vs.length
        ·obtain ⟨b,off,rfl⟩:=HV.out.vals.addr (k:=k) (by rw [List.length_map];exact hkl);obtain ⟨y0,y1,y2⟩:=(HV.out.more (jaa g0.out hg)).vals.val k (by rw [List.length_map];exact hkl);have HY:=jac (HV.out.dims vs[k] (List.getElem_mem hkl));rw [List.getElem_map] at y0 y1 y2;rw [jnb hkl] at hst;obtain ⟨p,hp⟩ : ∃ p,p=vs[k]:=⟨_,rfl⟩
         rw [← hp] at y0 y1 y2 HY hst;obtain ⟨⟨vn,vt,⟨da,dn,dc⟩⟩,y⟩:=p;simp only at y0 y1 y2 HY hst;obtain ⟨w3,hw3⟩ : ∃ w3,w3=wr.alloc (.cells #[.string vn,.int .i64 vt,.slice da dn dc] 43):=⟨_,rfl⟩
         have g3:Hid (w0.grownBy w3 none):=by show w0.grownBy w3 none;rw [hw3];exact jaa hg (jab _ _)
         have hb3:=heap_alloc_new wr (.cells #[.string vn,.int .i64 vt,.slice da dn dc] 43);rw [← hw3] at hb3;have v1:w3.cell? ⟨wr.heap.size,1,none⟩=some (.int .i64 vt):=(cell_of_row _ _ 1 _ _ (0,0) hb3).trans rfl;have v2:w3.cell? ⟨wr.heap.size,2,none⟩=some (.slice da dn dc):=(cell_of_row _ _ 2 _ _ (0,0) hb3).trans rfl;have TY:=jac (jl6 vt w3);have CO:=jac (jb2 _ y w3 (HY.out.more (jaa g0.out g3.out)));simp only [Sl.v] at CO;have HST:=jac hst;clear hb3 hp hg hst;go_wp2_with fail;rw [← hw3];clear hw3 y0 y1 y2
         cases ht:jfX vt with
         | error c =>
          rw [ht] at TY;have E:Hid (jbB 0 (decide (vs.length=ins.length)) vs tS dS os=.error c):=by show _=_;rw [E0.out,← HST.out,ht];rfl
          clear ht;refine TY.out.mono ?_;rintro e w' ⟨hg,rfl⟩;exact ⟨rfl,jah E.out (jaa (jaa g0.out g3.out) hg)⟩
         | ok tu =>
          rw [ht] at TY;have HST2:Hid ((jaR y).bind (fun _=>jeN (vs.drop (k+1)))=jeN vs):=by show _=_;rw [← HST.out,ht];rfl
          clear ht HST
          cases hc:jaR y with
          | error c =>
           rw [hc] at CO;have E:Hid (jbB 0 (decide (vs.length=ins.length)) vs tS dS os=.error c):=by show _=_;rw [E0.out,← HST2.out,hc];rfl
           clear hc;refine TY.out.mono ?_;rintro e w' ⟨-,v,rfl,rfl,rfl⟩;go_wp2_with (first | (go_at_call 69;refine CO.out.mono ?_;rintro e w' ⟨hg,rfl⟩) | fail);exact ⟨rfl,jah E.out (jaa (jaa g0.out g3.out) hg)⟩
          | ok cn =>
           rw [hc] at CO;have HST3:Hid (jeN (vs.drop (k+1))=jeN vs):=by show _=_;rw [← HST2.out,hc];rfl
           clear hc HST2;refine TY.out.mono ?_;rintro e w' ⟨-,v,rfl,rfl,rfl⟩;go_wp2_with (first | (go_at_call 69;refine CO.out.mono ?_;rintro e w' ⟨-,v,rfl,rfl,rfl⟩) | fail);go_roundw
           case rel=>exact ⟨k+1,by omega,by go_num,HST3.out,g3.out⟩
           case measure=>simp [intOf];omega
        ·have hvin:jeN vs=.ok ():=by rw [← hst,List.drop_of_length_le (by omega)];rfl
         have E1:Hid (jbB 0 (decide (vs.length=ins.length)) vs tS dS os=tS.bind (fun t=>dS.bind (fun d=>(jaR d).bind (fun _=>(jdq t os).bind (fun _=>.ok (t,d)))))):=by show _=_;rw [E0.out,hvin];rfl
         have TM3:=jac (TM2.out hvin wr (jaa g0.out hg));have DM3:=jac (fun wx hx=>DM2.out hvin wx hx);obtain ⟨n0,n1,n2,n3,n4⟩:=jai (n:=⟨op,nam,⟨ia,ins.length,ic⟩,out,⟨ao,al,cap⟩⟩) (BX.out wr hg).1;clear hst hg hvin TM2 DM2 E0;go_wp2_with fail
         cases ht:tS with
         | error c =>
          rw [ht] at TM3;have E:Hid (jbB 0 (decide (vs.length=ins.length)) vs tS dS os=.error c):=by show _=_;rw [E1.out,ht];rfl
          refine TM3.out.mono ?_;rintro e w' ⟨hg,rfl⟩;exact ⟨rfl,jah E.out (jaa (jaa g0.out HG.out) hg)⟩
         | ok tt =>
          rw [ht] at TM3;have E2:Hid (jbB 0 (decide (vs.length=ins.length)) vs tS dS os=dS.bind (fun d=>(jaR d).bind (fun _=>(jdq tt os).bind (fun _=>.ok (tt,d))))):=by show _=_;rw [E1.out,ht];rfl
          refine TM3.out.mono ?_;rintro e w4 ⟨hg4,v,rfl,rfl,htt⟩;have G4:=jac (jaa HG.out hg4);have D4:=jac (DM3.out w4 (jaa g0.out G4.out));obtain ⟨n0,n1,n2,n3,n4⟩:=jai (n:=⟨op,nam,⟨ia,ins.length,ic⟩,out,⟨ao,al,cap⟩⟩) (BX.out w4 G4.out).1;clear hg4 TM3 ht;go_wp2_with fail
          cases hd:dS with
          | error c =>
           rw [hd] at D4;have E:Hid (jbB 0 (decide (vs.length=ins.length)) vs tS dS os=.error c):=by show _=_;rw [E2.out,hd];rfl
           refine D4.out.mono ?_;rintro e w' ⟨hg,rfl⟩;exact ⟨rfl,jah E.out (jaa (jaa g0.out G4.out) hg)⟩
          | ok dd =>
           rw [hd] at D4;have E3:Hid (jbB 0 (decide (vs.length=ins.length)) vs tS dS os=(jaR dd).bind (fun _=>(jdq tt os).bind (fun _=>.ok (tt,dd)))):=by show _=_;rw [E2.out,hd];rfl
           refine D4.out.mono ?_;rintro e w5 ⟨hg5,v,rfl,⟨s1,s2,s3⟩,rfl,hs⟩;have G5:=jac (jaa G4.out hg5);have CO:=jac (jb2 _ dd w5 hs);have HS:=jac hs;simp only [Sl.v] at CO ⊢;obtain ⟨n0,n1,n2,n3,n4⟩:=jai (n:=⟨op,nam,⟨ia,ins.length,ic⟩,out,⟨ao,al,cap⟩⟩) (BX.out w5 G5.out).1;clear hg5 D4 hd hs DM3;have T6:=jac (TH.out w5 (jaa g0.out G5.out))
           cases hc:jaR dd with
           | error c =>
            rw [hc] at CO;have E:Hid (jbB 0 (decide (vs.length=ins.length)) vs tS dS os=.error c):=by show _=_;rw [E3.out,hc];rfl
            clear hc;go_wp2_with (first | (go_at_call 69;refine CO.out.mono ?_;rintro e w' ⟨hg,rfl⟩) | fail);exact ⟨rfl,jah E.out (jaa (jaa g0.out G5.out) hg)⟩
           | ok cn =>
            rw [hc] at CO;have E4:Hid (jbB 0 (decide (vs.length=ins.length)) vs tS dS os=(jdq tt os).bind (fun _=>.ok (tt,dd))):=by show _=_;rw [E3.out,hc];rfl
            clear hc;go_wp2_with (first | (go_at_call 69;refine CO.out.mono ?_;rintro e w' ⟨-,v,rfl,rfl,rfl⟩) | (go_at_call 72;refine T6.out.mono ?_;rintro e w6 ⟨tv,rfl,hown,hg6⟩;obtain ⟨oa,oc,rfl⟩:=ja6.form hown) | fail);have G6:=jac (jaa G5.out hg6);have HG56:=jac hg6;have osb:=OsB.out;have LO:=jac (ja6.isL (bytes:=16) jhG hown (by omega));clear hown hg6 T6 CO n0 n1 n2 n3 n4;go_loopw [51] (fun i wr=>∃ k:Nat,k≤os.length∧i=.int .i64 k∧jdq tt (os.drop k)=jdq tt os∧w6.grownBy wr none) (fun i _=>os.length - (intOf i).toNat)
            case atStart=>exact ⟨0,Nat.zero_le _,rfl,by rw [List.drop_zero],jae _⟩
            case round =>
             obtain ⟨k,hk,rfl,hst,hg⟩:=hrel;have HG2:=jac hg
             by_cases hkl:k<os.length
             ·obtain ⟨ob,of,rfl⟩:=LO.out.addr hkl;have hc:=(LO.out.more hg).at k hkl 0 (by omega);rw [Nat.mul_one,Nat.add_zero] at hc;rw [jkQ hkl] at hst;have hone:=OS.out os[k] (List.getElem_mem hkl);obtain ⟨o,hoo⟩ : ∃ o,o=os[k]:=⟨_,rfl⟩
              rw [← hoo] at hc hst hone;have hc':wr.cell? ⟨ob,of+k,none⟩=some (.string o):=hc;have MU:=jac (jfo o tt (ji1 hone) htt wr);have HST:=jac hst;clear hc hoo hst hg hone
              cases h1:jcz o.toList tt with
              | true =>
               rw [h1] at MU;have HST2:Hid (jdq tt (os.drop (k+1))=jdq tt os):=by show _=_;rw [← HST.out,h1];rfl
               clear h1;go_wp2_with (first | (go_at_call 73;refine MU.out.mono ?_;rintro e w7 ⟨hg7,v,rfl,rfl⟩) | fail);go_roundw
               case rel=>exact ⟨k+1,by omega,by go_num,HST2.out,jaa HG2.out hg7⟩
               case measure=>simp [intOf];omega
              | false =>
               rw [h1] at MU;have E:Hid (jbB 0 (decide (vs.length=ins.length)) vs tS dS os=.error 4):=by show _=_;rw [E4.out,← HST.out,h1];rfl
               clear h1;go_wp2_with (first | (go_at_call 73;refine MU.out.mono ?_;rintro e w7 ⟨hg7,rfl⟩) | fail);exact ⟨rfl,jah E.out (jaa (jaa g0.out G6.out) (jaa HG2.out hg7))⟩
             ·have E5:Hid (jbB 0 (decide (vs.length=ins.length)) vs tS dS os=.ok (tt,dd)):=by show _=_;rw [E4.out,← hst,List.drop_of_length_le (by omega)];rfl
              have G7:=jac (jaa G6.out hg);obtain ⟨n0,n1,n2,n3,n4⟩:=jai (n:=⟨op,nam,⟨ia,ins.length,ic⟩,out,⟨ao,al,cap⟩⟩) (BX.out wr G7.out).1;have NV:=jac (jhQ out tt ⟨s1,s2,s3⟩ dd wr (HS.out.more (jaa HG56.out hg)) ho);simp only at NV;clear hst hg;go_wp2_with (first | (go_at_call 74;refine NV.out.mono ?_;rintro e w8 ⟨⟨r1,r2,r3⟩,rfl,hr,hg8⟩;simp only;have G8:=jaa G7.out hg8;have B8:=(BX.out w8 G8).2;obtain ⟨f0,f1,f2⟩:=ja3 B8;have c0:=(cell_of_row _ _ 0 _ _ (0,0) B8).trans rfl;have c1:=(cell_of_row _ _ 1 _ _ (0,0) B8).trans rfl;have c2:=(cell_of_row _ _ 2 _ _ (0,0) B8).trans rfl) | fail);obtain ⟨hX,gX⟩:=jbu (.string out) (.int .i64 tt) (.slice r1 r2 r3) B8;have gf:w.grownBy _ none:=jay (jaa g0.out G8) gX (by omega);refine bodyPost_ret (ji0 rfl _ _ (w.heap.size+1) rfl hX) rfl ?_;refine jap E5.out gf ⟨⟨r1,r2,r3⟩,rfl,?_⟩;have hb:w.heap.size+1<wr.heap.size:=(Array.getElem?_eq_some_iff.1 (BX.out wr G7.out).2).1
              have h:=(hr.base_le (b':=w.heap.size+2) (by omega)).more gX (by
               rcases hr.1.2 with ⟨e,-⟩ | ⟨gg,cap',cur,e,hgg,-⟩
               ·exact .inl (by rw [e];rfl)
               ·exact .inr (by rw [e];simp [Value.ownBlock];omega))
              exact h.base_le (by omega)
      ·have bl:((vs.length:Int)==(ins.length:Int))=false:=by simpa using (fun h=>hlen (by omega):¬ (vs.length:Int)=ins.length)
       have E0:Hid (jbB 0 (decide (vs.length=ins.length)) vs tS dS os=.error 4):=by show _=_;unfold jbB;simp [jfW,jal,hlen];rfl
       clear hlen;go_wp2_with (first | (go_at_call 65;refine (jgV _).mono ?_;rintro e w' ⟨rfl,rfl⟩) | (go_at_call 67;refine (jav _).mono ?_;rintro e w' ⟨rfl,rfl⟩) | fail);exact ⟨rfl,jah E0.out (jaa g0.out G1.out)⟩
     ·have E0:Hid (jbB ck (decide (vs.length=ins.length)) vs tS dS os=.error ck):=by show _=_;unfold jbB;simp [jfW,hc0];rfl
      have HC:=jac hc0;clear hc0;go_wp2_with (first | (go_at_call 65;refine (jgW _ HC.out _).mono ?_;rintro e w' ⟨rfl,rfl⟩) | fail);exact ⟨rfl,jah E0.out (jaa g0.out G1.out)⟩
end Go.Proofs.YtanpkdkenifmbaaGreatDoor
namespace Go.Proofs.YtanpkdkenifmbaaGreatDoor
open Go.RowKit
def jeU (A:At):Atr:=(A.xs.find? (isA ⟨#[118,97,108,117,101]⟩ 4)).getD jcG
theorem jhR {xs:List Atr} {P:Atr→Bool} (h:∀ j (hj:j<xs.length),P xs[j]=false):xs.find? P=none:=by
 rw [List.find?_eq_none];intro a ha;obtain ⟨j,hj,rfl⟩:=List.mem_iff_getElem.1 ha;simpa using h j hj
theorem jec {P:Atr→Bool} : ∀ {xs:List Atr} {k:Nat} (hk:k<xs.length),(∀ j (hj:j<xs.length),j<k→P xs[j]=false)→P xs[k]=true→xs.find? P=some xs[k]
 | a::l,0,_,_,h=>by simp only [List.getElem_cons_zero] at h ⊢;rw [List.find?_cons_of_pos h]
 | a::l,k+1,hk,h0,h=>by
  have ha:=h0 0 (by simp) (by omega);simp only [List.getElem_cons_zero] at ha;rw [List.find?_cons_of_neg (by simpa using ha)];simp only [List.getElem_cons_succ] at h ⊢;exact jec (by simpa using hk) (fun j hj hjk=>by have:=h0 (j+1) (by simpa using hj) (by omega);simpa using this) h
theorem jkS (t:Int) (b c:Value) (W:World):(Instr.field 32 (.agg #[.int .i64 t,b,c]) 0).run Tryz.prog W=.ok (.int .i64 t) W:=by kernel_rfl
theorem jkT (t:Int) (a:Option Addr) (n m:Nat) (c:Value) (W:World):(Instr.field 32 (.agg #[.int .i64 t,.slice a n m,c]) 1).run Tryz.prog W=.ok (.slice a n m) W:=by kernel_rfl
theorem jfq {a b c:World} {B:Nat} (h:a.grownBy b none) (k:b.grownBy c (some B)) (hb:a.heap.size≤B):a.grownBy c none:=jao h k (fun r e=>by cases e;exact hb)
theorem jed (n:Nod) (A:At) (w:World) (hn:NodeOk w n A):Calls Tryz.prog 13 #[jaA n] w fun e w'=>e=.returned (.agg #[.int .i64 (jeU A).ty,.slice (jeU A).dv.a (jeU A).dv.n (jeU A).dv.c,.slice (jeU A).tv.a (jeU A).tv.n (jeU A).tv.c])∧w.grownBy w' none:=by
 have HA:=jac hn.attrs;obtain ⟨op,nam,⟨ia,il,ic⟩,out,⟨ao,al,cap⟩⟩:=n;unfold jaA;simp only at HA ⊢;obtain ⟨ao',cap',hav,h1,h2,h3⟩:=HA.out.form;obtain ⟨rfl,rfl,rfl⟩ : ao=ao'∧al=A.xs.length∧cap=cap':=by simpa [Sl.v] using hav
 clear hav hn;obtain ⟨w0,hw0⟩ : ∃ w0,w0=(w.alloc (.cells #[.string op,.string nam,.slice ia il ic,.string out,.slice ao A.xs.length cap] 25)).alloc (.cells #[.int .i64 0,.slice none 0 0,.slice none 0 0] 32):=⟨_,rfl⟩
 have g0:w.grownBy w0 none:=by rw [hw0];exact jaa (jab _ _) (jab _ _)
 have hbx:=jaJ w (.cells #[.string op,.string nam,.slice ia il ic,.string out,.slice ao A.xs.length cap] 25) (.cells #[.int .i64 0,.slice none 0 0,.slice none 0 0] 32);rw [← hw0] at hbx;have BX:=jac hbx;obtain ⟨xs,hxs⟩ : ∃ xs,xs=A.xs:=⟨_,rfl⟩
 have EV:Hid (jeU A=(xs.find? (isA ⟨#[118,97,108,117,101]⟩ 4)).getD jcG):=by show _=_;rw [hxs];rfl
 rw [← hxs] at HA h1 h3 BX hw0 ⊢;clear hxs hbx;go_enter Tryz.func13,Tryz.ntmps13;go_wp2;rw [← hw0];clear hw0;go_loopw [8] (fun i wr=>∃ k:Nat,k≤xs.length∧i=.int .i64 k∧(∀ j (hj:j<xs.length),j<k→isA ⟨#[118,97,108,117,101]⟩ 4 xs[j]=false)∧w0.grownBy wr none) (fun i _=>xs.length - (intOf i).toNat)
 case atStart=>exact ⟨0,Nat.zero_le _,rfl,fun j hj h=>absurd h (by omega),jae _⟩
 case round =>
  obtain ⟨k,hk,rfl,hall,hg⟩:=hrel;have HL:=jac hall;have HG:=jac hg;have BW:=jac (And.intro (jag BX.out.1 hg) (jag BX.out.2 hg))
  by_cases hkl:k<xs.length
  ·have HV1:=HA.out.more (jaa g0 hg);obtain ⟨b,off,rfl⟩:=HV1.addr hkl;obtain ⟨a0,a1,a2,a3,a4,a5,a6,a7,a8⟩:=HV1.attr k hkl;obtain ⟨a,ha⟩ : ∃ a,a=xs[k]:=⟨_,rfl⟩
   rw [← ha] at a0 a1 a2 a3 a4 a5 a6 a7 a8;have HAA:=jac ha;obtain ⟨an,ak,af,ai,as',aty,⟨d1,d2,d3⟩,⟨t1,t2,t3⟩,⟨i1,i2,i3⟩⟩:=a;simp only at a0 a1 a2 a3 a4 a5 a6 a7 a8;clear hall hg HV1 ha
   cases hnm:(an.toList==[118,97,108,117,101]) with
   | false =>
    have HN:Hid (∀ j (hj:j<xs.length),j<k+1→isA ⟨#[118,97,108,117,101]⟩ 4 xs[j]=false):=fun j hj h=>by
     rcases jaL h with h | rfl
     ·exact HL.out j hj h
     ·rw [← HAA.out];simp only [isA,jaj] at hnm ⊢;rw [hnm];rfl
    go_wp2;go_roundw
    case rel=>exact ⟨k+1,by omega,by go_num,HN.out,jaa HG.out (jab _ _)⟩
    case measure=>simp [intOf];omega
   | true =>
    cases hkd:(ak==4) with
    | false =>
     have HN:Hid (∀ j (hj:j<xs.length),j<k+1→isA ⟨#[118,97,108,117,101]⟩ 4 xs[j]=false):=fun j hj h=>by
      rcases jaL h with h | rfl
      ·exact HL.out j hj h
      ·rw [← HAA.out];simp only [isA];rw [hkd];simp
     go_wp2;go_roundw
     case rel=>exact ⟨k+1,by omega,by go_num,HN.out,jaa HG.out (jab _ _)⟩
     case measure=>simp [intOf];omega
    | true =>
     have E:Hid (jeU A=xs[k]):=by
      show _=_;rw [EV.out,jec hkl HL.out (by rw [← HAA.out];simp only [isA,jaj] at hnm ⊢;rw [hnm,hkd];rfl)]
      rfl
     have B2:=jag BW.out.2 (jab wr (.cells #[.string an,.int .i64 ak,.int .i64 af,.int .i64 ai,.string as',.int .i64 aty,.slice d1 d2 d3,.slice t1 t2 t3,.slice i1 i2 i3] 68));have gw1:w.grownBy (wr.alloc (.cells #[.string an,.int .i64 ak,.int .i64 af,.int .i64 ai,.string as',.int .i64 aty,.slice d1 d2 d3,.slice t1 t2 t3,.slice i1 i2 i3] 68)) none:=jaa (jaa g0 HG.out) (jab _ _);obtain ⟨f0,f1,f2⟩:=ja3 B2;obtain ⟨c0,c1,c2⟩:=jaK B2;obtain ⟨hX,gX⟩:=jbu (.int .i64 aty) (.slice d1 d2 d3) (.slice t1 t2 t3) B2;have HX:=jac hX;have GX:=jac (jfq gw1 gX (by omega));clear hX gX gw1 B2;go_wp2;refine bodyPost_ret (jlP rfl _ _ (w.heap.size+1) rfl HX.out) rfl ?_;exact ⟨by rw [E.out,← HAA.out],GX.out⟩
  ·have E : Hid (jeU A = jcG) := by
     show _=_;rw [EV.out,jhR (fun j hj=>HL.out j hj (by omega))]
     rfl
   obtain ⟨f0,f1,f2⟩:=ja3 BW.out.2;obtain ⟨c0,c1,c2⟩:=jaK BW.out.2;obtain ⟨hX,gX⟩:=jbu (.int .i64 0) (.slice none 0 0) (.slice none 0 0) BW.out.2;have HX:=jac hX;have GX:=jac (jfq (jaa g0 HG.out) gX (by omega));clear hX gX hall hg;go_wp2;refine bodyPost_ret (jlP rfl _ _ (w.heap.size+1) rfl HX.out) rfl ?_;exact ⟨by rw [E.out];rfl,GX.out⟩
end Go.Proofs.YtanpkdkenifmbaaGreatDoor
