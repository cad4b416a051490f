/- A part. -/
import Derived.Test.YteigfipgmghgmaaGreatDoorMVart
import Derived.Test.YteigfipgmghgmaaGreatDoorVartAP
import Derived.Test.YteigfipgmghgmaaGreatDoorVartAT
import Derived.Test.YteigfipgmghgmaaGreatDoorVartAO
import Derived.Deep.RegionHeld3
set_option maxHeartbeats 40000000
set_option maxRecDepth 100000
namespace Go.Proofs.YteigfipgmghgmaaGreatDoor
open Go.RowKit
theorem ValsIn.at {w:World} {b off n c:Nat} {vs:List (Val×List Int)} (h:ValsIn w (.slice (some ⟨b,off,none⟩) n c) vs) (k:Nat) (hk:k<vs.length):w.cell? ⟨b,off+k*3+1,none⟩=some (.int .i64 (vs[k].1.ty))∧w.cell? ⟨b,off+k*3+2,none⟩=some (.slice vs[k].1.dv.a vs[k].1.dv.n vs[k].1.dv.c):=by
 obtain ⟨-,h1,h2⟩:=h.vals.val k (by rw [List.length_map];exact hk);rw [List.getElem_map] at h1 h2;exact ⟨h1,h2⟩
theorem jdI {ts:List Int} {t:Int} (h:jaO ts=.ok t) (hp:0<ts.length) (ht:∀ s∈ts,jao s=true):jao t=true:=by
 cases ts with
 | nil=>simp at hp
 | cons a l =>
  by_cases hc:l.all (fun s=>s==a)=true
  ·have e:jaO (a::l)=.ok a:=by simp only [jaO];rw [if_pos hc]
   rw [e] at h
   cases h
   exact ht t (by simp)
  ·have e:jaO (a::l)=.error 4:=by simp only [jaO];rw [if_neg hc]
   rw [e] at h
   cases h
def jaD (vs:List (Val×List Int)):List Int:=vs.map (·.1.ty)
theorem joL (n:Nod) (A:At) (u:Sl) (vs:List (Val×List Int)) (w:World) (hop:n.op∈([⟨#[67,111,110,99,97,116]⟩,⟨#[82,101,115,104,97,112,101]⟩,⟨#[69,120,112,97,110,100]⟩,⟨#[84,114,97,110,115,112,111,115,101]⟩,⟨#[83,108,105,99,101]⟩,⟨#[83,113,117,101,101,122,101]⟩,⟨#[85,110,115,113,117,101,101,122,101]⟩,⟨#[70,108,97,116,116,101,110]⟩]:List ByteArray)) (hn:NodeOk w n A) (hv:ValsIn w u.v vs) (hp:0<vs.length) (hf:vs.length≤1000000) (ht:∀ s∈jaD vs,jao s=true):Calls Tryz.prog 74 #[jaz n,.slice u.a u.n u.c] w (jaJ w (jaO (jaD vs)) fun t v _=>v=.int .i64 t):=by
 obtain ⟨xa,xc,e1,p1,p2,p3⟩:=hv.vals.form;rw [List.length_map] at e1 p1 p3;obtain ⟨ua,un,uc⟩:=u;simp only [Sl.v,Value.slice.injEq] at e1;obtain ⟨rfl,rfl,rfl⟩:=e1;have HV:=jac hv;have HT:=jac ht;clear hv ht;have NK:=jac hn;obtain ⟨op,nam,⟨ia,il,ic⟩,out,⟨ao,al,cap⟩⟩:=n;unfold jaz;simp only;obtain ⟨w0,hw0⟩ : ∃ w0,w0=w.alloc (.cells #[.string op,.string nam,.slice ia il ic,.string out,.slice ao al cap] 25):=⟨_,rfl⟩
 have g0:Hid (w.grownBy w0 none):=by show w.grownBy w0 none;rw [hw0];exact jab _ _
 have hb0:=heap_alloc_new w (.cells #[.string op,.string nam,.slice ia il ic,.string out,.slice ao al cap] 25);rw [← hw0] at hb0;have BX:Hid (∀ wx,w0.grownBy wx none→wx.heap[w.heap.size]?=some (.cells #[.string op,.string nam,.slice ia il ic,.string out,.slice ao al cap] 25 (0,0))):=fun wx hg=>jag hb0 hg;clear hb0 hn;simp only at hop;have SM:=jac (jbt ⟨ua,vs.length,uc⟩ vs w0 (HV.out.more g0.out) hp hf);simp only at SM;have HK:Hid (jaD vs=vs.map (·.1.ty)):=rfl;simp only [List.mem_cons,List.not_mem_nil,or_false] at hop
 rcases hop with rfl | rfl | rfl | rfl | rfl | rfl | rfl | rfl
 all_goals
  go_enter Tryz.func74,Tryz.ntmps74;go_wp2_with fail;rw [← hw0];clear hw0
  cases hk:jaO (vs.map (·.1.ty)) with
  | error c =>
   rw [hk] at SM;have E:Hid (jaO (jaD vs)=.error c):=hk;clear hk;refine SM.out.mono ?_;rintro e w' ⟨hg,rfl⟩;exact ⟨rfl,jai E.out (jaa g0.out hg)⟩
  | ok t =>
   rw [hk] at SM;have E:Hid (jaO (jaD vs)=.ok t):=hk;clear hk;refine SM.out.mono ?_;rintro e w' ⟨hg,v,rfl,rfl⟩;go_wp2;go_ret;exact jap E.out (jaa g0.out hg) rfl
theorem jmf (n:Nod) (A:At) (u:Sl) (vs:List (Val×List Int)) (w:World) (hop:n.op∈([⟨#[67,108,105,112]⟩,⟨#[83,111,102,116,109,97,120]⟩,⟨#[82,101,100,117,99,101,77,101,97,110]⟩,⟨#[80,97,100]⟩,⟨#[77,97,116,77,117,108]⟩,⟨#[71,101,109,109]⟩,⟨#[67,111,110,118]⟩,⟨#[77,97,120,80,111,111,108]⟩,⟨#[65,118,101,114,97,103,101,80,111,111,108]⟩,⟨#[71,108,111,98,97,108,65,118,101,114,97,103,101,80,111,111,108]⟩,⟨#[66,97,116,99,104,78,111,114,109,97,108,105,122,97,116,105,111,110]⟩]:List ByteArray)) (hn:NodeOk w n A) (hv:ValsIn w u.v vs) (hp:0<vs.length) (hf:vs.length≤1000000) (ht:∀ s∈jaD vs,jao s=true):Calls Tryz.prog 74 #[jaz n,.slice u.a u.n u.c] w (jaJ w ((jaO (jaD vs)).bind (fun t=>(jal (t==1)).bind (fun _=>.ok (1:Int)))) fun t v _=>v=.int .i64 t):=by
 obtain ⟨xa,xc,e1,p1,p2,p3⟩:=hv.vals.form;rw [List.length_map] at e1 p1 p3;obtain ⟨ua,un,uc⟩:=u;simp only [Sl.v,Value.slice.injEq] at e1;obtain ⟨rfl,rfl,rfl⟩:=e1;have HV:=jac hv;have HT:=jac ht;clear hv ht;have NK:=jac hn;obtain ⟨op,nam,⟨ia,il,ic⟩,out,⟨ao,al,cap⟩⟩:=n;unfold jaz;simp only;obtain ⟨w0,hw0⟩ : ∃ w0,w0=w.alloc (.cells #[.string op,.string nam,.slice ia il ic,.string out,.slice ao al cap] 25):=⟨_,rfl⟩
 have g0:Hid (w.grownBy w0 none):=by show w.grownBy w0 none;rw [hw0];exact jab _ _
 have hb0:=heap_alloc_new w (.cells #[.string op,.string nam,.slice ia il ic,.string out,.slice ao al cap] 25);rw [← hw0] at hb0;have BX:Hid (∀ wx,w0.grownBy wx none→wx.heap[w.heap.size]?=some (.cells #[.string op,.string nam,.slice ia il ic,.string out,.slice ao al cap] 25 (0,0))):=fun wx hg=>jag hb0 hg;clear hb0 hn;simp only at hop;have SM:=jac (jbt ⟨ua,vs.length,uc⟩ vs w0 (HV.out.more g0.out) hp hf);simp only at SM;obtain ⟨X,hX⟩ : ∃ X,X=(jaO (jaD vs)).bind (fun t=>(jal (t==1)).bind (fun _=>.ok (1:Int))):=⟨_,rfl⟩
 have E0:Hid (X=(jaO (vs.map (·.1.ty))).bind (fun t=>(jal (t==1)).bind (fun _=>.ok (1:Int)))):=hX;rw [← hX];clear hX;simp only [List.mem_cons,List.not_mem_nil,or_false] at hop
 rcases hop with rfl | rfl | rfl | rfl | rfl | rfl | rfl | rfl | rfl | rfl | rfl
 all_goals
  go_enter Tryz.func74,Tryz.ntmps74;go_wp2_with fail;rw [← hw0];clear hw0
  cases hk:jaO (vs.map (·.1.ty)) with
  | error c =>
   rw [hk] at SM;have E:Hid (X=.error c):=by show _=_;rw [E0.out,hk];rfl
   clear hk;refine SM.out.mono ?_;rintro e w' ⟨hg,rfl⟩;exact ⟨rfl,jai E.out (jaa g0.out hg)⟩
  | ok t =>
   rw [hk] at SM;have E:Hid (X=(jal (t==1)).bind (fun _=>.ok (1:Int))):=by show _=_;rw [E0.out,hk];rfl
   clear hk;refine SM.out.mono ?_;rintro e w' ⟨hg,v,rfl,rfl⟩
   cases h1:(t==1) with
   | true =>
    have E2:Hid (X=.ok (1:Int)):=by show _=_;rw [E.out,h1];rfl
    go_wp2_with (first | (go_at_call 71;refine (jaq _).mono ?_;rintro e w'' ⟨rfl,rfl⟩) | fail);go_ret;exact jap E2.out (jaa g0.out hg) rfl
   | false =>
    have E2:Hid (X=.error 4):=by show _=_;rw [E.out,h1];rfl
    go_wp2_with (first | (go_at_call 71;refine (jav _).mono ?_;rintro e w'' ⟨rfl,rfl⟩) | fail);exact ⟨rfl,jai E2.out (jaa g0.out hg)⟩
theorem jrc (n:Nod) (A:At) (u:Sl) (vs:List (Val×List Int)) (w:World) (hop:n.op∈([⟨#[65,100,100]⟩,⟨#[83,117,98]⟩,⟨#[77,117,108]⟩,⟨#[68,105,118]⟩,⟨#[77,97,120]⟩,⟨#[77,105,110]⟩,⟨#[65,110,100]⟩,⟨#[79,114]⟩,⟨#[88,111,114]⟩]:List ByteArray)) (hn:NodeOk w n A) (hv:ValsIn w u.v vs) (hl:vs.length=2) (hf:vs.length≤1000000) (ht:∀ s∈jaD vs,jao s=true):Calls Tryz.prog 74 #[jaz n,.slice u.a u.n u.c] w (jaJ w ((jaO (jaD vs)).bind (fun t=>(jal (jbn n.op.toList t)).bind (fun _=>.ok t))) fun t v _=>v=.int .i64 t):=by
 obtain ⟨xa,xc,e1,p1,p2,p3⟩:=hv.vals.form;rw [List.length_map] at e1 p1 p3;obtain ⟨ua,un,uc⟩:=u;simp only [Sl.v,Value.slice.injEq] at e1;obtain ⟨rfl,rfl,rfl⟩:=e1;have HV:=jac hv;have HT:=jac ht;clear hv ht;have NK:=jac hn;obtain ⟨op,nam,⟨ia,il,ic⟩,out,⟨ao,al,cap⟩⟩:=n;unfold jaz;simp only;obtain ⟨w0,hw0⟩ : ∃ w0,w0=w.alloc (.cells #[.string op,.string nam,.slice ia il ic,.string out,.slice ao al cap] 25):=⟨_,rfl⟩
 have g0:Hid (w.grownBy w0 none):=by show w.grownBy w0 none;rw [hw0];exact jab _ _
 have hb0:=heap_alloc_new w (.cells #[.string op,.string nam,.slice ia il ic,.string out,.slice ao al cap] 25);rw [← hw0] at hb0;have BX:Hid (∀ wx,w0.grownBy wx none→wx.heap[w.heap.size]?=some (.cells #[.string op,.string nam,.slice ia il ic,.string out,.slice ao al cap] 25 (0,0))):=fun wx hg=>jag hb0 hg;clear hb0 hn;simp only at hop;have hp:0<vs.length:=by omega
 have SM:=jac (jbt ⟨ua,vs.length,uc⟩ vs w0 (HV.out.more g0.out) hp hf);simp only at SM;have b2:((vs.length:Int)==2)=true:=by rw [hl];decide
 have HM:op.toList∈jdG:=by
  simp only [List.mem_cons,List.not_mem_nil,or_false] at hop;rw [jaj]
  rcases hop with rfl | rfl | rfl | rfl | rfl | rfl | rfl | rfl | rfl <;> decide
 have MU0:=jac (fun (t:Int) (htt:jao t=true) (wx:World)=>jdd op t HM htt wx);have BX2:=jac (fun (wx:World) (hx:w0.grownBy wx none)=>jak (n:=⟨op,nam,⟨ia,il,ic⟩,out,⟨ao,al,cap⟩⟩) (BX.out wx hx));simp only at BX2;obtain ⟨L,hL⟩ : ∃ L,L=op.toList:=⟨_,rfl⟩
 rw [← hL] at MU0 ⊢;obtain ⟨X,hX⟩ : ∃ X,X=(jaO (jaD vs)).bind (fun t=>(jal (jbn L t)).bind (fun _=>.ok t)):=⟨_,rfl⟩
 have E0:Hid (X=(jaO (vs.map (·.1.ty))).bind (fun t=>(jal (jbn L t)).bind (fun _=>.ok t))):=hX;rw [← hX];clear hl HM hL hX BX;simp only [List.mem_cons,List.not_mem_nil,or_false] at hop
 rcases hop with rfl | rfl | rfl | rfl | rfl | rfl | rfl | rfl | rfl
 all_goals
  go_enter Tryz.func74,Tryz.ntmps74;go_wp2_with fail;rw [← hw0];clear hw0
  cases hk:jaO (vs.map (·.1.ty)) with
  | error c =>
   rw [hk] at SM;have E:Hid (X=.error c):=by show _=_;rw [E0.out,hk];rfl
   clear hk;refine SM.out.mono ?_;rintro e w' ⟨hg,rfl⟩;exact ⟨rfl,jai E.out (jaa g0.out hg)⟩
  | ok t =>
   have htt:=jdI hk (by simpa using hp) HT.out;rw [hk] at SM;have E:Hid (X=(jal (jbn L t)).bind (fun _=>.ok t)):=by show _=_;rw [E0.out,hk];rfl
   clear hk;refine SM.out.mono ?_;rintro e w1 ⟨hg,v,rfl,rfl⟩;obtain ⟨n0,n1,n2,n3,n4⟩:=BX2.out w1 hg;have MU:=jac (MU0.out t htt w1)
   cases h1:jbn L t with
   | true =>
    rw [h1] at MU;have E2:Hid (X=.ok t):=by show _=_;rw [E.out,h1];rfl
    clear h1;go_wp2_with (first | (go_at_call 106;refine MU.out.mono ?_;rintro e w2 ⟨hg2,v,rfl,rfl⟩) | fail);go_ret;exact jap E2.out (jaa (jaa g0.out hg) hg2) rfl
   | false =>
    rw [h1] at MU;have E2:Hid (X=.error 4):=by show _=_;rw [E.out,h1];rfl
    clear h1;go_wp2_with (first | (go_at_call 106;refine MU.out.mono ?_;rintro e w2 ⟨hg2,rfl⟩) | fail);exact ⟨rfl,jai E2.out (jaa (jaa g0.out hg) hg2)⟩
theorem jrd (n:Nod) (A:At) (u:Sl) (vs:List (Val×List Int)) (w:World) (hop:n.op∈([⟨#[73,100,101,110,116,105,116,121]⟩,⟨#[78,101,103]⟩,⟨#[65,98,115]⟩,⟨#[78,111,116]⟩,⟨#[82,101,108,117]⟩,⟨#[83,113,114,116]⟩,⟨#[70,108,111,111,114]⟩,⟨#[69,120,112]⟩,⟨#[83,105,103,109,111,105,100]⟩,⟨#[84,97,110,104]⟩]:List ByteArray)) (hn:NodeOk w n A) (hv:ValsIn w u.v vs) (hl:vs.length=1) (hf:vs.length≤1000000) (ht:∀ s∈jaD vs,jao s=true):Calls Tryz.prog 74 #[jaz n,.slice u.a u.n u.c] w (jaJ w ((jaO (jaD vs)).bind (fun t=>(jal (jcx n.op.toList t)).bind (fun _=>.ok t))) fun t v _=>v=.int .i64 t):=by
 obtain ⟨xa,xc,e1,p1,p2,p3⟩:=hv.vals.form;rw [List.length_map] at e1 p1 p3;obtain ⟨ua,un,uc⟩:=u;simp only [Sl.v,Value.slice.injEq] at e1;obtain ⟨rfl,rfl,rfl⟩:=e1;have HV:=jac hv;have HT:=jac ht;clear hv ht;have NK:=jac hn;obtain ⟨op,nam,⟨ia,il,ic⟩,out,⟨ao,al,cap⟩⟩:=n;unfold jaz;simp only;obtain ⟨w0,hw0⟩ : ∃ w0,w0=w.alloc (.cells #[.string op,.string nam,.slice ia il ic,.string out,.slice ao al cap] 25):=⟨_,rfl⟩
 have g0:Hid (w.grownBy w0 none):=by show w.grownBy w0 none;rw [hw0];exact jab _ _
 have hb0:=heap_alloc_new w (.cells #[.string op,.string nam,.slice ia il ic,.string out,.slice ao al cap] 25);rw [← hw0] at hb0;have BX:Hid (∀ wx,w0.grownBy wx none→wx.heap[w.heap.size]?=some (.cells #[.string op,.string nam,.slice ia il ic,.string out,.slice ao al cap] 25 (0,0))):=fun wx hg=>jag hb0 hg;clear hb0 hn;simp only at hop;have hp:0<vs.length:=by omega
 have SM:=jac (jbt ⟨ua,vs.length,uc⟩ vs w0 (HV.out.more g0.out) hp hf);simp only at SM;have b2:((vs.length:Int)==2)=false:=by rw [hl];decide
 have HM:op.toList∈jha:=by
  simp only [List.mem_cons,List.not_mem_nil,or_false] at hop;rw [jaj]
  rcases hop with rfl | rfl | rfl | rfl | rfl | rfl | rfl | rfl | rfl | rfl <;> decide
 have MU0:=jac (fun (t:Int) (htt:jao t=true) (wx:World)=>jfX op t HM htt wx);have BX2:=jac (fun (wx:World) (hx:w0.grownBy wx none)=>jak (n:=⟨op,nam,⟨ia,il,ic⟩,out,⟨ao,al,cap⟩⟩) (BX.out wx hx));simp only at BX2;obtain ⟨L,hL⟩ : ∃ L,L=op.toList:=⟨_,rfl⟩
 rw [← hL] at MU0 ⊢;obtain ⟨X,hX⟩ : ∃ X,X=(jaO (jaD vs)).bind (fun t=>(jal (jcx L t)).bind (fun _=>.ok t)):=⟨_,rfl⟩
 have E0:Hid (X=(jaO (vs.map (·.1.ty))).bind (fun t=>(jal (jcx L t)).bind (fun _=>.ok t))):=hX;rw [← hX];clear hl HM hL hX BX;simp only [List.mem_cons,List.not_mem_nil,or_false] at hop
 rcases hop with rfl | rfl | rfl | rfl | rfl | rfl | rfl | rfl | rfl | rfl
 all_goals
  go_enter Tryz.func74,Tryz.ntmps74;go_wp2_with fail;rw [← hw0];clear hw0
  cases hk:jaO (vs.map (·.1.ty)) with
  | error c =>
   rw [hk] at SM;have E:Hid (X=.error c):=by show _=_;rw [E0.out,hk];rfl
   clear hk;refine SM.out.mono ?_;rintro e w' ⟨hg,rfl⟩;exact ⟨rfl,jai E.out (jaa g0.out hg)⟩
  | ok t =>
   have htt:=jdI hk (by simpa using hp) HT.out;rw [hk] at SM;have E:Hid (X=(jal (jcx L t)).bind (fun _=>.ok t)):=by show _=_;rw [E0.out,hk];rfl
   clear hk;refine SM.out.mono ?_;rintro e w1 ⟨hg,v,rfl,rfl⟩;obtain ⟨n0,n1,n2,n3,n4⟩:=BX2.out w1 hg;have MU:=jac (MU0.out t htt w1)
   cases h1:jcx L t with
   | true =>
    rw [h1] at MU;have E2:Hid (X=.ok t):=by show _=_;rw [E.out,h1];rfl
    clear h1;go_wp2_with (first | (go_at_call 77;refine MU.out.mono ?_;rintro e w2 ⟨hg2,v,rfl,rfl⟩) | fail);go_ret;exact jap E2.out (jaa (jaa g0.out hg) hg2) rfl
   | false =>
    rw [h1] at MU;have E2:Hid (X=.error 4):=by show _=_;rw [E.out,h1];rfl
    clear h1;go_wp2_with (first | (go_at_call 77;refine MU.out.mono ?_;rintro e w2 ⟨hg2,rfl⟩) | fail);exact ⟨rfl,jai E2.out (jaa (jaa g0.out hg) hg2)⟩
end Go.Proofs.YteigfipgmghgmaaGreatDoor
namespace Go.Proofs.YteigfipgmghgmaaGreatDoor
open Go.RowKit
def jeL:List (Val×List Int)→R Unit
 | []=>.ok ()
 | p::l=>(jiJ p.1.ty).bind (fun _=>(jaX p.2).bind (fun _=>jeL l))
def jdt (t:Int):List ByteArray→R Unit
 | []=>.ok ()
 | o::l=>(jal (jcx o.toList t)).bind (fun _=>jdt t l)
theorem joM {vs:List (Val×List Int)} {k:Nat} (hk:k<vs.length):jeL (vs.drop k)=(jiJ vs[k].1.ty).bind (fun _=>(jaX vs[k].2).bind (fun _=>jeL (vs.drop (k+1)))):=by
 rw [List.drop_eq_getElem_cons hk]
 rfl
theorem jmg {t:Int} {os:List ByteArray} {k:Nat} (hk:k<os.length):jdt t (os.drop k)=(jal (jcx os[k].toList t)).bind (fun _=>jdt t (os.drop (k+1))):=by
 rw [List.drop_eq_getElem_cons hk]
 rfl
theorem joN:(Tryz.prog.info? 53).map (·.size)=some 3:=by kernel_rfl
theorem jkf {fn : Func} {p : Tmp} (h : fn.results = #[.cell p 53]) (tmps : Array Value) (w : World) (B : Nat) (hp : tmps.getD p undef = .pointer (some ⟨B, 0, none⟩)) {a0 a1 a2 : Value}
    (hb:w.heap[B]?=some (.cells #[a0,a1,a2] 53 (0,0))):(results fn tmps).run Tryz.prog w=.ok (.agg #[a0,a1,a2]) w :=
     results_cell_row h tmps w B 53 #[a0,a1,a2] (0,0) _ hp hb Tryz.underlying53 rfl (by rw [joN];rfl)
theorem ji1 (nm:ByteArray) (t:Int) (u:Sl) (ds:List Int) (w:World) (hd:IsInts w u.v ds) (hs:nm.size≤281474976710656):Calls Tryz.prog 78 #[.string nm,.int .i64 t,.slice u.a u.n u.c] w fun e w'=>∃ s:Sl,e=.returned (.agg #[.string nm,.int .i64 t,.slice s.a s.n s.c])∧Owns w' w.heap.size s.v ds∧w.grownBy w' none:=by
 obtain ⟨w0,hw0⟩ : ∃ w0,w0=w.alloc (.cells #[.string ⟨#[]⟩,.int .i64 0,.slice none 0 0] 53):=⟨_,rfl⟩
 have g0:Hid (w.grownBy w0 none):=by show w.grownBy w0 none;rw [hw0];exact jab _ _
 have hb0:=heap_alloc_new w (.cells #[.string ⟨#[]⟩,.int .i64 0,.slice none 0 0] 53);rw [← hw0] at hb0;have BX:Hid (∀ wx,w0.grownBy wx none→wx.heap[w.heap.size]?=some (.cells #[.string ⟨#[]⟩,.int .i64 0,.slice none 0 0] 53 (0,0))):=fun wx hg=>jag hb0 hg;have SC:=jac (jdA nm w0 hs);have HD:=jac hd;clear hb0 hd;go_enter Tryz.func78,Tryz.ntmps78;go_wp2_with fail;rw [← hw0];clear hw0;refine SC.out.mono ?_;rintro e w1 ⟨rfl,hg1⟩;have CL:=jac (jdX u ds w1 (HD.out.more (jaa g0.out hg1)));go_wp2_with (first | (go_at_call 94;refine CL.out.mono ?_;rintro e w2 ⟨⟨s1,s2,s3⟩,rfl,ho,hg2⟩;simp only;have g2:=jaa hg1 hg2;have B2:=BX.out w2 g2;obtain ⟨f0,f1,f2⟩:=jbf B2;have c0:=(cell_of_row _ _ 0 _ _ (0,0) B2).trans rfl;have c1:=(cell_of_row _ _ 1 _ _ (0,0) B2).trans rfl;have c2:=(cell_of_row _ _ 2 _ _ (0,0) B2).trans rfl) | fail);obtain ⟨hX,gX⟩:=jb0 (.string nm) (.int .i64 t) (.slice s1 s2 s3) B2;have gf:w.grownBy _ none:=jaG (jaa g0.out g2) gX (Nat.le_refl _);refine bodyPost_ret (jkf rfl _ _ w.heap.size rfl hX) rfl ?_;refine ⟨⟨s1,s2,s3⟩,rfl,?_,gf⟩;have hb:w.heap.size<w1.heap.size:=by have:=(BX.out w1 hg1);exact (Array.getElem?_eq_some_iff.1 this).1
 have h:=(ho.base_le (b':=w.heap.size+1) (by omega)).more gX (by
  rcases ho.1.2 with ⟨e,-⟩ | ⟨gg,cap,cur,e,hgg,-⟩
  ·exact .inl (by rw [e];rfl)
  ·exact .inr (by rw [e];simp [Value.ownBlock];omega))
 exact h.base_le (by omega)
end Go.Proofs.YteigfipgmghgmaaGreatDoor
namespace Go.Proofs.YteigfipgmghgmaaGreatDoor
open Go.RowKit
def jbE (ck:Int) (lens:Bool) (vs:List (Val×List Int)) (tS:R Int) (dS:R (List Int)) (os:List ByteArray):R (Int×List Int) :=
 (jhB ck).bind (fun _=>(jal lens).bind (fun _=>(jeL vs).bind (fun _=>tS.bind (fun t=>dS.bind (fun d=>(jaX d).bind (fun _=>(jdt t os).bind (fun _=>.ok (t,d))))))))
theorem jkg {s:ByteArray} (h:jaw s=true):s.toList∈jha:=by
 unfold jaw at h;rw [List.any_eq_true] at h;obtain ⟨n,hn,he⟩:=h;have e:n=s.toList:=by simpa using he
 rw [← e]
 revert n
 unfold jkY jha;intro n hn _ _;exact hn
theorem jmh (o:Option Atr):∀ s∈jen o,jaw s=true:=by
 intro s hs;unfold jen at hs
 cases o with
 | none=>simp at hs
 | some a =>
  simp only at hs
  split at hs
  ·rename_i hall;obtain ⟨p,hp,rfl⟩:=List.mem_map.1 hs;exact List.all_eq_true.1 hall p hp
  ·simp at hs
theorem joO {xs:List Atr} (h:∀ a∈xs,a.s.size≤1048576) (P:Atr→Bool):(jen (xs.find? P)).length≤1048577:=by
 unfold jen
 cases hf:xs.find? P with
 | none=>simp
 | some a =>
  have h1:=h a (List.mem_of_find?_eq_some hf);have h2:=jjJ a.s.data.toList;simp only
  split
  ·rw [List.length_map];have h3:a.s.data.toList.length=a.s.size:=by rw [Array.length_toList];rfl
   omega
  ·simp
theorem jkh (n : Nod) (A : At) (ins : List ByteArray) (u : Sl) (vs : List (Val × List Int)) (w : World) (hl : Laid w) (hni : NodeIn w n ins A.xs A.cs) (hv : ValsIn w u.v vs) (ho : n.out.size ≤ 281474976710656) (tS : R Int) (dS : R (List Int))
    (TM:jbJ (jcN n.op) n.op ins n.out A.xs A.cs=0→vs.length=ins.length→jeL vs=.ok ()→∀ wx,w.grownBy wx none→Calls Tryz.prog 74 #[jaz n,.slice u.a u.n u.c] wx (jaJ wx tS fun t v _=>v=.int .i64 t∧jao t=true))
    (DM:jbJ (jcN n.op) n.op ins n.out A.xs A.cs=0→vs.length=ins.length→jeL vs=.ok ()→∀ wx,w.grownBy wx none→Calls Tryz.prog 75 #[jaz n,.slice u.a u.n u.c] wx (jaJ wx dS jbd)) :
    Calls Tryz.prog 48 #[jaz n,.slice u.a u.n u.c] w (jaJ w (jbE (jbJ (jcN n.op) n.op ins n.out A.xs A.cs) (decide (vs.length=ins.length)) vs tS dS (jen (A.xs.find? (isA ⟨#[116,104,101,110]⟩ 3)))) fun r v w'=>∃ s:Sl,v=.agg #[.string n.out,.int .i64 r.1,.slice s.a s.n s.c]∧Owns w' w.heap.size s.v r.2):=by
     obtain ⟨xa,xc,e1,q1,q2,q3⟩:=hv.vals.form;rw [List.length_map] at e1 q1 q3;obtain ⟨ua,un,uc⟩:=u;simp only [Sl.v,Value.slice.injEq] at e1;obtain ⟨rfl,rfl,rfl⟩:=e1;have CK:=jac (fun (wx:World) (hg:w.grownBy wx none)=>jqs n ins A.xs A.cs wx (hl.more hg) (hni.more hg));have TH:=jac (fun (wx:World) (hg:w.grownBy wx none)=>jk3 n A.xs wx (hl.more hg) (hni.more hg).av (fun a ha=>by have:=hni.short a ha;omega));have IL:=jac hni.ins;obtain ⟨ck,hck⟩ : ∃ c,c=jbJ (jcN n.op) n.op ins n.out A.xs A.cs:=⟨_,rfl⟩
     obtain ⟨os,hos⟩ : ∃ os,os=jen (A.xs.find? (isA ⟨#[116,104,101,110]⟩ 3)):=⟨_,rfl⟩
     have OS:Hid (∀ s∈os,jaw s=true):=by show ∀ s∈os,_;rw [hos];exact jmh _
     have OsB:Hid (os.length≤1048577):=by show os.length≤_;rw [hos];exact joO hni.short _
     rw [← hck] at CK TM DM ⊢;rw [← hos] at TH ⊢;have HV:=jac hv;have HTM:=jac TM;have HDM:=jac DM;clear hck hos hl hni hv TM DM;obtain ⟨op,nam,⟨ia,il,ic⟩,out,⟨ao,al,cap⟩⟩:=n;unfold jaz at CK TH HTM HDM ⊢;simp only at CK TH HTM HDM IL ho ⊢;obtain ⟨ix,icc,ei,i1,i2,i3⟩:=IL.out.form;simp only [Sl.v,Value.slice.injEq] at ei;obtain ⟨rfl,rfl,rfl⟩:=ei;obtain ⟨w0,hw0⟩ : ∃ w0,w0=(w.alloc (.cells #[.string op,.string nam,.slice ia ins.length ic,.string out,.slice ao al cap] 25)).alloc (.cells #[.string ⟨#[]⟩,.int .i64 0,.slice none 0 0] 53):=⟨_,rfl⟩
     have g0:Hid (w.grownBy w0 none):=by show w.grownBy w0 none;rw [hw0];exact jaa (jab _ _) (jab _ _)
     have hbx:=jbi w (.cells #[.string op,.string nam,.slice ia ins.length ic,.string out,.slice ao al cap] 25) (.cells #[.string ⟨#[]⟩,.int .i64 0,.slice none 0 0] 53);rw [← hw0] at hbx;have BX:Hid (∀ wx,w0.grownBy wx none→wx.heap[w.heap.size]?=some (.cells #[.string op,.string nam,.slice ia ins.length ic,.string out,.slice ao al cap] 25 (0,0))∧wx.heap[w.heap.size+1]?=some (.cells #[.string ⟨#[]⟩,.int .i64 0,.slice none 0 0] 53 (0,0))):=fun wx hg=>⟨jag hbx.1 hg,jag hbx.2 hg⟩
     clear hbx;go_enter Tryz.func48,Tryz.ntmps48;go_wp2_with fail;rw [← hw0];clear hw0;refine (CK.out w0 g0.out).mono ?_;rintro e w1 ⟨rfl,hg1⟩;have G1:=jac hg1;clear hg1 CK
     by_cases hc0:ck=0
     ·subst hc0;obtain ⟨n0,n1,n2,n3,n4⟩:=jak (n:=⟨op,nam,⟨ia,ins.length,ic⟩,out,⟨ao,al,cap⟩⟩) (BX.out w1 G1.out).1
      by_cases hlen:vs.length=ins.length
      ·have bl:((vs.length:Int)==(ins.length:Int))=true:=by simp [hlen]
       have TM2:=jac (HTM.out rfl hlen);have DM2:=jac (HDM.out rfl hlen);have E0:Hid (jbE 0 (decide (vs.length=ins.length)) vs tS dS os=(jeL vs).bind (fun _=>tS.bind (fun t=>dS.bind (fun d=>(jaX d).bind (fun _=>(jdt t os).bind (fun _=>.ok (t,d))))))):=by show _=_;unfold jbE;simp [jhB,jal,hlen];rfl
       clear hlen HTM HDM;go_wp2_with (first | (go_at_call 69;refine (jhC _).mono ?_;rintro e w' ⟨rfl,rfl⟩) | (go_at_call 71;refine (jaq _).mono ?_;rintro e w' ⟨rfl,rfl⟩) | fail);clear n0 n1 n2 n3 n4 bl;go_loopw [25] (fun i wr=>∃ k:Nat,k≤vs.length∧i=.int .i64 k∧jeL (vs.drop k)=jeL vs∧w0.grownBy wr none) (fun i _=>vs.length - (intOf i).toNat)
       case atStart=>exact ⟨0,Nat.zero_le _,rfl,by rw [List.drop_zero],G1.out⟩
       case round =>
        obtain ⟨k,hk,rfl,hst,hg⟩:=hrel;have HG:=jac hg
        by_cases hkl:k<vs.length
        ·obtain ⟨b,off,rfl⟩:=HV.out.vals.addr (k:=k) (by rw [List.length_map];exact hkl);obtain ⟨y0,y1,y2⟩:=(HV.out.more (jaa g0.out hg)).vals.val k (by rw [List.length_map];exact hkl);have HY:=jac (HV.out.dims vs[k] (List.getElem_mem hkl));rw [List.getElem_map] at y0 y1 y2;rw [joM hkl] at hst;obtain ⟨p,hp⟩ : ∃ p,p=vs[k]:=⟨_,rfl⟩
         rw [← hp] at y0 y1 y2 HY hst;obtain ⟨⟨vn,vt,⟨da,dn,dc⟩⟩,y⟩:=p;simp only at y0 y1 y2 HY hst;obtain ⟨w3,hw3⟩ : ∃ w3,w3=wr.alloc (.cells #[.string vn,.int .i64 vt,.slice da dn dc] 53):=⟨_,rfl⟩
         have g3:Hid (w0.grownBy w3 none):=by show w0.grownBy w3 none;rw [hw3];exact jaa hg (jab _ _)
         have hb3:=heap_alloc_new wr (.cells #[.string vn,.int .i64 vt,.slice da dn dc] 53);rw [← hw3] at hb3;have v1:w3.cell? ⟨wr.heap.size,1,none⟩=some (.int .i64 vt):=(cell_of_row _ _ 1 _ _ (0,0) hb3).trans rfl;have v2:w3.cell? ⟨wr.heap.size,2,none⟩=some (.slice da dn dc):=(cell_of_row _ _ 2 _ _ (0,0) hb3).trans rfl;have TY:=jac (jns vt w3);have CO:=jac (jce _ y w3 (HY.out.more (jaa g0.out g3.out)));simp only [Sl.v] at CO;have HST:=jac hst;clear hb3 hp hg hst;go_wp2_with fail;rw [← hw3];clear hw3 y0 y1 y2
         cases ht:jiJ vt with
         | error c =>
          rw [ht] at TY;have E:Hid (jbE 0 (decide (vs.length=ins.length)) vs tS dS os=.error c):=by show _=_;rw [E0.out,← HST.out,ht];rfl
          clear ht;refine TY.out.mono ?_;rintro e w' ⟨hg,rfl⟩;exact ⟨rfl,jai E.out (jaa (jaa g0.out g3.out) hg)⟩
         | ok tu =>
          rw [ht] at TY;have HST2:Hid ((jaX y).bind (fun _=>jeL (vs.drop (k+1)))=jeL vs):=by show _=_;rw [← HST.out,ht];rfl
          clear ht HST
          cases hc:jaX y with
          | error c =>
           rw [hc] at CO;have E:Hid (jbE 0 (decide (vs.length=ins.length)) vs tS dS os=.error c):=by show _=_;rw [E0.out,← HST2.out,hc];rfl
           clear hc;refine TY.out.mono ?_;rintro e w' ⟨-,v,rfl,rfl,rfl⟩;go_wp2_with (first | (go_at_call 73;refine CO.out.mono ?_;rintro e w' ⟨hg,rfl⟩) | fail);exact ⟨rfl,jai E.out (jaa (jaa g0.out g3.out) hg)⟩
          | ok cn =>
           rw [hc] at CO;have HST3:Hid (jeL (vs.drop (k+1))=jeL vs):=by show _=_;rw [← HST2.out,hc];rfl
           clear hc HST2;refine TY.out.mono ?_;rintro e w' ⟨-,v,rfl,rfl,rfl⟩;go_wp2_with (first | (go_at_call 73;refine CO.out.mono ?_;rintro e w' ⟨-,v,rfl,rfl,rfl⟩) | fail);go_roundw
           case rel=>exact ⟨k+1,by omega,by go_num,HST3.out,g3.out⟩
           case measure=>simp [intOf];omega
        ·have hvin:jeL vs=.ok ():=by rw [← hst,List.drop_of_length_le (by omega)];rfl
         have E1:Hid (jbE 0 (decide (vs.length=ins.length)) vs tS dS os=tS.bind (fun t=>dS.bind (fun d=>(jaX d).bind (fun _=>(jdt t os).bind (fun _=>.ok (t,d)))))):=by show _=_;rw [E0.out,hvin];rfl
         have TM3:=jac (TM2.out hvin wr (jaa g0.out hg));have DM3:=jac (fun wx hx=>DM2.out hvin wx hx);obtain ⟨n0,n1,n2,n3,n4⟩:=jak (n:=⟨op,nam,⟨ia,ins.length,ic⟩,out,⟨ao,al,cap⟩⟩) (BX.out wr hg).1;clear hst hg hvin TM2 DM2 E0;go_wp2_with fail
         cases ht:tS with
         | error c =>
          rw [ht] at TM3;have E:Hid (jbE 0 (decide (vs.length=ins.length)) vs tS dS os=.error c):=by show _=_;rw [E1.out,ht];rfl
          refine TM3.out.mono ?_;rintro e w' ⟨hg,rfl⟩;exact ⟨rfl,jai E.out (jaa (jaa g0.out HG.out) hg)⟩
         | ok tt =>
          rw [ht] at TM3;have E2:Hid (jbE 0 (decide (vs.length=ins.length)) vs tS dS os=dS.bind (fun d=>(jaX d).bind (fun _=>(jdt tt os).bind (fun _=>.ok (tt,d))))):=by show _=_;rw [E1.out,ht];rfl
          refine TM3.out.mono ?_;rintro e w4 ⟨hg4,v,rfl,rfl,htt⟩;have G4:=jac (jaa HG.out hg4);have D4:=jac (DM3.out w4 (jaa g0.out G4.out));obtain ⟨n0,n1,n2,n3,n4⟩:=jak (n:=⟨op,nam,⟨ia,ins.length,ic⟩,out,⟨ao,al,cap⟩⟩) (BX.out w4 G4.out).1;clear hg4 TM3 ht;go_wp2_with fail
          cases hd:dS with
          | error c =>
           rw [hd] at D4;have E:Hid (jbE 0 (decide (vs.length=ins.length)) vs tS dS os=.error c):=by show _=_;rw [E2.out,hd];rfl
           refine D4.out.mono ?_;rintro e w' ⟨hg,rfl⟩;exact ⟨rfl,jai E.out (jaa (jaa g0.out G4.out) hg)⟩
          | ok dd =>
           rw [hd] at D4;have E3:Hid (jbE 0 (decide (vs.length=ins.length)) vs tS dS os=(jaX dd).bind (fun _=>(jdt tt os).bind (fun _=>.ok (tt,dd)))):=by show _=_;rw [E2.out,hd];rfl
           refine D4.out.mono ?_;rintro e w5 ⟨hg5,v,rfl,⟨s1,s2,s3⟩,rfl,hs⟩;have G5:=jac (jaa G4.out hg5);have CO:=jac (jce _ dd w5 hs);have HS:=jac hs;simp only [Sl.v] at CO ⊢;obtain ⟨n0,n1,n2,n3,n4⟩:=jak (n:=⟨op,nam,⟨ia,ins.length,ic⟩,out,⟨ao,al,cap⟩⟩) (BX.out w5 G5.out).1;clear hg5 D4 hd hs DM3;have T6:=jac (TH.out w5 (jaa g0.out G5.out))
           cases hc:jaX dd with
           | error c =>
            rw [hc] at CO;have E:Hid (jbE 0 (decide (vs.length=ins.length)) vs tS dS os=.error c):=by show _=_;rw [E3.out,hc];rfl
            clear hc;go_wp2_with (first | (go_at_call 73;refine CO.out.mono ?_;rintro e w' ⟨hg,rfl⟩) | fail);exact ⟨rfl,jai E.out (jaa (jaa g0.out G5.out) hg)⟩
           | ok cn =>
            rw [hc] at CO;have E4:Hid (jbE 0 (decide (vs.length=ins.length)) vs tS dS os=(jdt tt os).bind (fun _=>.ok (tt,dd))):=by show _=_;rw [E3.out,hc];rfl
            clear hc;go_wp2_with (first | (go_at_call 73;refine CO.out.mono ?_;rintro e w' ⟨-,v,rfl,rfl,rfl⟩) | (go_at_call 76;refine T6.out.mono ?_;rintro e w6 ⟨tv,rfl,hown,hg6⟩;obtain ⟨oa,oc,rfl⟩:=jaW.form hown) | fail);have G6:=jac (jaa G5.out hg6);have HG56:=jac hg6;have osb:=OsB.out;have LO:=jac (jaW.isL (bytes:=16) jfI hown (by omega));clear hown hg6 T6 CO n0 n1 n2 n3 n4;go_loopw [51] (fun i wr=>∃ k:Nat,k≤os.length∧i=.int .i64 k∧jdt tt (os.drop k)=jdt tt os∧w6.grownBy wr none) (fun i _=>os.length - (intOf i).toNat)
            case atStart=>exact ⟨0,Nat.zero_le _,rfl,by rw [List.drop_zero],jad _⟩
            case round =>
             obtain ⟨k,hk,rfl,hst,hg⟩:=hrel;have HG2:=jac hg
             by_cases hkl:k<os.length
             ·obtain ⟨ob,of,rfl⟩:=LO.out.addr hkl;have hc:=(LO.out.more hg).at k hkl 0 (by omega);rw [Nat.mul_one,Nat.add_zero] at hc;rw [jmg hkl] at hst;have hone:=OS.out os[k] (List.getElem_mem hkl);obtain ⟨o,hoo⟩ : ∃ o,o=os[k]:=⟨_,rfl⟩
              rw [← hoo] at hc hst hone;have hc':wr.cell? ⟨ob,of+k,none⟩=some (.string o):=hc;have MU:=jac (jfX o tt (jkg hone) htt wr);have HST:=jac hst;clear hc hoo hst hg hone
              cases h1:jcx o.toList tt with
              | true =>
               rw [h1] at MU;have HST2:Hid (jdt tt (os.drop (k+1))=jdt tt os):=by show _=_;rw [← HST.out,h1];rfl
               clear h1;go_wp2_with (first | (go_at_call 77;refine MU.out.mono ?_;rintro e w7 ⟨hg7,v,rfl,rfl⟩) | fail);go_roundw
               case rel=>exact ⟨k+1,by omega,by go_num,HST2.out,jaa HG2.out hg7⟩
               case measure=>simp [intOf];omega
              | false =>
               rw [h1] at MU;have E:Hid (jbE 0 (decide (vs.length=ins.length)) vs tS dS os=.error 4):=by show _=_;rw [E4.out,← HST.out,h1];rfl
               clear h1;go_wp2_with (first | (go_at_call 77;refine MU.out.mono ?_;rintro e w7 ⟨hg7,rfl⟩) | fail);exact ⟨rfl,jai E.out (jaa (jaa g0.out G6.out) (jaa HG2.out hg7))⟩
             ·have E5:Hid (jbE 0 (decide (vs.length=ins.length)) vs tS dS os=.ok (tt,dd)):=by show _=_;rw [E4.out,← hst,List.drop_of_length_le (by omega)];rfl
              have G7:=jac (jaa G6.out hg);obtain ⟨n0,n1,n2,n3,n4⟩:=jak (n:=⟨op,nam,⟨ia,ins.length,ic⟩,out,⟨ao,al,cap⟩⟩) (BX.out wr G7.out).1;have NV:=jac (ji1 out tt ⟨s1,s2,s3⟩ dd wr (HS.out.more (jaa HG56.out hg)) ho);simp only at NV;clear hst hg;go_wp2_with (first | (go_at_call 78;refine NV.out.mono ?_;rintro e w8 ⟨⟨r1,r2,r3⟩,rfl,hr,hg8⟩;simp only;have G8:=jaa G7.out hg8;have B8:=(BX.out w8 G8).2;obtain ⟨f0,f1,f2⟩:=jbf B8;have c0:=(cell_of_row _ _ 0 _ _ (0,0) B8).trans rfl;have c1:=(cell_of_row _ _ 1 _ _ (0,0) B8).trans rfl;have c2:=(cell_of_row _ _ 2 _ _ (0,0) B8).trans rfl) | fail);obtain ⟨hX,gX⟩:=jb0 (.string out) (.int .i64 tt) (.slice r1 r2 r3) B8;have gf:w.grownBy _ none:=jaG (jaa g0.out G8) gX (by omega);refine bodyPost_ret (jkf rfl _ _ (w.heap.size+1) rfl hX) rfl ?_;refine jap E5.out gf ⟨⟨r1,r2,r3⟩,rfl,?_⟩;have hb:w.heap.size+1<wr.heap.size:=(Array.getElem?_eq_some_iff.1 (BX.out wr G7.out).2).1
              have h:=(hr.base_le (b':=w.heap.size+2) (by omega)).more gX (by
               rcases hr.1.2 with ⟨e,-⟩ | ⟨gg,cap',cur,e,hgg,-⟩
               ·exact .inl (by rw [e];rfl)
               ·exact .inr (by rw [e];simp [Value.ownBlock];omega))
              exact h.base_le (by omega)
      ·have bl:((vs.length:Int)==(ins.length:Int))=false:=by simpa using (fun h=>hlen (by omega):¬ (vs.length:Int)=ins.length)
       have E0:Hid (jbE 0 (decide (vs.length=ins.length)) vs tS dS os=.error 4):=by show _=_;unfold jbE;simp [jhB,jal,hlen];rfl
       clear hlen;go_wp2_with (first | (go_at_call 69;refine (jhC _).mono ?_;rintro e w' ⟨rfl,rfl⟩) | (go_at_call 71;refine (jav _).mono ?_;rintro e w' ⟨rfl,rfl⟩) | fail);exact ⟨rfl,jai E0.out (jaa g0.out G1.out)⟩
     ·have E0:Hid (jbE ck (decide (vs.length=ins.length)) vs tS dS os=.error ck):=by show _=_;unfold jbE;simp [jhB,hc0];rfl
      have HC:=jac hc0;clear hc0;go_wp2_with (first | (go_at_call 69;refine (jhD _ HC.out _).mono ?_;rintro e w' ⟨rfl,rfl⟩) | fail);exact ⟨rfl,jai E0.out (jaa g0.out G1.out)⟩
end Go.Proofs.YteigfipgmghgmaaGreatDoor
namespace Go.Proofs.YteigfipgmghgmaaGreatDoor
open Go.RowKit
def jfv (A:At):Atr:=(A.xs.find? (isA ⟨#[118,97,108,117,101]⟩ 4)).getD jcM
theorem ji2 {xs:List Atr} {P:Atr→Bool} (h:∀ j (hj:j<xs.length),P xs[j]=false):xs.find? P=none:=by
 rw [List.find?_eq_none];intro a ha;obtain ⟨j,hj,rfl⟩:=List.mem_iff_getElem.1 ha;simpa using h j hj
theorem jeM {P:Atr→Bool} : ∀ {xs:List Atr} {k:Nat} (hk:k<xs.length),(∀ j (hj:j<xs.length),j<k→P xs[j]=false)→P xs[k]=true→xs.find? P=some xs[k]
 | a::l,0,_,_,h=>by simp only [List.getElem_cons_zero] at h ⊢;rw [List.find?_cons_of_pos h]
 | a::l,k+1,hk,h0,h=>by
  have ha:=h0 0 (by simp) (by omega);simp only [List.getElem_cons_zero] at ha;rw [List.find?_cons_of_neg (by simpa using ha)];simp only [List.getElem_cons_succ] at h ⊢;exact jeM (by simpa using hk) (fun j hj hjk=>by have:=h0 (j+1) (by simpa using hj) (by omega);simpa using this) h
theorem jmi (t:Int) (b c:Value) (W:World):(Instr.field 32 (.agg #[.int .i64 t,b,c]) 0).run Tryz.prog W=.ok (.int .i64 t) W:=by kernel_rfl
theorem jmj (t:Int) (a:Option Addr) (n m:Nat) (c:Value) (W:World):(Instr.field 32 (.agg #[.int .i64 t,.slice a n m,c]) 1).run Tryz.prog W=.ok (.slice a n m) W:=by kernel_rfl
theorem jfY {a b c:World} {B:Nat} (h:a.grownBy b none) (k:b.grownBy c (some B)) (hb:a.heap.size≤B):a.grownBy c none:=jan h k (fun r e=>by cases e;exact hb)
theorem jeN (n:Nod) (A:At) (w:World) (hn:NodeOk w n A):Calls Tryz.prog 102 #[jaz n] w fun e w'=>e=.returned (.agg #[.int .i64 (jfv A).ty,.slice (jfv A).dv.a (jfv A).dv.n (jfv A).dv.c,.slice (jfv A).tv.a (jfv A).tv.n (jfv A).tv.c])∧w.grownBy w' none:=by
 have HA:=jac hn.attrs;obtain ⟨op,nam,⟨ia,il,ic⟩,out,⟨ao,al,cap⟩⟩:=n;unfold jaz;simp only at HA ⊢;obtain ⟨ao',cap',hav,h1,h2,h3⟩:=HA.out.form;obtain ⟨rfl,rfl,rfl⟩ : ao=ao'∧al=A.xs.length∧cap=cap':=by simpa [Sl.v] using hav
 clear hav hn;obtain ⟨w0,hw0⟩ : ∃ w0,w0=(w.alloc (.cells #[.string op,.string nam,.slice ia il ic,.string out,.slice ao A.xs.length cap] 25)).alloc (.cells #[.int .i64 0,.slice none 0 0,.slice none 0 0] 32):=⟨_,rfl⟩
 have g0:w.grownBy w0 none:=by rw [hw0];exact jaa (jab _ _) (jab _ _)
 have hbx:=jbi w (.cells #[.string op,.string nam,.slice ia il ic,.string out,.slice ao A.xs.length cap] 25) (.cells #[.int .i64 0,.slice none 0 0,.slice none 0 0] 32);rw [← hw0] at hbx;have BX:=jac hbx;obtain ⟨xs,hxs⟩ : ∃ xs,xs=A.xs:=⟨_,rfl⟩
 have EV:Hid (jfv A=(xs.find? (isA ⟨#[118,97,108,117,101]⟩ 4)).getD jcM):=by show _=_;rw [hxs];rfl
 rw [← hxs] at HA h1 h3 BX hw0 ⊢;clear hxs hbx;go_enter Tryz.func102,Tryz.ntmps102;go_wp2;rw [← hw0];clear hw0;go_loopw [8] (fun i wr=>∃ k:Nat,k≤xs.length∧i=.int .i64 k∧(∀ j (hj:j<xs.length),j<k→isA ⟨#[118,97,108,117,101]⟩ 4 xs[j]=false)∧w0.grownBy wr none) (fun i _=>xs.length - (intOf i).toNat)
 case atStart=>exact ⟨0,Nat.zero_le _,rfl,fun j hj h=>absurd h (by omega),jad _⟩
 case round =>
  obtain ⟨k,hk,rfl,hall,hg⟩:=hrel;have HL:=jac hall;have HG:=jac hg;have BW:=jac (And.intro (jag BX.out.1 hg) (jag BX.out.2 hg))
  by_cases hkl:k<xs.length
  ·have HV1:=HA.out.more (jaa g0 hg);obtain ⟨b,off,rfl⟩:=HV1.addr hkl;obtain ⟨a0,a1,a2,a3,a4,a5,a6,a7,a8⟩:=HV1.attr k hkl;obtain ⟨a,ha⟩ : ∃ a,a=xs[k]:=⟨_,rfl⟩
   rw [← ha] at a0 a1 a2 a3 a4 a5 a6 a7 a8;have HAA:=jac ha;obtain ⟨an,ak,af,ai,as',aty,⟨d1,d2,d3⟩,⟨t1,t2,t3⟩,⟨i1,i2,i3⟩⟩:=a;simp only at a0 a1 a2 a3 a4 a5 a6 a7 a8;clear hall hg HV1 ha
   cases hnm:(an.toList==[118,97,108,117,101]) with
   | false =>
    have HN:Hid (∀ j (hj:j<xs.length),j<k+1→isA ⟨#[118,97,108,117,101]⟩ 4 xs[j]=false):=fun j hj h=>by
     rcases jaK h with h | rfl
     ·exact HL.out j hj h
     ·rw [← HAA.out];simp only [isA,jaj] at hnm ⊢;rw [hnm];rfl
    go_wp2;go_roundw
    case rel=>exact ⟨k+1,by omega,by go_num,HN.out,jaa HG.out (jab _ _)⟩
    case measure=>simp [intOf];omega
   | true =>
    cases hkd:(ak==4) with
    | false =>
     have HN:Hid (∀ j (hj:j<xs.length),j<k+1→isA ⟨#[118,97,108,117,101]⟩ 4 xs[j]=false):=fun j hj h=>by
      rcases jaK h with h | rfl
      ·exact HL.out j hj h
      ·rw [← HAA.out];simp only [isA];rw [hkd];simp
     go_wp2;go_roundw
     case rel=>exact ⟨k+1,by omega,by go_num,HN.out,jaa HG.out (jab _ _)⟩
     case measure=>simp [intOf];omega
    | true =>
     have E:Hid (jfv A=xs[k]):=by
      show _=_;rw [EV.out,jeM hkl HL.out (by rw [← HAA.out];simp only [isA,jaj] at hnm ⊢;rw [hnm,hkd];rfl)]
      rfl
     have B2:=jag BW.out.2 (jab wr (.cells #[.string an,.int .i64 ak,.int .i64 af,.int .i64 ai,.string as',.int .i64 aty,.slice d1 d2 d3,.slice t1 t2 t3,.slice i1 i2 i3] 92));have gw1:w.grownBy (wr.alloc (.cells #[.string an,.int .i64 ak,.int .i64 af,.int .i64 ai,.string as',.int .i64 aty,.slice d1 d2 d3,.slice t1 t2 t3,.slice i1 i2 i3] 92)) none:=jaa (jaa g0 HG.out) (jab _ _);obtain ⟨f0,f1,f2⟩:=jbf B2;obtain ⟨c0,c1,c2⟩:=ja3 B2;obtain ⟨hX,gX⟩:=jb0 (.int .i64 aty) (.slice d1 d2 d3) (.slice t1 t2 t3) B2;have HX:=jac hX;have GX:=jac (jfY gw1 gX (by omega));clear hX gX gw1 B2;go_wp2;refine bodyPost_ret (jm8 rfl _ _ (w.heap.size+1) rfl HX.out) rfl ?_;exact ⟨by rw [E.out,← HAA.out],GX.out⟩
  ·have E : Hid (jfv A = jcM) := by
     show _=_;rw [EV.out,ji2 (fun j hj=>HL.out j hj (by omega))]
     rfl
   obtain ⟨f0,f1,f2⟩:=jbf BW.out.2;obtain ⟨c0,c1,c2⟩:=ja3 BW.out.2;obtain ⟨hX,gX⟩:=jb0 (.int .i64 0) (.slice none 0 0) (.slice none 0 0) BW.out.2;have HX:=jac hX;have GX:=jac (jfY (jaa g0 HG.out) gX (by omega));clear hX gX hall hg;go_wp2;refine bodyPost_ret (jm8 rfl _ _ (w.heap.size+1) rfl HX.out) rfl ?_;exact ⟨by rw [E.out];rfl,GX.out⟩
end Go.Proofs.YteigfipgmghgmaaGreatDoor
namespace Go.Proofs.YteigfipgmghgmaaGreatDoor
open Go.RowKit
theorem jgA (n:Nod) (A:At) (u:Sl) (vs:List (Val×List Int)) (w:World) (hop:n.op=⟨#[82,101,100,117,99,101,83,117,109]⟩) (hn:NodeOk w n A) (hv:ValsIn w u.v vs) (hl:vs.length=1) (_hf:vs.length≤1000000) (_ht:∀ s∈jaD vs,jao s=true):Calls Tryz.prog 74 #[jaz n,.slice u.a u.n u.c] w (jaJ w ((jal ((jaD vs).getD 0 0 != 9)).bind (fun _=>.ok ((jaD vs).getD 0 0))) fun t v _=>v=.int .i64 t):=by
 obtain ⟨xa,xc,e1,p1,p2,p3⟩:=hv.vals.form;rw [List.length_map] at e1 p1 p3;obtain ⟨ua,un,uc⟩:=u;simp only [Sl.v,Value.slice.injEq] at e1;obtain ⟨rfl,rfl,rfl⟩:=e1;have HV:=jac hv;obtain ⟨b,off,rfl⟩:=hv.vals.addr (k:=0) (by rw [List.length_map];omega);obtain ⟨z1,-⟩:=hv.at 0 (by omega);rw [Nat.zero_mul,Nat.add_zero] at z1;have hT:(jaD vs).getD 0 0=vs[0].1.ty:=by unfold jaD;rw [List.getD,List.getElem?_eq_getElem (by rw [List.length_map];omega)];simp
 obtain ⟨T,hT0⟩ : ∃ T,T=vs[0].1.ty:=⟨_,rfl⟩
 rw [← hT0] at z1 hT;rw [hT];have Z1:=jac z1;have hp:(0:Int)<(vs.length:Int):=by omega
 have hp2:0<vs.length:=by omega
 clear hv _ht hT hT0 z1 hl _hf;have NK:=jac hn;obtain ⟨op,nam,⟨ia,il,ic⟩,out,⟨ao,al,cap⟩⟩:=n;unfold jaz;simp only;obtain ⟨w0,hw0⟩ : ∃ w0,w0=w.alloc (.cells #[.string op,.string nam,.slice ia il ic,.string out,.slice ao al cap] 25):=⟨_,rfl⟩
 have g0:Hid (w.grownBy w0 none):=by show w.grownBy w0 none;rw [hw0];exact jab _ _
 have hb0:=heap_alloc_new w (.cells #[.string op,.string nam,.slice ia il ic,.string out,.slice ao al cap] 25);rw [← hw0] at hb0;have BX:Hid (∀ wx,w0.grownBy wx none→wx.heap[w.heap.size]?=some (.cells #[.string op,.string nam,.slice ia il ic,.string out,.slice ao al cap] 25 (0,0))):=fun wx hg=>jag hb0 hg;clear hb0 hn;simp only at hop;subst hop;have z2:(w.alloc (.cells #[.string ⟨#[82,101,100,117,99,101,83,117,109]⟩,.string nam,.slice ia il ic,.string out,.slice ao al cap] 25)).cell? ⟨b,off+1,none⟩=some (.int .i64 T):=jae Z1.out (jab _ _)
 cases h1:(T != 9) with
 | true =>
  go_enter Tryz.func74,Tryz.ntmps74;go_wp2_with (first | (go_at_call 71;refine (jaq _).mono ?_;rintro e w' ⟨rfl,rfl⟩) | fail);go_ret;exact jap (by rfl) (by rw [← hw0];exact g0.out) rfl
 | false =>
  go_enter Tryz.func74,Tryz.ntmps74;go_wp2_with (first | (go_at_call 71;refine (jav _).mono ?_;rintro e w' ⟨rfl,rfl⟩) | fail);exact ⟨rfl,jai (by rfl) (by rw [← hw0];exact g0.out)⟩
theorem jgB (n:Nod) (A:At) (u:Sl) (vs:List (Val×List Int)) (w:World) (hop:n.op=⟨#[82,101,100,117,99,101,77,97,120]⟩) (hn:NodeOk w n A) (hv:ValsIn w u.v vs) (hl:vs.length=1) (_hf:vs.length≤1000000) (_ht:∀ s∈jaD vs,jao s=true):Calls Tryz.prog 74 #[jaz n,.slice u.a u.n u.c] w (jaJ w ((jal ((jaD vs).getD 0 0 != 9)).bind (fun _=>.ok ((jaD vs).getD 0 0))) fun t v _=>v=.int .i64 t):=by
 obtain ⟨xa,xc,e1,p1,p2,p3⟩:=hv.vals.form;rw [List.length_map] at e1 p1 p3;obtain ⟨ua,un,uc⟩:=u;simp only [Sl.v,Value.slice.injEq] at e1;obtain ⟨rfl,rfl,rfl⟩:=e1;have HV:=jac hv;obtain ⟨b,off,rfl⟩:=hv.vals.addr (k:=0) (by rw [List.length_map];omega);obtain ⟨z1,-⟩:=hv.at 0 (by omega);rw [Nat.zero_mul,Nat.add_zero] at z1;have hT:(jaD vs).getD 0 0=vs[0].1.ty:=by unfold jaD;rw [List.getD,List.getElem?_eq_getElem (by rw [List.length_map];omega)];simp
 obtain ⟨T,hT0⟩ : ∃ T,T=vs[0].1.ty:=⟨_,rfl⟩
 rw [← hT0] at z1 hT;rw [hT];have Z1:=jac z1;have hp:(0:Int)<(vs.length:Int):=by omega
 have hp2:0<vs.length:=by omega
 clear hv _ht hT hT0 z1 hl _hf;have NK:=jac hn;obtain ⟨op,nam,⟨ia,il,ic⟩,out,⟨ao,al,cap⟩⟩:=n;unfold jaz;simp only;obtain ⟨w0,hw0⟩ : ∃ w0,w0=w.alloc (.cells #[.string op,.string nam,.slice ia il ic,.string out,.slice ao al cap] 25):=⟨_,rfl⟩
 have g0:Hid (w.grownBy w0 none):=by show w.grownBy w0 none;rw [hw0];exact jab _ _
 have hb0:=heap_alloc_new w (.cells #[.string op,.string nam,.slice ia il ic,.string out,.slice ao al cap] 25);rw [← hw0] at hb0;have BX:Hid (∀ wx,w0.grownBy wx none→wx.heap[w.heap.size]?=some (.cells #[.string op,.string nam,.slice ia il ic,.string out,.slice ao al cap] 25 (0,0))):=fun wx hg=>jag hb0 hg;clear hb0 hn;simp only at hop;subst hop;have z2:(w.alloc (.cells #[.string ⟨#[82,101,100,117,99,101,77,97,120]⟩,.string nam,.slice ia il ic,.string out,.slice ao al cap] 25)).cell? ⟨b,off+1,none⟩=some (.int .i64 T):=jae Z1.out (jab _ _)
 cases h1:(T != 9) with
 | true =>
  go_enter Tryz.func74,Tryz.ntmps74;go_wp2_with (first | (go_at_call 71;refine (jaq _).mono ?_;rintro e w' ⟨rfl,rfl⟩) | fail);go_ret;exact jap (by rfl) (by rw [← hw0];exact g0.out) rfl
 | false =>
  go_enter Tryz.func74,Tryz.ntmps74;go_wp2_with (first | (go_at_call 71;refine (jav _).mono ?_;rintro e w' ⟨rfl,rfl⟩) | fail);exact ⟨rfl,jai (by rfl) (by rw [← hw0];exact g0.out)⟩
theorem jki (n:Nod) (A:At) (u:Sl) (vs:List (Val×List Int)) (w:World) (hop:n.op=⟨#[65,114,103,77,97,120]⟩) (hn:NodeOk w n A) (hv:ValsIn w u.v vs) (hl:vs.length=1) (_hf:vs.length≤1000000) (_ht:∀ s∈jaD vs,jao s=true):Calls Tryz.prog 74 #[jaz n,.slice u.a u.n u.c] w (jaJ w ((jal ((jaD vs).getD 0 0 != 9)).bind (fun _=>.ok (7:Int))) fun t v _=>v=.int .i64 t):=by
 obtain ⟨xa,xc,e1,p1,p2,p3⟩:=hv.vals.form;rw [List.length_map] at e1 p1 p3;obtain ⟨ua,un,uc⟩:=u;simp only [Sl.v,Value.slice.injEq] at e1;obtain ⟨rfl,rfl,rfl⟩:=e1;have HV:=jac hv;obtain ⟨b,off,rfl⟩:=hv.vals.addr (k:=0) (by rw [List.length_map];omega);obtain ⟨z1,-⟩:=hv.at 0 (by omega);rw [Nat.zero_mul,Nat.add_zero] at z1;have hT:(jaD vs).getD 0 0=vs[0].1.ty:=by unfold jaD;rw [List.getD,List.getElem?_eq_getElem (by rw [List.length_map];omega)];simp
 obtain ⟨T,hT0⟩ : ∃ T,T=vs[0].1.ty:=⟨_,rfl⟩
 rw [← hT0] at z1 hT;rw [hT];have Z1:=jac z1;have hp:(0:Int)<(vs.length:Int):=by omega
 have hp2:0<vs.length:=by omega
 clear hv _ht hT hT0 z1 hl _hf;have NK:=jac hn;obtain ⟨op,nam,⟨ia,il,ic⟩,out,⟨ao,al,cap⟩⟩:=n;unfold jaz;simp only;obtain ⟨w0,hw0⟩ : ∃ w0,w0=w.alloc (.cells #[.string op,.string nam,.slice ia il ic,.string out,.slice ao al cap] 25):=⟨_,rfl⟩
 have g0:Hid (w.grownBy w0 none):=by show w.grownBy w0 none;rw [hw0];exact jab _ _
 have hb0:=heap_alloc_new w (.cells #[.string op,.string nam,.slice ia il ic,.string out,.slice ao al cap] 25);rw [← hw0] at hb0;have BX:Hid (∀ wx,w0.grownBy wx none→wx.heap[w.heap.size]?=some (.cells #[.string op,.string nam,.slice ia il ic,.string out,.slice ao al cap] 25 (0,0))):=fun wx hg=>jag hb0 hg;clear hb0 hn;simp only at hop;subst hop;have z2:(w.alloc (.cells #[.string ⟨#[65,114,103,77,97,120]⟩,.string nam,.slice ia il ic,.string out,.slice ao al cap] 25)).cell? ⟨b,off+1,none⟩=some (.int .i64 T):=jae Z1.out (jab _ _)
 cases h1:(T != 9) with
 | true =>
  go_enter Tryz.func74,Tryz.ntmps74;go_wp2_with (first | (go_at_call 71;refine (jaq _).mono ?_;rintro e w' ⟨rfl,rfl⟩) | fail);go_ret;exact jap (by rfl) (by rw [← hw0];exact g0.out) rfl
 | false =>
  go_enter Tryz.func74,Tryz.ntmps74;go_wp2_with (first | (go_at_call 71;refine (jav _).mono ?_;rintro e w' ⟨rfl,rfl⟩) | fail);exact ⟨rfl,jai (by rfl) (by rw [← hw0];exact g0.out)⟩
theorem jkj (n:Nod) (A:At) (u:Sl) (vs:List (Val×List Int)) (w:World) (hop:n.op=⟨#[71,97,116,104,101,114]⟩) (hn:NodeOk w n A) (hv:ValsIn w u.v vs) (hl:vs.length=2) (_hf:vs.length≤1000000) (_ht:∀ s∈jaD vs,jao s=true):Calls Tryz.prog 74 #[jaz n,.slice u.a u.n u.c] w (jaJ w ((jal ((jaD vs).getD 1 0==6||(jaD vs).getD 1 0==7)).bind (fun _=>.ok ((jaD vs).getD 0 0))) fun t v _=>v=.int .i64 t):=by
 obtain ⟨xa,xc,e1,p1,p2,p3⟩:=hv.vals.form;rw [List.length_map] at e1 p1 p3;obtain ⟨ua,un,uc⟩:=u;simp only [Sl.v,Value.slice.injEq] at e1;obtain ⟨rfl,rfl,rfl⟩:=e1;have HV:=jac hv;obtain ⟨b,off,rfl⟩:=hv.vals.addr (k:=0) (by rw [List.length_map];omega);obtain ⟨z1,-⟩:=hv.at 0 (by omega);rw [Nat.zero_mul,Nat.add_zero] at z1;obtain ⟨y1,-⟩:=hv.at 1 (by omega);have hT:(jaD vs).getD 0 0=vs[0].1.ty:=by unfold jaD;rw [List.getD,List.getElem?_eq_getElem (by rw [List.length_map];omega)];simp
 have hU:(jaD vs).getD 1 0=vs[1].1.ty:=by unfold jaD;rw [List.getD,List.getElem?_eq_getElem (by rw [List.length_map];omega)];simp
 obtain ⟨T,hT0⟩ : ∃ T,T=vs[0].1.ty:=⟨_,rfl⟩
 obtain ⟨U,hU0⟩ : ∃ U,U=vs[1].1.ty:=⟨_,rfl⟩
 rw [← hT0] at z1 hT;rw [← hU0] at y1 hU;rw [hT,hU];have Z1:=jac z1;have Y1:=jac y1;have hp:(0:Int)<(vs.length:Int):=by omega
 have hp2:0<vs.length:=by omega
 have hq:(1:Int)<(vs.length:Int):=by omega
 have hq2:1<vs.length:=by omega
 clear hv _ht hT hT0 z1 hU hU0 y1 hl _hf;have NK:=jac hn;obtain ⟨op,nam,⟨ia,il,ic⟩,out,⟨ao,al,cap⟩⟩:=n;unfold jaz;simp only;obtain ⟨w0,hw0⟩ : ∃ w0,w0=w.alloc (.cells #[.string op,.string nam,.slice ia il ic,.string out,.slice ao al cap] 25):=⟨_,rfl⟩
 have g0:Hid (w.grownBy w0 none):=by show w.grownBy w0 none;rw [hw0];exact jab _ _
 have hb0:=heap_alloc_new w (.cells #[.string op,.string nam,.slice ia il ic,.string out,.slice ao al cap] 25);rw [← hw0] at hb0;have BX:Hid (∀ wx,w0.grownBy wx none→wx.heap[w.heap.size]?=some (.cells #[.string op,.string nam,.slice ia il ic,.string out,.slice ao al cap] 25 (0,0))):=fun wx hg=>jag hb0 hg;clear hb0 hn;simp only at hop;subst hop;have z2:(w.alloc (.cells #[.string ⟨#[71,97,116,104,101,114]⟩,.string nam,.slice ia il ic,.string out,.slice ao al cap] 25)).cell? ⟨b,off+1,none⟩=some (.int .i64 T):=jae Z1.out (jab _ _);have y2:(w.alloc (.cells #[.string ⟨#[71,97,116,104,101,114]⟩,.string nam,.slice ia il ic,.string out,.slice ao al cap] 25)).cell? ⟨b,off+3+1,none⟩=some (.int .i64 U):=by have h:=jae Y1.out (jab w (.cells #[.string ⟨#[71,97,116,104,101,114]⟩,.string nam,.slice ia il ic,.string out,.slice ao al cap] 25));rw [Nat.one_mul] at h;exact h
 cases h1:(U==6) with
 | true =>
  go_enter Tryz.func74,Tryz.ntmps74;go_wp2_with (first | (go_at_call 71;refine (jaq _).mono ?_;rintro e w' ⟨rfl,rfl⟩) | fail);go_ret;exact jap (by rfl) (by rw [← hw0];exact g0.out) rfl
 | false =>
  cases h2:(U==7) with
  | true =>
   go_enter Tryz.func74,Tryz.ntmps74;go_wp2_with (first | (go_at_call 71;refine (jaq _).mono ?_;rintro e w' ⟨rfl,rfl⟩) | fail);go_ret;exact jap (by rfl) (by rw [← hw0];exact g0.out) rfl
  | false =>
   go_enter Tryz.func74,Tryz.ntmps74;go_wp2_with (first | (go_at_call 71;refine (jav _).mono ?_;rintro e w' ⟨rfl,rfl⟩) | fail);exact ⟨rfl,jai (by rfl) (by rw [← hw0];exact g0.out)⟩
theorem joP (n:Nod) (A:At) (u:Sl) (w:World) (hop:n.op=⟨#[67,97,115,116]⟩) (hn:NodeOk w n A):Calls Tryz.prog 74 #[jaz n,.slice u.a u.n u.c] w (jaJ w ((jiJ (jbA (A.int ⟨#[116,111]⟩ 0))).bind (fun _=>.ok (jbA (A.int ⟨#[116,111]⟩ 0)))) fun t v _=>v=.int .i64 t):=by
 obtain ⟨ua,un,uc⟩:=u;simp only;have NK:=jac hn;obtain ⟨op,nam,⟨ia,il,ic⟩,out,⟨ao,al,cap⟩⟩:=n;unfold jaz;simp only;obtain ⟨w0,hw0⟩ : ∃ w0,w0=w.alloc (.cells #[.string op,.string nam,.slice ia il ic,.string out,.slice ao al cap] 25):=⟨_,rfl⟩
 have g0:Hid (w.grownBy w0 none):=by show w.grownBy w0 none;rw [hw0];exact jab _ _
 have hb0:=heap_alloc_new w (.cells #[.string op,.string nam,.slice ia il ic,.string out,.slice ao al cap] 25);rw [← hw0] at hb0;have BX:Hid (∀ wx,w0.grownBy wx none→wx.heap[w.heap.size]?=some (.cells #[.string op,.string nam,.slice ia il ic,.string out,.slice ao al cap] 25 (0,0))):=fun wx hg=>jag hb0 hg;clear hb0 hn;simp only at hop;subst hop;have I0:=jac (jb2 ⟨⟨#[67,97,115,116]⟩,nam,⟨ia,il,ic⟩,out,⟨ao,al,cap⟩⟩ A ⟨#[116,111]⟩ 0 w0 (NK.out.more g0.out));unfold jaz at I0;simp only at I0;obtain ⟨z,hz⟩ : ∃ z,z=A.int ⟨#[116,111]⟩ 0:=⟨_,rfl⟩
 rw [← hz] at I0 ⊢;have WH:=jac (fun wx=>whole_any z wx);have TY:=jac (fun wx=>jns (jbA z) wx);obtain ⟨y,hy⟩ : ∃ y,y=jbA z:=⟨_,rfl⟩
 rw [← hy] at WH TY ⊢;clear hz hy;go_enter Tryz.func74,Tryz.ntmps74;go_wp2_with fail;rw [← hw0];clear hw0;refine I0.out.mono ?_;rintro e w1 ⟨rfl,hg1⟩
 cases hk:jiJ y with
 | error c =>
  rw [hk] at TY;have HK:=jac hk;clear hk;go_wp2_with (first | (go_at_call 103;refine (WH.out _).mono ?_;rintro e w' ⟨rfl,rfl⟩) | (go_at_call 72;refine (TY.out _).mono ?_;rintro e w' ⟨hg,rfl⟩) | fail);exact ⟨rfl,jai (by rw [HK.out];rfl) (jaa (jaa g0.out hg1) hg)⟩
 | ok t =>
  rw [hk] at TY;have HK:=jac hk;clear hk;go_wp2_with (first | (go_at_call 103;refine (WH.out _).mono ?_;rintro e w' ⟨rfl,rfl⟩) | (go_at_call 72;refine (TY.out _).mono ?_;rintro e w' ⟨-,v,rfl,rfl,rfl⟩) | fail);go_ret;exact jap (by rw [HK.out];rfl) (jaa g0.out hg1) rfl
theorem jh8 (n:Nod) (A:At) (u:Sl) (w:World) (hop:n.op=⟨#[67,111,110,115,116,97,110,116]⟩) (hn:NodeOk w n A):Calls Tryz.prog 74 #[jaz n,.slice u.a u.n u.c] w (jaJ w (.ok (jfv A).ty) fun t v _=>v=.int .i64 t):=by
 obtain ⟨ua,un,uc⟩:=u;simp only;have NK:=jac hn;obtain ⟨op,nam,⟨ia,il,ic⟩,out,⟨ao,al,cap⟩⟩:=n;unfold jaz;simp only;obtain ⟨w0,hw0⟩ : ∃ w0,w0=w.alloc (.cells #[.string op,.string nam,.slice ia il ic,.string out,.slice ao al cap] 25):=⟨_,rfl⟩
 have g0:Hid (w.grownBy w0 none):=by show w.grownBy w0 none;rw [hw0];exact jab _ _
 have hb0:=heap_alloc_new w (.cells #[.string op,.string nam,.slice ia il ic,.string out,.slice ao al cap] 25);rw [← hw0] at hb0;have BX:Hid (∀ wx,w0.grownBy wx none→wx.heap[w.heap.size]?=some (.cells #[.string op,.string nam,.slice ia il ic,.string out,.slice ao al cap] 25 (0,0))):=fun wx hg=>jag hb0 hg;clear hb0 hn;simp only at hop;subst hop;have V0:=jac (jeN ⟨⟨#[67,111,110,115,116,97,110,116]⟩,nam,⟨ia,il,ic⟩,out,⟨ao,al,cap⟩⟩ A w0 (NK.out.more g0.out));unfold jaz at V0;simp only at V0;have hfl:=jmi;go_enter Tryz.func74,Tryz.ntmps74;go_wp2_with fail;rw [← hw0];clear hw0;refine V0.out.mono ?_;rintro e w1 ⟨rfl,hg1⟩;go_wp2;go_ret;exact ⟨jaa g0.out hg1,_,rfl,rfl⟩
theorem jmk (n:Nod) (A:At) (u:Sl) (vs:List (Val×List Int)) (w:World) (hop:n.op=⟨#[69,113,117,97,108]⟩) (hn:NodeOk w n A) (hv:ValsIn w u.v vs) (hl:vs.length=2) (hf:vs.length≤1000000) (ht:∀ s∈jaD vs,jao s=true):Calls Tryz.prog 74 #[jaz n,.slice u.a u.n u.c] w (jaJ w ((jaO (jaD vs)).bind (fun t=>(jal (jbn [69,113,117,97,108] t)).bind (fun _=>.ok (9:Int)))) fun t v _=>v=.int .i64 t):=by
 obtain ⟨xa,xc,e1,p1,p2,p3⟩:=hv.vals.form;rw [List.length_map] at e1 p1 p3;obtain ⟨ua,un,uc⟩:=u;simp only [Sl.v,Value.slice.injEq] at e1;obtain ⟨rfl,rfl,rfl⟩:=e1;have HV:=jac hv;have HT:=jac ht;have hp:0<vs.length:=by omega
 clear hv ht hl;have NK:=jac hn;obtain ⟨op,nam,⟨ia,il,ic⟩,out,⟨ao,al,cap⟩⟩:=n;unfold jaz;simp only;obtain ⟨w0,hw0⟩ : ∃ w0,w0=w.alloc (.cells #[.string op,.string nam,.slice ia il ic,.string out,.slice ao al cap] 25):=⟨_,rfl⟩
 have g0:Hid (w.grownBy w0 none):=by show w.grownBy w0 none;rw [hw0];exact jab _ _
 have hb0:=heap_alloc_new w (.cells #[.string op,.string nam,.slice ia il ic,.string out,.slice ao al cap] 25);rw [← hw0] at hb0;have BX:Hid (∀ wx,w0.grownBy wx none→wx.heap[w.heap.size]?=some (.cells #[.string op,.string nam,.slice ia il ic,.string out,.slice ao al cap] 25 (0,0))):=fun wx hg=>jag hb0 hg;clear hb0 hn;simp only at hop;subst hop;have SM:=jac (fun (wx:World) (hg:w0.grownBy wx none)=>jbt ⟨ua,vs.length,uc⟩ vs wx (HV.out.more (jaa g0.out hg)) hp hf);simp only at SM;obtain ⟨n0,n1,n2,n3,n4⟩:=jak (n:=⟨⟨#[69,113,117,97,108]⟩,nam,⟨ia,il,ic⟩,out,⟨ao,al,cap⟩⟩) (BX.out w0 (jad _));simp only at n0;clear n1 n2 n3 n4;go_enter Tryz.func74,Tryz.ntmps74;go_wp2_with fail;rw [← hw0];clear hw0
 cases hk:jaO (vs.map (·.1.ty)) with
 | error c =>
  rw [hk] at SM;have E:Hid ((jaO (jaD vs)).bind (fun t=>(jal (jbn [69,113,117,97,108] t)).bind (fun _=>.ok (9:Int)))=.error c):=by show _=_;unfold jaD;rw [hk];rfl
  clear hk;refine wp_region_held_drew (S:=(fun w'=>w'.cell? ⟨w.heap.size,0,none⟩=some (.string ⟨#[69,113,117,97,108]⟩))) (by kernel_rfl) (by go_keep) (fun hHeld=>?_);refine tkA 0 ?_
  try simp only [Act.put]
  refine tkA 1 ?_
  try simp only [Act.put]
  refine tkA 2 ?_
  try simp only [Act.put]
  refine wpAnyH_ready (rs:=[3]) (by kernel_rfl) (by simp) ?_;refine AllReadyH.cons rfl (fun K hK=>?_) ?_
  ·skip
   go_simp;refine (SM.out _ (jaf (jad _))).mono ?_;rintro e wy ⟨hg,rfl⟩;exact ⟨rfl,jai E.out (jaa (jaf g0.out) hg)⟩
  exact AllReadyH.nil
 | ok t =>
  have htt:=jdI hk (by simpa using hp) HT.out;rw [hk] at SM;have E:Hid ((jaO (jaD vs)).bind (fun t=>(jal (jbn [69,113,117,97,108] t)).bind (fun _=>.ok (9:Int)))=(jal (jbn [69,113,117,97,108] t)).bind (fun _=>.ok (9:Int))):=by show _=_;unfold jaD;rw [hk];rfl
  clear hk;have BL:(⟨#[69,113,117,97,108]⟩ : ByteArray).toList=[69,113,117,97,108]:=jaj _;have MU:=jac (fun wx=>jdd ⟨#[69,113,117,97,108]⟩ t (by rw [BL];decide) htt wx);rw [BL] at MU;clear BL
  cases h1:jbn [69,113,117,97,108] t with
  | true =>
   rw [h1] at MU;have E2:Hid ((jaO (jaD vs)).bind (fun t=>(jal (jbn [69,113,117,97,108] t)).bind (fun _=>.ok (9:Int)))=.ok 9):=by show _=_;rw [E.out,h1];rfl
   clear h1;refine wp_region_held_drew (S:=(fun w'=>w'.cell? ⟨w.heap.size,0,none⟩=some (.string ⟨#[69,113,117,97,108]⟩))) (by kernel_rfl) (by go_keep) (fun hHeld=>?_);refine tkA 0 ?_
   try simp only [Act.put]
   refine tkA 1 ?_
   try simp only [Act.put]
   refine tkA 2 ?_
   try simp only [Act.put]
   refine wpAnyH_ready (rs:=[3]) (by kernel_rfl) (by simp) ?_;refine AllReadyH.cons rfl (fun K hK=>?_) ?_
   ·skip
    go_simp;refine (SM.out _ (jaf (jad _))).mono ?_;rintro e w2 ⟨hg2,v,rfl,rfl⟩;have g2:=jaa (jaf (jad w0)) hg2;obtain ⟨n0,n1,n2,n3,n4⟩:=jak (n:=⟨⟨#[69,113,117,97,108]⟩,nam,⟨ia,il,ic⟩,out,⟨ao,al,cap⟩⟩) (BX.out w2 g2);clear n1 n2 n3 n4
    try dsimp only
    refine hK.out _ _ (by first | assumption | go_keep) (fun hHeld=>?_);clear hK K
    try simp only [Act.put]
    refine wpAnyH_ready (rs:=[4]) (by kernel_rfl) (by simp) ?_;refine AllReadyH.cons rfl (fun K hK=>?_) ?_
    ·skip
     go_simp;refine (MU.out _).mono ?_;rintro e w3 ⟨hg3,v,rfl,rfl⟩;have g3:=jaa g2 hg3;obtain ⟨n0,n1,n2,n3,n4⟩:=jak (n:=⟨⟨#[69,113,117,97,108]⟩,nam,⟨ia,il,ic⟩,out,⟨ao,al,cap⟩⟩) (BX.out w3 g3);clear n1 n2 n3 n4
     try dsimp only
     refine hK.out _ _ (by first | assumption | go_keep) (fun hHeld=>?_);clear hK K
     try simp only [Act.put]
     refine wpAnyH_done (by kernel_rfl) ?_ _
     try go_simp
     go_wp2;go_ret;exact jap E2.out (jaa g0.out g3) rfl
    exact AllReadyH.nil
   exact AllReadyH.nil
  | false =>
   rw [h1] at MU;have E2:Hid ((jaO (jaD vs)).bind (fun t=>(jal (jbn [69,113,117,97,108] t)).bind (fun _=>.ok (9:Int)))=.error 4):=by show _=_;rw [E.out,h1];rfl
   clear h1;refine wp_region_held_drew (S:=(fun w'=>w'.cell? ⟨w.heap.size,0,none⟩=some (.string ⟨#[69,113,117,97,108]⟩))) (by kernel_rfl) (by go_keep) (fun hHeld=>?_);refine tkA 0 ?_
   try simp only [Act.put]
   refine tkA 1 ?_
   try simp only [Act.put]
   refine tkA 2 ?_
   try simp only [Act.put]
   refine wpAnyH_ready (rs:=[3]) (by kernel_rfl) (by simp) ?_;refine AllReadyH.cons rfl (fun K hK=>?_) ?_
   ·skip
    go_simp;refine (SM.out _ (jaf (jad _))).mono ?_;rintro e w2 ⟨hg2,v,rfl,rfl⟩;have g2:=jaa (jaf (jad w0)) hg2;obtain ⟨n0,n1,n2,n3,n4⟩:=jak (n:=⟨⟨#[69,113,117,97,108]⟩,nam,⟨ia,il,ic⟩,out,⟨ao,al,cap⟩⟩) (BX.out w2 g2);clear n1 n2 n3 n4
    try dsimp only
    refine hK.out _ _ (by first | assumption | go_keep) (fun hHeld=>?_);clear hK K
    try simp only [Act.put]
    refine wpAnyH_ready (rs:=[4]) (by kernel_rfl) (by simp) ?_;refine AllReadyH.cons rfl (fun K hK=>?_) ?_
    ·skip
     go_simp;refine (MU.out _).mono ?_;rintro e wy ⟨hg,rfl⟩;exact ⟨rfl,jai E2.out (jaa (jaa g0.out g2) hg)⟩
    exact AllReadyH.nil
   exact AllReadyH.nil
theorem joQ (n:Nod) (A:At) (u:Sl) (vs:List (Val×List Int)) (w:World) (hop:n.op=⟨#[76,101,115,115]⟩) (hn:NodeOk w n A) (hv:ValsIn w u.v vs) (hl:vs.length=2) (hf:vs.length≤1000000) (ht:∀ s∈jaD vs,jao s=true):Calls Tryz.prog 74 #[jaz n,.slice u.a u.n u.c] w (jaJ w ((jaO (jaD vs)).bind (fun t=>(jal (jbn [76,101,115,115] t)).bind (fun _=>.ok (9:Int)))) fun t v _=>v=.int .i64 t):=by
 obtain ⟨xa,xc,e1,p1,p2,p3⟩:=hv.vals.form;rw [List.length_map] at e1 p1 p3;obtain ⟨ua,un,uc⟩:=u;simp only [Sl.v,Value.slice.injEq] at e1;obtain ⟨rfl,rfl,rfl⟩:=e1;have HV:=jac hv;have HT:=jac ht;have hp:0<vs.length:=by omega
 clear hv ht hl;have NK:=jac hn;obtain ⟨op,nam,⟨ia,il,ic⟩,out,⟨ao,al,cap⟩⟩:=n;unfold jaz;simp only;obtain ⟨w0,hw0⟩ : ∃ w0,w0=w.alloc (.cells #[.string op,.string nam,.slice ia il ic,.string out,.slice ao al cap] 25):=⟨_,rfl⟩
 have g0:Hid (w.grownBy w0 none):=by show w.grownBy w0 none;rw [hw0];exact jab _ _
 have hb0:=heap_alloc_new w (.cells #[.string op,.string nam,.slice ia il ic,.string out,.slice ao al cap] 25);rw [← hw0] at hb0;have BX:Hid (∀ wx,w0.grownBy wx none→wx.heap[w.heap.size]?=some (.cells #[.string op,.string nam,.slice ia il ic,.string out,.slice ao al cap] 25 (0,0))):=fun wx hg=>jag hb0 hg;clear hb0 hn;simp only at hop;subst hop;have SM:=jac (fun (wx:World) (hg:w0.grownBy wx none)=>jbt ⟨ua,vs.length,uc⟩ vs wx (HV.out.more (jaa g0.out hg)) hp hf);simp only at SM;obtain ⟨n0,n1,n2,n3,n4⟩:=jak (n:=⟨⟨#[76,101,115,115]⟩,nam,⟨ia,il,ic⟩,out,⟨ao,al,cap⟩⟩) (BX.out w0 (jad _));simp only at n0;clear n1 n2 n3 n4;go_enter Tryz.func74,Tryz.ntmps74;go_wp2_with fail;rw [← hw0];clear hw0
 cases hk:jaO (vs.map (·.1.ty)) with
 | error c =>
  rw [hk] at SM;have E:Hid ((jaO (jaD vs)).bind (fun t=>(jal (jbn [76,101,115,115] t)).bind (fun _=>.ok (9:Int)))=.error c):=by show _=_;unfold jaD;rw [hk];rfl
  clear hk;refine wp_region_held_drew (S:=(fun w'=>w'.cell? ⟨w.heap.size,0,none⟩=some (.string ⟨#[76,101,115,115]⟩))) (by kernel_rfl) (by go_keep) (fun hHeld=>?_);refine tkA 0 ?_
  try simp only [Act.put]
  refine tkA 1 ?_
  try simp only [Act.put]
  refine tkA 2 ?_
  try simp only [Act.put]
  refine wpAnyH_ready (rs:=[3]) (by kernel_rfl) (by simp) ?_;refine AllReadyH.cons rfl (fun K hK=>?_) ?_
  ·skip
   go_simp;refine (SM.out _ (jaf (jad _))).mono ?_;rintro e wy ⟨hg,rfl⟩;exact ⟨rfl,jai E.out (jaa (jaf g0.out) hg)⟩
  exact AllReadyH.nil
 | ok t =>
  have htt:=jdI hk (by simpa using hp) HT.out;rw [hk] at SM;have E:Hid ((jaO (jaD vs)).bind (fun t=>(jal (jbn [76,101,115,115] t)).bind (fun _=>.ok (9:Int)))=(jal (jbn [76,101,115,115] t)).bind (fun _=>.ok (9:Int))):=by show _=_;unfold jaD;rw [hk];rfl
  clear hk;have BL:(⟨#[76,101,115,115]⟩ : ByteArray).toList=[76,101,115,115]:=jaj _;have MU:=jac (fun wx=>jdd ⟨#[76,101,115,115]⟩ t (by rw [BL];decide) htt wx);rw [BL] at MU;clear BL
  cases h1:jbn [76,101,115,115] t with
  | true =>
   rw [h1] at MU;have E2:Hid ((jaO (jaD vs)).bind (fun t=>(jal (jbn [76,101,115,115] t)).bind (fun _=>.ok (9:Int)))=.ok 9):=by show _=_;rw [E.out,h1];rfl
   clear h1;refine wp_region_held_drew (S:=(fun w'=>w'.cell? ⟨w.heap.size,0,none⟩=some (.string ⟨#[76,101,115,115]⟩))) (by kernel_rfl) (by go_keep) (fun hHeld=>?_);refine tkA 0 ?_
   try simp only [Act.put]
   refine tkA 1 ?_
   try simp only [Act.put]
   refine tkA 2 ?_
   try simp only [Act.put]
   refine wpAnyH_ready (rs:=[3]) (by kernel_rfl) (by simp) ?_;refine AllReadyH.cons rfl (fun K hK=>?_) ?_
   ·skip
    go_simp;refine (SM.out _ (jaf (jad _))).mono ?_;rintro e w2 ⟨hg2,v,rfl,rfl⟩;have g2:=jaa (jaf (jad w0)) hg2;obtain ⟨n0,n1,n2,n3,n4⟩:=jak (n:=⟨⟨#[76,101,115,115]⟩,nam,⟨ia,il,ic⟩,out,⟨ao,al,cap⟩⟩) (BX.out w2 g2);clear n1 n2 n3 n4
    try dsimp only
    refine hK.out _ _ (by first | assumption | go_keep) (fun hHeld=>?_);clear hK K
    try simp only [Act.put]
    refine wpAnyH_ready (rs:=[4]) (by kernel_rfl) (by simp) ?_;refine AllReadyH.cons rfl (fun K hK=>?_) ?_
    ·skip
     go_simp;refine (MU.out _).mono ?_;rintro e w3 ⟨hg3,v,rfl,rfl⟩;have g3:=jaa g2 hg3;obtain ⟨n0,n1,n2,n3,n4⟩:=jak (n:=⟨⟨#[76,101,115,115]⟩,nam,⟨ia,il,ic⟩,out,⟨ao,al,cap⟩⟩) (BX.out w3 g3);clear n1 n2 n3 n4
     try dsimp only
     refine hK.out _ _ (by first | assumption | go_keep) (fun hHeld=>?_);clear hK K
     try simp only [Act.put]
     refine wpAnyH_done (by kernel_rfl) ?_ _
     try go_simp
     go_wp2;go_ret;exact jap E2.out (jaa g0.out g3) rfl
    exact AllReadyH.nil
   exact AllReadyH.nil
  | false =>
   rw [h1] at MU;have E2:Hid ((jaO (jaD vs)).bind (fun t=>(jal (jbn [76,101,115,115] t)).bind (fun _=>.ok (9:Int)))=.error 4):=by show _=_;rw [E.out,h1];rfl
   clear h1;refine wp_region_held_drew (S:=(fun w'=>w'.cell? ⟨w.heap.size,0,none⟩=some (.string ⟨#[76,101,115,115]⟩))) (by kernel_rfl) (by go_keep) (fun hHeld=>?_);refine tkA 0 ?_
   try simp only [Act.put]
   refine tkA 1 ?_
   try simp only [Act.put]
   refine tkA 2 ?_
   try simp only [Act.put]
   refine wpAnyH_ready (rs:=[3]) (by kernel_rfl) (by simp) ?_;refine AllReadyH.cons rfl (fun K hK=>?_) ?_
   ·skip
    go_simp;refine (SM.out _ (jaf (jad _))).mono ?_;rintro e w2 ⟨hg2,v,rfl,rfl⟩;have g2:=jaa (jaf (jad w0)) hg2;obtain ⟨n0,n1,n2,n3,n4⟩:=jak (n:=⟨⟨#[76,101,115,115]⟩,nam,⟨ia,il,ic⟩,out,⟨ao,al,cap⟩⟩) (BX.out w2 g2);clear n1 n2 n3 n4
    try dsimp only
    refine hK.out _ _ (by first | assumption | go_keep) (fun hHeld=>?_);clear hK K
    try simp only [Act.put]
    refine wpAnyH_ready (rs:=[4]) (by kernel_rfl) (by simp) ?_;refine AllReadyH.cons rfl (fun K hK=>?_) ?_
    ·skip
     go_simp;refine (MU.out _).mono ?_;rintro e wy ⟨hg,rfl⟩;exact ⟨rfl,jai E2.out (jaa (jaa g0.out g2) hg)⟩
    exact AllReadyH.nil
   exact AllReadyH.nil
theorem ji3 (n:Nod) (A:At) (u:Sl) (vs:List (Val×List Int)) (w:World) (hop:n.op=⟨#[71,114,101,97,116,101,114]⟩) (hn:NodeOk w n A) (hv:ValsIn w u.v vs) (hl:vs.length=2) (hf:vs.length≤1000000) (ht:∀ s∈jaD vs,jao s=true):Calls Tryz.prog 74 #[jaz n,.slice u.a u.n u.c] w (jaJ w ((jaO (jaD vs)).bind (fun t=>(jal (jbn [71,114,101,97,116,101,114] t)).bind (fun _=>.ok (9:Int)))) fun t v _=>v=.int .i64 t):=by
 obtain ⟨xa,xc,e1,p1,p2,p3⟩:=hv.vals.form;rw [List.length_map] at e1 p1 p3;obtain ⟨ua,un,uc⟩:=u;simp only [Sl.v,Value.slice.injEq] at e1;obtain ⟨rfl,rfl,rfl⟩:=e1;have HV:=jac hv;have HT:=jac ht;have hp:0<vs.length:=by omega
 clear hv ht hl;have NK:=jac hn;obtain ⟨op,nam,⟨ia,il,ic⟩,out,⟨ao,al,cap⟩⟩:=n;unfold jaz;simp only;obtain ⟨w0,hw0⟩ : ∃ w0,w0=w.alloc (.cells #[.string op,.string nam,.slice ia il ic,.string out,.slice ao al cap] 25):=⟨_,rfl⟩
 have g0:Hid (w.grownBy w0 none):=by show w.grownBy w0 none;rw [hw0];exact jab _ _
 have hb0:=heap_alloc_new w (.cells #[.string op,.string nam,.slice ia il ic,.string out,.slice ao al cap] 25);rw [← hw0] at hb0;have BX:Hid (∀ wx,w0.grownBy wx none→wx.heap[w.heap.size]?=some (.cells #[.string op,.string nam,.slice ia il ic,.string out,.slice ao al cap] 25 (0,0))):=fun wx hg=>jag hb0 hg;clear hb0 hn;simp only at hop;subst hop;have SM:=jac (fun (wx:World) (hg:w0.grownBy wx none)=>jbt ⟨ua,vs.length,uc⟩ vs wx (HV.out.more (jaa g0.out hg)) hp hf);simp only at SM;obtain ⟨n0,n1,n2,n3,n4⟩:=jak (n:=⟨⟨#[71,114,101,97,116,101,114]⟩,nam,⟨ia,il,ic⟩,out,⟨ao,al,cap⟩⟩) (BX.out w0 (jad _));simp only at n0;clear n1 n2 n3 n4;go_enter Tryz.func74,Tryz.ntmps74;go_wp2_with fail;rw [← hw0];clear hw0
 cases hk:jaO (vs.map (·.1.ty)) with
 | error c =>
  rw [hk] at SM;have E:Hid ((jaO (jaD vs)).bind (fun t=>(jal (jbn [71,114,101,97,116,101,114] t)).bind (fun _=>.ok (9:Int)))=.error c):=by show _=_;unfold jaD;rw [hk];rfl
  clear hk;refine wp_region_held_drew (S:=(fun w'=>w'.cell? ⟨w.heap.size,0,none⟩=some (.string ⟨#[71,114,101,97,116,101,114]⟩))) (by kernel_rfl) (by go_keep) (fun hHeld=>?_);refine tkA 0 ?_
  try simp only [Act.put]
  refine tkA 1 ?_
  try simp only [Act.put]
  refine tkA 2 ?_
  try simp only [Act.put]
  refine wpAnyH_ready (rs:=[3]) (by kernel_rfl) (by simp) ?_;refine AllReadyH.cons rfl (fun K hK=>?_) ?_
  ·skip
   go_simp;refine (SM.out _ (jaf (jad _))).mono ?_;rintro e wy ⟨hg,rfl⟩;exact ⟨rfl,jai E.out (jaa (jaf g0.out) hg)⟩
  exact AllReadyH.nil
 | ok t =>
  have htt:=jdI hk (by simpa using hp) HT.out;rw [hk] at SM;have E:Hid ((jaO (jaD vs)).bind (fun t=>(jal (jbn [71,114,101,97,116,101,114] t)).bind (fun _=>.ok (9:Int)))=(jal (jbn [71,114,101,97,116,101,114] t)).bind (fun _=>.ok (9:Int))):=by show _=_;unfold jaD;rw [hk];rfl
  clear hk;have BL:(⟨#[71,114,101,97,116,101,114]⟩ : ByteArray).toList=[71,114,101,97,116,101,114]:=jaj _;have MU:=jac (fun wx=>jdd ⟨#[71,114,101,97,116,101,114]⟩ t (by rw [BL];decide) htt wx);rw [BL] at MU;clear BL
  cases h1:jbn [71,114,101,97,116,101,114] t with
  | true =>
   rw [h1] at MU;have E2:Hid ((jaO (jaD vs)).bind (fun t=>(jal (jbn [71,114,101,97,116,101,114] t)).bind (fun _=>.ok (9:Int)))=.ok 9):=by show _=_;rw [E.out,h1];rfl
   clear h1;refine wp_region_held_drew (S:=(fun w'=>w'.cell? ⟨w.heap.size,0,none⟩=some (.string ⟨#[71,114,101,97,116,101,114]⟩))) (by kernel_rfl) (by go_keep) (fun hHeld=>?_);refine tkA 0 ?_
   try simp only [Act.put]
   refine tkA 1 ?_
   try simp only [Act.put]
   refine tkA 2 ?_
   try simp only [Act.put]
   refine wpAnyH_ready (rs:=[3]) (by kernel_rfl) (by simp) ?_;refine AllReadyH.cons rfl (fun K hK=>?_) ?_
   ·skip
    go_simp;refine (SM.out _ (jaf (jad _))).mono ?_;rintro e w2 ⟨hg2,v,rfl,rfl⟩;have g2:=jaa (jaf (jad w0)) hg2;obtain ⟨n0,n1,n2,n3,n4⟩:=jak (n:=⟨⟨#[71,114,101,97,116,101,114]⟩,nam,⟨ia,il,ic⟩,out,⟨ao,al,cap⟩⟩) (BX.out w2 g2);clear n1 n2 n3 n4
    try dsimp only
    refine hK.out _ _ (by first | assumption | go_keep) (fun hHeld=>?_);clear hK K
    try simp only [Act.put]
    refine wpAnyH_ready (rs:=[4]) (by kernel_rfl) (by simp) ?_;refine AllReadyH.cons rfl (fun K hK=>?_) ?_
    ·skip
     go_simp;refine (MU.out _).mono ?_;rintro e w3 ⟨hg3,v,rfl,rfl⟩;have g3:=jaa g2 hg3;obtain ⟨n0,n1,n2,n3,n4⟩:=jak (n:=⟨⟨#[71,114,101,97,116,101,114]⟩,nam,⟨ia,il,ic⟩,out,⟨ao,al,cap⟩⟩) (BX.out w3 g3);clear n1 n2 n3 n4
     try dsimp only
     refine hK.out _ _ (by first | assumption | go_keep) (fun hHeld=>?_);clear hK K
     try simp only [Act.put]
     refine wpAnyH_done (by kernel_rfl) ?_ _
     try go_simp
     go_wp2;go_ret;exact jap E2.out (jaa g0.out g3) rfl
    exact AllReadyH.nil
   exact AllReadyH.nil
  | false =>
   rw [h1] at MU;have E2:Hid ((jaO (jaD vs)).bind (fun t=>(jal (jbn [71,114,101,97,116,101,114] t)).bind (fun _=>.ok (9:Int)))=.error 4):=by show _=_;rw [E.out,h1];rfl
   clear h1;refine wp_region_held_drew (S:=(fun w'=>w'.cell? ⟨w.heap.size,0,none⟩=some (.string ⟨#[71,114,101,97,116,101,114]⟩))) (by kernel_rfl) (by go_keep) (fun hHeld=>?_);refine tkA 0 ?_
   try simp only [Act.put]
   refine tkA 1 ?_
   try simp only [Act.put]
   refine tkA 2 ?_
   try simp only [Act.put]
   refine wpAnyH_ready (rs:=[3]) (by kernel_rfl) (by simp) ?_;refine AllReadyH.cons rfl (fun K hK=>?_) ?_
   ·skip
    go_simp;refine (SM.out _ (jaf (jad _))).mono ?_;rintro e w2 ⟨hg2,v,rfl,rfl⟩;have g2:=jaa (jaf (jad w0)) hg2;obtain ⟨n0,n1,n2,n3,n4⟩:=jak (n:=⟨⟨#[71,114,101,97,116,101,114]⟩,nam,⟨ia,il,ic⟩,out,⟨ao,al,cap⟩⟩) (BX.out w2 g2);clear n1 n2 n3 n4
    try dsimp only
    refine hK.out _ _ (by first | assumption | go_keep) (fun hHeld=>?_);clear hK K
    try simp only [Act.put]
    refine wpAnyH_ready (rs:=[4]) (by kernel_rfl) (by simp) ?_;refine AllReadyH.cons rfl (fun K hK=>?_) ?_
    ·skip
     go_simp;refine (MU.out _).mono ?_;rintro e wy ⟨hg,rfl⟩;exact ⟨rfl,jai E2.out (jaa (jaa g0.out g2) hg)⟩
    exact AllReadyH.nil
   exact AllReadyH.nil
end Go.Proofs.YteigfipgmghgmaaGreatDoor
namespace Go.Proofs.YteigfipgmghgmaaGreatDoor
open Go.RowKit
def jfZ:Option Nat→Int
 | none => -1
 | some j=>j
def juK (x:List Int) (d:Int) (i:Nat) (left:Option Nat):R (Option Nat×Int):=if d = -1 then (if left=none then .ok (some i,1) else .error 4) else if d=0 then (if i<x.length then .ok (left,x.getD i 0) else .error 4) else .ok (left,d)
theorem jkk {x l:List Int} {count:Int} {k:Nat} (hk:k<l.length) (left:Option Nat) (known:Int) (acc:List Int):jbK x count (l.drop k) k left known acc=(juK x (l.getD k 0) k left).bind (fun q=>(jal (decide (1≤q.2∧q.2≤count))).bind (fun _=>(jal (decide (known*q.2≤count))).bind (fun _=>jbK x count (l.drop (k+1)) (k+1) q.1 (known*q.2) (acc++[q.2])))):=by
 rw [jba l k hk]
 rfl
def putL (left:Option Nat) (acc:List Int) (q:Int):List Int:=match left with
 | some j=>acc.set j q
 | none=>acc
def endS (count:Int) (q:Option Nat×Int×List Int):R (List Int):=(jal (decide (count % q.2.1=0∧(q.1≠none∨q.2.1=count)))).bind (fun _=>.ok (putL q.1 q.2.2 (count / q.2.1)))
theorem joR (left:Option Nat):(jfZ left<0)↔left=none:=by
 cases left <;> simp [jfZ] <;> omega
theorem ji4 (u v:Sl) (x l:List Int) (w:World) (hx:IsInts w u.v x) (hv:IsInts w v.v l) (hf:Fine x) (hll:l.length≤100000000):Calls Tryz.prog 111 #[.slice u.a u.n u.c,.slice v.a v.n v.c] w (jaJ w (jaS x l) jbd):=by
 obtain ⟨ux,uc,eu,c1,c2,c3⟩:=hx.sl;obtain ⟨ua,un,uu⟩:=u;simp only [Sl.v,Value.slice.injEq] at eu;obtain ⟨rfl,rfl,rfl⟩:=eu;obtain ⟨vx,vc,ev,d1,d2,d3⟩:=hv.sl;obtain ⟨va,vn,vv⟩:=v;simp only [Sl.v,Value.slice.injEq] at ev;obtain ⟨rfl,rfl,rfl⟩:=ev;have HX:=jac hx;have HV:=jac hv;have FEW:=hf.few;have CO:=jac (jce _ x w hx);have P1:jaX x=.ok (jaA x):=by unfold jaX;rw [if_pos hf.ok]
 rw [P1] at CO;have E0:Hid (jaS x l=(jbK x (jaA x) l 0 none 1 []).bind (endS (jaA x))):=by show _=_;unfold jaS;rw [P1];rfl
 have B1:=hf.le;have B2:=hf.prod_pos;obtain ⟨count,hcnt⟩ : ∃ c,c=jaA x:=⟨_,rfl⟩
 rw [← hcnt] at CO E0 B1 B2;clear hx hf hv P1 hcnt;simp only at CO ⊢;go_enter Tryz.func111,Tryz.ntmps111;go_wp2_with (first | (go_at_call 73;refine CO.out.mono ?_;rintro e w' ⟨-,v,rfl,rfl,rfl⟩) | fail);clear CO;go_loopw [6,7,8,15] (fun lf kn s i wr=>∃ (k:Nat) (left:Option Nat) (known:Int) (acc:List Int) (u:Sl),k≤l.length∧i=.int .i64 k∧lf=.int .i64 (jfZ left)∧kn=.int .i64 known∧s=.slice u.a u.n u.c∧Owns wr w.heap.size u.v acc∧acc.length=k∧(∀ j,left=some j→j<k)∧(1≤known∧known≤count)∧jbK x count (l.drop k) k left known acc=jbK x count l 0 none 1 []∧w.grownBy wr none) (fun _ _ _ i _=>l.length - (intOf i).toNat)
 case atStart=>exact ⟨0,none,1,[],⟨none,0,0⟩,Nat.zero_le _,rfl,rfl,rfl,rfl,jbp _ _,rfl,(fun j h=>by cases h),by omega,by rw [List.drop_zero],jad _⟩
 case round =>
  obtain ⟨k,left,known,acc,⟨qa,qn,qc⟩,hk,rfl,rfl,rfl,rfl,ho,hal,hlf,⟨hk1,hk2⟩,hst,hg⟩:=hrel;simp only;have HO1:=jac ho;have HG:=jac hg;have HLF:=jac hlf;have HAL:=jac hal;have hsz:=hg.size;clear hlf hal ho
  by_cases hkl:k<l.length
  ·obtain ⟨b,off,rfl,hc⟩:=HV.out.get hkl;have hcell:wr.cell? ⟨b,off+k,none⟩=some (.int .i64 (l.getD k 0)):=jae (hc k hkl) hg;have hwf:=HV.out.wf (l.getD k 0) (by simp [List.getD,hkl]);rw [jkk hkl] at hst;obtain ⟨d,hd0⟩ : ∃ d,d=l.getD k 0:=⟨_,rfl⟩
   rw [← hd0] at hcell hst hwf;clear hc hd0;have hab:((acc.length:Int)+1)*8≤140737488351232:=by have:=HAL.out;omega
   by_cases hm:d = -1
   ·subst hm
    by_cases hlf:left=none
    ·subst hlf;simp only [jfZ];have hst2:(jal (decide (1≤(1:Int)∧1≤count))).bind (fun _=>(jal (decide (known*1≤count))).bind (fun _=>jbK x count (l.drop (k+1)) (k+1) (some k) (known*1) (acc++[1])))=jbK x count l 0 none 1 []:=by rw [← hst];rfl
     clear hst hg
     by_cases h1:1≤(1:Int)
     ·by_cases h2:(1:Int)≤count
      ·obtain ⟨P,hP⟩ : ∃ P,P=known*(1:Int):=⟨_,rfl⟩
       have hP1:1≤P:=by rw [hP];have:=Int.mul_le_mul hk1 h1 (by omega) (by omega);omega
       have hPm:P≤65536*65536:=by rw [hP];exact Int.mul_le_mul (by omega) (by omega) (by omega) (by omega)
       rw [← hP] at hst2;have hPx:known*(1:Int)=P:=hP.symm;clear hP
       by_cases h3:P≤count
       ·have HST:Hid (jbK x count (l.drop (k+1)) (k+1) (some k) P (acc++[(1:Int)])=jbK x count l 0 none 1 []):=by show _=_;rw [← hst2];simp [jal,h2,h3];rfl
        clear hst2;go_wp2_with (first | (go_at_call 71;refine (jaq _).mono ?_;rintro e w' ⟨rfl,rfl⟩) | (at_builtin;refine jbm rfl (.tmp 53) (.tmp 55) rfl w.heap.size _ _ rfl HO1.out (1:Int) rfl (by omega) (by omega) (by omega) ?_;intro v' w4 hown hgrow) | fail);obtain ⟨⟨xa,xn,xc⟩,rfl⟩:=hown.sl;have HO2:=jac hown;have HG2:=jac (hgrow w (Nat.le_refl _) HG.out);clear hown hgrow;go_roundw
        case rel=>exact ⟨k+1,(some k),P,_,⟨xa,xn,xc⟩,by omega,by go_num,by first | rfl | simp [jfZ],rfl,rfl,HO2.out,by have:=HAL.out;simp;omega,(fun j h=>by cases h;omega),⟨hP1,h3⟩,HST.out,HG2.out⟩
        case measure=>simp [intOf];omega
       ·have E3:Hid (jaS x l=.error 4):=by show _=_;rw [E0.out,← hst2];simp [jal,h2,h3];rfl
        have b3:decide (P≤count)=false:=by simpa using h3
        clear hst2;go_wp2_with (first | (go_at_call 71;refine (jaq _).mono ?_;rintro e w' ⟨rfl,rfl⟩;have done1:True:=trivial) | (go_at_call 71;refine (jav _).mono ?_;rintro e w' ⟨rfl,rfl⟩) | fail);exact ⟨rfl,jai E3.out HG.out⟩
      ·exact absurd (by omega) h2
     ·exact absurd (by omega) h1
    ·have E3:Hid (jaS x l=.error 4):=by show _=_;rw [E0.out,← hst];simp [juK,hlf];rfl
     have hnn:¬ jfZ left<0:=fun h=>hlf ((joR left).1 h);have bnn:decide (jfZ left<0)=false:=by simpa using hnn
     clear hst;go_wp2_with (first | (go_at_call 71;refine (jav _).mono ?_;rintro e w' ⟨rfl,rfl⟩) | fail);exact ⟨rfl,jai E3.out HG.out⟩
   ·have bm:(d == -1)=false:=by simpa using hm
    by_cases hz:d=0
    ·subst hz
     by_cases hkx:k<x.length
     ·obtain ⟨b',off',rfl,hcx⟩:=HX.out.get hkx;have hcx2:wr.cell? ⟨b',off'+k,none⟩=some (.int .i64 (x.getD k 0)):=jae (hcx k hkx) hg;have hkx':(k:Int)<(x.length:Int):=by omega
      have hwfx:=HX.out.wf (x.getD k 0) (by simp [List.getD,hkx]);obtain ⟨y,hy⟩ : ∃ y,y=x.getD k 0:=⟨_,rfl⟩
      have hst2:(jal (decide (1≤y∧y≤count))).bind (fun _=>(jal (decide (known*y≤count))).bind (fun _=>jbK x count (l.drop (k+1)) (k+1) left (known*y) (acc++[y])))=jbK x count l 0 none 1 []:=by rw [← hst];simp only [juK,if_neg hm,if_pos,if_pos hkx];rw [← hy];rfl
      rw [← hy] at hcx2 hwfx;clear hcx hy;clear hst hg
      by_cases h1:1≤y
      ·by_cases h2:y≤count
       ·obtain ⟨P,hP⟩ : ∃ P,P=known*y:=⟨_,rfl⟩
        have hP1:1≤P:=by rw [hP];have:=Int.mul_le_mul hk1 h1 (by omega) (by omega);omega
        have hPm:P≤65536*65536:=by rw [hP];exact Int.mul_le_mul (by omega) (by omega) (by omega) (by omega)
        rw [← hP] at hst2;have hPx:known*y=P:=hP.symm;clear hP
        by_cases h3:P≤count
        ·have HST:Hid (jbK x count (l.drop (k+1)) (k+1) left P (acc++[y])=jbK x count l 0 none 1 []):=by show _=_;rw [← hst2];simp [jal,h1,h2,h3];rfl
         clear hst2;go_wp2_with (first | (go_at_call 71;refine (jaq _).mono ?_;rintro e w' ⟨rfl,rfl⟩) | (at_builtin;refine jbm rfl (.tmp 53) (.tmp 55) rfl w.heap.size _ _ rfl HO1.out y rfl (by omega) (by omega) (by omega) ?_;intro v' w4 hown hgrow) | fail);obtain ⟨⟨xa,xn,xc⟩,rfl⟩:=hown.sl;have HO2:=jac hown;have HG2:=jac (hgrow w (Nat.le_refl _) HG.out);clear hown hgrow;go_roundw
         case rel=>exact ⟨k+1,left,P,_,⟨xa,xn,xc⟩,by omega,by go_num,by first | rfl | simp [jfZ],rfl,rfl,HO2.out,by have:=HAL.out;simp;omega,(fun j h=>by have:=HLF.out j h;omega),⟨hP1,h3⟩,HST.out,HG2.out⟩
         case measure=>simp [intOf];omega
        ·have E3:Hid (jaS x l=.error 4):=by show _=_;rw [E0.out,← hst2];simp [jal,h1,h2,h3];rfl
         have b3:decide (P≤count)=false:=by simpa using h3
         clear hst2;go_wp2_with (first | (go_at_call 71;refine (jaq _).mono ?_;rintro e w' ⟨rfl,rfl⟩;have done1:True:=trivial) | (go_at_call 71;refine (jav _).mono ?_;rintro e w' ⟨rfl,rfl⟩) | fail);exact ⟨rfl,jai E3.out HG.out⟩
       ·have E3:Hid (jaS x l=.error 4):=by show _=_;rw [E0.out,← hst2];simp [jal,h2];rfl
        have b3:decide (y≤count)=false:=by simpa using h2
        clear hst2;go_wp2_with (first | (go_at_call 71;refine (jaq _).mono ?_;rintro e w' ⟨rfl,rfl⟩) | (go_at_call 71;refine (jav _).mono ?_;rintro e w' ⟨rfl,rfl⟩) | fail);exact ⟨rfl,jai E3.out HG.out⟩
      ·have E3:Hid (jaS x l=.error 4):=by show _=_;rw [E0.out,← hst2];simp [jal,h1];rfl
       have b3:decide (1≤y)=false:=by simpa using h1
       clear hst2;go_wp2_with (first | (go_at_call 71;refine (jaq _).mono ?_;rintro e w' ⟨rfl,rfl⟩) | (go_at_call 71;refine (jav _).mono ?_;rintro e w' ⟨rfl,rfl⟩) | fail);exact ⟨rfl,jai E3.out HG.out⟩
     ·have E3:Hid (jaS x l=.error 4):=by show _=_;rw [E0.out,← hst];simp [juK,hkx];rfl
      have bnn:decide ((k:Int)<(x.length:Int))=false:=by simpa using hkx
      clear hst;go_wp2_with (first | (go_at_call 71;refine (jav _).mono ?_;rintro e w' ⟨rfl,rfl⟩) | fail);exact ⟨rfl,jai E3.out HG.out⟩
    ·have bz:(d==0)=false:=by simpa using hz
     have hst2:(jal (decide (1≤d∧d≤count))).bind (fun _=>(jal (decide (known*d≤count))).bind (fun _=>jbK x count (l.drop (k+1)) (k+1) left (known*d) (acc++[d])))=jbK x count l 0 none 1 []:=by rw [← hst];simp only [juK,if_neg hm,if_neg hz];rfl
     clear hst hg
     by_cases h1:1≤d
     ·by_cases h2:d≤count
      ·obtain ⟨P,hP⟩ : ∃ P,P=known*d:=⟨_,rfl⟩
       have hP1:1≤P:=by rw [hP];have:=Int.mul_le_mul hk1 h1 (by omega) (by omega);omega
       have hPm:P≤65536*65536:=by rw [hP];exact Int.mul_le_mul (by omega) (by omega) (by omega) (by omega)
       rw [← hP] at hst2;have hPx:known*d=P:=hP.symm;clear hP
       by_cases h3:P≤count
       ·have HST:Hid (jbK x count (l.drop (k+1)) (k+1) left P (acc++[d])=jbK x count l 0 none 1 []):=by show _=_;rw [← hst2];simp [jal,h1,h2,h3];rfl
        clear hst2;go_wp2_with (first | (go_at_call 71;refine (jaq _).mono ?_;rintro e w' ⟨rfl,rfl⟩) | (at_builtin;refine jbm rfl (.tmp 53) (.tmp 55) rfl w.heap.size _ _ rfl HO1.out d rfl (by omega) (by omega) (by omega) ?_;intro v' w4 hown hgrow) | fail);obtain ⟨⟨xa,xn,xc⟩,rfl⟩:=hown.sl;have HO2:=jac hown;have HG2:=jac (hgrow w (Nat.le_refl _) HG.out);clear hown hgrow;go_roundw
        case rel=>exact ⟨k+1,left,P,_,⟨xa,xn,xc⟩,by omega,by go_num,by first | rfl | simp [jfZ],rfl,rfl,HO2.out,by have:=HAL.out;simp;omega,(fun j h=>by have:=HLF.out j h;omega),⟨hP1,h3⟩,HST.out,HG2.out⟩
        case measure=>simp [intOf];omega
       ·have E3:Hid (jaS x l=.error 4):=by show _=_;rw [E0.out,← hst2];simp [jal,h1,h2,h3];rfl
        have b3:decide (P≤count)=false:=by simpa using h3
        clear hst2;go_wp2_with (first | (go_at_call 71;refine (jaq _).mono ?_;rintro e w' ⟨rfl,rfl⟩;have done1:True:=trivial) | (go_at_call 71;refine (jav _).mono ?_;rintro e w' ⟨rfl,rfl⟩) | fail);exact ⟨rfl,jai E3.out HG.out⟩
      ·have E3:Hid (jaS x l=.error 4):=by show _=_;rw [E0.out,← hst2];simp [jal,h2];rfl
       have b3:decide (d≤count)=false:=by simpa using h2
       clear hst2;go_wp2_with (first | (go_at_call 71;refine (jaq _).mono ?_;rintro e w' ⟨rfl,rfl⟩) | (go_at_call 71;refine (jav _).mono ?_;rintro e w' ⟨rfl,rfl⟩) | fail);exact ⟨rfl,jai E3.out HG.out⟩
     ·have E3:Hid (jaS x l=.error 4):=by show _=_;rw [E0.out,← hst2];simp [jal,h1];rfl
      have b3:decide (1≤d)=false:=by simpa using h1
      clear hst2;go_wp2_with (first | (go_at_call 71;refine (jaq _).mono ?_;rintro e w' ⟨rfl,rfl⟩) | (go_at_call 71;refine (jav _).mono ?_;rintro e w' ⟨rfl,rfl⟩) | fail);exact ⟨rfl,jai E3.out HG.out⟩
  ·have hkk:k=l.length:=by omega
   have E1:Hid (jaS x l=endS count (left,known,acc)):=by
    show _=_;rw [E0.out,← hst,List.drop_of_length_le (by omega)]
    rfl
   have hk0:¬ known=0:=by omega
   have hmod:count.tmod known=count % known:=Int.tmod_eq_emod_of_nonneg (by omega);have hdiv:count.tdiv known=count / known:=Int.tdiv_eq_ediv_of_nonneg (by omega);have hq1:0≤count / known:=Int.ediv_nonneg (by omega) (by omega);have hq2:count / known≤count:=Int.ediv_le_self _ (by omega);obtain ⟨Q,hQ⟩ : ∃ Q,Q=count / known:=⟨_,rfl⟩
   obtain ⟨M,hM⟩ : ∃ M,M=count % known:=⟨_,rfl⟩
   have E2:Hid (endS count (left,known,acc)=(jal (decide (M=0∧(left≠none∨known=count)))).bind (fun _=>.ok (putL left acc Q))):=by show _=_;rw [hQ,hM];rfl
   rw [← hQ] at hdiv hq1 hq2;rw [← hM] at hmod;clear hst hg hQ hM hkk
   by_cases hM0:M=0
   ·subst hM0
    cases left with
    | some j =>
     have hj:=HLF.out j rfl;have E3:Hid (jaS x l=.ok (acc.set j Q)):=by show _=_;rw [E1.out,E2.out];simp [jal,putL];rfl
     have hal:=HAL.out;obtain ⟨g,gcap,eo,hbg,hgl,hlc,hcm⟩:=HO1.out.shape (by omega);simp only [Value.slice.injEq] at eo;obtain ⟨rfl,rfl,rfl⟩:=eo;obtain ⟨cc,fc⟩:=HO1.out.cells (k:=j) (by omega);obtain ⟨so,sg⟩:=HO1.out.put j Q (by omega);have SO:=jac so;have SG:=jac (jaG HG.out sg hbg);have hja:(j:Int)<(acc.length:Int):=by omega
     simp only [jfZ];clear so sg hal;go_wp2_with (first | (go_at_call 71;refine (jaq _).mono ?_;rintro e w' ⟨rfl,rfl⟩) | fail);go_ret;exact jap E3.out SG.out ⟨⟨_,_,_⟩,rfl,SO.out.ints⟩
    | none =>
     simp only [jfZ]
     by_cases hkc:known=count
     ·have bkc:(known==count)=true:=by simp [hkc]
      have E3:Hid (jaS x l=.ok acc):=by show _=_;rw [E1.out,E2.out];simp [jal,hkc,putL];rfl
      clear hkc;go_wp2_with (first | (go_at_call 71;refine (jaq _).mono ?_;rintro e w' ⟨rfl,rfl⟩) | fail);go_ret;exact jap E3.out HG.out ⟨⟨qa,qn,qc⟩,rfl,HO1.out.ints⟩
     ·have bkc:(known==count)=false:=by simpa using hkc
      have E3:Hid (jaS x l=.error 4):=by show _=_;rw [E1.out,E2.out];simp [jal,hkc];rfl
      clear hkc;go_wp2_with (first | (go_at_call 71;refine (jav _).mono ?_;rintro e w' ⟨rfl,rfl⟩) | fail);exact ⟨rfl,jai E3.out HG.out⟩
   ·have bM:(M==0)=false:=by simpa using hM0
    have E3:Hid (jaS x l=.error 4):=by show _=_;rw [E1.out,E2.out];simp [jal,hM0];rfl
    clear hM0;go_wp2_with (first | (go_at_call 71;refine (jav _).mono ?_;rintro e w' ⟨rfl,rfl⟩) | fail);exact ⟨rfl,jai E3.out HG.out⟩
end Go.Proofs.YteigfipgmghgmaaGreatDoor
