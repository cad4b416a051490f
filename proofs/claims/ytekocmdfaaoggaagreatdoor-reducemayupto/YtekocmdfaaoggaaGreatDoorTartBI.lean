/- A part. -/
import Derived.Test.YtekocmdfaaoggaaGreatDoorMTart
import Derived.Test.YtekocmdfaaoggaaGreatDoorTartBH
import Derived.Test.YtekocmdfaaoggaaGreatDoorTartAT
import Derived.Test.YtekocmdfaaoggaaGreatDoorTartBD
import Derived.Laws.EntriesVeiled
import Derived.Deep.RegionHeld3
set_option maxHeartbeats 4000000
set_option maxRecDepth 100000
namespace Go.Proofs.YtekocmdfaaoggaaGreatDoor
open Go.RowKit
def jdZ (op:ByteArray) (ty:Int) (w:World) (p1 p2:Nat):Prop:=w.heap[p1]?=some (.cells #[.string op] 9 (0,0))∧w.heap[p2]?=some (.cells #[.int .i64 ty] 3 (0,0))
theorem jdZ.more {op:ByteArray} {ty:Int} {w w':World} {p1 p2:Nat} (h:jdZ op ty w p1 p2) (hg:w.grownBy w' none):jdZ op ty w' p1 p2:=⟨jaf h.1 hg,jaf h.2 hg⟩
def jgZ (p1 p2:Nat):Value:=.func (.func 49) #[] #[.pointer (some ⟨p1,0,none⟩),.pointer (some ⟨p2,0,none⟩)]
def jfu (g:Int→Int→Int) (w:World) (p1 p2:Nat):Prop:=∀ (x y:Int) (wx:World),w.grownBy wx none→Calls Tryz.prog 49 #[.int .i64 x,.int .i64 y,.pointer (some ⟨p1,0,none⟩),.pointer (some ⟨p2,0,none⟩)] wx fun e w'=>e=.returned (.int .i64 (g x y))∧wx.grownBy w' none
theorem jfu.more {g:Int→Int→Int} {w w':World} {p1 p2:Nat} (h:jfu g w p1 p2) (hg:w.grownBy w' none):jfu g w' p1 p2:=fun x y wx hx=>h x y wx (jaa hg hx)
theorem jjs {ty:Int} {p1 p2:Nat} {w:World} (h:jdZ ⟨#[65,100,100]⟩ ty w p1 p2):jfu (fun x y=>(Nu.bin 0 ty x y).1) w p1 p2:=fun x y wx hx=>by
 have c1:=jaN (h.more hx).1;have c2:=jaN (h.more hx).2;have BB:=jac (fun (wx:World)=>Nu.binary0 ty x y wx);clear h;go_enter Tryz.func49,Tryz.ntmps49;go_wp2_with (first | (go_at_call 50;refine (BB.out _).mono ?_;rintro e w' ⟨rfl,q,rfl⟩) | fail);go_ret;exact ⟨rfl,⟨rfl,rfl,rfl,Nat.le_refl _,fun k hk hn=>rfl⟩⟩
theorem jg0 {ty:Int} {p1 p2:Nat} {w:World} (h:jdZ ⟨#[83,117,98]⟩ ty w p1 p2):jfu (fun x y=>(Nu.bin 1 ty x y).1) w p1 p2:=fun x y wx hx=>by
 have c1:=jaN (h.more hx).1;have c2:=jaN (h.more hx).2;have BB:=jac (fun (wx:World)=>Nu.binary1 ty x y wx);clear h;go_enter Tryz.func49,Tryz.ntmps49;go_wp2_with (first | (go_at_call 50;refine (BB.out _).mono ?_;rintro e w' ⟨rfl,q,rfl⟩) | fail);go_ret;exact ⟨rfl,⟨rfl,rfl,rfl,Nat.le_refl _,fun k hk hn=>rfl⟩⟩
theorem jeJ {ty:Int} {p1 p2:Nat} {w:World} (h:jdZ ⟨#[68,105,118]⟩ ty w p1 p2):jfu (fun x y=>(Nu.bin 3 ty x y).1) w p1 p2:=fun x y wx hx=>by
 have c1:=jaN (h.more hx).1;have c2:=jaN (h.more hx).2;have BB:=jac (fun (wx:World)=>Nu.binary3 ty x y wx);clear h;go_enter Tryz.func49,Tryz.ntmps49;go_wp2_with (first | (go_at_call 50;refine (BB.out _).mono ?_;rintro e w' ⟨rfl,q,rfl⟩) | fail);go_ret;exact ⟨rfl,⟨rfl,rfl,rfl,Nat.le_refl _,fun k hk hn=>rfl⟩⟩
theorem joU {ty:Int} {p1 p2:Nat} {w:World} (h:jdZ ⟨#[77,97,120]⟩ ty w p1 p2):jfu (fun x y=>(Nu.bin 4 ty x y).1) w p1 p2:=fun x y wx hx=>by
 have c1:=jaN (h.more hx).1;have c2:=jaN (h.more hx).2;have BB:=jac (fun (wx:World)=>Nu.binary4 ty x y wx);clear h;go_enter Tryz.func49,Tryz.ntmps49;go_wp2_with (first | (go_at_call 50;refine (BB.out _).mono ?_;rintro e w' ⟨rfl,q,rfl⟩) | fail);go_ret;exact ⟨rfl,⟨rfl,rfl,rfl,Nat.le_refl _,fun k hk hn=>rfl⟩⟩
theorem jhT {ty:Int} {p1 p2:Nat} {w:World} (h:jdZ ⟨#[71,114,101,97,116,101,114]⟩ ty w p1 p2):jfu (fun x y=>(Nu.bin 11 ty x y).1) w p1 p2:=fun x y wx hx=>by
 have c1:=jaN (h.more hx).1;have c2:=jaN (h.more hx).2;have BB:=jac (fun (wx:World)=>Nu.binary11 ty x y wx);clear h;go_enter Tryz.func49,Tryz.ntmps49;go_wp2_with (first | (go_at_call 50;refine (BB.out _).mono ?_;rintro e w' ⟨rfl,q,rfl⟩) | fail);go_ret;exact ⟨rfl,⟨rfl,rfl,rfl,Nat.le_refl _,fun k hk hn=>rfl⟩⟩
theorem jiY (p1 p2:Nat) (g:Int→Int→Int) (z:Int) (u:Sl) (xs:List Int) (w:World) (hx:jak w u.v xs) (B:jfu g w p1 p2):Calls Tryz.prog 30 #[.int .i64 z,.slice u.a u.n u.c,jgZ p1 p2] w fun e w'=>e=.returned (.int .i64 (xs.foldl g z))∧w.grownBy w' none:=by
 obtain ⟨ua,un,uc⟩:=u;obtain ⟨_,_,eu,c1,c2,c3⟩:=hx.sl;simp only [Sl.v,Value.slice.injEq] at eu;obtain ⟨rfl,rfl,rfl⟩:=eu;have HX:=jac hx;have HB:=jac B;clear hx B;unfold jgZ;go_enter Tryz.func30,Tryz.ntmps30;go_wp2;go_loopw [0,11] (fun a i wr=>w.grownBy wr none∧∃ k:Nat,k≤xs.length∧i=.int .i64 k∧a=.int .i64 ((xs.take k).foldl g z)) (fun _ i _=>xs.length - (intOf i).toNat)
 case atStart=>exact ⟨jae _,0,Nat.zero_le _,rfl,rfl⟩
 case round =>
  obtain ⟨hg,k,hk,rfl,rfl⟩:=hrel;have HG:=jac hg
  by_cases hlt:k<xs.length
  ·obtain ⟨b,off,rfl,hc⟩:=HX.out.get hlt;have hcell:=jad (hc k hlt) hg;have ST:Hid ((xs.take (k+1)).foldl g z=g ((xs.take k).foldl g z) (xs.getD k 0)):=by show _=_;rw [jb3 xs k hlt,List.foldl_append];rfl
   obtain ⟨y,hy⟩ : ∃ y,y=xs.getD k 0:=⟨_,rfl⟩
   obtain ⟨a,ha⟩ : ∃ a,a=(xs.take k).foldl g z:=⟨_,rfl⟩
   rw [← hy] at hcell ST;rw [← ha] at ST ⊢;have CB:=jac (HB.out a y wr hg);have l1:(k:Int)<(xs.length:Int):=by omega
   clear hg hc hy ha;go_wp2_with (first | (go_at_call 49;refine CB.out.mono ?_;rintro e w1 ⟨rfl,hg1⟩) | fail);have HG1:=jac (jaa HG.out hg1);clear hg1;go_roundw
   case rel=>exact ⟨HG1.out,k+1,by omega,by go_num,by rw [ST.out]⟩
   case measure=>simp [intOf];omega
  ·have hke:k=xs.length:=by omega
   subst hke;rw [List.take_length];clear hg;go_wp2;go_ret;exact ⟨rfl,HG.out⟩
def jjt (g:Int→Int→Int) (w:World) (b:Nat):Prop:=∃ p1 p2:Nat,w.heap[b]?=some (.cells #[jgZ p1 p2] 67 (0,0))∧jfu g w p1 p2
theorem jjt.more {g:Int→Int→Int} {w w':World} {b:Nat} (h:jjt g w b) (hg:w.grownBy w' none):jjt g w' b:=by
 obtain ⟨p1,p2,h1,h2⟩:=h;exact ⟨p1,p2,jaf h1 hg,h2.more hg⟩
theorem jg1 (ty:Int) (w:World):Calls Tryz.prog 17 #[.int .i64 ty] w fun e w'=>∃ b:Nat,e=.returned (.func (.func 29) #[] #[.pointer (some ⟨b,0,none⟩)])∧jjt (fun x y=>(Nu.bin 0 ty x y).1) w' b∧w.grownBy w' none:=by
 have hmf:∀ (fn:Fn) (first cap:Array Value) (w:World),(Instr.makeFunc fn first cap).run Tryz.prog w=.ok (.func fn first cap) w:=fun _ _ _ _=>rfl;have S2:=jac (jcS ⟨#[65,100,100]⟩ ty w);go_enter Tryz.func17,Tryz.ntmps17;go_wp2_with (first | (go_at_call 28;refine S2.out.mono ?_;rintro e w1 ⟨rfl,hg1,hb1,hb2⟩) | fail);go_ret;have g2:=jab w1 (.cells #[jgZ w.heap.size (w.heap.size+1)] 67);exact ⟨_,rfl,⟨w.heap.size,w.heap.size+1,heap_alloc_new _ _,jjs ⟨jaf hb1 g2,jaf hb2 g2⟩⟩,jaa hg1 g2⟩
theorem jda (ty:Int) (w:World):Calls Tryz.prog 19 #[.int .i64 ty] w fun e w'=>∃ b:Nat,e=.returned (.func (.func 32) #[] #[.pointer (some ⟨b,0,none⟩)])∧jjt (fun x y=>(Nu.bin 4 ty x y).1) w' b∧w.grownBy w' none:=by
 have hmf:∀ (fn:Fn) (first cap:Array Value) (w:World),(Instr.makeFunc fn first cap).run Tryz.prog w=.ok (.func fn first cap) w:=fun _ _ _ _=>rfl;have S2:=jac (jcS ⟨#[77,97,120]⟩ ty w);go_enter Tryz.func19,Tryz.ntmps19;go_wp2_with (first | (go_at_call 28;refine S2.out.mono ?_;rintro e w1 ⟨rfl,hg1,hb1,hb2⟩) | fail);go_ret;have g2:=jab w1 (.cells #[jgZ w.heap.size (w.heap.size+1)] 67);exact ⟨_,rfl,⟨w.heap.size,w.heap.size+1,heap_alloc_new _ _,joU ⟨jaf hb1 g2,jaf hb2 g2⟩⟩,jaa hg1 g2⟩
theorem jen (ty:Int) (w:World):Calls Tryz.prog 20 #[.int .i64 ty] w fun e w'=>∃ b:Nat,e=.returned (.func (.func 33) #[] #[.pointer (some ⟨b,0,none⟩)])∧jjt (fun x y=>(Nu.bin 11 ty x y).1) w' b∧w.grownBy w' none:=by
 have hmf:∀ (fn:Fn) (first cap:Array Value) (w:World),(Instr.makeFunc fn first cap).run Tryz.prog w=.ok (.func fn first cap) w:=fun _ _ _ _=>rfl;have S2:=jac (jcS ⟨#[71,114,101,97,116,101,114]⟩ ty w);go_enter Tryz.func20,Tryz.ntmps20;go_wp2_with (first | (go_at_call 28;refine S2.out.mono ?_;rintro e w1 ⟨rfl,hg1,hb1,hb2⟩) | fail);go_ret;have g2:=jab w1 (.cells #[jgZ w.heap.size (w.heap.size+1)] 67);exact ⟨_,rfl,⟨w.heap.size,w.heap.size+1,heap_alloc_new _ _,jhT ⟨jaf hb1 g2,jaf hb2 g2⟩⟩,jaa hg1 g2⟩
theorem jeK (g:Int→Int→Int) (b:Nat) (u:Sl) (xs:List Int) (w:World) (hx:jak w u.v xs) (hb:jjt g w b):Calls Tryz.prog 29 #[.slice u.a u.n u.c,.pointer (some ⟨b,0,none⟩)] w fun e w'=>e=.returned (.int .i64 (xs.foldl g 0))∧w.grownBy w' none:=by
 obtain ⟨p1,p2,h1,h2⟩:=hb;have c1:=jaN h1;have TG:=jac (jiY p1 p2 g 0 u xs w hx h2);obtain ⟨ua,un,uc⟩:=u;unfold jgZ at TG c1;simp only at TG ⊢;clear hx h1 h2;go_enter Tryz.func29,Tryz.ntmps29;go_wp2_with (first | (go_at_call 30;refine TG.out.mono ?_;rintro e w1 ⟨rfl,hg1⟩) | fail);go_ret;exact ⟨rfl,hg1⟩
end Go.Proofs.YtekocmdfaaoggaaGreatDoor
namespace Go.Proofs.YtekocmdfaaoggaaGreatDoor
open Go.RowKit
theorem jgk {w:World} {b off n c:Nat} {zs:List Int} (h:jak w (.slice (some ⟨b,off,none⟩) n c) zs) (p m c':Nat) (hp:p+m≤zs.length) (hc:p+c'≤c) (hm:m≤c'):jak w (.slice (some ⟨b,off+p,none⟩) m c') ((zs.drop p).take m):=by
 obtain ⟨a,c0,e,h1,h2,h3,-,h5,h6⟩:=h;simp only [Value.slice.injEq] at e;obtain ⟨rfl,-,rfl⟩:=e;have hl:((zs.drop p).take m).length=m:=by rw [List.length_take,List.length_drop];omega
 refine ⟨_,_,by rw [hl],by rw [hl];exact hm,by omega,by rw [hl];omega,(fun h=>by cases h),fun _=>⟨b,off+p,rfl,fun t ht=>?_⟩,fun z hz=>h6 z (List.mem_of_mem_drop (List.mem_of_mem_take hz))⟩;rw [hl] at ht;obtain ⟨b',off',e',hcell⟩:=h5 (by omega);simp only [Option.some.injEq,Addr.mk.injEq] at e';obtain ⟨rfl,rfl,-⟩:=e';rw [Nat.add_assoc,hcell (p+t) (by omega)]
 congr 2
 simp only [List.getD];rw [List.getElem?_take_of_lt ht,List.getElem?_drop]
def jqO (g:Int→Int→Int) (xs:List Int):Int:=xs.tail.foldl g (xs.getD 0 0)
theorem jcU (g:Int→Int→Int) (b:Nat) (u:Sl) (xs:List Int) (w:World) (hx:jak w u.v xs) (h0:0<xs.length) (hb:jjt g w b):Calls Tryz.prog 32 #[.slice u.a u.n u.c,.pointer (some ⟨b,0,none⟩)] w fun e w'=>e=.returned (.int .i64 (jqO g xs))∧w.grownBy w' none:=by
 obtain ⟨p1,p2,h1,h2⟩:=hb;have c1:=jaN h1;obtain ⟨ua,un,uc⟩:=u;obtain ⟨_,_,eu,d1,d2,d3⟩:=hx.sl;simp only [Sl.v,Value.slice.injEq] at eu;obtain ⟨rfl,rfl,rfl⟩:=eu;obtain ⟨xb,xo,rfl,hc⟩:=hx.get h0;have q0:=hc 0 h0;rw [Nat.add_zero] at q0;obtain ⟨C,hC⟩ : ∃ C,uc=1+C:=⟨uc - 1,by omega⟩
 obtain ⟨m,hm⟩ : ∃ m,xs.length=1+m:=⟨xs.length - 1,by omega⟩
 subst hC;simp only [Sl.v] at hx;rw [hm] at hx h0 d1 ⊢;have hmC:m≤C:=by omega
 have i1:(0:Int)<1+(m:Int):=by omega
 have HX:=jac hx;have H2:=jac h2;obtain ⟨z,hz⟩ : ∃ z,z=xs.getD 0 0:=⟨_,rfl⟩
 rw [← hz] at q0;have HZ:=jac hz;have HM:=jac hm;unfold jgZ at c1;clear hx h1 h2 hc hz hm
 rcases Nat.eq_zero_or_pos C with hC0 | hC0
 ·subst hC0;obtain rfl:m=0:=by omega
  have ED:xs.tail=[]:=by rw [← List.drop_one];exact List.drop_of_length_le (by rw [HM.out];omega)
  have TG:Hid (∀ v,w.grownBy v none→Calls Tryz.prog 30 #[.int .i64 z,.slice (some ⟨xb,xo,none⟩) 0 0,.func (.func 49) #[] #[.pointer (some ⟨p1,0,none⟩),.pointer (some ⟨p2,0,none⟩)]] v fun e w'=>e=.returned (.int .i64 (xs.tail.foldl g z))∧v.grownBy w' none):=fun v hv=>jiY p1 p2 g z ⟨some ⟨xb,xo,none⟩,0,0⟩ xs.tail v (by rw [ED];exact ⟨some ⟨xb,xo,none⟩,0,rfl,Nat.le_refl _,Nat.zero_le _,by simp,fun h=>by (first | exact ⟨rfl,rfl⟩ | cases h),fun h=>by simp at h,fun z hz=>by simp at hz⟩) (H2.out.more hv);clear ED;go_enter Tryz.func32,Tryz.ntmps32
  go_upto_region 1 with fail
  refine wp_region_held_drew (S:=fun w'=>w.grownBy w' none) (by kernel_rfl) (jag (jae _)) (fun hHeld=>?_);refine tkC 0 ?_ (hv:=by intro wS hSw;go_simp;(try with_reducible rfl))
  try simp only [Act.put]
  refine tkC 1 ?_ (hv:=by intro wS hSw;go_simp;(try with_reducible rfl))
  try simp only [Act.put]
  refine tkC 2 ?_ (hv:=by intro wS hSw;have c0:=jad q0 hSw;go_simp;(try with_reducible rfl))
  try simp only [Act.put]
  refine tkC 3 ?_ (hv:=by intro wS hSw;go_simp;(try with_reducible rfl))
  try simp only [Act.put]
  refine wpAnyH_take (i:=4) (v:=.slice (some ⟨xb,xo,none⟩) 0 0) rfl (by kernel_rfl) (by kernel_rfl) (by kernel_rfl) (fun _ _ _ h=>h) (Or.inl ⟨by kernel_rfl,?_⟩) (by assumption) ?_
  ·(intro wS hSw;go_simp;(try simp only []))
  try simp only [Act.put]
  refine tkC 5 ?_ (hv:=by intro wS hSw;have c0:=jad c1 hSw;go_simp;(try with_reducible rfl))
  try simp only [Act.put]
  have g1:w.grownBy w.drew none:=hHeld;generalize hv:w.drew=v at g1 hHeld ⊢;clear hv;refine rdA 6 fun K hK=>?_;go_simp;refine (TG.out v g1).mono ?_;rintro e w1 ⟨rfl,hg1⟩;have gn:=jaa g1 hg1;refine hK.out _ _ gn (fun hHeld=>?_);clear hK K
  try simp only [Act.put]
  refine tkC 7 ?_ (hv:=by intro wS hSw;go_simp;(try with_reducible rfl))
  try simp only [Act.put]
  refine wpAnyH_done (by kernel_rfl) ?_ _;go_simp;go_wp2;go_ret;exact ⟨by unfold jqO;rw [← HZ.out];rfl,gn⟩
 ·have cx0:¬ C=0:=by omega
  have cx2:(m:Int)≤(C:Int):=by omega
  have cx3:¬ (1+(m:Int)<1):=by omega
  have TG:Hid (∀ v,w.grownBy v none→Calls Tryz.prog 30 #[.int .i64 z,.slice (some ⟨xb,xo+1,none⟩) m C,.func (.func 49) #[] #[.pointer (some ⟨p1,0,none⟩),.pointer (some ⟨p2,0,none⟩)]] v fun e w'=>e=.returned (.int .i64 (xs.tail.foldl g z))∧v.grownBy w' none):=fun v hv=>by
   have e:=jgk (HX.out.more hv) 1 m C (by rw [HM.out];exact Nat.le_refl _) (Nat.le_refl _) hmC;rw [List.take_of_length_le (by rw [List.length_drop,HM.out];omega),List.drop_one] at e;exact jiY p1 p2 g z ⟨some ⟨xb,xo+1,none⟩,m,C⟩ xs.tail v e (H2.out.more hv)
  go_enter Tryz.func32,Tryz.ntmps32
  go_upto_region 1 with fail
  refine wp_region_held_drew (S:=fun w'=>w.grownBy w' none) (by kernel_rfl) (jag (jae _)) (fun hHeld=>?_);refine tkC 0 ?_ (hv:=by intro wS hSw;go_simp;(try with_reducible rfl))
  try simp only [Act.put]
  refine tkC 1 ?_ (hv:=by intro wS hSw;go_simp;(try with_reducible rfl))
  try simp only [Act.put]
  refine tkC 2 ?_ (hv:=by intro wS hSw;have c0:=jad q0 hSw;go_simp;(try with_reducible rfl))
  try simp only [Act.put]
  refine tkC 3 ?_ (hv:=by intro wS hSw;go_simp;(try with_reducible rfl))
  try simp only [Act.put]
  refine wpAnyH_take (i:=4) (v:=.slice (some ⟨xb,xo+1,none⟩) m C) rfl (by kernel_rfl) (by kernel_rfl) (by kernel_rfl) (fun _ _ _ h=>h) (Or.inl ⟨by kernel_rfl,?_⟩) (by assumption) ?_
  ·(intro wS hSw;go_simp;(try simp only []))
  try simp only [Act.put]
  refine tkC 5 ?_ (hv:=by intro wS hSw;have c0:=jad c1 hSw;go_simp;(try with_reducible rfl))
  try simp only [Act.put]
  have g1:w.grownBy w.drew none:=hHeld;generalize hv:w.drew=v at g1 hHeld ⊢;clear hv;refine rdA 6 fun K hK=>?_;go_simp;refine (TG.out v g1).mono ?_;rintro e w1 ⟨rfl,hg1⟩;have gn:=jaa g1 hg1;refine hK.out _ _ gn (fun hHeld=>?_);clear hK K
  try simp only [Act.put]
  refine tkC 7 ?_ (hv:=by intro wS hSw;go_simp;(try with_reducible rfl))
  try simp only [Act.put]
  refine wpAnyH_done (by kernel_rfl) ?_ _;go_simp;go_wp2;go_ret;exact ⟨by unfold jqO;rw [← HZ.out];rfl,gn⟩
end Go.Proofs.YtekocmdfaaoggaaGreatDoor
namespace Go.Proofs.YtekocmdfaaoggaaGreatDoor
open Go.RowKit
theorem jqP (x:Int):floatOfInt .f32 x<4294967296:=by
 have:=floatOfInt_wf .f32 x;simpa [Lit.wf] using this
def flo (x:Int):Int:=Nu.tob (floatOfInt .f32 x)
theorem jrA (x:Int) (w:World) (hx:Nu.chk 7 x=true):Calls Tryz.prog 31 #[.int .i64 7,.int .i64 1,.int .i64 x] w fun e w'=>e=.returned (.tuple #[.int .i64 (flo x),.int .i64 0])∧w.grownBy w' none:=by
 unfold flo;go_enter Tryz.func31,Tryz.ntmps31;go_wp2_with (first | (go_at_call 42;refine (Nu.check_any _ _ _).mono ?_;rintro e w' ⟨rfl,rfl⟩) | (go_at_call 55;refine (Nu.to_any _ _ (jqP _)).mono ?_;rintro e w' ⟨rfl,rfl⟩) | go_in);go_ret2;exact ⟨rfl,jae _⟩
def jkK (xs:List Int):Int:=(Nu.bin 3 1 (xs.foldl (fun x y=>(Nu.bin 0 1 x y).1) 0) (flo xs.length)).1
theorem joV (u:Sl) (xs:List Int) (w:World) (hx:jak w u.v xs):Calls Tryz.prog 18 #[.slice u.a u.n u.c] w fun e w'=>e=.returned (.int .i64 (jkK xs))∧w.grownBy w' none:=by
 obtain ⟨ua,un,uc⟩:=u;obtain ⟨_,_,eu,d1,d2,d3⟩:=hx.sl;simp only [Sl.v,Value.slice.injEq] at eu;obtain ⟨rfl,rfl,rfl⟩:=eu;have HX:=jac hx;have CS:=jac (jrA xs.length w (by unfold Nu.chk;simp));have S2:=jac (fun w=>jcS ⟨#[68,105,118]⟩ 1 w);have SU:=jac (fun w=>jg1 1 w);clear hx;go_enter Tryz.func18,Tryz.ntmps18;go_wp2_with (first | (go_at_call 31;refine CS.out.mono ?_;rintro e w1 ⟨rfl,g1⟩) | fail);clear CS;refine (S2.out w1).mono ?_;rintro e w2 ⟨rfl,hg2,hb1,hb2⟩;go_wp2_with fail;refine (SU.out w2).mono ?_;rintro e w3 ⟨b,rfl,ob,hg3⟩;have g2:=jaa g1 (jaa hg2 hg3);have S1:=jac (jeK _ b ⟨_,_,_⟩ xs w3 (HX.out.more g2) ob);have SD:=jac (jeJ ⟨jaf hb1 hg3,jaf hb2 hg3⟩);have G2:=jac g2;simp only at S1;clear g1 g2 hg2 hb1 hb2 ob hg3 S2 SU;go_wp2_with fail;refine S1.out.mono ?_;rintro e w4 ⟨rfl,hg4⟩;go_wp2_with fail;refine (SD.out _ _ w4 hg4).mono ?_;rintro e w5 ⟨rfl,hg5⟩;go_wp2;go_ret;exact ⟨rfl,jaa G2.out (jaa hg4 hg5)⟩
end Go.Proofs.YtekocmdfaaoggaaGreatDoor
namespace Go.Proofs.YtekocmdfaaoggaaGreatDoor
open Go.RowKit
def jdH (g:Int→Int→Int) (s:Int×Int×Int) (x:Int):Int×Int×Int:=(s.1+1,if g x s.2.2=1 then (s.1+1,x) else s.2)
def jqQ (g:Int→Int→Int) (xs:List Int):Int:=(xs.tail.foldl (jdH g) (0,0,xs.getD 0 0)).2.1
theorem jju (g:Int→Int→Int):∀ (xs:List Int) (s:Int×Int×Int),(xs.foldl (jdH g) s).1=s.1+xs.length
 | [],s=>by simp
 | x::xs,s=>by
  rw [List.foldl_cons,jju g xs];simp only [jdH,List.length_cons];omega
theorem jbd {w:World} {B:Nat} {a0 a1:Value} {t:TypeId} (hb:w.heap[B]?=some (.cells #[a0,a1] t (0,0))):w.cell? ⟨B,0,none⟩=some a0∧w.cell? ⟨B,1,none⟩=some a1∧w.frozen? ⟨B,0,none⟩=false∧w.frozen? ⟨B,1,none⟩=false:=by
 exact ⟨(cell_of_row _ _ 0 _ _ (0,0) hb).trans rfl,(cell_of_row _ _ 1 _ _ (0,0) hb).trans rfl,frozen_of_row w B 0 _ _ hb,frozen_of_row w B 1 _ _ hb⟩
theorem jiZ {w:World} {B:Nat} {a0:Value} {t:TypeId} (hb:w.heap[B]?=some (.cells #[a0] t (0,0))):w.frozen? ⟨B,0,none⟩=false:=by
 exact frozen_of_row w B 0 _ _ hb
theorem jdF {a b c:World} {B:Nat} {r:Option Nat} (h:a.grownBy b r) (k:b.grownBy c (some B)) (hB:a.heap.size≤B):a.grownBy c r :=
 ⟨k.1.trans h.1,k.2.trans h.2,k.3.trans h.3,Nat.le_trans h.4 k.4,fun i hi hr=>(k.5 i (Nat.lt_of_lt_of_le hi h.4) (fun e=>by cases e;omega)).trans (h.5 i hi hr)⟩
theorem jhU {a b c:World} {r:Option Nat} (h:a.grownBy b r) (k:b.grownBy c none):a.grownBy c r :=
 ⟨k.1.trans h.1,k.2.trans h.2,k.3.trans h.3,Nat.le_trans h.4 k.4,fun i hi hr=>(k.5 i (Nat.lt_of_lt_of_le hi h.4) (by simp)).trans (h.5 i hi hr)⟩
theorem jeo (x:World) (B j:Nat) (v:Value):x.grownBy (x.setCell ⟨B,j,none⟩ v) (some B) :=
 ⟨rfl,rfl,rfl,by simp [World.setCell],fun k _ hk=>Below.heap_setCell _ _ _ _ (fun e=>hk (by rw [e]))⟩
theorem joW:(Tryz.prog.info? 73).map (·.size)=some 2:=by kernel_rfl
theorem jg2 {fn : Func} {p : Tmp} (h : fn.results = #[.cell p 73]) (tmps : Array Value) (w : World) (B : Nat) (hp : tmps.getD p undef = .pointer (some ⟨B, 0, none⟩)) {a0 a1 : Value}
    (hb:w.heap[B]?=some (.cells #[a0,a1] 73 (0,0))):(results fn tmps).run Tryz.prog w=.ok (.agg #[a0,a1]) w :=
     results_cell_row h tmps w B 73 #[a0,a1] (0,0) _ hp hb Tryz.underlying73 rfl (by rw [joW];rfl)
theorem jdb {w3:World} {B:Nat} {z0 z1:Value} {t:TypeId} (a b:Value) (hb:w3.heap[B]?=some (.cells #[z0,z1] t (0,0))) :
    ((w3.setCell ⟨B,0,none⟩ a).setCell ⟨B,1,none⟩ b).heap[B]?=some (.cells #[a,b] t (0,0))∧w3.grownBy ((w3.setCell ⟨B,0,none⟩ a).setCell ⟨B,1,none⟩ b) (some B):=by
     have h1:=heap_setCell_same w3 B 0 _ _ a hb;have h2:=heap_setCell_same _ B 1 _ _ b h1;exact ⟨by simpa using h2,jaI (jeo w3 B 0 a) (jeo _ B 1 b)⟩
theorem jck {a b:World} {B:Nat} (h:a.grownBy b none):a.grownBy b (some B):=⟨h.1,h.2,h.3,h.4,fun i hi _=>h.5 i hi (by simp)⟩
theorem jqR (g:Int→Int→Int) (pb b:Nat) (k bp be x:Int) (w0 w:World) (hg:w0.grownBy w none) (hpb:w0.heap.size≤pb) (hk:0≤k∧k≤1000000) (hbx:w.heap[pb]?=some (.cells #[.int .i64 k] 2 (0,0))) (hb:jjt g w0 b):Calls Tryz.prog 35 #[.agg #[.int .i64 bp,.int .i64 be],.int .i64 x,.pointer (some ⟨pb,0,none⟩),.pointer (some ⟨b,0,none⟩)] w fun e w'=>e=.returned (.agg #[.int .i64 (jdH g (k,bp,be) x).2.1,.int .i64 (jdH g (k,bp,be) x).2.2])∧w'.heap[pb]?=some (.cells #[.int .i64 (k+1)] 2 (0,0))∧w.grownBy w' (some pb):=by
 obtain ⟨w1,hw1⟩ : ∃ w1,w1=(w.alloc (.cells #[.int .i64 bp,.int .i64 be] 73)).alloc (.cells #[.int .i64 0,.int .i64 0] 73):=⟨_,rfl⟩
 have hbs:=jaJ w (.cells #[.int .i64 bp,.int .i64 be] 73) (.cells #[.int .i64 0,.int .i64 0] 73);rw [← hw1] at hbs;have g1:w.grownBy w1 none:=by rw [hw1];exact jaa (jab _ _) (jab _ _)
 have k1:=jaN (jaf hbx g1);have k2:=jiZ (jaf hbx g1);have hps:pb<w.heap.size:=(Array.getElem?_eq_some_iff.1 hbx).1;obtain ⟨w2,hw2⟩ : ∃ w2,w2=w1.setCell ⟨pb,0,none⟩ (.int .i64 (k+1)):=⟨_,rfl⟩
 have B2:=heap_setCell_same w1 pb 0 _ _ (.int .i64 (k+1)) (jaf hbx g1);have g2:=jeo w1 pb 0 (.int .i64 (k+1));rw [← hw2] at B2 g2;have gw2:=jaq (jaa hg g1) g2 hpb;have b1:=(g2.block w.heap.size (by rw [hw1];simp;omega) (by simp only [ne_eq,Option.some.injEq];omega)).trans hbs.1;have b2:=(g2.block (w.heap.size+1) (by rw [hw1];simp) (by simp only [ne_eq,Option.some.injEq];omega)).trans hbs.2;have hw:IntKind.i64.wrap (k+1)=k+1:=by rw [jbg];unfold wrap64;omega
 obtain ⟨p1,p2,h1,h2⟩:=hb;have c1:=jaN (jaf h1 gw2);unfold jgZ at c1;obtain ⟨d0,d1,-,-⟩:=jbd b1;have SC:=jac (h2 x be w2 gw2);have GW:=jac (jaI (jck g1) g2);have B2':Hid (w2.heap[pb]?=some (.cells #[.int .i64 (k+1)] 2 (0,0))):=by show _=_;simpa using B2
 have B1':=jac b1;have b2':=jac b2;have HPS:=jac hps;rw [hw1] at k1 k2;obtain ⟨y,hy⟩ : ∃ y,y=g x be:=⟨_,rfl⟩
 rw [← hy] at SC;have HY:Hid ((jdH g (k,bp,be) x).2=if y=1 then (k+1,x) else (bp,be)):=by show _=_;rw [hy];rfl
 have PBS:Hid (∀ w3 w4:World,w2.grownBy w3 none→w3.grownBy w4 (some (w.heap.size+1))→w4.heap[pb]?=some (.cells #[.int .i64 (k+1)] 2 (0,0))∧w.grownBy w4 (some pb)):=fun w3 w4 h3 h4=>by
  have e:=jaf B2'.out h3;have hp:=HPS.out;exact ⟨(h4.block pb (Array.getElem?_eq_some_iff.1 e).1 (by simp only [ne_eq,Option.some.injEq];omega)).trans e,jdF (jhU GW.out h3) h4 (by omega)⟩
 clear hg hpb hbx h1 h2 hbs g1 B2 g2 gw2 b1 b2 hps hy;go_enter Tryz.func35,Tryz.ntmps35
 go_upto_region 2 with fail
 rw [← hw1,← hw2];clear hw1 hw2 k1 k2
 by_cases h1:y=1
 ·subst h1;rw [if_pos rfl] at HY;go_wp2_with (first | (go_at_call 49;refine SC.out.mono ?_;rintro e w3 ⟨rfl,hg3⟩;have m1:=jaN (jaf B2'.out hg3);have k3:=jaf b2'.out hg3;obtain ⟨q0,q1,q2,q3⟩:=jbd k3;obtain ⟨st,sg⟩:=jdb (.int .i64 (k+1)) (.int .i64 x) k3;have HST:=jac st;have PB:=jac (PBS.out w3 _ hg3 sg);clear hg3 k3 st sg) | fail);refine bodyPost_ret (jg2 rfl _ _ (w.heap.size+1) rfl HST.out) rfl ?_;rw [HY.out];exact ⟨rfl,PB.out⟩
 ·rw [if_neg h1] at HY;go_wp2_with (first | (go_at_call 49;refine SC.out.mono ?_;rintro e w3 ⟨rfl,hg3⟩;obtain ⟨d0,d1,-,-⟩:=jbd (jaf B1'.out hg3);have k3:=jaf b2'.out hg3;obtain ⟨q0,q1,q2,q3⟩:=jbd k3;obtain ⟨st,sg⟩:=jdb (.int .i64 bp) (.int .i64 be) k3;have HST:=jac st;have PB:=jac (PBS.out w3 _ hg3 sg);clear hg3 k3 st sg) | fail);refine bodyPost_ret (jg2 rfl _ _ (w.heap.size+1) rfl HST.out) rfl ?_;rw [HY.out];exact ⟨rfl,PB.out⟩
end Go.Proofs.YtekocmdfaaoggaaGreatDoor
namespace Go.Proofs.YtekocmdfaaoggaaGreatDoor
open Go.RowKit
theorem jjv (g:Int→Int→Int) (pb b:Nat) (e0:Int) (u:Sl) (xs:List Int) (w0 w:World) (hg:w0.grownBy w none) (hpb:w0.heap.size≤pb) (hbx:w.heap[pb]?=some (.cells #[.int .i64 0] 2 (0,0))) (hx:jak w0 u.v xs) (hl:xs.length≤65536) (hb:jjt g w0 b):Calls Tryz.prog 34 #[.agg #[.int .i64 0,.int .i64 e0],.slice u.a u.n u.c,.func (.func 35) #[] #[.pointer (some ⟨pb,0,none⟩),.pointer (some ⟨b,0,none⟩)]] w fun e w'=>e=.returned (.agg #[.int .i64 (xs.foldl (jdH g) (0,0,e0)).2.1,.int .i64 (xs.foldl (jdH g) (0,0,e0)).2.2])∧w.grownBy w' (some pb):=by
 obtain ⟨ua,un,uc⟩:=u;obtain ⟨_,_,eu,d1,d2,d3⟩:=hx.sl;simp only [Sl.v,Value.slice.injEq] at eu;obtain ⟨rfl,rfl,rfl⟩:=eu;have HX:=jac hx;have HB:=jac hb;have HPB:=jac hpb;obtain ⟨w1,hw1⟩ : ∃ w1,w1=(w.alloc (.cells #[.int .i64 0,.int .i64 e0] 73)).alloc (.cells #[.int .i64 0,.int .i64 0] 73):=⟨_,rfl⟩
 have hbs:=jaJ w (.cells #[.int .i64 0,.int .i64 e0] 73) (.cells #[.int .i64 0,.int .i64 0] 73);rw [← hw1] at hbs;have g1:w.grownBy w1 none:=by rw [hw1];exact jaa (jab _ _) (jab _ _)
 have hps:Hid (pb<w.heap.size):=(Array.getElem?_eq_some_iff.1 hbx).1;have Z1:=jac hbs.1;have Z2:=jac hbs.2;have Z3:=jac (jaf hbx g1);have G0:=jac hg;have G1:Hid (w.grownBy w1 (some pb)):=jck g1;clear hx hb hpb hbx hg hbs g1;go_enter Tryz.func34,Tryz.ntmps34;go_wp2;rw [← hw1];clear hw1;go_loopw [11] (fun i wr=>w.grownBy wr (some pb)∧∃ k:Nat,k≤xs.length∧i=.int .i64 k∧wr.heap[w.heap.size]?=some (.cells #[.int .i64 ((xs.take k).foldl (jdH g) (0,0,e0)).2.1,.int .i64 ((xs.take k).foldl (jdH g) (0,0,e0)).2.2] 73 (0,0))∧wr.heap[w.heap.size+1]?=some (.cells #[.int .i64 0,.int .i64 0] 73 (0,0))∧wr.heap[pb]?=some (.cells #[.int .i64 (k:Int)] 2 (0,0))) (fun i _=>xs.length - (intOf i).toNat)
 case atStart=>exact ⟨G1.out,0,Nat.zero_le _,rfl,Z1.out,Z2.out,Z3.out⟩
 case round =>
  obtain ⟨hgp,k,hk,rfl,hz1,hz2,hz3⟩:=hrel;have HGP:=jac hgp;have hg:=jaq G0.out hgp HPB.out;have HG:=jac hg
  by_cases hlt:k<xs.length
  ·obtain ⟨b',off,rfl,hc⟩:=HX.out.get hlt;have hcell:=jad (hc k hlt) hg;have ST:(xs.take (k+1)).foldl (jdH g) (0,0,e0)=jdH g ((xs.take k).foldl (jdH g) (0,0,e0)) (xs.getD k 0):=by rw [jb3 xs k hlt,List.foldl_append];rfl
   have SF:=jju g (xs.take k) (0,0,e0);rw [List.length_take,Nat.min_eq_left (by omega)] at SF;obtain ⟨y,hy⟩ : ∃ y,y=xs.getD k 0:=⟨_,rfl⟩
   obtain ⟨⟨s0,s1,s2⟩,hs⟩ : ∃ s,s=(xs.take k).foldl (jdH g) (0,0,e0):=⟨_,rfl⟩
   rw [← hy] at hcell ST;rw [← hs] at ST SF hz1;simp only at SF hz1;have sf:s0=(k:Int):=by omega
   rw [sf] at ST;have HST:=jac ST;have FG:=jac (jqR g pb b (k:Int) s1 s2 y w0 wr hg HPB.out (by omega) hz3 HB.out);obtain ⟨c0,c1,-,-⟩:=jbd hz1;have K1:=jac hz1;have K2:=jac hz2;obtain ⟨t,ht⟩ : ∃ t,t=jdH g ((k:Int),s1,s2) y:=⟨_,rfl⟩
   rw [← ht] at FG HST;obtain ⟨t0,t1,t2⟩:=t;simp only at FG;have l1:(k:Int)<(xs.length:Int):=by omega
   clear hg hgp hc hy hs ht ST SF sf hz1 hz2 hz3;go_wp2_with (first | (go_at_call 35;refine FG.out.mono ?_;rintro e w2 ⟨rfl,hb2,hg2⟩;have hp:=hps.out;have q:=(hg2.block w.heap.size (Array.getElem?_eq_some_iff.1 K1.out).1 (by simp only [ne_eq,Option.some.injEq];omega)).trans K1.out;have qq:=(hg2.block (w.heap.size+1) (Array.getElem?_eq_some_iff.1 K2.out).1 (by simp only [ne_eq,Option.some.injEq];omega)).trans K2.out;obtain ⟨c0,c1,f0,f1⟩:=jbd q;obtain ⟨st,sg⟩:=jdb (.int .i64 t1) (.int .i64 t2) q;have R1:=jac st;have R2:=jac ((sg.block (w.heap.size+1) (Array.getElem?_eq_some_iff.1 qq).1 (by simp)).trans qq);have R3:=jac ((sg.block pb (Array.getElem?_eq_some_iff.1 hb2).1 (by simp only [ne_eq,Option.some.injEq];omega)).trans hb2);have RG:=jac (jdF (jaI HGP.out hg2) sg (Nat.le_refl _));clear hb2 hg2 hp q qq st sg) | fail);go_roundw
   case rel=>exact ⟨RG.out,k+1,by omega,by go_num,by rw [HST.out];exact R1.out,R2.out,by rw [Int.natCast_add];exact R3.out⟩
   case measure=>simp [intOf];omega
  ·have hke:k=xs.length:=by omega
   subst hke;rw [List.take_length] at hz1;obtain ⟨c0,c1,-,-⟩:=jbd hz1;obtain ⟨e0',e1',f0,f1⟩:=jbd hz2;obtain ⟨st,sg⟩:=jdb (.int .i64 (xs.foldl (jdH g) (0,0,e0)).2.1) (.int .i64 (xs.foldl (jdH g) (0,0,e0)).2.2) hz2;have R1:=jac st;have RG:=jac (jdF hgp sg (by omega));clear hg hgp hz1 hz2 hz3 st sg;go_wp2;refine bodyPost_ret (jg2 rfl _ _ (w.heap.size+1) rfl R1.out) rfl ?_;exact ⟨rfl,RG.out⟩
end Go.Proofs.YtekocmdfaaoggaaGreatDoor
namespace Go.Proofs.YtekocmdfaaoggaaGreatDoor
open Go.RowKit
theorem joX (g:Int→Int→Int) (b:Nat) (u:Sl) (xs:List Int) (w:World) (hx:jak w u.v xs) (h0:0<xs.length) (hl:xs.length≤65536) (hb:jjt g w b):Calls Tryz.prog 33 #[.slice u.a u.n u.c,.pointer (some ⟨b,0,none⟩)] w fun e w'=>e=.returned (.int .i64 (jqQ g xs))∧w.grownBy w' none:=by
 obtain ⟨ua,un,uc⟩:=u;obtain ⟨_,_,eu,d1,d2,d3⟩:=hx.sl;simp only [Sl.v,Value.slice.injEq] at eu;obtain ⟨rfl,rfl,rfl⟩:=eu;obtain ⟨xb,xo,rfl,hc⟩:=hx.get h0;have q0:=hc 0 h0;rw [Nat.add_zero] at q0;obtain ⟨C,hC⟩ : ∃ C,uc=1+C:=⟨uc - 1,by omega⟩
 obtain ⟨m,hm⟩ : ∃ m,xs.length=1+m:=⟨xs.length - 1,by omega⟩
 subst hC;simp only [Sl.v] at hx;rw [hm] at hx h0 d1 ⊢;have hmC:m≤C:=by omega
 have i1:(0:Int)<1+(m:Int):=by omega
 have HX:=jac hx;have H2:=jac hb;obtain ⟨z,hz⟩ : ∃ z,z=xs.getD 0 0:=⟨_,rfl⟩
 rw [← hz] at q0;have HZ:=jac hz;have HM:=jac hm;clear hx hb hc hz hm
 rcases Nat.eq_zero_or_pos C with hC0 | hC0
 ·subst hC0;obtain rfl:m=0:=by omega
  have ED:xs.tail=[]:=by rw [← List.drop_one];exact List.drop_of_length_le (by rw [HM.out];omega)
  have TG:Hid (∀ v,w.grownBy v none→v.heap[w.heap.size]?=some (.cells #[.int .i64 0] 2 (0,0))→Calls Tryz.prog 34 #[.agg #[.int .i64 0,.int .i64 z],.slice (some ⟨xb,xo,none⟩) 0 0,.func (.func 35) #[] #[.pointer (some ⟨w.heap.size,0,none⟩),.pointer (some ⟨b,0,none⟩)]] v fun e w'=>e=.returned (.agg #[.int .i64 (xs.tail.foldl (jdH g) (0,0,z)).2.1,.int .i64 (xs.tail.foldl (jdH g) (0,0,z)).2.2])∧v.grownBy w' (some w.heap.size)):=fun v hv hp=>jjv g w.heap.size b z ⟨some ⟨xb,xo,none⟩,0,0⟩ xs.tail w v hv (Nat.le_refl _) hp (by rw [ED];exact ⟨some ⟨xb,xo,none⟩,0,rfl,Nat.le_refl _,Nat.zero_le _,by simp,fun h=>by (first | exact ⟨rfl,rfl⟩ | cases h),fun h=>by simp at h,fun z hz=>by simp at hz⟩) (by rw [ED];exact Nat.zero_le _) H2.out;clear ED;have hmf:∀ (fn:Fn) (first cap:Array Value) (w:World),(Instr.makeFunc fn first cap).run Tryz.prog w=.ok (.func fn first cap) w:=fun _ _ _ _=>rfl;obtain ⟨⟨s0,s1,s2⟩,hs⟩ : ∃ s,s=xs.tail.foldl (jdH g) (0,0,z):=⟨_,rfl⟩
  rw [← hs] at TG;simp only at TG;have HS:=jac hs;clear hs;go_enter Tryz.func33,Tryz.ntmps33
  go_upto_region 2 with fail
  refine wp_region_held_drew (S:=fun w'=>w.grownBy w' none) (by kernel_rfl) (jag (jab _ _)) (fun hHeld=>?_);refine tkC 0 ?_ (hv:=by intro wS hSw;go_simp;(try with_reducible rfl))
  try simp only [Act.put]
  refine tkC 1 ?_ (hv:=by intro wS hSw;go_simp;(try with_reducible rfl))
  try simp only [Act.put]
  refine tkC 2 ?_ (hv:=by intro wS hSw;have c0:=jad q0 hSw;go_simp;(try with_reducible rfl))
  try simp only [Act.put]
  refine tkC 3 ?_ (hv:=by intro wS hSw;go_simp;(try with_reducible rfl))
  try simp only [Act.put]
  refine tkC 4 ?_ (hv:=by intro wS hSw;go_simp;(try with_reducible rfl))
  try simp only [Act.put]
  refine wpAnyH_take (i:=5) (v:=.slice (some ⟨xb,xo,none⟩) 0 0) rfl (by kernel_rfl) (by kernel_rfl) (by kernel_rfl) (fun _ _ _ h=>h) (Or.inl ⟨by kernel_rfl,?_⟩) (by assumption) ?_
  ·(intro wS hSw;go_simp;(try simp only []))
  try simp only [Act.put]
  refine tkC 6 ?_ (hv:=by intro wS hSw;go_simp;(try with_reducible rfl))
  try simp only [Act.put]
  have g:w.grownBy (w.alloc (.cells #[.int .i64 0] 2)).drew none:=jag (jab _ _);have hp:(w.alloc (.cells #[.int .i64 0] 2)).drew.heap[w.heap.size]?=some (.cells #[.int .i64 0] 2 (0,0)):=heap_alloc_new w (.cells #[.int .i64 0] 2);generalize hv:(w.alloc (.cells #[.int .i64 0] 2)).drew=v at g hp hHeld ⊢;clear hv hHeld;refine wpAnyH_ready (rs:=[7,8]) (by kernel_rfl) (by simp) ?_;refine AllReadyH.cons rfl (fun K hK=>?_) ?_
  ·go_simp;refine (TG.out v g hp).mono ?_;rintro e u ⟨rfl,hgu⟩;have gu:=jaq g hgu (Nat.le_refl _);refine hK.out _ _ gu (fun hHeld=>?_);clear hK K
   try simp only [Act.put]
   refine rdA 8 fun K hK=>?_;go_simp;have hq:=heap_alloc_new u (.cells #[.int .i64 0,.int .i64 0] 73);have gs:=jab u (.cells #[.int .i64 0,.int .i64 0] 73);have hb5:=gu.size;have gu2:=jaa gu gs;refine hK.out _ _ gu2 (fun hHeld=>?_);clear hK K
   try simp only [Act.put]
   generalize hvn:u.alloc (.cells #[.int .i64 0,.int .i64 0] 73)=y at hq gs gu2 hHeld ⊢;clear hvn gs
   replace gu:=gu2
   clear gu2;generalize u.heap.size=b5 at hq hb5 ⊢;obtain ⟨q0,q1,q2,q3⟩:=jbd hq;obtain ⟨st,sg⟩:=jdb (.int .i64 s1) (.int .i64 s2) hq;refine rdA 9 fun K hK=>?_;go_simp;have gz:=jaq gu sg hb5;refine hK.out _ _ gz (fun hHeld=>?_);clear hK K
   try simp only [Act.put]
   refine wpAnyH_done (by kernel_rfl) ?_ _;obtain ⟨m0,m1,-,-⟩:=jbd st;clear q0 q1 q2 q3;go_simp;go_wp2;go_ret;exact ⟨by unfold jqQ;rw [← HZ.out,← HS.out];rfl,gz⟩
  refine AllReadyH.cons rfl (fun K hK=>?_) AllReadyH.nil;go_simp;have hq:=heap_alloc_new v (.cells #[.int .i64 0,.int .i64 0] 73);have gs:=jab v (.cells #[.int .i64 0,.int .i64 0] 73);have hb5:=g.size;have hpl:w.heap.size<v.heap.size:=(Array.getElem?_eq_some_iff.1 hp).1
  replace hp:=jaf hp gs
  have g2:=jaa g gs;refine hK.out _ _ g2 (fun hHeld=>?_);clear hK K
  try simp only [Act.put]
  generalize hvn:v.alloc (.cells #[.int .i64 0,.int .i64 0] 73)=y at hq gs g2 hp hHeld ⊢;clear hvn gs g;have g:=g2;clear g2;generalize v.heap.size=b5 at hq hb5 hpl ⊢;refine rdA 7 fun K hK=>?_;go_simp;refine (TG.out y g hp).mono ?_;rintro e u ⟨rfl,hgu⟩;have gu:=jaq g hgu (Nat.le_refl _);refine hK.out _ _ gu (fun hHeld=>?_);clear hK K
  try simp only [Act.put]
  replace hq:=(hgu.block b5 (Array.getElem?_eq_some_iff.1 hq).1 (by simp only [ne_eq,Option.some.injEq];omega)).trans hq
  obtain ⟨q0,q1,q2,q3⟩:=jbd hq;obtain ⟨st,sg⟩:=jdb (.int .i64 s1) (.int .i64 s2) hq;refine rdA 9 fun K hK=>?_;go_simp;have gz:=jaq gu sg hb5;refine hK.out _ _ gz (fun hHeld=>?_);clear hK K
  try simp only [Act.put]
  refine wpAnyH_done (by kernel_rfl) ?_ _;obtain ⟨m0,m1,-,-⟩:=jbd st;clear q0 q1 q2 q3;go_simp;go_wp2;go_ret;exact ⟨by unfold jqQ;rw [← HZ.out,← HS.out];rfl,gz⟩
 ·have cx0:¬ C=0:=by omega
  have cx2:(m:Int)≤(C:Int):=by omega
  have cx3:¬ (1+(m:Int)<1):=by omega
  have e:=jgk HX.out 1 m C (by rw [HM.out];exact Nat.le_refl _) (Nat.le_refl _) hmC;rw [List.take_of_length_le (by rw [List.length_drop,HM.out];omega),List.drop_one] at e;have lt:xs.tail.length≤65536:=by rw [List.length_tail];omega
  have TG:Hid (∀ v,w.grownBy v none→v.heap[w.heap.size]?=some (.cells #[.int .i64 0] 2 (0,0))→Calls Tryz.prog 34 #[.agg #[.int .i64 0,.int .i64 z],.slice (some ⟨xb,xo+1,none⟩) m C,.func (.func 35) #[] #[.pointer (some ⟨w.heap.size,0,none⟩),.pointer (some ⟨b,0,none⟩)]] v fun e w'=>e=.returned (.agg #[.int .i64 (xs.tail.foldl (jdH g) (0,0,z)).2.1,.int .i64 (xs.tail.foldl (jdH g) (0,0,z)).2.2])∧v.grownBy w' (some w.heap.size)):=fun v hv hp=>jjv g w.heap.size b z ⟨some ⟨xb,xo+1,none⟩,m,C⟩ xs.tail w v hv (Nat.le_refl _) hp e lt H2.out;clear e lt;have hmf:∀ (fn:Fn) (first cap:Array Value) (w:World),(Instr.makeFunc fn first cap).run Tryz.prog w=.ok (.func fn first cap) w:=fun _ _ _ _=>rfl;obtain ⟨⟨s0,s1,s2⟩,hs⟩ : ∃ s,s=xs.tail.foldl (jdH g) (0,0,z):=⟨_,rfl⟩
  rw [← hs] at TG;simp only at TG;have HS:=jac hs;clear hs;go_enter Tryz.func33,Tryz.ntmps33
  go_upto_region 2 with fail
  refine wp_region_held_drew (S:=fun w'=>w.grownBy w' none) (by kernel_rfl) (jag (jab _ _)) (fun hHeld=>?_);refine tkC 0 ?_ (hv:=by intro wS hSw;go_simp;(try with_reducible rfl))
  try simp only [Act.put]
  refine tkC 1 ?_ (hv:=by intro wS hSw;go_simp;(try with_reducible rfl))
  try simp only [Act.put]
  refine tkC 2 ?_ (hv:=by intro wS hSw;have c0:=jad q0 hSw;go_simp;(try with_reducible rfl))
  try simp only [Act.put]
  refine tkC 3 ?_ (hv:=by intro wS hSw;go_simp;(try with_reducible rfl))
  try simp only [Act.put]
  refine tkC 4 ?_ (hv:=by intro wS hSw;go_simp;(try with_reducible rfl))
  try simp only [Act.put]
  refine wpAnyH_take (i:=5) (v:=.slice (some ⟨xb,xo+1,none⟩) m C) rfl (by kernel_rfl) (by kernel_rfl) (by kernel_rfl) (fun _ _ _ h=>h) (Or.inl ⟨by kernel_rfl,?_⟩) (by assumption) ?_
  ·(intro wS hSw;go_simp;(try simp only []))
  try simp only [Act.put]
  refine tkC 6 ?_ (hv:=by intro wS hSw;go_simp;(try with_reducible rfl))
  try simp only [Act.put]
  have g:w.grownBy (w.alloc (.cells #[.int .i64 0] 2)).drew none:=jag (jab _ _);have hp:(w.alloc (.cells #[.int .i64 0] 2)).drew.heap[w.heap.size]?=some (.cells #[.int .i64 0] 2 (0,0)):=heap_alloc_new w (.cells #[.int .i64 0] 2);generalize hv:(w.alloc (.cells #[.int .i64 0] 2)).drew=v at g hp hHeld ⊢;clear hv hHeld;refine wpAnyH_ready (rs:=[7,8]) (by kernel_rfl) (by simp) ?_;refine AllReadyH.cons rfl (fun K hK=>?_) ?_
  ·go_simp;refine (TG.out v g hp).mono ?_;rintro e u ⟨rfl,hgu⟩;have gu:=jaq g hgu (Nat.le_refl _);refine hK.out _ _ gu (fun hHeld=>?_);clear hK K
   try simp only [Act.put]
   refine rdA 8 fun K hK=>?_;go_simp;have hq:=heap_alloc_new u (.cells #[.int .i64 0,.int .i64 0] 73);have gs:=jab u (.cells #[.int .i64 0,.int .i64 0] 73);have hb5:=gu.size;have gu2:=jaa gu gs;refine hK.out _ _ gu2 (fun hHeld=>?_);clear hK K
   try simp only [Act.put]
   generalize hvn:u.alloc (.cells #[.int .i64 0,.int .i64 0] 73)=y at hq gs gu2 hHeld ⊢;clear hvn gs
   replace gu:=gu2
   clear gu2;generalize u.heap.size=b5 at hq hb5 ⊢;obtain ⟨q0,q1,q2,q3⟩:=jbd hq;obtain ⟨st,sg⟩:=jdb (.int .i64 s1) (.int .i64 s2) hq;refine rdA 9 fun K hK=>?_;go_simp;have gz:=jaq gu sg hb5;refine hK.out _ _ gz (fun hHeld=>?_);clear hK K
   try simp only [Act.put]
   refine wpAnyH_done (by kernel_rfl) ?_ _;obtain ⟨m0,m1,-,-⟩:=jbd st;clear q0 q1 q2 q3;go_simp;go_wp2;go_ret;exact ⟨by unfold jqQ;rw [← HZ.out,← HS.out];rfl,gz⟩
  refine AllReadyH.cons rfl (fun K hK=>?_) AllReadyH.nil;go_simp;have hq:=heap_alloc_new v (.cells #[.int .i64 0,.int .i64 0] 73);have gs:=jab v (.cells #[.int .i64 0,.int .i64 0] 73);have hb5:=g.size;have hpl:w.heap.size<v.heap.size:=(Array.getElem?_eq_some_iff.1 hp).1
  replace hp:=jaf hp gs
  have g2:=jaa g gs;refine hK.out _ _ g2 (fun hHeld=>?_);clear hK K
  try simp only [Act.put]
  generalize hvn:v.alloc (.cells #[.int .i64 0,.int .i64 0] 73)=y at hq gs g2 hp hHeld ⊢;clear hvn gs g;have g:=g2;clear g2;generalize v.heap.size=b5 at hq hb5 hpl ⊢;refine rdA 7 fun K hK=>?_;go_simp;refine (TG.out y g hp).mono ?_;rintro e u ⟨rfl,hgu⟩;have gu:=jaq g hgu (Nat.le_refl _);refine hK.out _ _ gu (fun hHeld=>?_);clear hK K
  try simp only [Act.put]
  replace hq:=(hgu.block b5 (Array.getElem?_eq_some_iff.1 hq).1 (by simp only [ne_eq,Option.some.injEq];omega)).trans hq
  obtain ⟨q0,q1,q2,q3⟩:=jbd hq;obtain ⟨st,sg⟩:=jdb (.int .i64 s1) (.int .i64 s2) hq;refine rdA 9 fun K hK=>?_;go_simp;have gz:=jaq gu sg hb5;refine hK.out _ _ gz (fun hHeld=>?_);clear hK K
  try simp only [Act.put]
  refine wpAnyH_done (by kernel_rfl) ?_ _;obtain ⟨m0,m1,-,-⟩:=jbd st;clear q0 q1 q2 q3;go_simp;go_wp2;go_ret;exact ⟨by unfold jqQ;rw [← HZ.out,← HS.out];rfl,gz⟩
end Go.Proofs.YtekocmdfaaoggaaGreatDoor
