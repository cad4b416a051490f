/- A part. -/
import Derived.Test.YtbgbpfbjeleooaaGreatMRart
import Derived.Test.YtbgbpfbjeleooaaGreatRartBG
import Derived.Deep.CutRange
set_option maxHeartbeats 12800000
set_option maxRecDepth 100000
namespace Go.Proofs.YtbgbpfbjeleooaaGreat.Pd
open Go.RowKit
open Wr (Fld)
theorem jbj {N R:Prop} (h:N→R) (n:N):R:=h n
theorem jeK {w:World} {b B t1 t2:Nat} {c1 c2:Array Value} {m1 m2:Nat×Nat} (h1:w.heap[b]?=some (.cells c1 t1 m1)) (h2:w.heap[B]?=some (.cells c2 t2 m2)) (ht:t1≠t2):b≠B:=by
 rintro rfl;rw [h1] at h2;simp only [Option.some.injEq,Obj.cells.injEq] at h2;exact ht h2.2.1
theorem jhw {w3:World} {B:Nat} {z0 z1:Value} {t:TypeId} (a b:Value) (hb:w3.heap[B]?=some (.cells #[z0,z1] t (0,0))) :
    ((w3.setCell ⟨B,0,none⟩ a).setCell ⟨B,1,none⟩ b).heap[B]?=some (.cells #[a,b] t (0,0))∧w3.grownBy ((w3.setCell ⟨B,0,none⟩ a).setCell ⟨B,1,none⟩ b) (some B) :=
     ⟨(joi (joi hb a).1 b).2,Wr.row_trans (jak w3 B 0 a) (jak _ B 1 b)⟩
theorem jfZ {w:World} {B b1:Nat} {f:Fld} (hm:w.heap[B]?=some (.cells #[.slice (some ⟨b1,0,none⟩) 1 1,.int .i64 0] 114 (0,0))) (hf:w.heap[b1]?=some (.cells #[.int .i64 f.num,.int .i64 f.kind,.int .u64 f.u,.string f.b] 49 (0,0))):jda w 0 B [f] 0 :=
 ⟨⟨some ⟨b1,0,none⟩,1,1⟩,hm,⟨rfl,Or.inr ⟨b1,1,_,rfl,Nat.zero_le _,hf,Nat.le_refl _,by decide,rfl,rfl⟩⟩,Nat.zero_le _⟩
def shP (a b:Fld):R Fld:=(wrP [a]).bind fun s=>(wrP [b]).bind fun t=>.ok (if s.size≤t.size then a else b)
theorem jeL (a b:Fld) (w:World) (ha:Wr.FldIn a) (hb:Wr.FldIn b) :
    Calls Tryz.prog 147 #[jcH a,jcH b] w (jbU w (shP a b) fun f v _=>v=jcH f):=by
     have HA:=jac ha;have HB:=jac hb;unfold jcH;obtain ⟨w0,hw0⟩ : ∃ w0,w0=((w.alloc (.cells #[.int .i64 a.num,.int .i64 a.kind,.int .u64 a.u,.string a.b] 49)).alloc (.cells #[.int .i64 b.num,.int .i64 b.kind,.int .u64 b.u,.string b.b] 49)).alloc (.cells #[.int .i64 0,.int .i64 0,.int .u64 0,.string ⟨#[]⟩] 49):=⟨_,rfl⟩
     have g0:w.grownBy w0 none:=by rw [hw0];exact jaa (jaa (jab _ _) (jab _ _)) (jab _ _)
     have h1:w0.heap[w.heap.size]?=some (.cells #[.int .i64 a.num,.int .i64 a.kind,.int .u64 a.u,.string a.b] 49 (0,0)):=by rw [hw0];exact jb1 _ _ _ _ _ _ _
     have h2:w0.heap[w.heap.size+1]?=some (.cells #[.int .i64 b.num,.int .i64 b.kind,.int .u64 b.u,.string b.b] 49 (0,0)):=by rw [hw0];exact jbO _ _ _ _ _ _ _
     have h3:w0.heap[w.heap.size+1+1]?=some (.cells #[.int .i64 0,.int .i64 0,.int .u64 0,.string ⟨#[]⟩] 49 (0,0)):=by rw [hw0];exact jb2 _ _ _ _ _ _ _
     obtain ⟨⟨y0,y1,y2,y3⟩,-⟩:=jaZ h1;obtain ⟨⟨z0,z1,z2,z3⟩,-⟩:=jaZ h2;have Ba:Hid (∀ wx,w0.grownBy wx none→wx.heap[w.heap.size]?=some (.cells #[.int .i64 a.num,.int .i64 a.kind,.int .u64 a.u,.string a.b] 49 (0,0))):=fun wx hg=>jag h1 hg;have Bb:Hid (∀ wx,w0.grownBy wx none→wx.heap[w.heap.size+1]?=some (.cells #[.int .i64 b.num,.int .i64 b.kind,.int .u64 b.u,.string b.b] 49 (0,0))):=fun wx hg=>jag h2 hg;have BR:Hid (∀ wx,w0.grownBy wx none→wx.heap[w.heap.size+1+1]?=some (.cells #[.int .i64 0,.int .i64 0,.int .u64 0,.string ⟨#[]⟩] 49 (0,0))):=fun wx hg=>jag h3 hg;have G0:=jac g0;clear ha hb h1 h2 h3 g0;go_enter Tryz.func147,Tryz.ntmps147
     go_upto_region 1 with fail
     rw [← hw0];clear hw0;go_cut [5,6] from 7 to 12 (fun t5 t6 wx=>w0.grownBy wx none∧∃ b6 b7:Nat,t5=.pointer (some ⟨b6,0,none⟩)∧t6=.pointer (some ⟨b7,0,none⟩)∧jda wx 0 b6 [a] 0∧jda wx 0 b7 [b] 0)
     case first =>
      refine wp_region_held_drew (S:=fun w'=>w0.grownBy w' none) (by kernel_rfl) ⟨rfl,rfl,rfl,Nat.le_refl _,fun _ _ _=>rfl⟩ (fun _=>?_)
      refine' jbj (N:=∀ (v:World) (b1:Nat) (b4:Nat) (b6:Nat) (b7:Nat),w0.grownBy v none→v.heap[b1]?=some (.cells #[.int .i64 a.num,.int .i64 a.kind,.int .u64 a.u,.string a.b] 49 (0,0))→v.heap[b4]?=some (.cells #[.int .i64 b.num,.int .i64 b.kind,.int .u64 b.u,.string b.b] 49 (0,0))→v.heap[b6]?=some (.cells #[.slice none 0 0,.int .i64 0] 114 (0,0))→w0.heap.size≤b6→v.heap[b7]?=some (.cells #[.slice none 0 0,.int .i64 0] 114 (0,0))→w0.heap.size≤b7→b6≠b7→(_:World→Nat→Nat→Nat→Nat→Prop) v b1 b4 b6 b7) (fun N1_4_6_7=>?_) ?_
      rotate_left 1
      refine' jbj (N:=∀ (v:World) (b1:Nat) (b4:Nat) (b6:Nat),w0.grownBy v none→v.heap[b1]?=some (.cells #[.int .i64 a.num,.int .i64 a.kind,.int .u64 a.u,.string a.b] 49 (0,0))→v.heap[b4]?=some (.cells #[.int .i64 b.num,.int .i64 b.kind,.int .u64 b.u,.string b.b] 49 (0,0))→v.heap[b6]?=some (.cells #[.slice none 0 0,.int .i64 0] 114 (0,0))→w0.heap.size≤b6→(_:World→Nat→Nat→Nat→Prop) v b1 b4 b6) (fun N1_4_6=>?_) ?_
      rotate_left 1
      refine' jbj (N:=∀ (v:World) (b1:Nat) (b4:Nat) (b7:Nat),w0.grownBy v none→v.heap[b1]?=some (.cells #[.int .i64 a.num,.int .i64 a.kind,.int .u64 a.u,.string a.b] 49 (0,0))→v.heap[b4]?=some (.cells #[.int .i64 b.num,.int .i64 b.kind,.int .u64 b.u,.string b.b] 49 (0,0))→v.heap[b7]?=some (.cells #[.slice none 0 0,.int .i64 0] 114 (0,0))→w0.heap.size≤b7→(_:World→Nat→Nat→Nat→Prop) v b1 b4 b7) (fun N1_4_7=>?_) ?_
      rotate_left 1
      refine' jbj (N:=∀ (v:World) (b1:Nat) (b6:Nat) (b7:Nat),w0.grownBy v none→v.heap[b1]?=some (.cells #[.int .i64 a.num,.int .i64 a.kind,.int .u64 a.u,.string a.b] 49 (0,0))→v.heap[b6]?=some (.cells #[.slice none 0 0,.int .i64 0] 114 (0,0))→w0.heap.size≤b6→v.heap[b7]?=some (.cells #[.slice none 0 0,.int .i64 0] 114 (0,0))→w0.heap.size≤b7→b6≠b7→(_:World→Nat→Nat→Nat→Prop) v b1 b6 b7) (fun N1_6_7=>?_) ?_
      rotate_left 1
      refine' jbj (N:=∀ (v:World) (b4:Nat) (b6:Nat) (b7:Nat),w0.grownBy v none→v.heap[b4]?=some (.cells #[.int .i64 b.num,.int .i64 b.kind,.int .u64 b.u,.string b.b] 49 (0,0))→v.heap[b6]?=some (.cells #[.slice none 0 0,.int .i64 0] 114 (0,0))→w0.heap.size≤b6→v.heap[b7]?=some (.cells #[.slice none 0 0,.int .i64 0] 114 (0,0))→w0.heap.size≤b7→b6≠b7→(_:World→Nat→Nat→Nat→Prop) v b4 b6 b7) (fun N4_6_7=>?_) ?_
      rotate_left 1
      refine' jbj (N:=∀ (v:World) (b1:Nat) (b4:Nat),w0.grownBy v none→v.heap[b1]?=some (.cells #[.int .i64 a.num,.int .i64 a.kind,.int .u64 a.u,.string a.b] 49 (0,0))→v.heap[b4]?=some (.cells #[.int .i64 b.num,.int .i64 b.kind,.int .u64 b.u,.string b.b] 49 (0,0))→(_:World→Nat→Nat→Prop) v b1 b4) (fun N1_4=>?_) ?_
      rotate_left 1
      refine' jbj (N:=∀ (v:World) (b1:Nat) (b6:Nat),w0.grownBy v none→v.heap[b1]?=some (.cells #[.int .i64 a.num,.int .i64 a.kind,.int .u64 a.u,.string a.b] 49 (0,0))→v.heap[b6]?=some (.cells #[.slice none 0 0,.int .i64 0] 114 (0,0))→w0.heap.size≤b6→(_:World→Nat→Nat→Prop) v b1 b6) (fun N1_6=>?_) ?_
      rotate_left 1
      refine' jbj (N:=∀ (v:World) (b1:Nat) (b7:Nat),w0.grownBy v none→v.heap[b1]?=some (.cells #[.int .i64 a.num,.int .i64 a.kind,.int .u64 a.u,.string a.b] 49 (0,0))→v.heap[b7]?=some (.cells #[.slice none 0 0,.int .i64 0] 114 (0,0))→w0.heap.size≤b7→(_:World→Nat→Nat→Prop) v b1 b7) (fun N1_7=>?_) ?_
      rotate_left 1
      refine' jbj (N:=∀ (v:World) (b4:Nat) (b6:Nat),w0.grownBy v none→v.heap[b4]?=some (.cells #[.int .i64 b.num,.int .i64 b.kind,.int .u64 b.u,.string b.b] 49 (0,0))→v.heap[b6]?=some (.cells #[.slice none 0 0,.int .i64 0] 114 (0,0))→w0.heap.size≤b6→(_:World→Nat→Nat→Prop) v b4 b6) (fun N4_6=>?_) ?_
      rotate_left 1
      refine' jbj (N:=∀ (v:World) (b4:Nat) (b7:Nat),w0.grownBy v none→v.heap[b4]?=some (.cells #[.int .i64 b.num,.int .i64 b.kind,.int .u64 b.u,.string b.b] 49 (0,0))→v.heap[b7]?=some (.cells #[.slice none 0 0,.int .i64 0] 114 (0,0))→w0.heap.size≤b7→(_:World→Nat→Nat→Prop) v b4 b7) (fun N4_7=>?_) ?_
      rotate_left 1
      refine' jbj (N:=∀ (v:World) (b6:Nat) (b7:Nat),w0.grownBy v none→v.heap[b6]?=some (.cells #[.slice none 0 0,.int .i64 0] 114 (0,0))→w0.heap.size≤b6→v.heap[b7]?=some (.cells #[.slice none 0 0,.int .i64 0] 114 (0,0))→w0.heap.size≤b7→b6≠b7→(_:World→Nat→Nat→Prop) v b6 b7) (fun N6_7=>?_) ?_
      rotate_left 1
      refine' jbj (N:=∀ (v:World) (b1:Nat),w0.grownBy v none→v.heap[b1]?=some (.cells #[.int .i64 a.num,.int .i64 a.kind,.int .u64 a.u,.string a.b] 49 (0,0))→(_:World→Nat→Prop) v b1) (fun N1=>?_) ?_
      rotate_left 1
      refine' jbj (N:=∀ (v:World) (b4:Nat),w0.grownBy v none→v.heap[b4]?=some (.cells #[.int .i64 b.num,.int .i64 b.kind,.int .u64 b.u,.string b.b] 49 (0,0))→(_:World→Nat→Prop) v b4) (fun N4=>?_) ?_
      rotate_left 1
      refine' jbj (N:=∀ (v:World) (b6:Nat),w0.grownBy v none→v.heap[b6]?=some (.cells #[.slice none 0 0,.int .i64 0] 114 (0,0))→w0.heap.size≤b6→(_:World→Nat→Prop) v b6) (fun N6=>?_) ?_
      rotate_left 1
      refine' jbj (N:=∀ (v:World) (b7:Nat),w0.grownBy v none→v.heap[b7]?=some (.cells #[.slice none 0 0,.int .i64 0] 114 (0,0))→w0.heap.size≤b7→(_:World→Nat→Prop) v b7) (fun N7=>?_) ?_
      rotate_left 1
      ·have g:w0.grownBy w0.drew none:=jaz (jae _);generalize hv:w0.drew=v at g ⊢;clear hv;refine tkC 0 ?_ (hv:=by intro wS hSw;have c0:=jai y0 hSw;have c1:=jai y1 hSw;have c2:=jai y2 hSw;have c3:=jai y3 hSw;go_simp;(try with_reducible rfl))
       try simp only [Act.put]
       refine tkC 3 ?_ (hv:=by intro wS hSw;have c0:=jai z0 hSw;have c1:=jai z1 hSw;have c2:=jai z2 hSw;have c3:=jai z3 hSw;go_simp;(try with_reducible rfl))
       try simp only [Act.put]
       refine wpAnyH_ready (rs:=[1,4,6,7]) (by kernel_rfl) (by simp) ?_;refine AllReadyH.cons rfl (fun K hK=>?_) ?_
       ·go_simp;have h1:=heap_alloc_new v (.cells #[.int .i64 a.num,.int .i64 a.kind,.int .u64 a.u,.string a.b] 49);have gs:=jab v (.cells #[.int .i64 a.num,.int .i64 a.kind,.int .u64 a.u,.string a.b] 49);generalize hvn:v.alloc (.cells #[.int .i64 a.num,.int .i64 a.kind,.int .u64 a.u,.string a.b] 49)=u at h1 gs ⊢;clear hvn;generalize v.heap.size=b1 at h1 ⊢;have gn:=jaa g gs;refine hK.out _ _ gn (fun hHeld=>?_);clear hK K
        try simp only [Act.put]
        refine tkC 2 ?_ (hv:=by intro wS hSw;go_simp;(try with_reducible rfl))
        try simp only [Act.put]
        clear g gs hHeld;exact N1 u b1 gn h1
       refine AllReadyH.cons rfl (fun K hK=>?_) ?_
       ·go_simp;have h4:=heap_alloc_new v (.cells #[.int .i64 b.num,.int .i64 b.kind,.int .u64 b.u,.string b.b] 49);have gs:=jab v (.cells #[.int .i64 b.num,.int .i64 b.kind,.int .u64 b.u,.string b.b] 49);generalize hvn:v.alloc (.cells #[.int .i64 b.num,.int .i64 b.kind,.int .u64 b.u,.string b.b] 49)=u at h4 gs ⊢;clear hvn;generalize v.heap.size=b4 at h4 ⊢;have gn:=jaa g gs;refine hK.out _ _ gn (fun hHeld=>?_);clear hK K
        try simp only [Act.put]
        refine tkC 5 ?_ (hv:=by intro wS hSw;go_simp;(try with_reducible rfl))
        try simp only [Act.put]
        clear g gs hHeld;exact N4 u b4 gn h4
       refine AllReadyH.cons rfl (fun K hK=>?_) ?_
       ·go_simp;have l6:=g.size;have h6:=heap_alloc_new v (.cells #[.slice none 0 0,.int .i64 0] 114);have gs:=jab v (.cells #[.slice none 0 0,.int .i64 0] 114);generalize hvn:v.alloc (.cells #[.slice none 0 0,.int .i64 0] 114)=u at h6 gs ⊢;clear hvn;generalize v.heap.size=b6 at h6 l6 ⊢;have gn:=jaa g gs;refine hK.out _ _ gn (fun hHeld=>?_);clear hK K
        try simp only [Act.put]
        clear g gs hHeld;exact N6 u b6 gn h6 l6
       refine AllReadyH.cons rfl (fun K hK=>?_) ?_
       ·go_simp;have l7:=g.size;have h7:=heap_alloc_new v (.cells #[.slice none 0 0,.int .i64 0] 114);have gs:=jab v (.cells #[.slice none 0 0,.int .i64 0] 114);generalize hvn:v.alloc (.cells #[.slice none 0 0,.int .i64 0] 114)=u at h7 gs ⊢;clear hvn;generalize v.heap.size=b7 at h7 l7 ⊢;have gn:=jaa g gs;refine hK.out _ _ gn (fun hHeld=>?_);clear hK K
        try simp only [Act.put]
        clear g gs hHeld;exact N7 u b7 gn h7 l7
       exact AllReadyH.nil
      ·intro v b7 g h7 l7;refine wpAnyH_ready (rs:=[1,4,6]) (by kernel_rfl) (by simp) ?_;refine AllReadyH.cons rfl (fun K hK=>?_) ?_
       ·go_simp;have h1:=heap_alloc_new v (.cells #[.int .i64 a.num,.int .i64 a.kind,.int .u64 a.u,.string a.b] 49);have gs:=jab v (.cells #[.int .i64 a.num,.int .i64 a.kind,.int .u64 a.u,.string a.b] 49);generalize hvn:v.alloc (.cells #[.int .i64 a.num,.int .i64 a.kind,.int .u64 a.u,.string a.b] 49)=u at h1 gs ⊢;clear hvn;generalize v.heap.size=b1 at h1 ⊢;have gn:=jaa g gs;refine hK.out _ _ gn (fun hHeld=>?_);clear hK K
        try simp only [Act.put]
        refine tkC 2 ?_ (hv:=by intro wS hSw;go_simp;(try with_reducible rfl))
        try simp only [Act.put]
        have h7:=jag h7 gs;clear g gs hHeld;exact N1_7 u b1 b7 gn h1 h7 l7
       refine AllReadyH.cons rfl (fun K hK=>?_) ?_
       ·go_simp;have h4:=heap_alloc_new v (.cells #[.int .i64 b.num,.int .i64 b.kind,.int .u64 b.u,.string b.b] 49);have gs:=jab v (.cells #[.int .i64 b.num,.int .i64 b.kind,.int .u64 b.u,.string b.b] 49);generalize hvn:v.alloc (.cells #[.int .i64 b.num,.int .i64 b.kind,.int .u64 b.u,.string b.b] 49)=u at h4 gs ⊢;clear hvn;generalize v.heap.size=b4 at h4 ⊢;have gn:=jaa g gs;refine hK.out _ _ gn (fun hHeld=>?_);clear hK K
        try simp only [Act.put]
        refine tkC 5 ?_ (hv:=by intro wS hSw;go_simp;(try with_reducible rfl))
        try simp only [Act.put]
        have h7:=jag h7 gs;clear g gs hHeld;exact N4_7 u b4 b7 gn h4 h7 l7
       refine AllReadyH.cons rfl (fun K hK=>?_) ?_
       ·go_simp;have l6:=g.size;have d6_7:v.heap.size≠b7:=fun e=>by have h9:=(Array.getElem?_eq_some_iff.1 h7).1;omega
        have h6:=heap_alloc_new v (.cells #[.slice none 0 0,.int .i64 0] 114);have gs:=jab v (.cells #[.slice none 0 0,.int .i64 0] 114);generalize hvn:v.alloc (.cells #[.slice none 0 0,.int .i64 0] 114)=u at h6 gs ⊢;clear hvn;generalize v.heap.size=b6 at h6 l6 d6_7 ⊢;have gn:=jaa g gs;refine hK.out _ _ gn (fun hHeld=>?_);clear hK K
        try simp only [Act.put]
        have h7:=jag h7 gs;clear g gs hHeld;exact N6_7 u b6 b7 gn h6 l6 h7 l7 d6_7
       exact AllReadyH.nil
      ·intro v b6 g h6 l6;refine wpAnyH_ready (rs:=[1,4,7]) (by kernel_rfl) (by simp) ?_;refine AllReadyH.cons rfl (fun K hK=>?_) ?_
       ·go_simp;have h1:=heap_alloc_new v (.cells #[.int .i64 a.num,.int .i64 a.kind,.int .u64 a.u,.string a.b] 49);have gs:=jab v (.cells #[.int .i64 a.num,.int .i64 a.kind,.int .u64 a.u,.string a.b] 49);generalize hvn:v.alloc (.cells #[.int .i64 a.num,.int .i64 a.kind,.int .u64 a.u,.string a.b] 49)=u at h1 gs ⊢;clear hvn;generalize v.heap.size=b1 at h1 ⊢;have gn:=jaa g gs;refine hK.out _ _ gn (fun hHeld=>?_);clear hK K
        try simp only [Act.put]
        refine tkC 2 ?_ (hv:=by intro wS hSw;go_simp;(try with_reducible rfl))
        try simp only [Act.put]
        have h6:=jag h6 gs;clear g gs hHeld;exact N1_6 u b1 b6 gn h1 h6 l6
       refine AllReadyH.cons rfl (fun K hK=>?_) ?_
       ·go_simp;have h4:=heap_alloc_new v (.cells #[.int .i64 b.num,.int .i64 b.kind,.int .u64 b.u,.string b.b] 49);have gs:=jab v (.cells #[.int .i64 b.num,.int .i64 b.kind,.int .u64 b.u,.string b.b] 49);generalize hvn:v.alloc (.cells #[.int .i64 b.num,.int .i64 b.kind,.int .u64 b.u,.string b.b] 49)=u at h4 gs ⊢;clear hvn;generalize v.heap.size=b4 at h4 ⊢;have gn:=jaa g gs;refine hK.out _ _ gn (fun hHeld=>?_);clear hK K
        try simp only [Act.put]
        refine tkC 5 ?_ (hv:=by intro wS hSw;go_simp;(try with_reducible rfl))
        try simp only [Act.put]
        have h6:=jag h6 gs;clear g gs hHeld;exact N4_6 u b4 b6 gn h4 h6 l6
       refine AllReadyH.cons rfl (fun K hK=>?_) ?_
       ·go_simp;have l7:=g.size;have d6_7:b6≠v.heap.size:=fun e=>by have h9:=(Array.getElem?_eq_some_iff.1 h6).1;omega
        have h7:=heap_alloc_new v (.cells #[.slice none 0 0,.int .i64 0] 114);have gs:=jab v (.cells #[.slice none 0 0,.int .i64 0] 114);generalize hvn:v.alloc (.cells #[.slice none 0 0,.int .i64 0] 114)=u at h7 gs ⊢;clear hvn;generalize v.heap.size=b7 at h7 l7 d6_7 ⊢;have gn:=jaa g gs;refine hK.out _ _ gn (fun hHeld=>?_);clear hK K
        try simp only [Act.put]
        have h6:=jag h6 gs;clear g gs hHeld;refine cast ?_ (N6_7 u b6 b7 gn h6 l6 h7 l7 d6_7)
        kernel_rfl
       exact AllReadyH.nil
      ·intro v b4 g h4;refine wpAnyH_ready (rs:=[1,6,7]) (by kernel_rfl) (by simp) ?_;refine AllReadyH.cons rfl (fun K hK=>?_) ?_
       ·go_simp;have h1:=heap_alloc_new v (.cells #[.int .i64 a.num,.int .i64 a.kind,.int .u64 a.u,.string a.b] 49);have gs:=jab v (.cells #[.int .i64 a.num,.int .i64 a.kind,.int .u64 a.u,.string a.b] 49);generalize hvn:v.alloc (.cells #[.int .i64 a.num,.int .i64 a.kind,.int .u64 a.u,.string a.b] 49)=u at h1 gs ⊢;clear hvn;generalize v.heap.size=b1 at h1 ⊢;have gn:=jaa g gs;refine hK.out _ _ gn (fun hHeld=>?_);clear hK K
        try simp only [Act.put]
        refine tkC 2 ?_ (hv:=by intro wS hSw;go_simp;(try with_reducible rfl))
        try simp only [Act.put]
        have h4:=jag h4 gs;clear g gs hHeld;exact N1_4 u b1 b4 gn h1 h4
       refine AllReadyH.cons rfl (fun K hK=>?_) ?_
       ·go_simp;have l6:=g.size;have h6:=heap_alloc_new v (.cells #[.slice none 0 0,.int .i64 0] 114);have gs:=jab v (.cells #[.slice none 0 0,.int .i64 0] 114);generalize hvn:v.alloc (.cells #[.slice none 0 0,.int .i64 0] 114)=u at h6 gs ⊢;clear hvn;generalize v.heap.size=b6 at h6 l6 ⊢;have gn:=jaa g gs;refine hK.out _ _ gn (fun hHeld=>?_);clear hK K
        try simp only [Act.put]
        have h4:=jag h4 gs;clear g gs hHeld;refine cast ?_ (N4_6 u b4 b6 gn h4 h6 l6)
        kernel_rfl
       refine AllReadyH.cons rfl (fun K hK=>?_) ?_
       ·go_simp;have l7:=g.size;have h7:=heap_alloc_new v (.cells #[.slice none 0 0,.int .i64 0] 114);have gs:=jab v (.cells #[.slice none 0 0,.int .i64 0] 114);generalize hvn:v.alloc (.cells #[.slice none 0 0,.int .i64 0] 114)=u at h7 gs ⊢;clear hvn;generalize v.heap.size=b7 at h7 l7 ⊢;have gn:=jaa g gs;refine hK.out _ _ gn (fun hHeld=>?_);clear hK K
        try simp only [Act.put]
        have h4:=jag h4 gs;clear g gs hHeld;refine cast ?_ (N4_7 u b4 b7 gn h4 h7 l7)
        kernel_rfl
       exact AllReadyH.nil
      ·intro v b1 g h1;refine wpAnyH_ready (rs:=[4,6,7]) (by kernel_rfl) (by simp) ?_;refine AllReadyH.cons rfl (fun K hK=>?_) ?_
       ·go_simp;have h4:=heap_alloc_new v (.cells #[.int .i64 b.num,.int .i64 b.kind,.int .u64 b.u,.string b.b] 49);have gs:=jab v (.cells #[.int .i64 b.num,.int .i64 b.kind,.int .u64 b.u,.string b.b] 49);generalize hvn:v.alloc (.cells #[.int .i64 b.num,.int .i64 b.kind,.int .u64 b.u,.string b.b] 49)=u at h4 gs ⊢;clear hvn;generalize v.heap.size=b4 at h4 ⊢;have gn:=jaa g gs;refine hK.out _ _ gn (fun hHeld=>?_);clear hK K
        try simp only [Act.put]
        refine tkC 5 ?_ (hv:=by intro wS hSw;go_simp;(try with_reducible rfl))
        try simp only [Act.put]
        have h1:=jag h1 gs;clear g gs hHeld;refine cast ?_ (N1_4 u b1 b4 gn h1 h4)
        kernel_rfl
       refine AllReadyH.cons rfl (fun K hK=>?_) ?_
       ·go_simp;have l6:=g.size;have h6:=heap_alloc_new v (.cells #[.slice none 0 0,.int .i64 0] 114);have gs:=jab v (.cells #[.slice none 0 0,.int .i64 0] 114);generalize hvn:v.alloc (.cells #[.slice none 0 0,.int .i64 0] 114)=u at h6 gs ⊢;clear hvn;generalize v.heap.size=b6 at h6 l6 ⊢;have gn:=jaa g gs;refine hK.out _ _ gn (fun hHeld=>?_);clear hK K
        try simp only [Act.put]
        have h1:=jag h1 gs;clear g gs hHeld;refine cast ?_ (N1_6 u b1 b6 gn h1 h6 l6)
        kernel_rfl
       refine AllReadyH.cons rfl (fun K hK=>?_) ?_
       ·go_simp;have l7:=g.size;have h7:=heap_alloc_new v (.cells #[.slice none 0 0,.int .i64 0] 114);have gs:=jab v (.cells #[.slice none 0 0,.int .i64 0] 114);generalize hvn:v.alloc (.cells #[.slice none 0 0,.int .i64 0] 114)=u at h7 gs ⊢;clear hvn;generalize v.heap.size=b7 at h7 l7 ⊢;have gn:=jaa g gs;refine hK.out _ _ gn (fun hHeld=>?_);clear hK K
        try simp only [Act.put]
        have h1:=jag h1 gs;clear g gs hHeld;refine cast ?_ (N1_7 u b1 b7 gn h1 h7 l7)
        kernel_rfl
       exact AllReadyH.nil
      ·intro v b6 b7 g h6 l6 h7 l7 d6_7;refine wpAnyH_ready (rs:=[1,4]) (by kernel_rfl) (by simp) ?_;refine AllReadyH.cons rfl (fun K hK=>?_) ?_
       ·go_simp;have h1:=heap_alloc_new v (.cells #[.int .i64 a.num,.int .i64 a.kind,.int .u64 a.u,.string a.b] 49);have gs:=jab v (.cells #[.int .i64 a.num,.int .i64 a.kind,.int .u64 a.u,.string a.b] 49);generalize hvn:v.alloc (.cells #[.int .i64 a.num,.int .i64 a.kind,.int .u64 a.u,.string a.b] 49)=u at h1 gs ⊢;clear hvn;generalize v.heap.size=b1 at h1 ⊢;have gn:=jaa g gs;refine hK.out _ _ gn (fun hHeld=>?_);clear hK K
        try simp only [Act.put]
        refine tkC 2 ?_ (hv:=by intro wS hSw;go_simp;(try with_reducible rfl))
        try simp only [Act.put]
        have h6:=jag h6 gs;have h7:=jag h7 gs;clear g gs hHeld;exact N1_6_7 u b1 b6 b7 gn h1 h6 l6 h7 l7 d6_7
       refine AllReadyH.cons rfl (fun K hK=>?_) ?_
       ·go_simp;have h4:=heap_alloc_new v (.cells #[.int .i64 b.num,.int .i64 b.kind,.int .u64 b.u,.string b.b] 49);have gs:=jab v (.cells #[.int .i64 b.num,.int .i64 b.kind,.int .u64 b.u,.string b.b] 49);generalize hvn:v.alloc (.cells #[.int .i64 b.num,.int .i64 b.kind,.int .u64 b.u,.string b.b] 49)=u at h4 gs ⊢;clear hvn;generalize v.heap.size=b4 at h4 ⊢;have gn:=jaa g gs;refine hK.out _ _ gn (fun hHeld=>?_);clear hK K
        try simp only [Act.put]
        refine tkC 5 ?_ (hv:=by intro wS hSw;go_simp;(try with_reducible rfl))
        try simp only [Act.put]
        have h6:=jag h6 gs;have h7:=jag h7 gs;clear g gs hHeld;exact N4_6_7 u b4 b6 b7 gn h4 h6 l6 h7 l7 d6_7
       exact AllReadyH.nil
      ·intro v b4 b7 g h4 h7 l7;refine wpAnyH_ready (rs:=[1,6]) (by kernel_rfl) (by simp) ?_;refine AllReadyH.cons rfl (fun K hK=>?_) ?_
       ·go_simp;have h1:=heap_alloc_new v (.cells #[.int .i64 a.num,.int .i64 a.kind,.int .u64 a.u,.string a.b] 49);have gs:=jab v (.cells #[.int .i64 a.num,.int .i64 a.kind,.int .u64 a.u,.string a.b] 49);generalize hvn:v.alloc (.cells #[.int .i64 a.num,.int .i64 a.kind,.int .u64 a.u,.string a.b] 49)=u at h1 gs ⊢;clear hvn;generalize v.heap.size=b1 at h1 ⊢;have gn:=jaa g gs;refine hK.out _ _ gn (fun hHeld=>?_);clear hK K
        try simp only [Act.put]
        refine tkC 2 ?_ (hv:=by intro wS hSw;go_simp;(try with_reducible rfl))
        try simp only [Act.put]
        have h4:=jag h4 gs;have h7:=jag h7 gs;clear g gs hHeld;exact N1_4_7 u b1 b4 b7 gn h1 h4 h7 l7
       refine AllReadyH.cons rfl (fun K hK=>?_) ?_
       ·go_simp;have l6:=g.size;have d6_7:v.heap.size≠b7:=fun e=>by have h9:=(Array.getElem?_eq_some_iff.1 h7).1;omega
        have h6:=heap_alloc_new v (.cells #[.slice none 0 0,.int .i64 0] 114);have gs:=jab v (.cells #[.slice none 0 0,.int .i64 0] 114);generalize hvn:v.alloc (.cells #[.slice none 0 0,.int .i64 0] 114)=u at h6 gs ⊢;clear hvn;generalize v.heap.size=b6 at h6 l6 d6_7 ⊢;have gn:=jaa g gs;refine hK.out _ _ gn (fun hHeld=>?_);clear hK K
        try simp only [Act.put]
        have h4:=jag h4 gs;have h7:=jag h7 gs;clear g gs hHeld;refine cast ?_ (N4_6_7 u b4 b6 b7 gn h4 h6 l6 h7 l7 d6_7)
        kernel_rfl
       exact AllReadyH.nil
      ·intro v b4 b6 g h4 h6 l6;refine wpAnyH_ready (rs:=[1,7]) (by kernel_rfl) (by simp) ?_;refine AllReadyH.cons rfl (fun K hK=>?_) ?_
       ·go_simp;have h1:=heap_alloc_new v (.cells #[.int .i64 a.num,.int .i64 a.kind,.int .u64 a.u,.string a.b] 49);have gs:=jab v (.cells #[.int .i64 a.num,.int .i64 a.kind,.int .u64 a.u,.string a.b] 49);generalize hvn:v.alloc (.cells #[.int .i64 a.num,.int .i64 a.kind,.int .u64 a.u,.string a.b] 49)=u at h1 gs ⊢;clear hvn;generalize v.heap.size=b1 at h1 ⊢;have gn:=jaa g gs;refine hK.out _ _ gn (fun hHeld=>?_);clear hK K
        try simp only [Act.put]
        refine tkC 2 ?_ (hv:=by intro wS hSw;go_simp;(try with_reducible rfl))
        try simp only [Act.put]
        have h4:=jag h4 gs;have h6:=jag h6 gs;clear g gs hHeld;exact N1_4_6 u b1 b4 b6 gn h1 h4 h6 l6
       refine AllReadyH.cons rfl (fun K hK=>?_) ?_
       ·go_simp;have l7:=g.size;have d6_7:b6≠v.heap.size:=fun e=>by have h9:=(Array.getElem?_eq_some_iff.1 h6).1;omega
        have h7:=heap_alloc_new v (.cells #[.slice none 0 0,.int .i64 0] 114);have gs:=jab v (.cells #[.slice none 0 0,.int .i64 0] 114);generalize hvn:v.alloc (.cells #[.slice none 0 0,.int .i64 0] 114)=u at h7 gs ⊢;clear hvn;generalize v.heap.size=b7 at h7 l7 d6_7 ⊢;have gn:=jaa g gs;refine hK.out _ _ gn (fun hHeld=>?_);clear hK K
        try simp only [Act.put]
        have h4:=jag h4 gs;have h6:=jag h6 gs;clear g gs hHeld;refine cast ?_ (N4_6_7 u b4 b6 b7 gn h4 h6 l6 h7 l7 d6_7)
        kernel_rfl
       exact AllReadyH.nil
      ·intro v b1 b7 g h1 h7 l7;refine wpAnyH_ready (rs:=[4,6]) (by kernel_rfl) (by simp) ?_;refine AllReadyH.cons rfl (fun K hK=>?_) ?_
       ·go_simp;have h4:=heap_alloc_new v (.cells #[.int .i64 b.num,.int .i64 b.kind,.int .u64 b.u,.string b.b] 49);have gs:=jab v (.cells #[.int .i64 b.num,.int .i64 b.kind,.int .u64 b.u,.string b.b] 49);generalize hvn:v.alloc (.cells #[.int .i64 b.num,.int .i64 b.kind,.int .u64 b.u,.string b.b] 49)=u at h4 gs ⊢;clear hvn;generalize v.heap.size=b4 at h4 ⊢;have gn:=jaa g gs;refine hK.out _ _ gn (fun hHeld=>?_);clear hK K
        try simp only [Act.put]
        refine tkC 5 ?_ (hv:=by intro wS hSw;go_simp;(try with_reducible rfl))
        try simp only [Act.put]
        have h1:=jag h1 gs;have h7:=jag h7 gs;clear g gs hHeld;refine cast ?_ (N1_4_7 u b1 b4 b7 gn h1 h4 h7 l7)
        kernel_rfl
       refine AllReadyH.cons rfl (fun K hK=>?_) ?_
       ·go_simp;have l6:=g.size;have d6_7:v.heap.size≠b7:=fun e=>by have h9:=(Array.getElem?_eq_some_iff.1 h7).1;omega
        have h6:=heap_alloc_new v (.cells #[.slice none 0 0,.int .i64 0] 114);have gs:=jab v (.cells #[.slice none 0 0,.int .i64 0] 114);generalize hvn:v.alloc (.cells #[.slice none 0 0,.int .i64 0] 114)=u at h6 gs ⊢;clear hvn;generalize v.heap.size=b6 at h6 l6 d6_7 ⊢;have gn:=jaa g gs;refine hK.out _ _ gn (fun hHeld=>?_);clear hK K
        try simp only [Act.put]
        have h1:=jag h1 gs;have h7:=jag h7 gs;clear g gs hHeld;refine cast ?_ (N1_6_7 u b1 b6 b7 gn h1 h6 l6 h7 l7 d6_7)
        kernel_rfl
       exact AllReadyH.nil
      ·intro v b1 b6 g h1 h6 l6;refine wpAnyH_ready (rs:=[4,7]) (by kernel_rfl) (by simp) ?_;refine AllReadyH.cons rfl (fun K hK=>?_) ?_
       ·go_simp;have h4:=heap_alloc_new v (.cells #[.int .i64 b.num,.int .i64 b.kind,.int .u64 b.u,.string b.b] 49);have gs:=jab v (.cells #[.int .i64 b.num,.int .i64 b.kind,.int .u64 b.u,.string b.b] 49);generalize hvn:v.alloc (.cells #[.int .i64 b.num,.int .i64 b.kind,.int .u64 b.u,.string b.b] 49)=u at h4 gs ⊢;clear hvn;generalize v.heap.size=b4 at h4 ⊢;have gn:=jaa g gs;refine hK.out _ _ gn (fun hHeld=>?_);clear hK K
        try simp only [Act.put]
        refine tkC 5 ?_ (hv:=by intro wS hSw;go_simp;(try with_reducible rfl))
        try simp only [Act.put]
        have h1:=jag h1 gs;have h6:=jag h6 gs;clear g gs hHeld;refine cast ?_ (N1_4_6 u b1 b4 b6 gn h1 h4 h6 l6)
        kernel_rfl
       refine AllReadyH.cons rfl (fun K hK=>?_) ?_
       ·go_simp;have l7:=g.size;have d6_7:b6≠v.heap.size:=fun e=>by have h9:=(Array.getElem?_eq_some_iff.1 h6).1;omega
        have h7:=heap_alloc_new v (.cells #[.slice none 0 0,.int .i64 0] 114);have gs:=jab v (.cells #[.slice none 0 0,.int .i64 0] 114);generalize hvn:v.alloc (.cells #[.slice none 0 0,.int .i64 0] 114)=u at h7 gs ⊢;clear hvn;generalize v.heap.size=b7 at h7 l7 d6_7 ⊢;have gn:=jaa g gs;refine hK.out _ _ gn (fun hHeld=>?_);clear hK K
        try simp only [Act.put]
        have h1:=jag h1 gs;have h6:=jag h6 gs;clear g gs hHeld;refine cast ?_ (N1_6_7 u b1 b6 b7 gn h1 h6 l6 h7 l7 d6_7)
        kernel_rfl
       exact AllReadyH.nil
      ·intro v b1 b4 g h1 h4;refine wpAnyH_ready (rs:=[6,7]) (by kernel_rfl) (by simp) ?_;refine AllReadyH.cons rfl (fun K hK=>?_) ?_
       ·go_simp;have l6:=g.size;have h6:=heap_alloc_new v (.cells #[.slice none 0 0,.int .i64 0] 114);have gs:=jab v (.cells #[.slice none 0 0,.int .i64 0] 114);generalize hvn:v.alloc (.cells #[.slice none 0 0,.int .i64 0] 114)=u at h6 gs ⊢;clear hvn;generalize v.heap.size=b6 at h6 l6 ⊢;have gn:=jaa g gs;refine hK.out _ _ gn (fun hHeld=>?_);clear hK K
        try simp only [Act.put]
        have h1:=jag h1 gs;have h4:=jag h4 gs;clear g gs hHeld;refine cast ?_ (N1_4_6 u b1 b4 b6 gn h1 h4 h6 l6)
        kernel_rfl
       refine AllReadyH.cons rfl (fun K hK=>?_) ?_
       ·go_simp;have l7:=g.size;have h7:=heap_alloc_new v (.cells #[.slice none 0 0,.int .i64 0] 114);have gs:=jab v (.cells #[.slice none 0 0,.int .i64 0] 114);generalize hvn:v.alloc (.cells #[.slice none 0 0,.int .i64 0] 114)=u at h7 gs ⊢;clear hvn;generalize v.heap.size=b7 at h7 l7 ⊢;have gn:=jaa g gs;refine hK.out _ _ gn (fun hHeld=>?_);clear hK K
        try simp only [Act.put]
        have h1:=jag h1 gs;have h4:=jag h4 gs;clear g gs hHeld;refine cast ?_ (N1_4_7 u b1 b4 b7 gn h1 h4 h7 l7)
        kernel_rfl
       exact AllReadyH.nil
      ·intro v b4 b6 b7 g h4 h6 l6 h7 l7 d6_7;refine wpAnyH_ready (rs:=[1]) (by kernel_rfl) (by simp) ?_;refine AllReadyH.cons rfl (fun K hK=>?_) ?_
       ·go_simp;have h1:=heap_alloc_new v (.cells #[.int .i64 a.num,.int .i64 a.kind,.int .u64 a.u,.string a.b] 49);have gs:=jab v (.cells #[.int .i64 a.num,.int .i64 a.kind,.int .u64 a.u,.string a.b] 49);generalize hvn:v.alloc (.cells #[.int .i64 a.num,.int .i64 a.kind,.int .u64 a.u,.string a.b] 49)=u at h1 gs ⊢;clear hvn;generalize v.heap.size=b1 at h1 ⊢;have gn:=jaa g gs;refine hK.out _ _ gn (fun hHeld=>?_);clear hK K
        try simp only [Act.put]
        refine tkC 2 ?_ (hv:=by intro wS hSw;go_simp;(try with_reducible rfl))
        try simp only [Act.put]
        have h4:=jag h4 gs;have h6:=jag h6 gs;have h7:=jag h7 gs;clear g gs hHeld;exact N1_4_6_7 u b1 b4 b6 b7 gn h1 h4 h6 l6 h7 l7 d6_7
       exact AllReadyH.nil
      ·intro v b1 b6 b7 g h1 h6 l6 h7 l7 d6_7;refine wpAnyH_ready (rs:=[4,8]) (by kernel_rfl) (by simp) ?_;refine AllReadyH.cons rfl (fun K hK=>?_) ?_
       ·go_simp;have h4:=heap_alloc_new v (.cells #[.int .i64 b.num,.int .i64 b.kind,.int .u64 b.u,.string b.b] 49);have gs:=jab v (.cells #[.int .i64 b.num,.int .i64 b.kind,.int .u64 b.u,.string b.b] 49);generalize hvn:v.alloc (.cells #[.int .i64 b.num,.int .i64 b.kind,.int .u64 b.u,.string b.b] 49)=u at h4 gs ⊢;clear hvn;generalize v.heap.size=b4 at h4 ⊢;have gn:=jaa g gs;refine hK.out _ _ gn (fun hHeld=>?_);clear hK K
        try simp only [Act.put]
        refine tkC 5 ?_ (hv:=by intro wS hSw;go_simp;(try with_reducible rfl))
        try simp only [Act.put]
        have h1:=jag h1 gs;have h6:=jag h6 gs;have h7:=jag h7 gs;clear g gs hHeld;refine cast ?_ (N1_4_6_7 u b1 b4 b6 b7 gn h1 h4 h6 l6 h7 l7 d6_7)
        kernel_rfl
       refine AllReadyH.cons rfl (fun K hK=>?_) ?_
       ·obtain ⟨⟨k0,k1⟩,f0,f1⟩:=jd5 h6;go_simp;obtain ⟨s6,x8⟩:=jhw (.slice (some ⟨b1,0,none⟩) 1 1) (.int .i64 0) h6;have g8:=jaf (row:=none) g x8 (fun r e=>by cases e;exact .inr l6);have t7:=(x8.block b7 (Array.getElem?_eq_some_iff.1 h7).1 (fun e=>d6_7 (Option.some.inj e).symm)).trans h7;have t1:=(x8.block b1 (Array.getElem?_eq_some_iff.1 h1).1 (fun e=>jeK h1 h6 (by decide) (Option.some.inj e))).trans h1;generalize (v.setCell ⟨b6,0,none⟩ (.slice (some ⟨b1,0,none⟩) 1 1)).setCell ⟨b6,1,none⟩ (.int .i64 0)=v8 at s6 x8 g8 t7 t1 ⊢;refine hK.out _ _ g8 (fun hHeld=>?_);clear hK K k0 k1 f0 f1
        try simp only [Act.put]
        refine rdA 4 fun K hK=>?_;go_simp;have t4:=heap_alloc_new v8 (.cells #[.int .i64 b.num,.int .i64 b.kind,.int .u64 b.u,.string b.b] 49);have gs:=jab v8 (.cells #[.int .i64 b.num,.int .i64 b.kind,.int .u64 b.u,.string b.b] 49);have g9:=jaa g8 gs;have s6:=jag s6 gs;have t7:=jag t7 gs;have t1:=jag t1 gs;generalize v8.alloc (.cells #[.int .i64 b.num,.int .i64 b.kind,.int .u64 b.u,.string b.b] 49)=v9 at t4 gs g9 s6 t7 t1 ⊢;generalize v8.heap.size=b4 at t4 ⊢;refine hK.out _ _ g9 (fun hHeld2=>?_);clear hK K
        try simp only [Act.put]
        refine tkC 5 ?_ (hv:=by intro wS hSw;go_simp;(try with_reducible rfl))
        try simp only [Act.put]
        obtain ⟨⟨k0,k1⟩,f0,f1⟩:=jd5 t7;refine rdA 9 fun K hK=>?_;go_simp;obtain ⟨s7,x9⟩:=jhw (.slice (some ⟨b4,0,none⟩) 1 1) (.int .i64 0) t7;have gA:=jaf (row:=none) g9 x9 (fun r e=>by cases e;exact .inr l7);have u6:=(x9.block b6 (Array.getElem?_eq_some_iff.1 s6).1 (fun e=>d6_7 (Option.some.inj e))).trans s6;have u1:=(x9.block b1 (Array.getElem?_eq_some_iff.1 t1).1 (fun e=>jeK t1 t7 (by decide) (Option.some.inj e))).trans t1;have u4:=(x9.block b4 (Array.getElem?_eq_some_iff.1 t4).1 (fun e=>jeK t4 t7 (by decide) (Option.some.inj e))).trans t4;generalize (v9.setCell ⟨b7,0,none⟩ (.slice (some ⟨b4,0,none⟩) 1 1)).setCell ⟨b7,1,none⟩ (.int .i64 0)=vA at s7 x9 gA u6 u1 u4 ⊢;refine hK.out _ _ gA (fun hHeld3=>?_);clear hK K k0 k1 f0 f1
        try simp only [Act.put]
        refine wpAnyH_done (by kernel_rfl) ?_ _;go_simp;go_wp2_with fail
        go_meet
        exact ⟨gA,b6,b7,rfl,rfl,jfZ u6 u1,jfZ s7 u4⟩
       exact AllReadyH.nil
      ·intro v b1 b4 b7 g h1 h4 h7 l7;refine wpAnyH_ready (rs:=[6]) (by kernel_rfl) (by simp) ?_;refine AllReadyH.cons rfl (fun K hK=>?_) ?_
       ·go_simp;have l6:=g.size;have d6_7:v.heap.size≠b7:=fun e=>by have h9:=(Array.getElem?_eq_some_iff.1 h7).1;omega
        have h6:=heap_alloc_new v (.cells #[.slice none 0 0,.int .i64 0] 114);have gs:=jab v (.cells #[.slice none 0 0,.int .i64 0] 114);generalize hvn:v.alloc (.cells #[.slice none 0 0,.int .i64 0] 114)=u at h6 gs ⊢;clear hvn;generalize v.heap.size=b6 at h6 l6 d6_7 ⊢;have gn:=jaa g gs;refine hK.out _ _ gn (fun hHeld=>?_);clear hK K
        try simp only [Act.put]
        have h1:=jag h1 gs;have h4:=jag h4 gs;have h7:=jag h7 gs;clear g gs hHeld;refine cast ?_ (N1_4_6_7 u b1 b4 b6 b7 gn h1 h4 h6 l6 h7 l7 d6_7)
        kernel_rfl
       exact AllReadyH.nil
      ·intro v b1 b4 b6 g h1 h4 h6 l6;refine wpAnyH_ready (rs:=[7]) (by kernel_rfl) (by simp) ?_;refine AllReadyH.cons rfl (fun K hK=>?_) ?_
       ·go_simp;have l7:=g.size;have d6_7:b6≠v.heap.size:=fun e=>by have h9:=(Array.getElem?_eq_some_iff.1 h6).1;omega
        have h7:=heap_alloc_new v (.cells #[.slice none 0 0,.int .i64 0] 114);have gs:=jab v (.cells #[.slice none 0 0,.int .i64 0] 114);generalize hvn:v.alloc (.cells #[.slice none 0 0,.int .i64 0] 114)=u at h7 gs ⊢;clear hvn;generalize v.heap.size=b7 at h7 l7 d6_7 ⊢;have gn:=jaa g gs;refine hK.out _ _ gn (fun hHeld=>?_);clear hK K
        try simp only [Act.put]
        have h1:=jag h1 gs;have h4:=jag h4 gs;have h6:=jag h6 gs;clear g gs hHeld;refine cast ?_ (N1_4_6_7 u b1 b4 b6 b7 gn h1 h4 h6 l6 h7 l7 d6_7)
        kernel_rfl
       exact AllReadyH.nil
      ·intro v b1 b4 b6 b7 g h1 h4 h6 l6 h7 l7 d6_7;refine wpAnyH_ready (rs:=[8]) (by kernel_rfl) (by simp) ?_;refine AllReadyH.cons rfl (fun K hK=>?_) ?_
       ·obtain ⟨⟨k0,k1⟩,f0,f1⟩:=jd5 h6;go_simp;obtain ⟨s6,x8⟩:=jhw (.slice (some ⟨b1,0,none⟩) 1 1) (.int .i64 0) h6;have g8:=jaf (row:=none) g x8 (fun r e=>by cases e;exact .inr l6);have t7:=(x8.block b7 (Array.getElem?_eq_some_iff.1 h7).1 (fun e=>d6_7 (Option.some.inj e).symm)).trans h7;have t1:=(x8.block b1 (Array.getElem?_eq_some_iff.1 h1).1 (fun e=>jeK h1 h6 (by decide) (Option.some.inj e))).trans h1;have t4:=(x8.block b4 (Array.getElem?_eq_some_iff.1 h4).1 (fun e=>jeK h4 h6 (by decide) (Option.some.inj e))).trans h4;generalize (v.setCell ⟨b6,0,none⟩ (.slice (some ⟨b1,0,none⟩) 1 1)).setCell ⟨b6,1,none⟩ (.int .i64 0)=v8 at s6 x8 g8 t7 t1 t4 ⊢;refine hK.out _ _ g8 (fun hHeld=>?_);clear hK K k0 k1 f0 f1
        try simp only [Act.put]
        obtain ⟨⟨k0,k1⟩,f0,f1⟩:=jd5 t7;refine rdA 9 fun K hK=>?_;go_simp;obtain ⟨s7,x9⟩:=jhw (.slice (some ⟨b4,0,none⟩) 1 1) (.int .i64 0) t7;have gA:=jaf (row:=none) g8 x9 (fun r e=>by cases e;exact .inr l7);have u6:=(x9.block b6 (Array.getElem?_eq_some_iff.1 s6).1 (fun e=>d6_7 (Option.some.inj e))).trans s6;have u1:=(x9.block b1 (Array.getElem?_eq_some_iff.1 t1).1 (fun e=>jeK t1 t7 (by decide) (Option.some.inj e))).trans t1;have u4:=(x9.block b4 (Array.getElem?_eq_some_iff.1 t4).1 (fun e=>jeK t4 t7 (by decide) (Option.some.inj e))).trans t4;generalize (v8.setCell ⟨b7,0,none⟩ (.slice (some ⟨b4,0,none⟩) 1 1)).setCell ⟨b7,1,none⟩ (.int .i64 0)=vA at s7 x9 gA u6 u1 u4 ⊢;refine hK.out _ _ gA (fun hHeld3=>?_);clear hK K k0 k1 f0 f1
        try simp only [Act.put]
        refine wpAnyH_done (by kernel_rfl) ?_ _;go_simp;go_wp2_with fail
        go_meet
        exact ⟨gA,b6,b7,rfl,rfl,jfZ u6 u1,jfZ s7 u4⟩
       exact AllReadyH.nil
     case rest =>
      clear y0 y1 y2 y3 z0 z1 z2 z3;obtain ⟨gc,b6,b7,rfl,rfl,pa,pb⟩:=hcut;obtain ⟨v,hv⟩ : ∃ v,v=wc:=⟨_,rfl⟩
      rw [← hv] at gc pa pb ⊢;have G:=jac gc;have PB:=jac pb;have WA:=jac (jbz 0 b6 [a] 0 v pa (by simp) (fun x hx=>by rw [List.mem_singleton] at hx;rw [hx];exact HA.out));clear hv gc pa pb
      cases h1:wrP [a] with
      | error c =>
       have E:Hid (shP a b=.error c):=by show _=_;unfold shP;rw [h1];rfl
       rw [h1] at WA;clear h1;go_wp2_with fail;refine WA.out.mono ?_;rintro e v1 ⟨g1,rfl⟩;exact ⟨rfl,jad E.out (jaa (jaa G0.out G.out) g1)⟩
      | ok s =>
       rw [h1] at WA;go_wp2_with fail;refine WA.out.mono ?_;rintro e v1 ⟨g1,x,rfl,rfl⟩;have G1:=jac (jaa G.out g1);have WB:=jac (jbz 0 b7 [b] 0 v1 (PB.out.more g1) (by simp) (fun x hx=>by rw [List.mem_singleton] at hx;rw [hx];exact HB.out));clear g1
       cases h2:wrP [b] with
       | error c =>
        have E:Hid (shP a b=.error c):=by show _=_;unfold shP;rw [h1,h2];rfl
        rw [h2] at WB;clear h1 h2;go_wp2_with fail;refine WB.out.mono ?_;rintro e v2 ⟨g2,rfl⟩;exact ⟨rfl,jad E.out (jaa (jaa G0.out G1.out) g2)⟩
       | ok t =>
        have E:Hid (shP a b=.ok (if s.size≤t.size then a else b)):=by show _=_;unfold shP;rw [h1,h2];rfl
        rw [h2] at WB;clear h1 h2
        by_cases hle:s.size≤t.size
        ·have E2:Hid (shP a b=.ok a):=by show _=_;rw [E.out,if_pos hle]
         go_wp2_with fail;refine WB.out.mono ?_;rintro e v2 ⟨g2,x,rfl,rfl⟩;have G2:=jac (jaa G1.out g2);clear g2;obtain ⟨⟨y0,y1,y2,y3⟩,-⟩:=jaZ (Ba.out v2 G2.out);have X:=jac (jhv (cs:=#[.int .i64 a.num,.int .i64 a.kind,.int .u64 a.u,.string a.b]) (BR.out v2 G2.out));have GX:=jac (jaf (row:=none) (jaa G0.out G2.out) X.out.2 (fun g e=>by cases e;exact .inr (by omega)));go_wp2_with (refine wpList_store_row rfl 49 (.tmp 4) (.tmp 18) rfl (w.heap.size+1+1) #[.int .i64 a.num,.int .i64 a.kind,.int .u64 a.u,.string a.b] rfl rfl 49 _ (BR.out v2 G2.out) jcJ rfl (by simp [Value.oneCell']) ?_);refine bodyPost_ret (jck rfl _ _ (w.heap.size+1+1) rfl X.out.1) rfl ?_;exact jaI E2.out GX.out rfl
        ·have E2:Hid (shP a b=.ok b):=by show _=_;rw [E.out,if_neg hle]
         go_wp2_with fail;refine WB.out.mono ?_;rintro e v2 ⟨g2,x,rfl,rfl⟩;have G2:=jac (jaa G1.out g2);clear g2;obtain ⟨⟨y0,y1,y2,y3⟩,-⟩:=jaZ (Bb.out v2 G2.out);have X:=jac (jhv (cs:=#[.int .i64 b.num,.int .i64 b.kind,.int .u64 b.u,.string b.b]) (BR.out v2 G2.out));have GX:=jac (jaf (row:=none) (jaa G0.out G2.out) X.out.2 (fun g e=>by cases e;exact .inr (by omega)));go_wp2_with (refine wpList_store_row rfl 49 (.tmp 4) (.tmp 19) rfl (w.heap.size+1+1) #[.int .i64 b.num,.int .i64 b.kind,.int .u64 b.u,.string b.b] rfl rfl 49 _ (BR.out v2 G2.out) jcJ rfl (by simp [Value.oneCell']) ?_);refine bodyPost_ret (jck rfl _ _ (w.heap.size+1+1) rfl X.out.1) rfl ?_;exact jaI E2.out GX.out rfl
end Go.Proofs.YtbgbpfbjeleooaaGreat.Pd
