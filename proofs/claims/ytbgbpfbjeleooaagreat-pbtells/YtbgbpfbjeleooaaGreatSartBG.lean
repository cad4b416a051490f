/- A part. -/
import Derived.Test.YtbgbpfbjeleooaaGreatMSart
import Derived.Test.YtbgbpfbjeleooaaGreatSartAY
import Derived.Test.YtbgbpfbjeleooaaGreatSartBF
import Derived.Test.YtbgbpfbjeleooaaGreatSartAZ
set_option maxHeartbeats 12800000
set_option maxRecDepth 100000
namespace Go.Proofs.YtbgbpfbjeleooaaGreat.Pd
open Go.RowKit
open Wr (Fld)
def Abv (lo:Nat) (w w':World):Prop:=w'.os=w.os∧w'.tape=w.tape∧w'.output=w.output∧w.heap.size≤w'.heap.size∧∀ i,i<lo→i<w.heap.size→w'.heap[i]?=w.heap[i]?
theorem jdq {lo:Nat} {w w':World} {row:Option Nat} (h:w.grownBy w' row) (hr:∀ g,row=some g→lo≤g):Abv lo w w' :=
 ⟨h.os,h.tape,h.output,h.size,fun i h1 h2=>h.block i h2 (fun e=>by have:=hr i e.symm;omega)⟩
theorem Abv.refl (lo:Nat) (w:World):Abv lo w w:=⟨rfl,rfl,rfl,Nat.le_refl _,fun _ _ _=>rfl⟩
theorem Abv.trans {lo:Nat} {a b c:World} (h:Abv lo a b) (k:Abv lo b c):Abv lo a c :=
 ⟨k.1.trans h.1,k.2.1.trans h.2.1,k.2.2.1.trans h.2.2.1,Nat.le_trans h.2.2.2.1 k.2.2.2.1,fun i h1 h2=>(k.2.2.2.2 i h1 (Nat.lt_of_lt_of_le h2 h.2.2.2.1)).trans (h.2.2.2.2 i h1 h2)⟩
theorem Abv.low {lo lo':Nat} {a b:World} (h:Abv lo a b) (hl:lo'≤lo):Abv lo' a b:=⟨h.1,h.2.1,h.2.2.1,h.2.2.2.1,fun i h1 h2=>h.2.2.2.2 i (Nat.lt_of_lt_of_le h1 hl) h2⟩
theorem Abv.grown {lo:Nat} {w0 w w':World} (g:w0.grownBy w none) (hl:w0.heap.size≤lo) (h:Abv lo w w'):w0.grownBy w' none :=
 ⟨h.1.trans g.os,h.2.1.trans g.tape,h.2.2.1.trans g.output,Nat.le_trans g.size h.2.2.2.1,fun i hi _=>(h.2.2.2.2 i (Nat.lt_of_lt_of_le hi hl) (Nat.lt_of_lt_of_le hi g.size)).trans (g.block i hi (by simp))⟩
def jmR {α:Type} (lo:Nat) (w:World) (r:R α) (Q:α→Value→World→Prop) (e:Ending) (w':World):Prop:=Abv lo w w'∧match r with
 | .error c=>e=.panicked [{ v:=.iface 28 (.int .i64 c),recovered:=false }]
 | .ok a=>∃ v,e=.returned v∧Q a v w'
def jc4 (w:World) (lo B:Nat) (l:List Fld) (sz:Nat):Prop :=
 ∃ s:Sl,w.heap[B]?=some (.cells #[.slice s.a s.n s.c,.int .i64 sz] 114 (0,0))∧Wr.OwnsL 49 4 Wr.fcells w lo s.v l∧lo≤B
theorem jc4.more {w w':World} {lo B:Nat} {l:List Fld} {sz:Nat} (h:jc4 w lo B l sz) (hg:w.grownBy w' none):jc4 w' lo B l sz:=by
 obtain ⟨s,hb,ho,hl⟩:=h;exact ⟨s,(hg.block B (Array.getElem?_eq_some_iff.1 hb).1 (by simp)).trans hb,Wr.OwnsL.more ho hg,hl⟩
def jbe (m:List Fld×Nat) (f:Fld):R (List Fld×Nat):=if 16777216<m.2+f.b.size then .error 6 else .ok (m.1++[f],m.2+f.b.size)
theorem jdr {w:World} {base te sz n t B:Nat} {v:Value} {cs:List Value} {cur:Array Value} {m:Nat×Nat} (h:w.ownsRow base te sz v n cs) (hb:w.heap[B]?=some (.cells cur t m)) (ht:te≠t):v.ownBlock=none∨v.ownBlock≠some B:=by
 rcases h.2 with ⟨e,-⟩ | ⟨g,cap,cur',e,-,hg,-⟩
 ·exact .inl (by rw [e];rfl)
 ·refine .inr ?_;rw [e];simp only [Value.ownBlock,ne_eq,Option.some.injEq];rintro rfl;rw [hg] at hb;simp only [Option.some.injEq,Obj.cells.injEq] at hb;exact ht hb.2.1
theorem jhn {o:Option Nat} {B:Nat} (h:o=none∨o≠some B):some B≠o:=by
 rcases h with h | h
 ·rw [h];simp
 ·exact fun e=>h e.symm
theorem jdZ {w:World} {B:Nat} {z0 z1:Value} {t:TypeId} (hb:w.heap[B]?=some (.cells #[z0,z1] t (0,0))) :
    (w.cell? ⟨B,0,none⟩=some z0∧w.cell? ⟨B,1,none⟩=some z1)∧w.frozen? ⟨B,0,none⟩=false∧w.frozen? ⟨B,1,none⟩=false :=
     ⟨⟨(cell_of_row _ _ 0 _ _ (0,0) hb).trans rfl,(cell_of_row _ _ 1 _ _ (0,0) hb).trans rfl⟩,frozen_of_row w B 0 _ _ hb,frozen_of_row w B 1 _ _ hb⟩
theorem jn7 {w:World} {B:Nat} {z0 z1:Value} {t:TypeId} (hb:w.heap[B]?=some (.cells #[z0,z1] t (0,0))) (a:Value) :
    (w.setCell ⟨B,0,none⟩ a).heap[B]?=some (.cells #[a,z1] t (0,0))∧(w.setCell ⟨B,1,none⟩ a).heap[B]?=some (.cells #[z0,a] t (0,0)) :=
     ⟨by simpa using heap_setCell_same w B 0 _ _ a hb,by simpa using heap_setCell_same w B 1 _ _ a hb⟩
theorem jbT {w:World} {B:Nat} {z0 z1 z2 z3:Value} {t:TypeId} (hb:w.heap[B]?=some (.cells #[z0,z1,z2,z3] t (0,0))) :
    w.cell? ⟨B,0,none⟩=some z0∧w.cell? ⟨B,1,none⟩=some z1∧w.cell? ⟨B,2,none⟩=some z2∧w.cell? ⟨B,3,none⟩=some z3:=(jaX hb).1
theorem jeD {B b j:Nat} (w:World) (a:Value) (h:b≠B):(w.setCell ⟨B,j,none⟩ a).heap[b]?=w.heap[b]?:=Below.heap_setCell _ _ _ _ (fun e=>h (by rw [e]))
theorem jgi (lo B:Nat) (l:List Fld) (sz:Nat) (f:Fld) (w:World) (hm:jc4 w lo B l sz) (hf:f.b.size≤4611686018427387904) (hsz:sz≤16777216) (hl:l.length≤100000000) :
    Calls Tryz.prog 97 #[.pointer (some ⟨B,0,none⟩),.agg #[.int .i64 f.num,.int .i64 f.kind,.int .u64 f.u,.string f.b]] w (jmR lo w (jbe (l,sz) f) fun m v w'=>v=.tuple #[]∧jc4 w' lo B m.1 m.2):=by
     obtain ⟨i0,hi,hz0,hz1,hz2⟩:=info_parts Wr.info_fld;obtain ⟨⟨sa,sn,sc⟩,hb,ho,hB⟩:=hm;have LB:=jac hB;obtain ⟨sa',sc',e9⟩:=Wr.OwnsL.form ho;simp only [Sl.v,Value.slice.injEq] at e9;obtain ⟨rfl,rfl,rfl⟩:=e9;simp only [Sl.v] at hb ho;obtain ⟨bF,hF⟩ : ∃ b,b=w.heap.size:=⟨_,rfl⟩
     have hBlt:=(Array.getElem?_eq_some_iff.1 hb).1;have NBF:Hid (bF≠B):=by show bF≠B;omega
     have NF:Hid ((Value.slice sa l.length sc).ownBlock≠some bF):=fun e=>by have:=(World.ownsRow.lt ho bF e).2;omega
     obtain ⟨w1,hw1⟩ : ∃ w1,w1=w.alloc (.cells #[.int .i64 f.num,.int .i64 f.kind,.int .u64 f.u,.string f.b] 49):=⟨_,rfl⟩
     have g1:w.grownBy w1 none:=by rw [hw1];exact jab _ _
     have F1:w1.heap[bF]?=some (.cells #[.int .i64 f.num,.int .i64 f.kind,.int .u64 f.u,.string f.b] 49 (0,0)):=by rw [hF,hw1];exact heap_alloc_new w _
     obtain ⟨wd,hwd⟩ : ∃ wd,wd=w1.drew:=⟨_,rfl⟩
     have gd:w.grownBy wd none:=by rw [hwd];exact ⟨g1.os,g1.tape,g1.output,g1.size,g1.block⟩
     have FD:Hid (wd.heap[bF]?=some (.cells #[.int .i64 f.num,.int .i64 f.kind,.int .u64 f.u,.string f.b] 49 (0,0))):=by show wd.heap[bF]?=_;rw [hwd];exact F1
     have MD:=jac ((gd.block B hBlt (by simp)).trans hb);have OD:=jac (Wr.OwnsL.more ho gd);have K3:=jao wd B 1 (.int .i64 ((sz:Int)+(f.b.size:Int)));have M3:=jac ((jn7 MD.out (.int .i64 ((sz:Int)+(f.b.size:Int)))).2);have FX:Hid ((wd.setCell ⟨B,1,none⟩ (.int .i64 ((sz:Int)+(f.b.size:Int)))).heap[bF]?=some (.cells #[.int .i64 f.num,.int .i64 f.kind,.int .u64 f.u,.string f.b] 49 (0,0))):=by show _=_;rw [jeD _ _ NBF.out];exact FD.out
     have F3:=FX;have O3:Hid (Wr.OwnsL 49 4 Wr.fcells (wd.setCell ⟨B,1,none⟩ (.int .i64 ((sz:Int)+(f.b.size:Int)))) lo (.slice sa l.length sc) l):=World.ownsRow.kept OD.out K3 (jdr OD.out MD.out (by decide));have A3:=jac ((jdq (lo:=lo) gd (by simp)).trans (jdq K3 (fun g e=>by cases e;exact hB)));have XS:Hid (True):=trivial;have ws:IntKind.i64.wrap ((sz:Int)+(f.b.size:Int))=(sz:Int)+(f.b.size:Int):=by rw [IntKind.wrap_i64];omega
     obtain ⟨⟨m0,m1⟩,mf0,mf1⟩:=jdZ MD.out;clear K3 gd g1 hb ho hBlt hB;go_enter Tryz.func97,Tryz.ntmps97;go_wp2_with fail;rw [← hw1,← hF];clear hw1 hF F1;refine wp_region_held_drew (S:=(fun w'=>w'.heap[bF]?=some (.cells #[.int .i64 f.num,.int .i64 f.kind,.int .u64 f.u,.string f.b] 49 (0,0)))) (by kernel_rfl) (by rw [← hwd];exact FD.out) (fun hHeld=>?_);rw [← hwd] at hHeld ⊢;clear hwd;refine tkD 0 ?_ (hv:=by intro w hSw;(try dsimp only at hSw);obtain ⟨y0,y1,y2,y3⟩:=jbT hSw;go_simp;(try with_reducible rfl))
     try simp only [Act.put]
     refine tkD 1 ?_ (hv:=by intro w hSw;(try dsimp only at hSw);obtain ⟨y0,y1,y2,y3⟩:=jbT hSw;go_simp;(try with_reducible rfl))
     try simp only [Act.put]
     refine tkD 2 ?_ (hv:=by intro w hSw;(try dsimp only at hSw);obtain ⟨y0,y1,y2,y3⟩:=jbT hSw;go_simp;(try with_reducible rfl))
     try simp only [Act.put]
     refine tkD 4 ?_ (hv:=by intro w hSw;(try dsimp only at hSw);obtain ⟨y0,y1,y2,y3⟩:=jbT hSw;go_simp;(try with_reducible rfl))
     try simp only [Act.put]
     refine tkD 5 ?_ (hv:=by intro w hSw;(try dsimp only at hSw);obtain ⟨y0,y1,y2,y3⟩:=jbT hSw;go_simp;(try with_reducible rfl))
     try simp only [Act.put]
     refine tkD 6 ?_ (hv:=by intro w hSw;(try dsimp only at hSw);obtain ⟨y0,y1,y2,y3⟩:=jbT hSw;go_simp;(try with_reducible rfl))
     try simp only [Act.put]
     refine wpAnyH_ready (rs:=[3]) (by kernel_rfl) (by simp) ?_;refine AllReadyH.cons rfl (fun K hK=>?_) ?_
     ·skip
      go_simp;refine hK.out _ _ (FD.out) (fun hHeld=>?_);clear hK K
      try simp only [Act.put]
      refine tkD 7 ?_ (hv:=by intro w hSw;(try dsimp only at hSw);obtain ⟨y0,y1,y2,y3⟩:=jbT hSw;go_simp;(try with_reducible rfl))
      try simp only [Act.put]
      refine tkD 8 ?_ (hv:=by intro w hSw;(try dsimp only at hSw);obtain ⟨y0,y1,y2,y3⟩:=jbT hSw;go_simp;(try with_reducible rfl))
      try simp only [Act.put]
      refine tkD 9 ?_ (hv:=by intro w hSw;(try dsimp only at hSw);obtain ⟨y0,y1,y2,y3⟩:=jbT hSw;go_simp;(try with_reducible rfl))
      try simp only [Act.put]
      refine wpAnyH_ready (rs:=[10]) (by kernel_rfl) (by simp) ?_;refine AllReadyH.cons rfl (fun K hK=>?_) ?_
      ·skip
       go_simp;refine hK.out _ _ (FX.out) (fun hHeld=>?_);clear hK K
       try simp only [Act.put]
       refine wpAnyH_done (by kernel_rfl) ?_ _;clear m0 m1 mf0 mf1 hHeld;have sz2:=XS.out;obtain ⟨w3,hw3⟩ : ∃ w3,w3=wd.setCell ⟨B,1,none⟩ (.int .i64 ((sz:Int)+(f.b.size:Int))):=⟨_,rfl⟩
       rw [← hw3] at M3 F3 O3 A3 ⊢;clear hw3;obtain ⟨⟨m0,m1⟩,-⟩:=jdZ M3.out
       by_cases hbig:16777216<sz+f.b.size
       ·have E:Hid (jbe (l,sz) f=.error 6):=by show _=_;unfold jbe;rw [if_pos hbig]
        have d1:decide ((16777216:Int)<(sz:Int)+(f.b.size:Int))=true:=by simp only [decide_eq_true_eq];omega
        clear hbig;go_wp2_with (go_at_call 53;refine (jaC _ _).mono ?_;rintro e w' ⟨rfl,rfl⟩);exact ⟨rfl,A3.out,by rw [E.out]⟩
       ·have E:Hid (jbe (l,sz) f=.ok (l++[f],sz+f.b.size)):=by show _=_;unfold jbe;rw [if_neg hbig]
        have d1:decide ((16777216:Int)<(sz:Int)+(f.b.size:Int))=false:=by simp only [decide_eq_false_iff_not];omega
        clear hbig;go_wp2_with (go_at_call 53;refine (jaL _ _).mono ?_;rintro e w' ⟨rfl,rfl⟩);clear m0 m1;have gd2:w3.grownBy w3.drew none:=⟨rfl,rfl,rfl,Nat.le_refl _,fun _ _ _=>rfl⟩
        obtain ⟨we,hwe⟩ : ∃ we,we=w3.drew:=⟨_,rfl⟩
        rw [← hwe] at gd2;have M4:=jac ((gd2.block B (by have:=(Array.getElem?_eq_some_iff.1 M3.out).1;exact this) (by simp)).trans M3.out);have F4:=jac ((gd2.block bF (by have:=(Array.getElem?_eq_some_iff.1 F3.out).1;exact this) (by simp)).trans F3.out);have O4:Hid (Wr.OwnsL 49 4 Wr.fcells we lo (.slice sa l.length sc) l):=Wr.OwnsL.more O3.out gd2;have A4:=jac (A3.out.trans (jdq gd2 (by simp)));have se:Hid (lo≤we.heap.size):=by have h1:=gd2.size;have:=(Array.getElem?_eq_some_iff.1 M3.out).1;have:=LB.out;show lo≤_;omega
        have FN:Hid (∀ o,(we.alloc o).heap[bF]?=some (.cells #[.int .i64 f.num,.int .i64 f.kind,.int .u64 f.u,.string f.b] 49 (0,0))):=fun o=>((jab we o).block bF (Array.getElem?_eq_some_iff.1 F4.out).1 (by simp)).trans F4.out;clear gd2;refine wp_region_held_drew (S:=(fun w'=>w'.heap[bF]?=some (.cells #[.int .i64 f.num,.int .i64 f.kind,.int .u64 f.u,.string f.b] 49 (0,0)))) (by kernel_rfl) (by rw [← hwe];exact F4.out) (fun hHeld=>?_);rw [← hwe] at hHeld ⊢;clear hwe;refine tkD 0 ?_ (hv:=by intro w hSw;(try dsimp only at hSw);obtain ⟨y0,y1,y2,y3⟩:=jbT hSw;go_simp;(try with_reducible rfl))
        try simp only [Act.put]
        refine tkD 1 ?_ (hv:=by intro w hSw;(try dsimp only at hSw);obtain ⟨y0,y1,y2,y3⟩:=jbT hSw;go_simp;(try with_reducible rfl))
        try simp only [Act.put]
        refine tkD 2 ?_ (hv:=by intro w hSw;(try dsimp only at hSw);obtain ⟨y0,y1,y2,y3⟩:=jbT hSw;go_simp;(try with_reducible rfl))
        try simp only [Act.put]
        refine tkD 3 ?_ (hv:=by intro w hSw;(try dsimp only at hSw);obtain ⟨y0,y1,y2,y3⟩:=jbT hSw;go_simp;(try with_reducible rfl))
        try simp only [Act.put]
        refine tkD 5 ?_ (hv:=by intro w hSw;(try dsimp only at hSw);obtain ⟨y0,y1,y2,y3⟩:=jbT hSw;go_simp;(try with_reducible rfl))
        try simp only [Act.put]
        refine wpAnyH_ready (rs:=[4,6]) (by kernel_rfl) (by simp) ?_;refine AllReadyH.cons rfl (fun K hK=>?_) ?_
        ·skip
         obtain ⟨⟨m0,m1⟩,-⟩:=jdZ M4.out;go_simp;clear m0 m1;refine hK.out _ _ (F4.out) (fun hHeld=>?_);clear hK K
         try simp only [Act.put]
         refine wpAnyH_ready (rs:=[6]) (by kernel_rfl) (by simp) ?_;refine AllReadyH.cons rfl (fun K hK=>?_) ?_
         ·skip
          go_simp;refine hK.out _ _ (FN.out _) (fun hHeld=>?_);clear hK K
          try simp only [Act.put]
          refine wpAnyH_ready (rs:=[7]) (by kernel_rfl) (by simp) ?_;refine AllReadyH.cons rfl (fun K hK=>?_) ?_
          ·skip
           have OW:=Wr.OwnsL.more O4.out (jab we (.cells #[.int .i64 f.num,.int .i64 f.kind,.int .u64 f.u,.string f.b] 49));unfold Wr.OwnsL at OW;refine step_append_lies _ (by rfl) (.tmp 24) (.tmp 26) 51 (by rfl) lo 49 i0 _ 4 40 Tryz.underlying51 hi hz0 hz1 hz2 (by rfl) (by decide) (.slice sa l.length sc) l.length (l.flatMap Wr.fcells) (by rfl) (by exact OW) ⟨we.heap.size,0,none⟩ 1 1 (Wr.fcells f) (by rfl) (by rfl) (by exact jbS we _ _ _ rfl) (Wr.fcells_one f) (by decide) (by simp only [maxLen];omega) (by omega) (by have:=se.out;simp;omega) (we.heap.size+1) (by simp) ?_;intro g cap w8 hown' hgrow hat hlt;have gn:=jab we (.cells #[.int .i64 f.num,.int .i64 f.kind,.int .u64 f.u,.string f.b] 49);have own_ge:∀ g,(Value.slice sa l.length sc).ownBlock=some g→lo≤g:=fun g e=>(World.ownsRow.lt OW g e).1;have nB:(Value.slice sa l.length sc).ownBlock=none∨(Value.slice sa l.length sc).ownBlock≠some B:=jdr O4.out M4.out (by decide);have nF:(Value.slice sa l.length sc).ownBlock=none∨(Value.slice sa l.length sc).ownBlock≠some bF:=by have:=NF.out;cases e:(Value.slice sa l.length sc).ownBlock with | none=>exact .inl rfl | some k=>exact .inr (fun e2=>by cases e2;exact this e)
           have M8:=jac ((hgrow.block B (by have:=gn.size;have:=(Array.getElem?_eq_some_iff.1 M4.out).1;omega) (jhn nB)).trans ((gn.block B (Array.getElem?_eq_some_iff.1 M4.out).1 (by simp)).trans M4.out));have F8:=jac ((hgrow.block bF (by have:=gn.size;have:=(Array.getElem?_eq_some_iff.1 F4.out).1;omega) (jhn nF)).trans (FN.out _));have hown2:Wr.OwnsL 49 4 Wr.fcells w8 lo (.slice (some ⟨g,0,none⟩) (l.length+1) cap) (l++[f]):=by unfold Wr.OwnsL;rw [List.length_append,List.flatMap_append];simpa using hown'
           have O8:=jac hown2;have A8:=jac (A4.out.trans ((jdq gn (by simp)).trans (jdq hgrow (fun g e=>own_ge g e))));clear hown' hown2 hgrow hat hlt gn own_ge nB nF OW;obtain ⟨⟨m0,m1⟩,mf0,mf1⟩:=jdZ M8.out;refine hK.out _ _ (F8.out) (fun hHeld=>?_);clear hK K
           try simp only [Act.put]
           refine tkD 8 ?_ (hv:=by intro w hSw;(try dsimp only at hSw);obtain ⟨y0,y1,y2,y3⟩:=jbT hSw;go_simp;(try with_reducible rfl))
           try simp only [Act.put]
           refine tkD 9 ?_ (hv:=by intro w hSw;(try dsimp only at hSw);obtain ⟨y0,y1,y2,y3⟩:=jbT hSw;go_simp;(try with_reducible rfl))
           try simp only [Act.put]
           refine wpAnyH_ready (rs:=[10]) (by kernel_rfl) (by simp) ?_;refine AllReadyH.cons rfl (fun K hK=>?_) ?_
           ·skip
            go_simp;refine hK.out _ _ (by rw [jeD _ _ NBF.out];exact F8.out) (fun hHeld=>?_);clear hK K
            try simp only [Act.put]
            refine wpAnyH_done (by kernel_rfl) ?_ _;have K9:=jao w8 B 0 (.slice (some ⟨g,0,none⟩) (l.length+1) cap);have M9:=jac ((jn7 M8.out (.slice (some ⟨g,0,none⟩) (l.length+1) cap)).1);have O9:Hid (Wr.OwnsL 49 4 Wr.fcells (w8.setCell ⟨B,0,none⟩ (.slice (some ⟨g,0,none⟩) (l.length+1) cap)) lo (.slice (some ⟨g,0,none⟩) (l.length+1) cap) (l++[f])):=World.ownsRow.kept O8.out K9 (jdr O8.out M8.out (by decide));have A9:=jac (A8.out.trans (jdq K9 (fun g e=>by cases e;exact LB.out)));clear K9 m0 m1 mf0 mf1;go_wp2_with fail
            go_end0
            refine ⟨A9.out,?_⟩;rw [E.out];exact ⟨_,rfl,rfl,⟨some ⟨g,0,none⟩,l.length+1,cap⟩,by rw [Int.natCast_add];exact M9.out,O9.out,LB.out⟩
           exact AllReadyH.nil
          exact AllReadyH.nil
         exact AllReadyH.nil
        refine AllReadyH.cons rfl (fun K hK=>?_) ?_
        ·skip
         go_simp;refine hK.out _ _ (FN.out _) (fun hHeld=>?_);clear hK K
         try simp only [Act.put]
         refine wpAnyH_ready (rs:=[4]) (by kernel_rfl) (by simp) ?_;refine AllReadyH.cons rfl (fun K hK=>?_) ?_
         ·skip
          obtain ⟨⟨m0,m1⟩,-⟩:=jdZ (((jab we (.cells #[.int .i64 f.num,.int .i64 f.kind,.int .u64 f.u,.string f.b] 49)).block B (Array.getElem?_eq_some_iff.1 M4.out).1 (by simp)).trans M4.out);go_simp;clear m0 m1;refine hK.out _ _ (FN.out _) (fun hHeld=>?_);clear hK K
          try simp only [Act.put]
          refine wpAnyH_ready (rs:=[7]) (by kernel_rfl) (by simp) ?_;refine AllReadyH.cons rfl (fun K hK=>?_) ?_
          ·skip
           have OW:=Wr.OwnsL.more O4.out (jab we (.cells #[.int .i64 f.num,.int .i64 f.kind,.int .u64 f.u,.string f.b] 49));unfold Wr.OwnsL at OW;refine step_append_lies _ (by rfl) (.tmp 24) (.tmp 26) 51 (by rfl) lo 49 i0 _ 4 40 Tryz.underlying51 hi hz0 hz1 hz2 (by rfl) (by decide) (.slice sa l.length sc) l.length (l.flatMap Wr.fcells) (by rfl) (by exact OW) ⟨we.heap.size,0,none⟩ 1 1 (Wr.fcells f) (by rfl) (by rfl) (by exact jbS we _ _ _ rfl) (Wr.fcells_one f) (by decide) (by simp only [maxLen];omega) (by omega) (by have:=se.out;simp;omega) (we.heap.size+1) (by simp) ?_;intro g cap w8 hown' hgrow hat hlt;have gn:=jab we (.cells #[.int .i64 f.num,.int .i64 f.kind,.int .u64 f.u,.string f.b] 49);have own_ge:∀ g,(Value.slice sa l.length sc).ownBlock=some g→lo≤g:=fun g e=>(World.ownsRow.lt OW g e).1;have nB:(Value.slice sa l.length sc).ownBlock=none∨(Value.slice sa l.length sc).ownBlock≠some B:=jdr O4.out M4.out (by decide);have nF:(Value.slice sa l.length sc).ownBlock=none∨(Value.slice sa l.length sc).ownBlock≠some bF:=by have:=NF.out;cases e:(Value.slice sa l.length sc).ownBlock with | none=>exact .inl rfl | some k=>exact .inr (fun e2=>by cases e2;exact this e)
           have M8:=jac ((hgrow.block B (by have:=gn.size;have:=(Array.getElem?_eq_some_iff.1 M4.out).1;omega) (jhn nB)).trans ((gn.block B (Array.getElem?_eq_some_iff.1 M4.out).1 (by simp)).trans M4.out));have F8:=jac ((hgrow.block bF (by have:=gn.size;have:=(Array.getElem?_eq_some_iff.1 F4.out).1;omega) (jhn nF)).trans (FN.out _));have hown2:Wr.OwnsL 49 4 Wr.fcells w8 lo (.slice (some ⟨g,0,none⟩) (l.length+1) cap) (l++[f]):=by unfold Wr.OwnsL;rw [List.length_append,List.flatMap_append];simpa using hown'
           have O8:=jac hown2;have A8:=jac (A4.out.trans ((jdq gn (by simp)).trans (jdq hgrow (fun g e=>own_ge g e))));clear hown' hown2 hgrow hat hlt gn own_ge nB nF OW;obtain ⟨⟨m0,m1⟩,mf0,mf1⟩:=jdZ M8.out;refine hK.out _ _ (F8.out) (fun hHeld=>?_);clear hK K
           try simp only [Act.put]
           refine tkD 8 ?_ (hv:=by intro w hSw;(try dsimp only at hSw);obtain ⟨y0,y1,y2,y3⟩:=jbT hSw;go_simp;(try with_reducible rfl))
           try simp only [Act.put]
           refine tkD 9 ?_ (hv:=by intro w hSw;(try dsimp only at hSw);obtain ⟨y0,y1,y2,y3⟩:=jbT hSw;go_simp;(try with_reducible rfl))
           try simp only [Act.put]
           refine wpAnyH_ready (rs:=[10]) (by kernel_rfl) (by simp) ?_;refine AllReadyH.cons rfl (fun K hK=>?_) ?_
           ·skip
            go_simp;refine hK.out _ _ (by rw [jeD _ _ NBF.out];exact F8.out) (fun hHeld=>?_);clear hK K
            try simp only [Act.put]
            refine wpAnyH_done (by kernel_rfl) ?_ _;have K9:=jao w8 B 0 (.slice (some ⟨g,0,none⟩) (l.length+1) cap);have M9:=jac ((jn7 M8.out (.slice (some ⟨g,0,none⟩) (l.length+1) cap)).1);have O9:Hid (Wr.OwnsL 49 4 Wr.fcells (w8.setCell ⟨B,0,none⟩ (.slice (some ⟨g,0,none⟩) (l.length+1) cap)) lo (.slice (some ⟨g,0,none⟩) (l.length+1) cap) (l++[f])):=World.ownsRow.kept O8.out K9 (jdr O8.out M8.out (by decide));have A9:=jac (A8.out.trans (jdq K9 (fun g e=>by cases e;exact LB.out)));clear K9 m0 m1 mf0 mf1;go_wp2_with fail
            go_end0
            refine ⟨A9.out,?_⟩;rw [E.out];exact ⟨_,rfl,rfl,⟨some ⟨g,0,none⟩,l.length+1,cap⟩,by rw [Int.natCast_add];exact M9.out,O9.out,LB.out⟩
           exact AllReadyH.nil
          exact AllReadyH.nil
         exact AllReadyH.nil
        exact AllReadyH.nil
      exact AllReadyH.nil
     exact AllReadyH.nil
end Go.Proofs.YtbgbpfbjeleooaaGreat.Pd
namespace Go.Proofs.YtbgbpfbjeleooaaGreat.Pd
open Go.RowKit
open Wr (Fld)
def jcC (f:Fld):Value:=.agg #[.int .i64 f.num,.int .i64 f.kind,.int .u64 f.u,.string f.b]
def jaY (num:Int) (s:ByteArray):Fld:=⟨num,2,0,s⟩
def jfr (num x:Int):Fld:=⟨num,0,x % 18446744073709551616,⟨#[]⟩⟩
def jgt (num x:Int):Fld:=⟨num,5,x % 18446744073709551616,⟨#[]⟩⟩
theorem jfR {α:Type} {lo:Nat} {w w':World} {r:R α} {Q:α→Value→World→Prop} {c:Int} (h:r=.error c) (ha:Abv lo w w'):jmR lo w r Q (.panicked [{ v:=.iface 28 (.int .i64 c),recovered:=false }]) w':=by
 rw [h];exact ⟨ha,rfl⟩
theorem jho {α:Type} {lo:Nat} {w w':World} {r:R α} {Q:α→Value→World→Prop} {a:α} {v:Value} (h:r=.ok a) (ha:Abv lo w w') (hq:Q a v w'):jmR lo w r Q (.returned v) w':=by
 rw [h];exact ⟨ha,v,rfl,hq⟩
theorem jcE:(Tryz.prog.info? 49).map (·.size)=some 4:=by kernel_rfl
theorem jhp {w:World} {B:Nat} {cs0 cs:Array Value} {t:TypeId} (hb:w.heap[B]?=some (.cells cs0 t (0,0))):(w.setRow B cs).heap[B]?=some (.cells cs t (0,0))∧w.grownBy (w.setRow B cs) (some B):=jkR hb
theorem jcj {fn : Func} {p : Tmp} (h : fn.results = #[.cell p 49]) (tmps : Array Value) (w : World) (B : Nat) (hp : tmps.getD p undef = .pointer (some ⟨B, 0, none⟩)) {a0 a1 a2 a3 : Value}
    (hb:w.heap[B]?=some (.cells #[a0,a1,a2,a3] 49 (0,0))):(results fn tmps).run Tryz.prog w=.ok (.agg #[a0,a1,a2,a3]) w :=
     results_cell_row h tmps w B 49 #[a0,a1,a2,a3] (0,0) _ hp hb Tryz.underlying49 rfl (by rw [jcE];rfl)
theorem jdd (num:Int) (s:ByteArray) (w:World):Calls Tryz.prog 98 #[.int .i64 num,.string s] w fun e w'=>e=.returned (jcC (jaY num s))∧w.grownBy w' none:=by
 have hb:=heap_alloc_new w (.cells #[.int .i64 0,.int .i64 0,.int .u64 0,.string ⟨#[]⟩] 49);have X:=jac (jhp (cs:=#[.int .i64 num,.int .i64 2,.int .u64 0,.string s]) hb);have G:=jac (jag (row:=none) (jab w (.cells #[.int .i64 0,.int .i64 0,.int .u64 0,.string ⟨#[]⟩] 49)) X.out.2 (fun g e=>by cases e;exact .inr (Nat.le_refl _)));go_enter Tryz.func98,Tryz.ntmps98;go_wp2_with (refine wpList_store_row rfl 49 (.tmp 4) (.tmp 7) rfl w.heap.size #[.int .i64 num,.int .i64 2,.int .u64 0,.string s] rfl rfl 49 _ hb jcE rfl (by simp [Value.oneCell']) ?_);refine bodyPost_ret (jcj rfl _ _ w.heap.size rfl X.out.1) rfl ?_;exact ⟨rfl,G.out⟩
theorem jd0 (num x:Int) (w:World):Calls Tryz.prog 145 #[.int .i64 num,.int .i64 x] w fun e w'=>e=.returned (jcC (jfr num x))∧w.grownBy w' none:=by
 have hb:=heap_alloc_new w (.cells #[.int .i64 0,.int .i64 0,.int .u64 0,.string ⟨#[]⟩] 49);have X:=jac (jhp (cs:=#[.int .i64 num,.int .i64 0,.int .u64 (x % 18446744073709551616),.string ⟨#[]⟩]) hb);have G:=jac (jag (row:=none) (jab w (.cells #[.int .i64 0,.int .i64 0,.int .u64 0,.string ⟨#[]⟩] 49)) X.out.2 (fun g e=>by cases e;exact .inr (Nat.le_refl _)));go_enter Tryz.func145,Tryz.ntmps145;go_wp2_with (refine wpList_store_row rfl 49 (.tmp 4) (.tmp 8) rfl w.heap.size #[.int .i64 num,.int .i64 0,.int .u64 (x % 18446744073709551616),.string ⟨#[]⟩] rfl rfl 49 _ hb jcE rfl (by simp [Value.oneCell']) ?_);refine bodyPost_ret (jcj rfl _ _ w.heap.size rfl X.out.1) rfl ?_;exact ⟨rfl,G.out⟩
theorem jev (num x:Int) (w:World):Calls Tryz.prog 148 #[.int .i64 num,.int .i64 x] w fun e w'=>e=.returned (jcC (jgt num x))∧w.grownBy w' none:=by
 have hb:=heap_alloc_new w (.cells #[.int .i64 0,.int .i64 0,.int .u64 0,.string ⟨#[]⟩] 49);have X:=jac (jhp (cs:=#[.int .i64 num,.int .i64 5,.int .u64 (x % 18446744073709551616),.string ⟨#[]⟩]) hb);have G:=jac (jag (row:=none) (jab w (.cells #[.int .i64 0,.int .i64 0,.int .u64 0,.string ⟨#[]⟩] 49)) X.out.2 (fun g e=>by cases e;exact .inr (Nat.le_refl _)));go_enter Tryz.func148,Tryz.ntmps148;go_wp2_with (refine wpList_store_row rfl 49 (.tmp 4) (.tmp 8) rfl w.heap.size #[.int .i64 num,.int .i64 5,.int .u64 (x % 18446744073709551616),.string ⟨#[]⟩] rfl rfl 49 _ hb jcE rfl (by simp [Value.oneCell']) ?_);refine bodyPost_ret (jcj rfl _ _ w.heap.size rfl X.out.1) rfl ?_;exact ⟨rfl,G.out⟩
theorem jbq (lo B:Nat) (l:List Fld) (sz:Nat) (num:Int) (s:ByteArray) (w:World) (hm:jc4 w lo B l sz) (hsz:sz≤16777216) (hl:l.length≤100000000) (hs:s.size≤4611686018427387904) :
    Calls Tryz.prog 70 #[.pointer (some ⟨B,0,none⟩),.int .i64 num,.string s] w (jmR lo w (jbe (l,sz) (jaY num s)) fun m v w'=>v=.tuple #[]∧jc4 w' lo B m.1 m.2):=by
     obtain ⟨F,hF⟩ : ∃ F,F=(jaY num s):=⟨_,rfl⟩
     have BF:=jac (fun wx=>jdd num s wx);have PT:=jac (fun wx (hg:w.grownBy wx none)=>jgi lo B l sz (jaY num s) wx (hm.more hg) hs hsz hl);rw [← hF] at BF PT;rw [← hF];clear hF;go_enter Tryz.func70,Tryz.ntmps70;go_wp2_with fail;refine (BF.out w).mono ?_;rintro e w1 ⟨rfl,g1⟩;have P1:=jac (PT.out w1 g1);have A1:=jac (jdq (lo:=lo) g1 (by simp));unfold jcC
     cases hp:jbe (l,sz) F with
     | error c =>
      rw [hp] at P1;have HP:=jac hp;clear hp;go_wp2_with fail;refine P1.out.mono ?_;rintro e w2 ⟨ha,rfl⟩;exact ⟨rfl,jfR HP.out (A1.out.trans ha)⟩
     | ok m =>
      rw [hp] at P1;have HP:=jac hp;clear hp;go_wp2_with fail;refine P1.out.mono ?_;rintro e w2 ⟨ha,v,rfl,rfl,hq⟩;go_wp2
      go_end0
      exact jho HP.out (A1.out.trans ha) ⟨rfl,hq⟩
def ja2 (m:List Fld×Nat) (num:Int) (s:ByteArray):R (List Fld×Nat):=if s.size=0 then .ok m else jbe m (jaY num s)
theorem jc0 (lo B:Nat) (l:List Fld) (sz:Nat) (num:Int) (s:ByteArray) (w:World) (hm:jc4 w lo B l sz) (hsz:sz≤16777216) (hl:l.length≤100000000) (hs:s.size≤4611686018427387904) :
    Calls Tryz.prog 100 #[.pointer (some ⟨B,0,none⟩),.int .i64 num,.string s] w (jmR lo w (ja2 (l,sz) num s) fun m v w'=>v=.tuple #[]∧jc4 w' lo B m.1 m.2):=by
     have BA:=jac (jbq lo B l sz num s w hm hsz hl hs)
     by_cases h0:s.size=0
     ·have E:Hid (ja2 (l,sz) num s=.ok (l,sz)):=by show _=_;unfold ja2;rw [if_pos h0]
      have e0:s.toList.isEmpty=true:=by rw [ByteArray.toList_eq,List.isEmpty_iff];exact List.length_eq_zero_iff.1 (by rw [Array.length_toList];exact h0)
      have HM:=jac hm;rw [E.out];clear h0 hm;go_enter Tryz.func100,Tryz.ntmps100;go_wp2
      go_end0
      exact ⟨Abv.refl _ _,_,rfl,rfl,HM.out⟩
     ·have E:Hid (ja2 (l,sz) num s=jbe (l,sz) (jaY num s)):=by show _=_;unfold ja2;rw [if_neg h0]
      have e0:s.toList.isEmpty=false:=jeT (by omega);rw [E.out];clear h0 hm
      cases hp:jbe (l,sz) (jaY num s) with
      | error c =>
       rw [hp] at BA;clear hp;go_enter Tryz.func100,Tryz.ntmps100;go_wp2_with fail;refine BA.out.mono ?_;rintro e w2 ⟨ha,rfl⟩;exact ⟨rfl,ha,rfl⟩
      | ok m =>
       rw [hp] at BA;clear hp;go_enter Tryz.func100,Tryz.ntmps100;go_wp2_with fail;refine BA.out.mono ?_;rintro e w2 ⟨ha,v,rfl,rfl,hq⟩;go_wp2
       go_end0
       exact ⟨ha,_,rfl,rfl,hq⟩
def jc5 (m:List Fld×Nat) (num x:Int):R (List Fld×Nat):=if x=0 then .ok m else jbe m (jfr num x)
theorem jcA (lo B:Nat) (l:List Fld) (sz:Nat) (num x:Int) (w:World) (hm:jc4 w lo B l sz) (hsz:sz≤16777216) (hl:l.length≤100000000) :
    Calls Tryz.prog 126 #[.pointer (some ⟨B,0,none⟩),.int .i64 num,.int .i64 x] w (jmR lo w (jc5 (l,sz) num x) fun m v w'=>v=.tuple #[]∧jc4 w' lo B m.1 m.2):=by
     by_cases h0:x=0
     ·have E:Hid (jc5 (l,sz) num x=.ok (l,sz)):=by show _=_;unfold jc5;rw [if_pos h0]
      have HM:=jac hm;rw [E.out];subst h0;clear hm;go_enter Tryz.func126,Tryz.ntmps126;go_wp2
      go_end0
      exact ⟨Abv.refl _ _,_,rfl,rfl,HM.out⟩
     ·have E:Hid (jc5 (l,sz) num x=jbe (l,sz) (jfr num x)):=by show _=_;unfold jc5;rw [if_neg h0]
      have e0:(x != 0)=true:=by simpa using h0
      rw [E.out];clear h0;obtain ⟨F,hF⟩ : ∃ F,F=(jfr num x):=⟨_,rfl⟩
      have BF:=jac (fun wx=>jd0 num x wx);have PT:=jac (fun wx (hg:w.grownBy wx none)=>jgi lo B l sz (jfr num x) wx (hm.more hg) (by show 0≤_;omega) hsz hl);rw [← hF] at BF PT;rw [← hF];clear hF;go_enter Tryz.func126,Tryz.ntmps126;go_wp2_with fail;refine (BF.out w).mono ?_;rintro e w1 ⟨rfl,g1⟩;have P1:=jac (PT.out w1 g1);have A1:=jac (jdq (lo:=lo) g1 (by simp));unfold jcC
      cases hp:jbe (l,sz) F with
      | error c =>
       rw [hp] at P1;have HP:=jac hp;clear hp;go_wp2_with fail;refine P1.out.mono ?_;rintro e w2 ⟨ha,rfl⟩;exact ⟨rfl,jfR HP.out (A1.out.trans ha)⟩
      | ok m =>
       rw [hp] at P1;have HP:=jac hp;clear hp;go_wp2_with fail;refine P1.out.mono ?_;rintro e w2 ⟨ha,v,rfl,rfl,hq⟩;go_wp2
       go_end0
       exact jho HP.out (A1.out.trans ha) ⟨rfl,hq⟩
def jjX (m:List Fld×Nat) (num x:Int):R (List Fld×Nat):=if x=0 then .ok m else jbe m (jgt num x)
theorem jjY (lo B:Nat) (l:List Fld) (sz:Nat) (num x:Int) (w:World) (hm:jc4 w lo B l sz) (hsz:sz≤16777216) (hl:l.length≤100000000) :
    Calls Tryz.prog 143 #[.pointer (some ⟨B,0,none⟩),.int .i64 num,.int .i64 x] w (jmR lo w (jjX (l,sz) num x) fun m v w'=>v=.tuple #[]∧jc4 w' lo B m.1 m.2):=by
     by_cases h0:x=0
     ·have E:Hid (jjX (l,sz) num x=.ok (l,sz)):=by show _=_;unfold jjX;rw [if_pos h0]
      have HM:=jac hm;rw [E.out];subst h0;clear hm;go_enter Tryz.func143,Tryz.ntmps143;go_wp2
      go_end0
      exact ⟨Abv.refl _ _,_,rfl,rfl,HM.out⟩
     ·have E:Hid (jjX (l,sz) num x=jbe (l,sz) (jgt num x)):=by show _=_;unfold jjX;rw [if_neg h0]
      have e0:(x != 0)=true:=by simpa using h0
      rw [E.out];clear h0;obtain ⟨F,hF⟩ : ∃ F,F=(jgt num x):=⟨_,rfl⟩
      have BF:=jac (fun wx=>jev num x wx);have PT:=jac (fun wx (hg:w.grownBy wx none)=>jgi lo B l sz (jgt num x) wx (hm.more hg) (by show 0≤_;omega) hsz hl);rw [← hF] at BF PT;rw [← hF];clear hF;go_enter Tryz.func143,Tryz.ntmps143;go_wp2_with fail;refine (BF.out w).mono ?_;rintro e w1 ⟨rfl,g1⟩;have P1:=jac (PT.out w1 g1);have A1:=jac (jdq (lo:=lo) g1 (by simp));unfold jcC
      cases hp:jbe (l,sz) F with
      | error c =>
       rw [hp] at P1;have HP:=jac hp;clear hp;go_wp2_with fail;refine P1.out.mono ?_;rintro e w2 ⟨ha,rfl⟩;exact ⟨rfl,jfR HP.out (A1.out.trans ha)⟩
      | ok m =>
       rw [hp] at P1;have HP:=jac hp;clear hp;go_wp2_with fail;refine P1.out.mono ?_;rintro e w2 ⟨ha,v,rfl,rfl,hq⟩;go_wp2
       go_end0
       exact jho HP.out (A1.out.trans ha) ⟨rfl,hq⟩
def wrP (l:List Fld):R ByteArray:=if (Wr.wrote l).2=0 then .ok (Wr.wrote l).1 else .error (Wr.wrote l).2
theorem jby (lo B:Nat) (l:List Fld) (sz:Nat) (w:World) (hm:jc4 w lo B l sz) (hl:l.length≤100000000) (hin:∀ x∈l,Wr.FldIn x) :
    Calls Tryz.prog 72 #[.pointer (some ⟨B,0,none⟩)] w (jbR w (wrP l) fun s v _=>v=.string s):=by
     obtain ⟨⟨sa,sn,sc⟩,hb,ho,-⟩:=hm;simp only [Sl.v] at hb ho;have W:=jac (Wr.write_any (.slice sa sn sc) l w (Wr.OwnsL.flds ho (by omega)) hin);obtain ⟨⟨m0,m1⟩,-⟩:=jdZ hb;obtain ⟨q,hq⟩ : ∃ q,q=Wr.wrote l:=⟨_,rfl⟩
     have E:Hid (wrP l=if q.2=0 then .ok q.1 else .error q.2):=by show _=_;unfold wrP;rw [hq]
     rw [← hq] at W;obtain ⟨s,c⟩:=q;rw [E.out];clear hq hb ho hin E;simp only at W ⊢
     by_cases h0:c=0
     ·subst h0;rw [if_pos rfl];go_enter Tryz.func72,Tryz.ntmps72;go_wp2_with fail;refine W.out.mono ?_;rintro e w1 ⟨rfl,hg⟩;go_wp2_with (go_at_call 79;refine (jf6 _).mono ?_;rintro e w' ⟨rfl,rfl⟩);go_ret;exact jaI rfl hg rfl
     ·rw [if_neg h0];have ST:=jac (jec c h0);clear h0;go_enter Tryz.func72,Tryz.ntmps72;go_wp2_with fail;refine W.out.mono ?_;rintro e w1 ⟨rfl,hg⟩;go_wp2_with (go_at_call 79;refine (ST.out _).mono ?_;rintro e w' ⟨rfl,rfl⟩);exact ⟨rfl,jad rfl hg⟩
end Go.Proofs.YtbgbpfbjeleooaaGreat.Pd
namespace Go.Proofs.YtbgbpfbjeleooaaGreat.Pd
open Go.RowKit
open Wr (Fld)
theorem jmb:Go.Proofs.Lays.n166 Tryz.prog jdB:=⟨jap.mixed,jap.f166,jap.f240,jap.f276,jap.t0,jap.a0,jap.z0,jap.v0,jap.t3,jap.a3,jap.z3,jap.v3,jap.t4,jap.a4,jap.z4,jap.v4,jap.t9,jap.a9,jap.z9,jap.v9,jap.t20,jap.a20,jap.z20,jap.v20,jap.t37,jap.a37,jap.z37,jap.v37,jap.t70,jap.a70,jap.z70,jap.v70,jap.t72,jap.a72,jap.z72,jap.v72,jap.t75,jap.a75,jap.z75,jap.v75,jap.t164,jap.a164,jap.z164,jap.v164⟩
theorem jmc:Go.Proofs.Lays.n169 Tryz.prog jdB:=⟨jap.mixed,jap.f169,jap.t0,jap.a0,jap.z0,jap.v0,jap.t3,jap.a3,jap.z3,jap.v3,jap.t9,jap.a9,jap.z9,jap.v9,jap.t37,jap.a37,jap.z37,jap.v37,jap.t70,jap.a70,jap.z70,jap.v70,jap.t72,jap.a72,jap.z72,jap.v72,jap.t127,jap.a127,jap.z127,jap.v127⟩
theorem jjZ (B b:Nat) (bs:List Value) (s:ByteArray) (w:World) (h:Lib.IsBuilder 130 5 B b bs w) (hlen:bs.length+s.size≤140737488355328) (hBw:B≤w.heap.size) :
    Calls Tryz.prog 85 #[.pointer (some ⟨b,0,none⟩),.string s] w fun e w'=>e=.returned (.tuple #[.int .i64 s.size,.nilIface])∧(Lib.BuilderAt 130 5 B b (.pointer (some ⟨b,0,none⟩)) (bs++Lib.strCells s) w'∧Below B w w') :=
     Any.Builder_WriteString jmb jb5 B b bs s w h hlen hBw
theorem jiI (B b:Nat) (l:List UInt8) (w:World) (h:Lib.IsBuilder 130 5 B b (Lib.byteCells l) w) (hBw:B≤w.heap.size) :
    Calls Tryz.prog 86 #[.pointer (some ⟨b,0,none⟩)] w fun e w'=>e=.returned (.string ⟨l.toArray⟩)∧Below B w w' :=
     Any.Builder_String_any jmc jb5 B b l w h hBw
theorem jh1 {B:Nat} {w w':World} (h:Below B w w'):Abv B w w':=⟨h.os,h.tape,h.output,h.size,fun i h1 _=>h.block i h1⟩
def jcv (l:List Int):List UInt8:=l.flatMap fun x=>(Wr.sof (Wr.vb (x % 18446744073709551616).toNat)).data.toList
theorem jjn (u:Nat):(Wr.sof (Wr.vb u)).size≤11:=by rw [Wr.sof_size];exact (Wr.vbF_len 10 u).2
theorem jd1:∀ l:List Int,(jcv l).length≤11*l.length
 | []=>by simp [jcv]
 | x::l=>by
  have h1:=jd1 l;have h2:=jjn (x % 18446744073709551616).toNat;unfold jcv at h1 ⊢;rw [List.flatMap_cons,List.length_append,List.length_cons,Array.length_toList];have h3:(Wr.sof (Wr.vb (x % 18446744073709551616).toNat)).data.size=(Wr.sof (Wr.vb (x % 18446744073709551616).toNat)).size:=rfl;omega
def jbO (num:Int) (l:List Int):Fld:=if l.length=1 then jfr num (l.headD 0) else jaY num ⟨(jcv l).toArray⟩
theorem jgQ (num:Int) (l:List Int):(jbO num l).b.size≤11*l.length:=by
 unfold jbO
 split
 ·show 0≤_;omega
 ·have:=jd1 l;show (jcv l).toArray.size≤_;simpa using this
theorem jh2 (w:World) (B:Nat) (hB:B≤w.heap.size):Lib.IsBuilder 130 5 B w.heap.size (Lib.byteCells []) (w.alloc (.cells #[.pointer none,.slice none 0 0] 130)) :=
 .inl ⟨hB,.slice none 0 0,heap_alloc_new w _,World.ownsRow_nil _ _ _ _,by simp [Value.ownBlock]⟩
theorem jck (num:Int) (v:Value) (l:List Int) (w:World) (hv:jaj w v l) (hl:l.length≤100000000) :
    Calls Tryz.prog 144 #[.int .i64 num,v] w fun e w'=>e=.returned (jcC (jbO num l))∧w.grownBy w' none:=by
     have HV:=jac hv;obtain ⟨ao,cap,rfl,c1,c2,c3,c4,c5,c6⟩:=hv;obtain ⟨bR,hR⟩ : ∃ b,b=w.heap.size:=⟨_,rfl⟩
     have C5:Hid (∀ wx,w.grownBy wx none→0<l.length→∃ b off,ao=some ⟨b,off,none⟩∧∀ t,t<l.length→wx.cell? ⟨b,off+t,none⟩=some (.int .i64 (l.getD t 0))):=fun wx hx hp=>by
      obtain ⟨ao',cap',e,-,-,-,-,h5,-⟩:=HV.out.more hx
      cases e
      exact h5 hp
     clear c4 c5 HV
     by_cases h1:l.length=1
     ·obtain ⟨x,rfl⟩:=List.length_eq_one_iff.1 h1;have E:Hid (jbO num [x]=jfr num x):=rfl;rw [E.out];have g1:=jab w (.cells #[.int .i64 0,.int .i64 0,.int .u64 0,.string ⟨#[]⟩] 49);obtain ⟨b,off,rfl,hc⟩:=C5.out _ g1 (by simp);have a0:=hc 0 (by simp);simp only [Nat.add_zero,List.getD_cons_zero,List.length_cons,List.length_nil,Nat.zero_add] at a0 ⊢;have hb:=heap_alloc_new w (.cells #[.int .i64 0,.int .i64 0,.int .u64 0,.string ⟨#[]⟩] 49);rw [← hR] at hb;clear C5 hc h1 c1 c3 c6;go_enter Tryz.func144,Tryz.ntmps144;go_wp2_with fail;refine (jd0 num x _).mono ?_;rintro e w2 ⟨rfl,g2⟩;unfold jcC jfr;simp only;have B2:=(g2.block bR (Array.getElem?_eq_some_iff.1 hb).1 (by simp)).trans hb;have X:=jac (jhp (cs:=#[.int .i64 num,.int .i64 0,.int .u64 (x % 18446744073709551616),.string ⟨#[]⟩]) B2);have G:=jac (jag (row:=none) (jaa g1 g2) X.out.2 (fun g e=>by cases e;exact .inr (Nat.le_of_eq hR.symm)));rw [← hR];clear a0 g1 g2 hb hR;go_wp2_with (refine wpList_store_row rfl 49 (.tmp 4) (.tmp 15) rfl bR #[.int .i64 num,.int .i64 0,.int .u64 (x % 18446744073709551616),.string ⟨#[]⟩] rfl rfl 49 _ B2 jcE rfl (by simp [Value.oneCell']) ?_);refine bodyPost_ret (jcj rfl _ _ bR rfl X.out.1) rfl ?_;exact ⟨rfl,G.out⟩
     ·have E:Hid (jbO num l=jaY num ⟨(jcv l).toArray⟩):=by show _=_;unfold jbO;rw [if_neg h1]
      have n1:((l.length:Int)==1)=false:=beq_eq_false_iff_ne.2 (by omega);rw [E.out];have g1:=jab w (.cells #[.int .i64 0,.int .i64 0,.int .u64 0,.string ⟨#[]⟩] 49);have hb:=heap_alloc_new w (.cells #[.int .i64 0,.int .i64 0,.int .u64 0,.string ⟨#[]⟩] 49);obtain ⟨w1,hw1⟩ : ∃ w1,w1=w.alloc (.cells #[.int .i64 0,.int .i64 0,.int .u64 0,.string ⟨#[]⟩] 49):=⟨_,rfl⟩
      rw [← hw1,← hR] at hb;rw [← hw1] at g1;have s1:w1.heap.size=w.heap.size+1:=by rw [hw1,jas]
      have hz:=jh2 w1 (bR+1) (by omega);have g2:=jab w1 (.cells #[.pointer none,.slice none 0 0] 130);obtain ⟨w2,hw2⟩ : ∃ w2,w2=w1.alloc (.cells #[.pointer none,.slice none 0 0] 130):=⟨_,rfl⟩
      obtain ⟨bB,hB⟩ : ∃ b,b=w.heap.size+1:=⟨_,rfl⟩
      rw [← hw2,s1,← hB] at hz;rw [← hw2] at g2;have R2:w2.heap[bR]?=some (.cells #[.int .i64 0,.int .i64 0,.int .u64 0,.string ⟨#[]⟩] 49 (0,0)):=(g2.block bR (by omega) (by simp)).trans hb;have G2:=jaa g1 g2;have S2:Hid (bR+1≤w2.heap.size):=by have:=g2.size;show _≤_;omega
      have RI:Hid (bR=w.heap.size):=hR;have C6:=jac c6;obtain ⟨n,hn⟩ : ∃ n,n=l.length:=⟨_,rfl⟩
      have HN:=jac hn;rw [← hn] at c1 c3 hl n1 ⊢;clear h1 g1 hb s1 g2 hn c6;go_enter Tryz.func144,Tryz.ntmps144;go_wp2_with fail;rw [← hw1,← hw2,← hB,← hR];clear hw1 hw2 hR hB;go_loopw [18] (fun iv wr=>∃ k:Nat,k≤n∧iv=.int .i64 k∧Lib.IsBuilder 130 5 (bR+1) bB (Lib.byteCells (jcv (l.take k))) wr∧wr.heap[bR]?=some (.cells #[.int .i64 0,.int .i64 0,.int .u64 0,.string ⟨#[]⟩] 49 (0,0))∧w.grownBy wr none∧bR+1≤wr.heap.size) (fun iv _=>n - (intOf iv).toNat)
      case atStart=>exact ⟨0,Nat.zero_le _,rfl,hz,R2,G2,S2.out⟩
      case round =>
       obtain ⟨k,hk,rfl,hbd,hrr,hg,hs⟩:=hrel;rename_i wr;have HBD:=jac hbd;have HR:=jac hrr;have HG:=jac hg;have HS:=jac hs;clear hbd hrr hz R2 G2
       by_cases hlt:k<n
       ·obtain ⟨b,off,rfl,hc⟩:=C5.out wr hg (by have:=HN.out;omega);have a0:wr.cell? ⟨b,off+k,none⟩=some (.int .i64 (l.getD k 0)):=hc k (by have:=HN.out;omega)
        have TK:Hid (jcv (l.take (k+1))=jcv (l.take k)++(Wr.sof (Wr.vb (l.getD k 0 % 18446744073709551616).toNat)).data.toList):=by
         show _=_;have hk2:k<l.length:=by have:=HN.out;omega
         rw [List.take_succ_eq_append_getElem hk2];unfold jcv;rw [List.flatMap_append,List.getD,List.getElem?_eq_getElem hk2];simp
        obtain ⟨x,hx⟩ : ∃ x,x=l.getD k 0:=⟨_,rfl⟩
        rw [← hx] at a0 TK;have VX:=jac (fun wx=>Wr.varintS_any (x % 18446744073709551616).toNat wx (by omega));rw [Int.toNat_of_nonneg (by omega)] at VX;have VS:=jac (jjn (x % 18446744073709551616).toNat);obtain ⟨T,hT⟩ : ∃ T,T=Wr.sof (Wr.vb (x % 18446744073709551616).toNat):=⟨_,rfl⟩
        rw [← hT] at VX VS TK;have PL:=jac (jd1 (l.take k));clear hg hs hc hx hT;go_wp2_with fail;refine (VX.out _).mono ?_;rintro e w4 ⟨rfl,g4⟩;have s4:=g4.size
        have hbd4:Lib.IsBuilder 130 5 (bR+1) bB (Lib.byteCells (jcv (l.take k))) w4:=by
         have keep:∀ p,Lib.BuilderAt 130 5 (bR+1) bB p (Lib.byteCells (jcv (l.take k))) wr→Lib.BuilderAt 130 5 (bR+1) bB p (Lib.byteCells (jcv (l.take k))) w4:=fun p h=>by
          obtain ⟨h1,v,h2,h3,h4⟩:=h;exact ⟨h1,v,(g4.block bB (Array.getElem?_eq_some_iff.1 h2).1 (by simp)).trans h2,World.ownsRow.kept h3 g4 (by cases v.ownBlock <;> simp),h4⟩
         rcases HBD.out with h | h
         ·exact .inl (keep _ h)
         ·exact .inr (keep _ h)
        have WS:=jac (jjZ (bR+1) bB _ T w4 hbd4 (by rw [Lib.byteCells_length];have h5:=PL.out;have:=VS.out;rw [List.length_take] at h5;have h6:min k l.length≤k:=Nat.min_le_left _ _;omega) (by have:=HS.out;omega));have HR4:=jac ((g4.block bR (by have:=HS.out;omega) (by simp)).trans HR.out);have HG4:=jac (jaa HG.out g4);have HS4:Hid (bR+1≤w4.heap.size):=by have:=HS.out;show _≤_;omega
        clear g4 s4 hbd4;go_wp2_with fail;refine WS.out.mono ?_;rintro e w5 ⟨rfl,hb5,hbl⟩
        have RES:Hid (Lib.IsBuilder 130 5 (bR+1) bB (Lib.byteCells (jcv (l.take (k+1)))) w5∧w5.heap[bR]?=some (.cells #[.int .i64 0,.int .i64 0,.int .u64 0,.string ⟨#[]⟩] 49 (0,0))∧w.grownBy w5 none∧bR+1≤w5.heap.size):=by
         refine ⟨.inr ?_,(hbl.block bR (by omega)).trans HR4.out,Abv.grown HG4.out (by have:=RI.out;omega) (jh1 hbl),Nat.le_trans HS4.out hbl.size⟩;rw [TK.out];unfold Lib.byteCells;rw [List.map_append];exact hb5
        clear hb5 hbl;go_wp2_with fail;go_roundw
        case rel=>exact ⟨k+1,by omega,by go_num,RES.out.1,RES.out.2.1,RES.out.2.2.1,RES.out.2.2.2⟩
        case measure=>simp [intOf];omega
       ·obtain rfl:k=n:=by omega
        rw [HN.out,List.take_length] at HBD;have BS:=jac (jiI (bR+1) bB (jcv l) wr HBD.out HS.out);have PL:=jac (jd1 l);clear hg hs;go_wp2_with fail;refine BS.out.mono ?_;rintro e w4 ⟨rfl,hbl⟩;have HR4:=jac ((hbl.block bR (by omega)).trans HR.out);have HG4:=jac (Abv.grown HG.out (by have:=RI.out;omega) (jh1 hbl));obtain ⟨s,hs⟩ : ∃ s:ByteArray,s=⟨(jcv l).toArray⟩:=⟨_,rfl⟩
        rw [← hs];have HE:=jac hs;clear hbl hs;go_wp2_with fail;refine (jdd num s w4).mono ?_;rintro e w5 ⟨rfl,g5⟩;unfold jcC jaY;simp only;have B5:=(g5.block bR (Array.getElem?_eq_some_iff.1 HR4.out).1 (by simp)).trans HR4.out;have X:=jac (jhp (cs:=#[.int .i64 num,.int .i64 2,.int .u64 0,.string s]) B5);have G:=jac (jag (row:=none) (jaa HG4.out g5) X.out.2 (fun g e=>by cases e;exact .inr (Nat.le_of_eq RI.out.symm)));clear g5;go_wp2_with (refine wpList_store_row rfl 49 (.tmp 4) (.tmp 29) rfl bR #[.int .i64 num,.int .i64 2,.int .u64 0,.string s] rfl rfl 49 _ B5 jcE rfl (by simp [Value.oneCell']) ?_);refine bodyPost_ret (jcj rfl _ _ bR rfl X.out.1) rfl ?_;exact ⟨by rw [← HE.out];rfl,G.out⟩
end Go.Proofs.YtbgbpfbjeleooaaGreat.Pd
namespace Go.Proofs.YtbgbpfbjeleooaaGreat.Pd
open Go.RowKit
open Wr (Fld)
def jh3 (w:Nat) (x:Int):List Nat:=(List.range w).map fun k=>(x / 2 ^ (8*k) % 256).toNat
def jil (w:Nat) (l:List Int):List Nat:=l.flatMap (jh3 w)
def jiJ (t:Int) (l:List Int):ByteArray:=Wr.sof (jil (ja1 t) l)
theorem je5 (w:Nat) (x:Int):(jh3 w x).length=w:=by simp [jh3]
theorem jjo (w:Nat) (l:List Int):(jil w l).length=l.length*w:=by
 unfold jil
 induction l with
 | nil=>simp
 | cons x l ih=>rw [List.flatMap_cons,List.length_append,ih,je5,List.length_cons,Nat.add_mul];omega
theorem jk1 (w:Nat) (l:List Int) (k:Nat) (h:k<l.length):jil w (l.take (k+1))=jil w (l.take k)++jh3 w (l.getD k 0):=by
 rw [List.take_succ_eq_append_getElem h,List.getD,List.getElem?_eq_getElem h];unfold jil;rw [List.flatMap_append];simp
theorem jk2 (w:Nat) (x:Int) (j:Nat) (h:j<w):(jh3 w x).take (j+1)=(jh3 w x).take j++[(x / 2 ^ (8*j) % 256).toNat]:=by
 have hl:j<(jh3 w x).length:=by rw [je5];exact h
 rw [List.take_succ_eq_append_getElem hl]
 congr 1
 simp [jh3]
theorem jj0 (n:Nat) (hn:n≤1000000000):∃ M:Array Value,(∀ W:World,(Instr.makeSlice 84 (.int .i64 0) (.int .i64 (n:Int))).run Tryz.prog W=.ok (.slice (some ⟨W.heap.size,0,none⟩) 0 n) (W.alloc (.cells M 5))) ∧
    ∀ (W:World) (base:Nat),base≤W.heap.size→Wr.OwnsB (W.alloc (.cells M 5)) base (.slice (some ⟨W.heap.size,0,none⟩) 0 n) []:=by
     obtain ⟨j0,hj,jz0,jz1,jz2⟩:=info_parts Wr.infoByte;obtain ⟨M1,hM1⟩ : ∃ M,M=madeCells (Value.int .u8 0).cells (((n:Nat):Int).toNat*j0.size):=⟨_,rfl⟩
     have E1:M1.toList=(madeCells (Value.int .u8 0).cells (n*1)).toList:=by rw [hM1,jz1];simp
     have E2:M1.size=n:=by rw [← Array.length_toList,E1,show (Value.int .u8 0).cells=#[Value.int .u8 0] from rfl,toList_madeCells_one];simp
     refine ⟨M1,fun W=>?_,fun W base hb=>?_⟩
     ·have h:=Go.run_make (P:=Tryz.prog) W 84 5 j0 (.int .u8 0) Tryz.underlying84 hj jz0 .i64 .i64 0 (n:Int) (by omega) (by omega) (by rw [jz2];omega) (by omega);rw [← hM1] at h;simpa using h
     ·exact ⟨by simp,Or.inr ⟨W.heap.size,n,M1,rfl,hb,heap_alloc_new W _,Nat.zero_le _,by simp only [maxLen];omega,by rw [E2,Nat.mul_one],by simp⟩⟩
theorem jnq (ty:Int) (d:Sl) (t:Value) (l:List Int) (w:World) (hv:jaj w t l) (hl:l.length≤10000000) :
    Calls Tryz.prog 146 #[.agg #[.int .i64 ty,.slice d.a d.n d.c,t]] w fun e w'=>e=.returned (.string (jiJ ty l))∧w.grownBy w' none:=by
     obtain ⟨i0,hi,hz0,hz1,hz2⟩:=info_parts Wr.infoByte;obtain ⟨da,dn,dc⟩:=d;have HV:=jac hv;obtain ⟨ao,cap,rfl,c1,c2,c3,c4,c5,c6⟩:=hv;simp only
     have C5:Hid (∀ wx,w.grownBy wx none→0<l.length→∃ b off,ao=some ⟨b,off,none⟩∧∀ t,t<l.length→wx.cell? ⟨b,off+t,none⟩=some (.int .i64 (l.getD t 0))):=fun wx hx hp=>by
      obtain ⟨ao',cap',e,-,-,-,-,h5,-⟩:=HV.out.more hx
      cases e
      exact h5 hp
     obtain ⟨W,hW⟩ : ∃ W,W=ja1 ty:=⟨_,rfl⟩
     have W8:Hid (W≤8):=by show W≤8;rw [hW];rcases jfn ty with h | h | h <;> omega
     have WD:=jac (fun wx=>jhK ty wx);rw [← hW] at WD;have RP:Hid (jiJ ty l=Wr.sof (jil W l)):=by show _=_;rw [hW];rfl
     rw [RP.out];obtain ⟨w1,hw1⟩ : ∃ w1,w1=w.alloc (.cells #[.int .i64 ty,.slice da dn dc,.slice ao l.length cap] 44):=⟨_,rfl⟩
     have g1:w.grownBy w1 none:=by rw [hw1];exact jab _ _
     obtain ⟨⟨b0,b1,b2⟩,-⟩:=jbk (heap_alloc_new w (.cells #[.int .i64 ty,.slice da dn dc,.slice ao l.length cap] 44));obtain ⟨N,hN⟩ : ∃ N,N=l.length*W:=⟨_,rfl⟩
     have hNb:N≤1000000000:=by rw [hN];exact Nat.le_trans (Nat.mul_le_mul hl W8.out) (by decide)
     obtain ⟨M,mk0,mk1⟩:=jj0 N hNb;have MK:=jac (mk1 w1 w.heap.size g1.size);have GM:=jac (jaa g1 (jab w1 (.cells M 5)))
     have ws : IntKind.i64.wrap ((l.length : Int) * (W : Int)) = (N : Int) := by rw [hN, IntKind.wrap_i64, Int.natCast_mul]; have h6 : (l.length : Int) * (W : Int) = ((l.length * W : Nat) : Int) := by rw [Int.natCast_mul]
                                                                                 rw [h6,← hN];omega
     have HN:=jac hN;obtain ⟨n,hn⟩ : ∃ n,n=l.length:=⟨_,rfl⟩
     have Hn:=jac hn;rw [← hn] at c1 c3 hl ws b2 hw1 ⊢;clear mk1 c4 c5 hn HV hW RP hN;go_enter Tryz.func146,Tryz.ntmps146;go_wp2_with fail;rw [← hw1];have B1:w1.cell? ⟨w.heap.size,2,none⟩=some (.slice ao n cap):=by rw [hw1];exact b2
     clear b0 b1 b2 hw1;refine (WD.out w1).mono ?_;rintro e w' ⟨rfl,rfl⟩;have B2:(w1.alloc (.cells M 5)).cell? ⟨w.heap.size,2,none⟩=some (.slice ao n cap):=by rw [World.cell?_alloc_some _ _ _ (by rw [B1];rfl)];exact B1
     go_wp2;go_loopg [4,20] n (fun gh b iv wr=>∃ (k:Nat) (v:Value),gh=n - k∧k≤n∧b=v∧iv=.int .i64 k∧Wr.OwnsB wr w.heap.size v (jil W (l.take k))∧w.grownBy wr none)
     case atStart=>exact ⟨0,_,rfl,Nat.zero_le _,rfl,rfl,by simpa [jil] using MK.out,GM.out⟩
     case round =>
      obtain ⟨k,v,rfl,hk,rfl,rfl,hown,hg⟩:=hrel;have HO:=jac hown;have HG:=jac hg;clear B1 B2;obtain ⟨va,vc,rfl⟩:=Wr.OwnsL.form hown
      by_cases hlt:k<n
      ·obtain ⟨xb,xo,rfl,hc⟩:=C5.out wr hg (by have:=Hn.out;omega);have a0:wr.cell? ⟨xb,xo+k,none⟩=some (.int .i64 (l.getD k 0)):=hc k (by have:=Hn.out;omega);have SN:=jac (jk1 W l k (by have:=Hn.out;omega));have LN:=jac (jjo W (l.take k));obtain ⟨x,hx⟩ : ∃ x,x=l.getD k 0:=⟨_,rfl⟩
       rw [← hx] at a0 SN;obtain ⟨P,hP⟩ : ∃ P,P=jil W (l.take k):=⟨_,rfl⟩
       rw [← hP] at HO SN LN ⊢
       have KB:Hid (P.length≤800000000):=by
        show _≤_;rw [LN.out,List.length_take];have:=Hn.out;exact Nat.le_trans (Nat.mul_le_mul (Nat.min_le_right _ _) W8.out) (by omega)
       clear hown hg hc hx hP;go_wp2;go_loopg [4,25] W (fun gh b jv wi=>∃ (j:Nat) (u:Value),gh=W - j∧j≤W∧b=u∧jv=.int .i64 j∧Wr.OwnsB wi w.heap.size u (P++(jh3 W x).take j)∧w.grownBy wi none)
       case atStart=>exact ⟨0,_,rfl,Nat.zero_le _,rfl,rfl,by simpa using HO.out,HG.out⟩
       case round =>
        obtain ⟨j,u,rfl,hj,rfl,rfl,hown2,hg2⟩:=hrel;have HO2:=jac hown2;have HG2:=jac hg2;obtain ⟨ua,uc,rfl⟩:=Wr.OwnsL.form hown2;obtain ⟨Y,hY⟩ : ∃ Y,Y=P++(jh3 W x).take j:=⟨_,rfl⟩
        have YL:Hid (Y.length≤800000008):=by show _≤_;rw [hY,List.length_append,List.length_take];have:=KB.out;have:=W8.out;omega
        have HY:=jac hY;rw [← hY] at HO2 ⊢;clear hown2 hg2 hY
        by_cases hlt2:j<W
        ·have NX:=jac (jk2 W x j hlt2);have w8:j≤7:=by have:=W8.out;omega
         have sz:w.heap.size≤wr.heap.size:=HG2.out.size;have hy:Y.length+1≤800000009:=by have:=YL.out;omega
         have hz:((x / 2 ^ (8*j) % 256).toNat:Int)=x / 2 ^ (8*j) % 256:=Int.toNat_of_nonneg (by omega);go_wp2_with (at_builtin;refine Wr.wpList_push rfl (.tmp 28) (.tmp 34) 84 5 1 1 _ i0 Wr.bcells rfl Tryz.underlying84 hi hz0 hz1 hz2 rfl (by decide) w.heap.size _ Y rfl (by exact Wr.OwnsL.more HO2.out (jab wr _)) wr.heap.size 1 (x / 2 ^ (8*j) % 256).toNat _ rfl (by exact heap_alloc_new wr _) (by simp [Wr.bcells,hz]) rfl (Wr.bcells_one _) (by omega) (by simp only [maxLen];omega) (by simp;omega) ?_;intro v' w5 hown5 hg5)
         have RES:Hid (Wr.OwnsB w5 w.heap.size v' (P++(jh3 W x).take (j+1))∧w.grownBy w5 none):=by
          refine ⟨?_,jah (jaa HG2.out (jab wr _)) hg5 (fun g e=>(World.ownsRow.lt HO2.out g e).1)⟩;rw [NX.out,← List.append_assoc,← HY.out];exact hown5
         clear hown5 hg5;go_roundg (W - (j+1))
         case measure=>omega
         case rel=>exact ⟨j+1,v',rfl,by omega,rfl,by go_num,RES.out.1,RES.out.2⟩
        ·obtain rfl:j=W:=by omega
         have RES:Hid (Wr.OwnsB wr w.heap.size (.slice ua Y.length uc) (jil j (l.take (k+1)))):=by
          show Wr.OwnsB _ _ _ _;rw [SN.out];have h7:(jh3 j x).take j=jh3 j x:=List.take_of_length_le (by rw [je5];exact Nat.le_refl _);have h8:=HY.out;rw [h7] at h8;rw [← h8];exact HO2.out
         go_wp2;go_roundg (n - (k+1))
         case measure=>omega
         case rel=>exact ⟨k+1,_,rfl,by omega,rfl,by go_num,RES.out,HG2.out⟩
      ·obtain rfl:k=n:=by omega
       have hcv:=Wr.conv_own HO.out;have E:Hid (jil W l=jil W (l.take k)):=by show _=_;rw [Hn.out,List.take_length]
       clear hown hg;go_wp2;go_ret;exact ⟨by rw [E.out];rfl,HG.out⟩
end Go.Proofs.YtbgbpfbjeleooaaGreat.Pd
