/- A part. -/
import Derived.Test.YtbgbpfbjeleooaaGreatMRart
import Derived.Test.YtbgbpfbjeleooaaGreatRartAY
import Derived.Test.YtbgbpfbjeleooaaGreatRartBF
import Derived.Test.YtbgbpfbjeleooaaGreatRartAZ
set_option maxHeartbeats 12800000
set_option maxRecDepth 100000
namespace Go.Proofs.YtbgbpfbjeleooaaGreat.Pd
open Go.RowKit
open Wr (Fld)
def Abv (lo:Nat) (w w':World):Prop:=w'.os=w.os∧w'.tape=w.tape∧w'.output=w.output∧w.heap.size≤w'.heap.size∧∀ i,i<lo→i<w.heap.size→w'.heap[i]?=w.heap[i]?
theorem jdw {lo:Nat} {w w':World} {row:Option Nat} (h:w.grownBy w' row) (hr:∀ g,row=some g→lo≤g):Abv lo w w' :=
 ⟨h.os,h.tape,h.output,h.size,fun i h1 h2=>h.block i h2 (fun e=>by have:=hr i e.symm;omega)⟩
theorem Abv.refl (lo:Nat) (w:World):Abv lo w w:=⟨rfl,rfl,rfl,Nat.le_refl _,fun _ _ _=>rfl⟩
theorem Abv.trans {lo:Nat} {a b c:World} (h:Abv lo a b) (k:Abv lo b c):Abv lo a c :=
 ⟨k.1.trans h.1,k.2.1.trans h.2.1,k.2.2.1.trans h.2.2.1,Nat.le_trans h.2.2.2.1 k.2.2.2.1,fun i h1 h2=>(k.2.2.2.2 i h1 (Nat.lt_of_lt_of_le h2 h.2.2.2.1)).trans (h.2.2.2.2 i h1 h2)⟩
theorem Abv.low {lo lo':Nat} {a b:World} (h:Abv lo a b) (hl:lo'≤lo):Abv lo' a b:=⟨h.1,h.2.1,h.2.2.1,h.2.2.2.1,fun i h1 h2=>h.2.2.2.2 i (Nat.lt_of_lt_of_le h1 hl) h2⟩
theorem Abv.grown {lo:Nat} {w0 w w':World} (g:w0.grownBy w none) (hl:w0.heap.size≤lo) (h:Abv lo w w'):w0.grownBy w' none :=
 ⟨h.1.trans g.os,h.2.1.trans g.tape,h.2.2.1.trans g.output,Nat.le_trans g.size h.2.2.2.1,fun i hi _=>(h.2.2.2.2 i (Nat.lt_of_lt_of_le hi hl) (Nat.lt_of_lt_of_le hi g.size)).trans (g.block i hi (by simp))⟩
def jm0 {α:Type} (lo:Nat) (w:World) (r:R α) (Q:α→Value→World→Prop) (e:Ending) (w':World):Prop:=Abv lo w w'∧match r with
 | .error c=>e=.panicked [{ v:=.iface 28 (.int .i64 c),recovered:=false }]
 | .ok a=>∃ v,e=.returned v∧Q a v w'
def jda (w:World) (lo B:Nat) (l:List Fld) (sz:Nat):Prop :=
 ∃ s:Sl,w.heap[B]?=some (.cells #[.slice s.a s.n s.c,.int .i64 sz] 114 (0,0))∧Wr.OwnsL 49 4 Wr.fcells w lo s.v l∧lo≤B
theorem jda.more {w w':World} {lo B:Nat} {l:List Fld} {sz:Nat} (h:jda w lo B l sz) (hg:w.grownBy w' none):jda w' lo B l sz:=by
 obtain ⟨s,hb,ho,hl⟩:=h;exact ⟨s,(hg.block B (Array.getElem?_eq_some_iff.1 hb).1 (by simp)).trans hb,Wr.OwnsL.more ho hg,hl⟩
def jbf (m:List Fld×Nat) (f:Fld):R (List Fld×Nat):=if 16777216<m.2+f.b.size then .error 6 else .ok (m.1++[f],m.2+f.b.size)
theorem jdx {w:World} {base te sz n t B:Nat} {v:Value} {cs:List Value} {cur:Array Value} {m:Nat×Nat} (h:w.ownsRow base te sz v n cs) (hb:w.heap[B]?=some (.cells cur t m)) (ht:te≠t):v.ownBlock=none∨v.ownBlock≠some B:=by
 rcases h.2 with ⟨e,-⟩ | ⟨g,cap,cur',e,-,hg,-⟩
 ·exact .inl (by rw [e];rfl)
 ·refine .inr ?_;rw [e];simp only [Value.ownBlock,ne_eq,Option.some.injEq];rintro rfl;rw [hg] at hb;simp only [Option.some.injEq,Obj.cells.injEq] at hb;exact ht hb.2.1
theorem jht {o:Option Nat} {B:Nat} (h:o=none∨o≠some B):some B≠o:=by
 rcases h with h | h
 ·rw [h];simp
 ·exact fun e=>h e.symm
theorem jd5 {w:World} {B:Nat} {z0 z1:Value} {t:TypeId} (hb:w.heap[B]?=some (.cells #[z0,z1] t (0,0))) :
    (w.cell? ⟨B,0,none⟩=some z0∧w.cell? ⟨B,1,none⟩=some z1)∧w.frozen? ⟨B,0,none⟩=false∧w.frozen? ⟨B,1,none⟩=false :=
     ⟨⟨(cell_of_row _ _ 0 _ _ (0,0) hb).trans rfl,(cell_of_row _ _ 1 _ _ (0,0) hb).trans rfl⟩,frozen_of_row w B 0 _ _ hb,frozen_of_row w B 1 _ _ hb⟩
theorem joi {w:World} {B:Nat} {z0 z1:Value} {t:TypeId} (hb:w.heap[B]?=some (.cells #[z0,z1] t (0,0))) (a:Value) :
    (w.setCell ⟨B,0,none⟩ a).heap[B]?=some (.cells #[a,z1] t (0,0))∧(w.setCell ⟨B,1,none⟩ a).heap[B]?=some (.cells #[z0,a] t (0,0)) :=
     ⟨by simpa using heap_setCell_same w B 0 _ _ a hb,by simpa using heap_setCell_same w B 1 _ _ a hb⟩
theorem jbW {w:World} {B:Nat} {z0 z1 z2 z3:Value} {t:TypeId} (hb:w.heap[B]?=some (.cells #[z0,z1,z2,z3] t (0,0))) :
    w.cell? ⟨B,0,none⟩=some z0∧w.cell? ⟨B,1,none⟩=some z1∧w.cell? ⟨B,2,none⟩=some z2∧w.cell? ⟨B,3,none⟩=some z3:=(jaZ hb).1
theorem jeJ {B b j:Nat} (w:World) (a:Value) (h:b≠B):(w.setCell ⟨B,j,none⟩ a).heap[b]?=w.heap[b]?:=Below.heap_setCell _ _ _ _ (fun e=>h (by rw [e]))
theorem jgn (lo B:Nat) (l:List Fld) (sz:Nat) (f:Fld) (w:World) (hm:jda w lo B l sz) (hf:f.b.size≤4611686018427387904) (hsz:sz≤16777216) (hl:l.length≤100000000) :
    Calls Tryz.prog 97 #[.pointer (some ⟨B,0,none⟩),.agg #[.int .i64 f.num,.int .i64 f.kind,.int .u64 f.u,.string f.b]] w (jm0 lo w (jbf (l,sz) f) fun m v w'=>v=.tuple #[]∧jda w' lo B m.1 m.2):=by
     obtain ⟨i0,hi,hz0,hz1,hz2⟩:=info_parts Wr.info_fld;obtain ⟨⟨sa,sn,sc⟩,hb,ho,hB⟩:=hm;have LB:=jac hB;obtain ⟨sa',sc',e9⟩:=Wr.OwnsL.form ho;simp only [Sl.v,Value.slice.injEq] at e9;obtain ⟨rfl,rfl,rfl⟩:=e9;simp only [Sl.v] at hb ho;obtain ⟨bF,hF⟩ : ∃ b,b=w.heap.size:=⟨_,rfl⟩
     have hBlt:=(Array.getElem?_eq_some_iff.1 hb).1;have NBF:Hid (bF≠B):=by show bF≠B;omega
     have NF:Hid ((Value.slice sa l.length sc).ownBlock≠some bF):=fun e=>by have:=(World.ownsRow.lt ho bF e).2;omega
     obtain ⟨w1,hw1⟩ : ∃ w1,w1=w.alloc (.cells #[.int .i64 f.num,.int .i64 f.kind,.int .u64 f.u,.string f.b] 49):=⟨_,rfl⟩
     have g1:w.grownBy w1 none:=by rw [hw1];exact jab _ _
     have F1:w1.heap[bF]?=some (.cells #[.int .i64 f.num,.int .i64 f.kind,.int .u64 f.u,.string f.b] 49 (0,0)):=by rw [hF,hw1];exact heap_alloc_new w _
     obtain ⟨wd,hwd⟩ : ∃ wd,wd=w1.drew:=⟨_,rfl⟩
     have gd:w.grownBy wd none:=by rw [hwd];exact ⟨g1.os,g1.tape,g1.output,g1.size,g1.block⟩
     have FD:Hid (wd.heap[bF]?=some (.cells #[.int .i64 f.num,.int .i64 f.kind,.int .u64 f.u,.string f.b] 49 (0,0))):=by show wd.heap[bF]?=_;rw [hwd];exact F1
     have MD:=jac ((gd.block B hBlt (by simp)).trans hb);have OD:=jac (Wr.OwnsL.more ho gd);have K3:=jak wd B 1 (.int .i64 ((sz:Int)+(f.b.size:Int)));have M3:=jac ((joi MD.out (.int .i64 ((sz:Int)+(f.b.size:Int)))).2);have FX:Hid ((wd.setCell ⟨B,1,none⟩ (.int .i64 ((sz:Int)+(f.b.size:Int)))).heap[bF]?=some (.cells #[.int .i64 f.num,.int .i64 f.kind,.int .u64 f.u,.string f.b] 49 (0,0))):=by show _=_;rw [jeJ _ _ NBF.out];exact FD.out
     have F3:=FX;have O3:Hid (Wr.OwnsL 49 4 Wr.fcells (wd.setCell ⟨B,1,none⟩ (.int .i64 ((sz:Int)+(f.b.size:Int)))) lo (.slice sa l.length sc) l):=World.ownsRow.kept OD.out K3 (jdx OD.out MD.out (by decide));have A3:=jac ((jdw (lo:=lo) gd (by simp)).trans (jdw K3 (fun g e=>by cases e;exact hB)));have XS:Hid (True):=trivial;have ws:IntKind.i64.wrap ((sz:Int)+(f.b.size:Int))=(sz:Int)+(f.b.size:Int):=by rw [IntKind.wrap_i64];omega
     obtain ⟨⟨m0,m1⟩,mf0,mf1⟩:=jd5 MD.out;clear K3 gd g1 hb ho hBlt hB;go_enter Tryz.func97,Tryz.ntmps97;go_wp2_with fail;rw [← hw1,← hF];clear hw1 hF F1;refine wp_region_held_drew (S:=(fun w'=>w'.heap[bF]?=some (.cells #[.int .i64 f.num,.int .i64 f.kind,.int .u64 f.u,.string f.b] 49 (0,0)))) (by kernel_rfl) (by rw [← hwd];exact FD.out) (fun hHeld=>?_);rw [← hwd] at hHeld ⊢;clear hwd;refine tkD 0 ?_ (hv:=by intro w hSw;(try dsimp only at hSw);obtain ⟨y0,y1,y2,y3⟩:=jbW hSw;go_simp;(try with_reducible rfl))
     try simp only [Act.put]
     refine tkD 1 ?_ (hv:=by intro w hSw;(try dsimp only at hSw);obtain ⟨y0,y1,y2,y3⟩:=jbW hSw;go_simp;(try with_reducible rfl))
     try simp only [Act.put]
     refine tkD 2 ?_ (hv:=by intro w hSw;(try dsimp only at hSw);obtain ⟨y0,y1,y2,y3⟩:=jbW hSw;go_simp;(try with_reducible rfl))
     try simp only [Act.put]
     refine tkD 4 ?_ (hv:=by intro w hSw;(try dsimp only at hSw);obtain ⟨y0,y1,y2,y3⟩:=jbW hSw;go_simp;(try with_reducible rfl))
     try simp only [Act.put]
     refine tkD 5 ?_ (hv:=by intro w hSw;(try dsimp only at hSw);obtain ⟨y0,y1,y2,y3⟩:=jbW hSw;go_simp;(try with_reducible rfl))
     try simp only [Act.put]
     refine tkD 6 ?_ (hv:=by intro w hSw;(try dsimp only at hSw);obtain ⟨y0,y1,y2,y3⟩:=jbW hSw;go_simp;(try with_reducible rfl))
     try simp only [Act.put]
     refine wpAnyH_ready (rs:=[3]) (by kernel_rfl) (by simp) ?_;refine AllReadyH.cons rfl (fun K hK=>?_) ?_
     ·skip
      go_simp;refine hK.out _ _ (FD.out) (fun hHeld=>?_);clear hK K
      try simp only [Act.put]
      refine tkD 7 ?_ (hv:=by intro w hSw;(try dsimp only at hSw);obtain ⟨y0,y1,y2,y3⟩:=jbW hSw;go_simp;(try with_reducible rfl))
      try simp only [Act.put]
      refine tkD 8 ?_ (hv:=by intro w hSw;(try dsimp only at hSw);obtain ⟨y0,y1,y2,y3⟩:=jbW hSw;go_simp;(try with_reducible rfl))
      try simp only [Act.put]
      refine tkD 9 ?_ (hv:=by intro w hSw;(try dsimp only at hSw);obtain ⟨y0,y1,y2,y3⟩:=jbW hSw;go_simp;(try with_reducible rfl))
      try simp only [Act.put]
      refine wpAnyH_ready (rs:=[10]) (by kernel_rfl) (by simp) ?_;refine AllReadyH.cons rfl (fun K hK=>?_) ?_
      ·skip
       go_simp;refine hK.out _ _ (FX.out) (fun hHeld=>?_);clear hK K
       try simp only [Act.put]
       refine wpAnyH_done (by kernel_rfl) ?_ _;clear m0 m1 mf0 mf1 hHeld;have sz2:=XS.out;obtain ⟨w3,hw3⟩ : ∃ w3,w3=wd.setCell ⟨B,1,none⟩ (.int .i64 ((sz:Int)+(f.b.size:Int))):=⟨_,rfl⟩
       rw [← hw3] at M3 F3 O3 A3 ⊢;clear hw3;obtain ⟨⟨m0,m1⟩,-⟩:=jd5 M3.out
       by_cases hbig:16777216<sz+f.b.size
       ·have E:Hid (jbf (l,sz) f=.error 6):=by show _=_;unfold jbf;rw [if_pos hbig]
        have d1:decide ((16777216:Int)<(sz:Int)+(f.b.size:Int))=true:=by simp only [decide_eq_true_eq];omega
        clear hbig;go_wp2_with (go_at_call 53;refine (jaD _ _).mono ?_;rintro e w' ⟨rfl,rfl⟩);exact ⟨rfl,A3.out,by rw [E.out]⟩
       ·have E:Hid (jbf (l,sz) f=.ok (l++[f],sz+f.b.size)):=by show _=_;unfold jbf;rw [if_neg hbig]
        have d1:decide ((16777216:Int)<(sz:Int)+(f.b.size:Int))=false:=by simp only [decide_eq_false_iff_not];omega
        clear hbig;go_wp2_with (go_at_call 53;refine (jaM _ _).mono ?_;rintro e w' ⟨rfl,rfl⟩);clear m0 m1;have gd2:w3.grownBy w3.drew none:=⟨rfl,rfl,rfl,Nat.le_refl _,fun _ _ _=>rfl⟩
        obtain ⟨we,hwe⟩ : ∃ we,we=w3.drew:=⟨_,rfl⟩
        rw [← hwe] at gd2;have M4:=jac ((gd2.block B (by have:=(Array.getElem?_eq_some_iff.1 M3.out).1;exact this) (by simp)).trans M3.out);have F4:=jac ((gd2.block bF (by have:=(Array.getElem?_eq_some_iff.1 F3.out).1;exact this) (by simp)).trans F3.out);have O4:Hid (Wr.OwnsL 49 4 Wr.fcells we lo (.slice sa l.length sc) l):=Wr.OwnsL.more O3.out gd2;have A4:=jac (A3.out.trans (jdw gd2 (by simp)));have se:Hid (lo≤we.heap.size):=by have h1:=gd2.size;have:=(Array.getElem?_eq_some_iff.1 M3.out).1;have:=LB.out;show lo≤_;omega
        have FN:Hid (∀ o,(we.alloc o).heap[bF]?=some (.cells #[.int .i64 f.num,.int .i64 f.kind,.int .u64 f.u,.string f.b] 49 (0,0))):=fun o=>((jab we o).block bF (Array.getElem?_eq_some_iff.1 F4.out).1 (by simp)).trans F4.out;clear gd2;refine wp_region_held_drew (S:=(fun w'=>w'.heap[bF]?=some (.cells #[.int .i64 f.num,.int .i64 f.kind,.int .u64 f.u,.string f.b] 49 (0,0)))) (by kernel_rfl) (by rw [← hwe];exact F4.out) (fun hHeld=>?_);rw [← hwe] at hHeld ⊢;clear hwe;refine tkD 0 ?_ (hv:=by intro w hSw;(try dsimp only at hSw);obtain ⟨y0,y1,y2,y3⟩:=jbW hSw;go_simp;(try with_reducible rfl))
        try simp only [Act.put]
        refine tkD 1 ?_ (hv:=by intro w hSw;(try dsimp only at hSw);obtain ⟨y0,y1,y2,y3⟩:=jbW hSw;go_simp;(try with_reducible rfl))
        try simp only [Act.put]
        refine tkD 2 ?_ (hv:=by intro w hSw;(try dsimp only at hSw);obtain ⟨y0,y1,y2,y3⟩:=jbW hSw;go_simp;(try with_reducible rfl))
        try simp only [Act.put]
        refine tkD 3 ?_ (hv:=by intro w hSw;(try dsimp only at hSw);obtain ⟨y0,y1,y2,y3⟩:=jbW hSw;go_simp;(try with_reducible rfl))
        try simp only [Act.put]
        refine tkD 5 ?_ (hv:=by intro w hSw;(try dsimp only at hSw);obtain ⟨y0,y1,y2,y3⟩:=jbW hSw;go_simp;(try with_reducible rfl))
        try simp only [Act.put]
        refine wpAnyH_ready (rs:=[4,6]) (by kernel_rfl) (by simp) ?_;refine AllReadyH.cons rfl (fun K hK=>?_) ?_
        ·skip
         obtain ⟨⟨m0,m1⟩,-⟩:=jd5 M4.out;go_simp;clear m0 m1;refine hK.out _ _ (F4.out) (fun hHeld=>?_);clear hK K
         try simp only [Act.put]
         refine wpAnyH_ready (rs:=[6]) (by kernel_rfl) (by simp) ?_;refine AllReadyH.cons rfl (fun K hK=>?_) ?_
         ·skip
          go_simp;refine hK.out _ _ (FN.out _) (fun hHeld=>?_);clear hK K
          try simp only [Act.put]
          refine wpAnyH_ready (rs:=[7]) (by kernel_rfl) (by simp) ?_;refine AllReadyH.cons rfl (fun K hK=>?_) ?_
          ·skip
           have OW:=Wr.OwnsL.more O4.out (jab we (.cells #[.int .i64 f.num,.int .i64 f.kind,.int .u64 f.u,.string f.b] 49));unfold Wr.OwnsL at OW;refine step_append_lies _ (by rfl) (.tmp 24) (.tmp 26) 51 (by rfl) lo 49 i0 _ 4 40 Tryz.underlying51 hi hz0 hz1 hz2 (by rfl) (by decide) (.slice sa l.length sc) l.length (l.flatMap Wr.fcells) (by rfl) (by exact OW) ⟨we.heap.size,0,none⟩ 1 1 (Wr.fcells f) (by rfl) (by rfl) (by exact jbV we _ _ _ rfl) (Wr.fcells_one f) (by decide) (by simp only [maxLen];omega) (by omega) (by have:=se.out;simp;omega) (we.heap.size+1) (by simp) ?_;intro g cap w8 hown' hgrow hat hlt;have gn:=jab we (.cells #[.int .i64 f.num,.int .i64 f.kind,.int .u64 f.u,.string f.b] 49);have own_ge:∀ g,(Value.slice sa l.length sc).ownBlock=some g→lo≤g:=fun g e=>(World.ownsRow.lt OW g e).1;have nB:(Value.slice sa l.length sc).ownBlock=none∨(Value.slice sa l.length sc).ownBlock≠some B:=jdx O4.out M4.out (by decide);have nF:(Value.slice sa l.length sc).ownBlock=none∨(Value.slice sa l.length sc).ownBlock≠some bF:=by have:=NF.out;cases e:(Value.slice sa l.length sc).ownBlock with | none=>exact .inl rfl | some k=>exact .inr (fun e2=>by cases e2;exact this e)
           have M8:=jac ((hgrow.block B (by have:=gn.size;have:=(Array.getElem?_eq_some_iff.1 M4.out).1;omega) (jht nB)).trans ((gn.block B (Array.getElem?_eq_some_iff.1 M4.out).1 (by simp)).trans M4.out));have F8:=jac ((hgrow.block bF (by have:=gn.size;have:=(Array.getElem?_eq_some_iff.1 F4.out).1;omega) (jht nF)).trans (FN.out _));have hown2:Wr.OwnsL 49 4 Wr.fcells w8 lo (.slice (some ⟨g,0,none⟩) (l.length+1) cap) (l++[f]):=by unfold Wr.OwnsL;rw [List.length_append,List.flatMap_append];simpa using hown'
           have O8:=jac hown2;have A8:=jac (A4.out.trans ((jdw gn (by simp)).trans (jdw hgrow (fun g e=>own_ge g e))));clear hown' hown2 hgrow hat hlt gn own_ge nB nF OW;obtain ⟨⟨m0,m1⟩,mf0,mf1⟩:=jd5 M8.out;refine hK.out _ _ (F8.out) (fun hHeld=>?_);clear hK K
           try simp only [Act.put]
           refine tkD 8 ?_ (hv:=by intro w hSw;(try dsimp only at hSw);obtain ⟨y0,y1,y2,y3⟩:=jbW hSw;go_simp;(try with_reducible rfl))
           try simp only [Act.put]
           refine tkD 9 ?_ (hv:=by intro w hSw;(try dsimp only at hSw);obtain ⟨y0,y1,y2,y3⟩:=jbW hSw;go_simp;(try with_reducible rfl))
           try simp only [Act.put]
           refine wpAnyH_ready (rs:=[10]) (by kernel_rfl) (by simp) ?_;refine AllReadyH.cons rfl (fun K hK=>?_) ?_
           ·skip
            go_simp;refine hK.out _ _ (by rw [jeJ _ _ NBF.out];exact F8.out) (fun hHeld=>?_);clear hK K
            try simp only [Act.put]
            refine wpAnyH_done (by kernel_rfl) ?_ _;have K9:=jak w8 B 0 (.slice (some ⟨g,0,none⟩) (l.length+1) cap);have M9:=jac ((joi M8.out (.slice (some ⟨g,0,none⟩) (l.length+1) cap)).1);have O9:Hid (Wr.OwnsL 49 4 Wr.fcells (w8.setCell ⟨B,0,none⟩ (.slice (some ⟨g,0,none⟩) (l.length+1) cap)) lo (.slice (some ⟨g,0,none⟩) (l.length+1) cap) (l++[f])):=World.ownsRow.kept O8.out K9 (jdx O8.out M8.out (by decide));have A9:=jac (A8.out.trans (jdw K9 (fun g e=>by cases e;exact LB.out)));clear K9 m0 m1 mf0 mf1;go_wp2_with fail
            go_end0
            refine ⟨A9.out,?_⟩;rw [E.out];exact ⟨_,rfl,rfl,⟨some ⟨g,0,none⟩,l.length+1,cap⟩,by rw [Int.natCast_add];exact M9.out,O9.out,LB.out⟩
           exact AllReadyH.nil
          exact AllReadyH.nil
         exact AllReadyH.nil
        refine AllReadyH.cons rfl (fun K hK=>?_) ?_
        ·skip
         go_simp;refine hK.out _ _ (FN.out _) (fun hHeld=>?_);clear hK K
         try simp only [Act.put]
         refine wpAnyH_ready (rs:=[4]) (by kernel_rfl) (by simp) ?_;refine AllReadyH.cons rfl (fun K hK=>?_) ?_
         ·skip
          obtain ⟨⟨m0,m1⟩,-⟩:=jd5 (((jab we (.cells #[.int .i64 f.num,.int .i64 f.kind,.int .u64 f.u,.string f.b] 49)).block B (Array.getElem?_eq_some_iff.1 M4.out).1 (by simp)).trans M4.out);go_simp;clear m0 m1;refine hK.out _ _ (FN.out _) (fun hHeld=>?_);clear hK K
          try simp only [Act.put]
          refine wpAnyH_ready (rs:=[7]) (by kernel_rfl) (by simp) ?_;refine AllReadyH.cons rfl (fun K hK=>?_) ?_
          ·skip
           have OW:=Wr.OwnsL.more O4.out (jab we (.cells #[.int .i64 f.num,.int .i64 f.kind,.int .u64 f.u,.string f.b] 49));unfold Wr.OwnsL at OW;refine step_append_lies _ (by rfl) (.tmp 24) (.tmp 26) 51 (by rfl) lo 49 i0 _ 4 40 Tryz.underlying51 hi hz0 hz1 hz2 (by rfl) (by decide) (.slice sa l.length sc) l.length (l.flatMap Wr.fcells) (by rfl) (by exact OW) ⟨we.heap.size,0,none⟩ 1 1 (Wr.fcells f) (by rfl) (by rfl) (by exact jbV we _ _ _ rfl) (Wr.fcells_one f) (by decide) (by simp only [maxLen];omega) (by omega) (by have:=se.out;simp;omega) (we.heap.size+1) (by simp) ?_;intro g cap w8 hown' hgrow hat hlt;have gn:=jab we (.cells #[.int .i64 f.num,.int .i64 f.kind,.int .u64 f.u,.string f.b] 49);have own_ge:∀ g,(Value.slice sa l.length sc).ownBlock=some g→lo≤g:=fun g e=>(World.ownsRow.lt OW g e).1;have nB:(Value.slice sa l.length sc).ownBlock=none∨(Value.slice sa l.length sc).ownBlock≠some B:=jdx O4.out M4.out (by decide);have nF:(Value.slice sa l.length sc).ownBlock=none∨(Value.slice sa l.length sc).ownBlock≠some bF:=by have:=NF.out;cases e:(Value.slice sa l.length sc).ownBlock with | none=>exact .inl rfl | some k=>exact .inr (fun e2=>by cases e2;exact this e)
           have M8:=jac ((hgrow.block B (by have:=gn.size;have:=(Array.getElem?_eq_some_iff.1 M4.out).1;omega) (jht nB)).trans ((gn.block B (Array.getElem?_eq_some_iff.1 M4.out).1 (by simp)).trans M4.out));have F8:=jac ((hgrow.block bF (by have:=gn.size;have:=(Array.getElem?_eq_some_iff.1 F4.out).1;omega) (jht nF)).trans (FN.out _));have hown2:Wr.OwnsL 49 4 Wr.fcells w8 lo (.slice (some ⟨g,0,none⟩) (l.length+1) cap) (l++[f]):=by unfold Wr.OwnsL;rw [List.length_append,List.flatMap_append];simpa using hown'
           have O8:=jac hown2;have A8:=jac (A4.out.trans ((jdw gn (by simp)).trans (jdw hgrow (fun g e=>own_ge g e))));clear hown' hown2 hgrow hat hlt gn own_ge nB nF OW;obtain ⟨⟨m0,m1⟩,mf0,mf1⟩:=jd5 M8.out;refine hK.out _ _ (F8.out) (fun hHeld=>?_);clear hK K
           try simp only [Act.put]
           refine tkD 8 ?_ (hv:=by intro w hSw;(try dsimp only at hSw);obtain ⟨y0,y1,y2,y3⟩:=jbW hSw;go_simp;(try with_reducible rfl))
           try simp only [Act.put]
           refine tkD 9 ?_ (hv:=by intro w hSw;(try dsimp only at hSw);obtain ⟨y0,y1,y2,y3⟩:=jbW hSw;go_simp;(try with_reducible rfl))
           try simp only [Act.put]
           refine wpAnyH_ready (rs:=[10]) (by kernel_rfl) (by simp) ?_;refine AllReadyH.cons rfl (fun K hK=>?_) ?_
           ·skip
            go_simp;refine hK.out _ _ (by rw [jeJ _ _ NBF.out];exact F8.out) (fun hHeld=>?_);clear hK K
            try simp only [Act.put]
            refine wpAnyH_done (by kernel_rfl) ?_ _;have K9:=jak w8 B 0 (.slice (some ⟨g,0,none⟩) (l.length+1) cap);have M9:=jac ((joi M8.out (.slice (some ⟨g,0,none⟩) (l.length+1) cap)).1);have O9:Hid (Wr.OwnsL 49 4 Wr.fcells (w8.setCell ⟨B,0,none⟩ (.slice (some ⟨g,0,none⟩) (l.length+1) cap)) lo (.slice (some ⟨g,0,none⟩) (l.length+1) cap) (l++[f])):=World.ownsRow.kept O8.out K9 (jdx O8.out M8.out (by decide));have A9:=jac (A8.out.trans (jdw K9 (fun g e=>by cases e;exact LB.out)));clear K9 m0 m1 mf0 mf1;go_wp2_with fail
            go_end0
            refine ⟨A9.out,?_⟩;rw [E.out];exact ⟨_,rfl,rfl,⟨some ⟨g,0,none⟩,l.length+1,cap⟩,by rw [Int.natCast_add];exact M9.out,O9.out,LB.out⟩
           exact AllReadyH.nil
          exact AllReadyH.nil
         exact AllReadyH.nil
        exact AllReadyH.nil
      exact AllReadyH.nil
     exact AllReadyH.nil
end Go.Proofs.YtbgbpfbjeleooaaGreat.Pd
namespace Go.Proofs.YtbgbpfbjeleooaaGreat.Pd
open Go.RowKit
open Wr (Fld)
def jcH (f:Fld):Value:=.agg #[.int .i64 f.num,.int .i64 f.kind,.int .u64 f.u,.string f.b]
def ja0 (num:Int) (s:ByteArray):Fld:=⟨num,2,0,s⟩
def jfy (num x:Int):Fld:=⟨num,0,x % 18446744073709551616,⟨#[]⟩⟩
def jgz (num x:Int):Fld:=⟨num,5,x % 18446744073709551616,⟨#[]⟩⟩
theorem jfY {α:Type} {lo:Nat} {w w':World} {r:R α} {Q:α→Value→World→Prop} {c:Int} (h:r=.error c) (ha:Abv lo w w'):jm0 lo w r Q (.panicked [{ v:=.iface 28 (.int .i64 c),recovered:=false }]) w':=by
 rw [h];exact ⟨ha,rfl⟩
theorem jhu {α:Type} {lo:Nat} {w w':World} {r:R α} {Q:α→Value→World→Prop} {a:α} {v:Value} (h:r=.ok a) (ha:Abv lo w w') (hq:Q a v w'):jm0 lo w r Q (.returned v) w':=by
 rw [h];exact ⟨ha,v,rfl,hq⟩
theorem jcJ:(Tryz.prog.info? 49).map (·.size)=some 4:=by kernel_rfl
theorem jhv {w:World} {B:Nat} {cs0 cs:Array Value} {t:TypeId} (hb:w.heap[B]?=some (.cells cs0 t (0,0))):(w.setRow B cs).heap[B]?=some (.cells cs t (0,0))∧w.grownBy (w.setRow B cs) (some B):=jk0 hb
theorem jck {fn : Func} {p : Tmp} (h : fn.results = #[.cell p 49]) (tmps : Array Value) (w : World) (B : Nat) (hp : tmps.getD p undef = .pointer (some ⟨B, 0, none⟩)) {a0 a1 a2 a3 : Value}
    (hb:w.heap[B]?=some (.cells #[a0,a1,a2,a3] 49 (0,0))):(results fn tmps).run Tryz.prog w=.ok (.agg #[a0,a1,a2,a3]) w :=
     results_cell_row h tmps w B 49 #[a0,a1,a2,a3] (0,0) _ hp hb Tryz.underlying49 rfl (by rw [jcJ];rfl)
theorem jdk (num:Int) (s:ByteArray) (w:World):Calls Tryz.prog 98 #[.int .i64 num,.string s] w fun e w'=>e=.returned (jcH (ja0 num s))∧w.grownBy w' none:=by
 have hb:=heap_alloc_new w (.cells #[.int .i64 0,.int .i64 0,.int .u64 0,.string ⟨#[]⟩] 49);have X:=jac (jhv (cs:=#[.int .i64 num,.int .i64 2,.int .u64 0,.string s]) hb);have G:=jac (jaf (row:=none) (jab w (.cells #[.int .i64 0,.int .i64 0,.int .u64 0,.string ⟨#[]⟩] 49)) X.out.2 (fun g e=>by cases e;exact .inr (Nat.le_refl _)));go_enter Tryz.func98,Tryz.ntmps98;go_wp2_with (refine wpList_store_row rfl 49 (.tmp 4) (.tmp 7) rfl w.heap.size #[.int .i64 num,.int .i64 2,.int .u64 0,.string s] rfl rfl 49 _ hb jcJ rfl (by simp [Value.oneCell']) ?_);refine bodyPost_ret (jck rfl _ _ w.heap.size rfl X.out.1) rfl ?_;exact ⟨rfl,G.out⟩
theorem jd6 (num x:Int) (w:World):Calls Tryz.prog 145 #[.int .i64 num,.int .i64 x] w fun e w'=>e=.returned (jcH (jfy num x))∧w.grownBy w' none:=by
 have hb:=heap_alloc_new w (.cells #[.int .i64 0,.int .i64 0,.int .u64 0,.string ⟨#[]⟩] 49);have X:=jac (jhv (cs:=#[.int .i64 num,.int .i64 0,.int .u64 (x % 18446744073709551616),.string ⟨#[]⟩]) hb);have G:=jac (jaf (row:=none) (jab w (.cells #[.int .i64 0,.int .i64 0,.int .u64 0,.string ⟨#[]⟩] 49)) X.out.2 (fun g e=>by cases e;exact .inr (Nat.le_refl _)));go_enter Tryz.func145,Tryz.ntmps145;go_wp2_with (refine wpList_store_row rfl 49 (.tmp 4) (.tmp 8) rfl w.heap.size #[.int .i64 num,.int .i64 0,.int .u64 (x % 18446744073709551616),.string ⟨#[]⟩] rfl rfl 49 _ hb jcJ rfl (by simp [Value.oneCell']) ?_);refine bodyPost_ret (jck rfl _ _ w.heap.size rfl X.out.1) rfl ?_;exact ⟨rfl,G.out⟩
theorem jeA (num x:Int) (w:World):Calls Tryz.prog 148 #[.int .i64 num,.int .i64 x] w fun e w'=>e=.returned (jcH (jgz num x))∧w.grownBy w' none:=by
 have hb:=heap_alloc_new w (.cells #[.int .i64 0,.int .i64 0,.int .u64 0,.string ⟨#[]⟩] 49);have X:=jac (jhv (cs:=#[.int .i64 num,.int .i64 5,.int .u64 (x % 18446744073709551616),.string ⟨#[]⟩]) hb);have G:=jac (jaf (row:=none) (jab w (.cells #[.int .i64 0,.int .i64 0,.int .u64 0,.string ⟨#[]⟩] 49)) X.out.2 (fun g e=>by cases e;exact .inr (Nat.le_refl _)));go_enter Tryz.func148,Tryz.ntmps148;go_wp2_with (refine wpList_store_row rfl 49 (.tmp 4) (.tmp 8) rfl w.heap.size #[.int .i64 num,.int .i64 5,.int .u64 (x % 18446744073709551616),.string ⟨#[]⟩] rfl rfl 49 _ hb jcJ rfl (by simp [Value.oneCell']) ?_);refine bodyPost_ret (jck rfl _ _ w.heap.size rfl X.out.1) rfl ?_;exact ⟨rfl,G.out⟩
theorem jbs (lo B:Nat) (l:List Fld) (sz:Nat) (num:Int) (s:ByteArray) (w:World) (hm:jda w lo B l sz) (hsz:sz≤16777216) (hl:l.length≤100000000) (hs:s.size≤4611686018427387904) :
    Calls Tryz.prog 70 #[.pointer (some ⟨B,0,none⟩),.int .i64 num,.string s] w (jm0 lo w (jbf (l,sz) (ja0 num s)) fun m v w'=>v=.tuple #[]∧jda w' lo B m.1 m.2):=by
     obtain ⟨F,hF⟩ : ∃ F,F=(ja0 num s):=⟨_,rfl⟩
     have BF:=jac (fun wx=>jdk num s wx);have PT:=jac (fun wx (hg:w.grownBy wx none)=>jgn lo B l sz (ja0 num s) wx (hm.more hg) hs hsz hl);rw [← hF] at BF PT;rw [← hF];clear hF;go_enter Tryz.func70,Tryz.ntmps70;go_wp2_with fail;refine (BF.out w).mono ?_;rintro e w1 ⟨rfl,g1⟩;have P1:=jac (PT.out w1 g1);have A1:=jac (jdw (lo:=lo) g1 (by simp));unfold jcH
     cases hp:jbf (l,sz) F with
     | error c =>
      rw [hp] at P1;have HP:=jac hp;clear hp;go_wp2_with fail;refine P1.out.mono ?_;rintro e w2 ⟨ha,rfl⟩;exact ⟨rfl,jfY HP.out (A1.out.trans ha)⟩
     | ok m =>
      rw [hp] at P1;have HP:=jac hp;clear hp;go_wp2_with fail;refine P1.out.mono ?_;rintro e w2 ⟨ha,v,rfl,rfl,hq⟩;go_wp2
      go_end0
      exact jhu HP.out (A1.out.trans ha) ⟨rfl,hq⟩
def ja6 (m:List Fld×Nat) (num:Int) (s:ByteArray):R (List Fld×Nat):=if s.size=0 then .ok m else jbf m (ja0 num s)
theorem jc5 (lo B:Nat) (l:List Fld) (sz:Nat) (num:Int) (s:ByteArray) (w:World) (hm:jda w lo B l sz) (hsz:sz≤16777216) (hl:l.length≤100000000) (hs:s.size≤4611686018427387904) :
    Calls Tryz.prog 100 #[.pointer (some ⟨B,0,none⟩),.int .i64 num,.string s] w (jm0 lo w (ja6 (l,sz) num s) fun m v w'=>v=.tuple #[]∧jda w' lo B m.1 m.2):=by
     have BA:=jac (jbs lo B l sz num s w hm hsz hl hs)
     by_cases h0:s.size=0
     ·have E:Hid (ja6 (l,sz) num s=.ok (l,sz)):=by show _=_;unfold ja6;rw [if_pos h0]
      have e0:s.toList.isEmpty=true:=by rw [ByteArray.toList_eq,List.isEmpty_iff];exact List.length_eq_zero_iff.1 (by rw [Array.length_toList];exact h0)
      have HM:=jac hm;rw [E.out];clear h0 hm;go_enter Tryz.func100,Tryz.ntmps100;go_wp2
      go_end0
      exact ⟨Abv.refl _ _,_,rfl,rfl,HM.out⟩
     ·have E:Hid (ja6 (l,sz) num s=jbf (l,sz) (ja0 num s)):=by show _=_;unfold ja6;rw [if_neg h0]
      have e0:s.toList.isEmpty=false:=jem (by omega);rw [E.out];clear h0 hm
      cases hp:jbf (l,sz) (ja0 num s) with
      | error c =>
       rw [hp] at BA;clear hp;go_enter Tryz.func100,Tryz.ntmps100;go_wp2_with fail;refine BA.out.mono ?_;rintro e w2 ⟨ha,rfl⟩;exact ⟨rfl,ha,rfl⟩
      | ok m =>
       rw [hp] at BA;clear hp;go_enter Tryz.func100,Tryz.ntmps100;go_wp2_with fail;refine BA.out.mono ?_;rintro e w2 ⟨ha,v,rfl,rfl,hq⟩;go_wp2
       go_end0
       exact ⟨ha,_,rfl,rfl,hq⟩
def jdb (m:List Fld×Nat) (num x:Int):R (List Fld×Nat):=if x=0 then .ok m else jbf m (jfy num x)
theorem jcF (lo B:Nat) (l:List Fld) (sz:Nat) (num x:Int) (w:World) (hm:jda w lo B l sz) (hsz:sz≤16777216) (hl:l.length≤100000000) :
    Calls Tryz.prog 126 #[.pointer (some ⟨B,0,none⟩),.int .i64 num,.int .i64 x] w (jm0 lo w (jdb (l,sz) num x) fun m v w'=>v=.tuple #[]∧jda w' lo B m.1 m.2):=by
     by_cases h0:x=0
     ·have E:Hid (jdb (l,sz) num x=.ok (l,sz)):=by show _=_;unfold jdb;rw [if_pos h0]
      have HM:=jac hm;rw [E.out];subst h0;clear hm;go_enter Tryz.func126,Tryz.ntmps126;go_wp2
      go_end0
      exact ⟨Abv.refl _ _,_,rfl,rfl,HM.out⟩
     ·have E:Hid (jdb (l,sz) num x=jbf (l,sz) (jfy num x)):=by show _=_;unfold jdb;rw [if_neg h0]
      have e0:(x != 0)=true:=by simpa using h0
      rw [E.out];clear h0;obtain ⟨F,hF⟩ : ∃ F,F=(jfy num x):=⟨_,rfl⟩
      have BF:=jac (fun wx=>jd6 num x wx);have PT:=jac (fun wx (hg:w.grownBy wx none)=>jgn lo B l sz (jfy num x) wx (hm.more hg) (by show 0≤_;omega) hsz hl);rw [← hF] at BF PT;rw [← hF];clear hF;go_enter Tryz.func126,Tryz.ntmps126;go_wp2_with fail;refine (BF.out w).mono ?_;rintro e w1 ⟨rfl,g1⟩;have P1:=jac (PT.out w1 g1);have A1:=jac (jdw (lo:=lo) g1 (by simp));unfold jcH
      cases hp:jbf (l,sz) F with
      | error c =>
       rw [hp] at P1;have HP:=jac hp;clear hp;go_wp2_with fail;refine P1.out.mono ?_;rintro e w2 ⟨ha,rfl⟩;exact ⟨rfl,jfY HP.out (A1.out.trans ha)⟩
      | ok m =>
       rw [hp] at P1;have HP:=jac hp;clear hp;go_wp2_with fail;refine P1.out.mono ?_;rintro e w2 ⟨ha,v,rfl,rfl,hq⟩;go_wp2
       go_end0
       exact jhu HP.out (A1.out.trans ha) ⟨rfl,hq⟩
def jj7 (m:List Fld×Nat) (num x:Int):R (List Fld×Nat):=if x=0 then .ok m else jbf m (jgz num x)
theorem jj8 (lo B:Nat) (l:List Fld) (sz:Nat) (num x:Int) (w:World) (hm:jda w lo B l sz) (hsz:sz≤16777216) (hl:l.length≤100000000) :
    Calls Tryz.prog 143 #[.pointer (some ⟨B,0,none⟩),.int .i64 num,.int .i64 x] w (jm0 lo w (jj7 (l,sz) num x) fun m v w'=>v=.tuple #[]∧jda w' lo B m.1 m.2):=by
     by_cases h0:x=0
     ·have E:Hid (jj7 (l,sz) num x=.ok (l,sz)):=by show _=_;unfold jj7;rw [if_pos h0]
      have HM:=jac hm;rw [E.out];subst h0;clear hm;go_enter Tryz.func143,Tryz.ntmps143;go_wp2
      go_end0
      exact ⟨Abv.refl _ _,_,rfl,rfl,HM.out⟩
     ·have E:Hid (jj7 (l,sz) num x=jbf (l,sz) (jgz num x)):=by show _=_;unfold jj7;rw [if_neg h0]
      have e0:(x != 0)=true:=by simpa using h0
      rw [E.out];clear h0;obtain ⟨F,hF⟩ : ∃ F,F=(jgz num x):=⟨_,rfl⟩
      have BF:=jac (fun wx=>jeA num x wx);have PT:=jac (fun wx (hg:w.grownBy wx none)=>jgn lo B l sz (jgz num x) wx (hm.more hg) (by show 0≤_;omega) hsz hl);rw [← hF] at BF PT;rw [← hF];clear hF;go_enter Tryz.func143,Tryz.ntmps143;go_wp2_with fail;refine (BF.out w).mono ?_;rintro e w1 ⟨rfl,g1⟩;have P1:=jac (PT.out w1 g1);have A1:=jac (jdw (lo:=lo) g1 (by simp));unfold jcH
      cases hp:jbf (l,sz) F with
      | error c =>
       rw [hp] at P1;have HP:=jac hp;clear hp;go_wp2_with fail;refine P1.out.mono ?_;rintro e w2 ⟨ha,rfl⟩;exact ⟨rfl,jfY HP.out (A1.out.trans ha)⟩
      | ok m =>
       rw [hp] at P1;have HP:=jac hp;clear hp;go_wp2_with fail;refine P1.out.mono ?_;rintro e w2 ⟨ha,v,rfl,rfl,hq⟩;go_wp2
       go_end0
       exact jhu HP.out (A1.out.trans ha) ⟨rfl,hq⟩
def wrP (l:List Fld):R ByteArray:=if (Wr.wrote l).2=0 then .ok (Wr.wrote l).1 else .error (Wr.wrote l).2
theorem jbz (lo B:Nat) (l:List Fld) (sz:Nat) (w:World) (hm:jda w lo B l sz) (hl:l.length≤100000000) (hin:∀ x∈l,Wr.FldIn x) :
    Calls Tryz.prog 72 #[.pointer (some ⟨B,0,none⟩)] w (jbU w (wrP l) fun s v _=>v=.string s):=by
     obtain ⟨⟨sa,sn,sc⟩,hb,ho,-⟩:=hm;simp only [Sl.v] at hb ho;have W:=jac (Wr.write_any (.slice sa sn sc) l w (Wr.OwnsL.flds ho (by omega)) hin);obtain ⟨⟨m0,m1⟩,-⟩:=jd5 hb;obtain ⟨q,hq⟩ : ∃ q,q=Wr.wrote l:=⟨_,rfl⟩
     have E:Hid (wrP l=if q.2=0 then .ok q.1 else .error q.2):=by show _=_;unfold wrP;rw [hq]
     rw [← hq] at W;obtain ⟨s,c⟩:=q;rw [E.out];clear hq hb ho hin E;simp only at W ⊢
     by_cases h0:c=0
     ·subst h0;rw [if_pos rfl];go_enter Tryz.func72,Tryz.ntmps72;go_wp2_with fail;refine W.out.mono ?_;rintro e w1 ⟨rfl,hg⟩;go_wp2_with (go_at_call 79;refine (jgd _).mono ?_;rintro e w' ⟨rfl,rfl⟩);go_ret;exact jaI rfl hg rfl
     ·rw [if_neg h0];have ST:=jac (jei c h0);clear h0;go_enter Tryz.func72,Tryz.ntmps72;go_wp2_with fail;refine W.out.mono ?_;rintro e w1 ⟨rfl,hg⟩;go_wp2_with (go_at_call 79;refine (ST.out _).mono ?_;rintro e w' ⟨rfl,rfl⟩);exact ⟨rfl,jad rfl hg⟩
end Go.Proofs.YtbgbpfbjeleooaaGreat.Pd
namespace Go.Proofs.YtbgbpfbjeleooaaGreat.Pd
open Go.RowKit
open Wr (Fld)
theorem jml:Go.Proofs.Lays.n166 Tryz.prog jdH:=⟨jaq.mixed,jaq.f166,jaq.f240,jaq.f276,jaq.t0,jaq.a0,jaq.z0,jaq.v0,jaq.t3,jaq.a3,jaq.z3,jaq.v3,jaq.t4,jaq.a4,jaq.z4,jaq.v4,jaq.t9,jaq.a9,jaq.z9,jaq.v9,jaq.t20,jaq.a20,jaq.z20,jaq.v20,jaq.t37,jaq.a37,jaq.z37,jaq.v37,jaq.t70,jaq.a70,jaq.z70,jaq.v70,jaq.t72,jaq.a72,jaq.z72,jaq.v72,jaq.t75,jaq.a75,jaq.z75,jaq.v75,jaq.t164,jaq.a164,jaq.z164,jaq.v164⟩
theorem jmm:Go.Proofs.Lays.n169 Tryz.prog jdH:=⟨jaq.mixed,jaq.f169,jaq.t0,jaq.a0,jaq.z0,jaq.v0,jaq.t3,jaq.a3,jaq.z3,jaq.v3,jaq.t9,jaq.a9,jaq.z9,jaq.v9,jaq.t37,jaq.a37,jaq.z37,jaq.v37,jaq.t70,jaq.a70,jaq.z70,jaq.v70,jaq.t72,jaq.a72,jaq.z72,jaq.v72,jaq.t127,jaq.a127,jaq.z127,jaq.v127⟩
theorem jj9 (B b:Nat) (bs:List Value) (s:ByteArray) (w:World) (h:Lib.IsBuilder 130 5 B b bs w) (hlen:bs.length+s.size≤140737488355328) (hBw:B≤w.heap.size) :
    Calls Tryz.prog 85 #[.pointer (some ⟨b,0,none⟩),.string s] w fun e w'=>e=.returned (.tuple #[.int .i64 s.size,.nilIface])∧(Lib.BuilderAt 130 5 B b (.pointer (some ⟨b,0,none⟩)) (bs++Lib.strCells s) w'∧Below B w w') :=
     Any.Builder_WriteString jml jb6 B b bs s w h hlen hBw
theorem jiT (B b:Nat) (l:List UInt8) (w:World) (h:Lib.IsBuilder 130 5 B b (Lib.byteCells l) w) (hBw:B≤w.heap.size) :
    Calls Tryz.prog 86 #[.pointer (some ⟨b,0,none⟩)] w fun e w'=>e=.returned (.string ⟨l.toArray⟩)∧Below B w w' :=
     Any.Builder_String_any jmm jb6 B b l w h hBw
theorem jia {B:Nat} {w w':World} (h:Below B w w'):Abv B w w':=⟨h.os,h.tape,h.output,h.size,fun i h1 _=>h.block i h1⟩
def jcA (l:List Int):List UInt8:=l.flatMap fun x=>(Wr.sof (Wr.vb (x % 18446744073709551616).toNat)).data.toList
theorem jjy (u:Nat):(Wr.sof (Wr.vb u)).size≤11:=by rw [Wr.sof_size];exact (Wr.vbF_len 10 u).2
theorem jd7:∀ l:List Int,(jcA l).length≤11*l.length
 | []=>by simp [jcA]
 | x::l=>by
  have h1:=jd7 l;have h2:=jjy (x % 18446744073709551616).toNat;unfold jcA at h1 ⊢;rw [List.flatMap_cons,List.length_append,List.length_cons,Array.length_toList];have h3:(Wr.sof (Wr.vb (x % 18446744073709551616).toNat)).data.size=(Wr.sof (Wr.vb (x % 18446744073709551616).toNat)).size:=rfl;omega
def jbS (num:Int) (l:List Int):Fld:=if l.length=1 then jfy num (l.headD 0) else ja0 num ⟨(jcA l).toArray⟩
theorem jgU (num:Int) (l:List Int):(jbS num l).b.size≤11*l.length:=by
 unfold jbS
 split
 ·show 0≤_;omega
 ·have:=jd7 l;show (jcA l).toArray.size≤_;simpa using this
theorem jib (w:World) (B:Nat) (hB:B≤w.heap.size):Lib.IsBuilder 130 5 B w.heap.size (Lib.byteCells []) (w.alloc (.cells #[.pointer none,.slice none 0 0] 130)) :=
 .inl ⟨hB,.slice none 0 0,heap_alloc_new w _,World.ownsRow_nil _ _ _ _,by simp [Value.ownBlock]⟩
theorem jcl (num:Int) (v:Value) (l:List Int) (w:World) (hv:jaj w v l) (hl:l.length≤100000000) :
    Calls Tryz.prog 144 #[.int .i64 num,v] w fun e w'=>e=.returned (jcH (jbS num l))∧w.grownBy w' none:=by
     have HV:=jac hv;obtain ⟨ao,cap,rfl,c1,c2,c3,c4,c5,c6⟩:=hv;obtain ⟨bR,hR⟩ : ∃ b,b=w.heap.size:=⟨_,rfl⟩
     have C5:Hid (∀ wx,w.grownBy wx none→0<l.length→∃ b off,ao=some ⟨b,off,none⟩∧∀ t,t<l.length→wx.cell? ⟨b,off+t,none⟩=some (.int .i64 (l.getD t 0))):=fun wx hx hp=>by
      obtain ⟨ao',cap',e,-,-,-,-,h5,-⟩:=HV.out.more hx
      cases e
      exact h5 hp
     clear c4 c5 HV
     by_cases h1:l.length=1
     ·obtain ⟨x,rfl⟩:=List.length_eq_one_iff.1 h1;have E:Hid (jbS num [x]=jfy num x):=rfl;rw [E.out];have g1:=jab w (.cells #[.int .i64 0,.int .i64 0,.int .u64 0,.string ⟨#[]⟩] 49);obtain ⟨b,off,rfl,hc⟩:=C5.out _ g1 (by simp);have a0:=hc 0 (by simp);simp only [Nat.add_zero,List.getD_cons_zero,List.length_cons,List.length_nil,Nat.zero_add] at a0 ⊢;have hb:=heap_alloc_new w (.cells #[.int .i64 0,.int .i64 0,.int .u64 0,.string ⟨#[]⟩] 49);rw [← hR] at hb;clear C5 hc h1 c1 c3 c6;go_enter Tryz.func144,Tryz.ntmps144;go_wp2_with fail;refine (jd6 num x _).mono ?_;rintro e w2 ⟨rfl,g2⟩;unfold jcH jfy;simp only;have B2:=(g2.block bR (Array.getElem?_eq_some_iff.1 hb).1 (by simp)).trans hb;have X:=jac (jhv (cs:=#[.int .i64 num,.int .i64 0,.int .u64 (x % 18446744073709551616),.string ⟨#[]⟩]) B2);have G:=jac (jaf (row:=none) (jaa g1 g2) X.out.2 (fun g e=>by cases e;exact .inr (Nat.le_of_eq hR.symm)));rw [← hR];clear a0 g1 g2 hb hR;go_wp2_with (refine wpList_store_row rfl 49 (.tmp 4) (.tmp 15) rfl bR #[.int .i64 num,.int .i64 0,.int .u64 (x % 18446744073709551616),.string ⟨#[]⟩] rfl rfl 49 _ B2 jcJ rfl (by simp [Value.oneCell']) ?_);refine bodyPost_ret (jck rfl _ _ bR rfl X.out.1) rfl ?_;exact ⟨rfl,G.out⟩
     ·have E:Hid (jbS num l=ja0 num ⟨(jcA l).toArray⟩):=by show _=_;unfold jbS;rw [if_neg h1]
      have n1:((l.length:Int)==1)=false:=beq_eq_false_iff_ne.2 (by omega);rw [E.out];have g1:=jab w (.cells #[.int .i64 0,.int .i64 0,.int .u64 0,.string ⟨#[]⟩] 49);have hb:=heap_alloc_new w (.cells #[.int .i64 0,.int .i64 0,.int .u64 0,.string ⟨#[]⟩] 49);obtain ⟨w1,hw1⟩ : ∃ w1,w1=w.alloc (.cells #[.int .i64 0,.int .i64 0,.int .u64 0,.string ⟨#[]⟩] 49):=⟨_,rfl⟩
      rw [← hw1,← hR] at hb;rw [← hw1] at g1;have s1:w1.heap.size=w.heap.size+1:=by rw [hw1,jar]
      have hz:=jib w1 (bR+1) (by omega);have g2:=jab w1 (.cells #[.pointer none,.slice none 0 0] 130);obtain ⟨w2,hw2⟩ : ∃ w2,w2=w1.alloc (.cells #[.pointer none,.slice none 0 0] 130):=⟨_,rfl⟩
      obtain ⟨bB,hB⟩ : ∃ b,b=w.heap.size+1:=⟨_,rfl⟩
      rw [← hw2,s1,← hB] at hz;rw [← hw2] at g2;have R2:w2.heap[bR]?=some (.cells #[.int .i64 0,.int .i64 0,.int .u64 0,.string ⟨#[]⟩] 49 (0,0)):=(g2.block bR (by omega) (by simp)).trans hb;have G2:=jaa g1 g2;have S2:Hid (bR+1≤w2.heap.size):=by have:=g2.size;show _≤_;omega
      have RI:Hid (bR=w.heap.size):=hR;have C6:=jac c6;obtain ⟨n,hn⟩ : ∃ n,n=l.length:=⟨_,rfl⟩
      have HN:=jac hn;rw [← hn] at c1 c3 hl n1 ⊢;clear h1 g1 hb s1 g2 hn c6;go_enter Tryz.func144,Tryz.ntmps144;go_wp2_with fail;rw [← hw1,← hw2,← hB,← hR];clear hw1 hw2 hR hB;go_loopw [18] (fun iv wr=>∃ k:Nat,k≤n∧iv=.int .i64 k∧Lib.IsBuilder 130 5 (bR+1) bB (Lib.byteCells (jcA (l.take k))) wr∧wr.heap[bR]?=some (.cells #[.int .i64 0,.int .i64 0,.int .u64 0,.string ⟨#[]⟩] 49 (0,0))∧w.grownBy wr none∧bR+1≤wr.heap.size) (fun iv _=>n - (intOf iv).toNat)
      case atStart=>exact ⟨0,Nat.zero_le _,rfl,hz,R2,G2,S2.out⟩
      case round =>
       obtain ⟨k,hk,rfl,hbd,hrr,hg,hs⟩:=hrel;rename_i wr;have HBD:=jac hbd;have HR:=jac hrr;have HG:=jac hg;have HS:=jac hs;clear hbd hrr hz R2 G2
       by_cases hlt:k<n
       ·obtain ⟨b,off,rfl,hc⟩:=C5.out wr hg (by have:=HN.out;omega);have a0:wr.cell? ⟨b,off+k,none⟩=some (.int .i64 (l.getD k 0)):=hc k (by have:=HN.out;omega)
        have TK:Hid (jcA (l.take (k+1))=jcA (l.take k)++(Wr.sof (Wr.vb (l.getD k 0 % 18446744073709551616).toNat)).data.toList):=by
         show _=_;have hk2:k<l.length:=by have:=HN.out;omega
         rw [List.take_succ_eq_append_getElem hk2];unfold jcA;rw [List.flatMap_append,List.getD,List.getElem?_eq_getElem hk2];simp
        obtain ⟨x,hx⟩ : ∃ x,x=l.getD k 0:=⟨_,rfl⟩
        rw [← hx] at a0 TK;have VX:=jac (fun wx=>Wr.varintS_any (x % 18446744073709551616).toNat wx (by omega));rw [Int.toNat_of_nonneg (by omega)] at VX;have VS:=jac (jjy (x % 18446744073709551616).toNat);obtain ⟨T,hT⟩ : ∃ T,T=Wr.sof (Wr.vb (x % 18446744073709551616).toNat):=⟨_,rfl⟩
        rw [← hT] at VX VS TK;have PL:=jac (jd7 (l.take k));clear hg hs hc hx hT;go_wp2_with fail;refine (VX.out _).mono ?_;rintro e w4 ⟨rfl,g4⟩;have s4:=g4.size
        have hbd4:Lib.IsBuilder 130 5 (bR+1) bB (Lib.byteCells (jcA (l.take k))) w4:=by
         have keep:∀ p,Lib.BuilderAt 130 5 (bR+1) bB p (Lib.byteCells (jcA (l.take k))) wr→Lib.BuilderAt 130 5 (bR+1) bB p (Lib.byteCells (jcA (l.take k))) w4:=fun p h=>by
          obtain ⟨h1,v,h2,h3,h4⟩:=h;exact ⟨h1,v,(g4.block bB (Array.getElem?_eq_some_iff.1 h2).1 (by simp)).trans h2,World.ownsRow.kept h3 g4 (by cases v.ownBlock <;> simp),h4⟩
         rcases HBD.out with h | h
         ·exact .inl (keep _ h)
         ·exact .inr (keep _ h)
        have WS:=jac (jj9 (bR+1) bB _ T w4 hbd4 (by rw [Lib.byteCells_length];have h5:=PL.out;have:=VS.out;rw [List.length_take] at h5;have h6:min k l.length≤k:=Nat.min_le_left _ _;omega) (by have:=HS.out;omega));have HR4:=jac ((g4.block bR (by have:=HS.out;omega) (by simp)).trans HR.out);have HG4:=jac (jaa HG.out g4);have HS4:Hid (bR+1≤w4.heap.size):=by have:=HS.out;show _≤_;omega
        clear g4 s4 hbd4;go_wp2_with fail;refine WS.out.mono ?_;rintro e w5 ⟨rfl,hb5,hbl⟩
        have RES:Hid (Lib.IsBuilder 130 5 (bR+1) bB (Lib.byteCells (jcA (l.take (k+1)))) w5∧w5.heap[bR]?=some (.cells #[.int .i64 0,.int .i64 0,.int .u64 0,.string ⟨#[]⟩] 49 (0,0))∧w.grownBy w5 none∧bR+1≤w5.heap.size):=by
         refine ⟨.inr ?_,(hbl.block bR (by omega)).trans HR4.out,Abv.grown HG4.out (by have:=RI.out;omega) (jia hbl),Nat.le_trans HS4.out hbl.size⟩;rw [TK.out];unfold Lib.byteCells;rw [List.map_append];exact hb5
        clear hb5 hbl;go_wp2_with fail;go_roundw
        case rel=>exact ⟨k+1,by omega,by go_num,RES.out.1,RES.out.2.1,RES.out.2.2.1,RES.out.2.2.2⟩
        case measure=>simp [intOf];omega
       ·obtain rfl:k=n:=by omega
        rw [HN.out,List.take_length] at HBD;have BS:=jac (jiT (bR+1) bB (jcA l) wr HBD.out HS.out);have PL:=jac (jd7 l);clear hg hs;go_wp2_with fail;refine BS.out.mono ?_;rintro e w4 ⟨rfl,hbl⟩;have HR4:=jac ((hbl.block bR (by omega)).trans HR.out);have HG4:=jac (Abv.grown HG.out (by have:=RI.out;omega) (jia hbl));obtain ⟨s,hs⟩ : ∃ s:ByteArray,s=⟨(jcA l).toArray⟩:=⟨_,rfl⟩
        rw [← hs];have HE:=jac hs;clear hbl hs;go_wp2_with fail;refine (jdk num s w4).mono ?_;rintro e w5 ⟨rfl,g5⟩;unfold jcH ja0;simp only;have B5:=(g5.block bR (Array.getElem?_eq_some_iff.1 HR4.out).1 (by simp)).trans HR4.out;have X:=jac (jhv (cs:=#[.int .i64 num,.int .i64 2,.int .u64 0,.string s]) B5);have G:=jac (jaf (row:=none) (jaa HG4.out g5) X.out.2 (fun g e=>by cases e;exact .inr (Nat.le_of_eq RI.out.symm)));clear g5;go_wp2_with (refine wpList_store_row rfl 49 (.tmp 4) (.tmp 29) rfl bR #[.int .i64 num,.int .i64 2,.int .u64 0,.string s] rfl rfl 49 _ B5 jcJ rfl (by simp [Value.oneCell']) ?_);refine bodyPost_ret (jck rfl _ _ bR rfl X.out.1) rfl ?_;exact ⟨by rw [← HE.out];rfl,G.out⟩
end Go.Proofs.YtbgbpfbjeleooaaGreat.Pd
namespace Go.Proofs.YtbgbpfbjeleooaaGreat.Pd
open Go.RowKit
open Wr (Fld)
def jic (w:Nat) (x:Int):List Nat:=(List.range w).map fun k=>(x / 2 ^ (8*k) % 256).toNat
def jiu (w:Nat) (l:List Int):List Nat:=l.flatMap (jic w)
def jiU (t:Int) (l:List Int):ByteArray:=Wr.sof (jiu (ja4 t) l)
theorem je9 (w:Nat) (x:Int):(jic w x).length=w:=by simp [jic]
theorem jjz (w:Nat) (l:List Int):(jiu w l).length=l.length*w:=by
 unfold jiu
 induction l with
 | nil=>simp
 | cons x l ih=>rw [List.flatMap_cons,List.length_append,ih,je9,List.length_cons,Nat.add_mul];omega
theorem jla (w:Nat) (l:List Int) (k:Nat) (h:k<l.length):jiu w (l.take (k+1))=jiu w (l.take k)++jic w (l.getD k 0):=by
 rw [List.take_succ_eq_append_getElem h,List.getD,List.getElem?_eq_getElem h];unfold jiu;rw [List.flatMap_append];simp
theorem jlb (w:Nat) (x:Int) (j:Nat) (h:j<w):(jic w x).take (j+1)=(jic w x).take j++[(x / 2 ^ (8*j) % 256).toNat]:=by
 have hl:j<(jic w x).length:=by rw [je9];exact h
 rw [List.take_succ_eq_append_getElem hl]
 congr 1
 simp [jic]
theorem jka (n:Nat) (hn:n≤1000000000):∃ M:Array Value,(∀ W:World,(Instr.makeSlice 84 (.int .i64 0) (.int .i64 (n:Int))).run Tryz.prog W=.ok (.slice (some ⟨W.heap.size,0,none⟩) 0 n) (W.alloc (.cells M 5))) ∧
    ∀ (W:World) (base:Nat),base≤W.heap.size→Wr.OwnsB (W.alloc (.cells M 5)) base (.slice (some ⟨W.heap.size,0,none⟩) 0 n) []:=by
     obtain ⟨j0,hj,jz0,jz1,jz2⟩:=info_parts Wr.infoByte;obtain ⟨M1,hM1⟩ : ∃ M,M=madeCells (Value.int .u8 0).cells (((n:Nat):Int).toNat*j0.size):=⟨_,rfl⟩
     have E1:M1.toList=(madeCells (Value.int .u8 0).cells (n*1)).toList:=by rw [hM1,jz1];simp
     have E2:M1.size=n:=by rw [← Array.length_toList,E1,show (Value.int .u8 0).cells=#[Value.int .u8 0] from rfl,toList_madeCells_one];simp
     refine ⟨M1,fun W=>?_,fun W base hb=>?_⟩
     ·have h:=Go.run_make (P:=Tryz.prog) W 84 5 j0 (.int .u8 0) Tryz.underlying84 hj jz0 .i64 .i64 0 (n:Int) (by omega) (by omega) (by rw [jz2];omega) (by omega);rw [← hM1] at h;simpa using h
     ·exact ⟨by simp,Or.inr ⟨W.heap.size,n,M1,rfl,hb,heap_alloc_new W _,Nat.zero_le _,by simp only [maxLen];omega,by rw [E2,Nat.mul_one],by simp⟩⟩
theorem jnB (ty:Int) (d:Sl) (t:Value) (l:List Int) (w:World) (hv:jaj w t l) (hl:l.length≤10000000) :
    Calls Tryz.prog 146 #[.agg #[.int .i64 ty,.slice d.a d.n d.c,t]] w fun e w'=>e=.returned (.string (jiU ty l))∧w.grownBy w' none:=by
     obtain ⟨i0,hi,hz0,hz1,hz2⟩:=info_parts Wr.infoByte;obtain ⟨da,dn,dc⟩:=d;have HV:=jac hv;obtain ⟨ao,cap,rfl,c1,c2,c3,c4,c5,c6⟩:=hv;simp only
     have C5:Hid (∀ wx,w.grownBy wx none→0<l.length→∃ b off,ao=some ⟨b,off,none⟩∧∀ t,t<l.length→wx.cell? ⟨b,off+t,none⟩=some (.int .i64 (l.getD t 0))):=fun wx hx hp=>by
      obtain ⟨ao',cap',e,-,-,-,-,h5,-⟩:=HV.out.more hx
      cases e
      exact h5 hp
     obtain ⟨W,hW⟩ : ∃ W,W=ja4 ty:=⟨_,rfl⟩
     have W8:Hid (W≤8):=by show W≤8;rw [hW];rcases jfu ty with h | h | h <;> omega
     have WD:=jac (fun wx=>jhT ty wx);rw [← hW] at WD;have RP:Hid (jiU ty l=Wr.sof (jiu W l)):=by show _=_;rw [hW];rfl
     rw [RP.out];obtain ⟨w1,hw1⟩ : ∃ w1,w1=w.alloc (.cells #[.int .i64 ty,.slice da dn dc,.slice ao l.length cap] 44):=⟨_,rfl⟩
     have g1:w.grownBy w1 none:=by rw [hw1];exact jab _ _
     obtain ⟨⟨b0,b1,b2⟩,-⟩:=jbn (heap_alloc_new w (.cells #[.int .i64 ty,.slice da dn dc,.slice ao l.length cap] 44));obtain ⟨N,hN⟩ : ∃ N,N=l.length*W:=⟨_,rfl⟩
     have hNb:N≤1000000000:=by rw [hN];exact Nat.le_trans (Nat.mul_le_mul hl W8.out) (by decide)
     obtain ⟨M,mk0,mk1⟩:=jka N hNb;have MK:=jac (mk1 w1 w.heap.size g1.size);have GM:=jac (jaa g1 (jab w1 (.cells M 5)))
     have ws : IntKind.i64.wrap ((l.length : Int) * (W : Int)) = (N : Int) := by rw [hN, IntKind.wrap_i64, Int.natCast_mul]; have h6 : (l.length : Int) * (W : Int) = ((l.length * W : Nat) : Int) := by rw [Int.natCast_mul]
                                                                                 rw [h6,← hN];omega
     have HN:=jac hN;obtain ⟨n,hn⟩ : ∃ n,n=l.length:=⟨_,rfl⟩
     have Hn:=jac hn;rw [← hn] at c1 c3 hl ws b2 hw1 ⊢;clear mk1 c4 c5 hn HV hW RP hN;go_enter Tryz.func146,Tryz.ntmps146;go_wp2_with fail;rw [← hw1];have B1:w1.cell? ⟨w.heap.size,2,none⟩=some (.slice ao n cap):=by rw [hw1];exact b2
     clear b0 b1 b2 hw1;refine (WD.out w1).mono ?_;rintro e w' ⟨rfl,rfl⟩;have B2:(w1.alloc (.cells M 5)).cell? ⟨w.heap.size,2,none⟩=some (.slice ao n cap):=by rw [World.cell?_alloc_some _ _ _ (by rw [B1];rfl)];exact B1
     go_wp2;go_loopg [4,20] n (fun gh b iv wr=>∃ (k:Nat) (v:Value),gh=n - k∧k≤n∧b=v∧iv=.int .i64 k∧Wr.OwnsB wr w.heap.size v (jiu W (l.take k))∧w.grownBy wr none)
     case atStart=>exact ⟨0,_,rfl,Nat.zero_le _,rfl,rfl,by simpa [jiu] using MK.out,GM.out⟩
     case round =>
      obtain ⟨k,v,rfl,hk,rfl,rfl,hown,hg⟩:=hrel;have HO:=jac hown;have HG:=jac hg;clear B1 B2;obtain ⟨va,vc,rfl⟩:=Wr.OwnsL.form hown
      by_cases hlt:k<n
      ·obtain ⟨xb,xo,rfl,hc⟩:=C5.out wr hg (by have:=Hn.out;omega);have a0:wr.cell? ⟨xb,xo+k,none⟩=some (.int .i64 (l.getD k 0)):=hc k (by have:=Hn.out;omega);have SN:=jac (jla W l k (by have:=Hn.out;omega));have LN:=jac (jjz W (l.take k));obtain ⟨x,hx⟩ : ∃ x,x=l.getD k 0:=⟨_,rfl⟩
       rw [← hx] at a0 SN;obtain ⟨P,hP⟩ : ∃ P,P=jiu W (l.take k):=⟨_,rfl⟩
       rw [← hP] at HO SN LN ⊢
       have KB:Hid (P.length≤800000000):=by
        show _≤_;rw [LN.out,List.length_take];have:=Hn.out;exact Nat.le_trans (Nat.mul_le_mul (Nat.min_le_right _ _) W8.out) (by omega)
       clear hown hg hc hx hP;go_wp2;go_loopg [4,25] W (fun gh b jv wi=>∃ (j:Nat) (u:Value),gh=W - j∧j≤W∧b=u∧jv=.int .i64 j∧Wr.OwnsB wi w.heap.size u (P++(jic W x).take j)∧w.grownBy wi none)
       case atStart=>exact ⟨0,_,rfl,Nat.zero_le _,rfl,rfl,by simpa using HO.out,HG.out⟩
       case round =>
        obtain ⟨j,u,rfl,hj,rfl,rfl,hown2,hg2⟩:=hrel;have HO2:=jac hown2;have HG2:=jac hg2;obtain ⟨ua,uc,rfl⟩:=Wr.OwnsL.form hown2;obtain ⟨Y,hY⟩ : ∃ Y,Y=P++(jic W x).take j:=⟨_,rfl⟩
        have YL:Hid (Y.length≤800000008):=by show _≤_;rw [hY,List.length_append,List.length_take];have:=KB.out;have:=W8.out;omega
        have HY:=jac hY;rw [← hY] at HO2 ⊢;clear hown2 hg2 hY
        by_cases hlt2:j<W
        ·have NX:=jac (jlb W x j hlt2);have w8:j≤7:=by have:=W8.out;omega
         have sz:w.heap.size≤wr.heap.size:=HG2.out.size;have hy:Y.length+1≤800000009:=by have:=YL.out;omega
         have hz:((x / 2 ^ (8*j) % 256).toNat:Int)=x / 2 ^ (8*j) % 256:=Int.toNat_of_nonneg (by omega);go_wp2_with (at_builtin;refine Wr.wpList_push rfl (.tmp 28) (.tmp 34) 84 5 1 1 _ i0 Wr.bcells rfl Tryz.underlying84 hi hz0 hz1 hz2 rfl (by decide) w.heap.size _ Y rfl (by exact Wr.OwnsL.more HO2.out (jab wr _)) wr.heap.size 1 (x / 2 ^ (8*j) % 256).toNat _ rfl (by exact heap_alloc_new wr _) (by simp [Wr.bcells,hz]) rfl (Wr.bcells_one _) (by omega) (by simp only [maxLen];omega) (by simp;omega) ?_;intro v' w5 hown5 hg5)
         have RES:Hid (Wr.OwnsB w5 w.heap.size v' (P++(jic W x).take (j+1))∧w.grownBy w5 none):=by
          refine ⟨?_,jah (jaa HG2.out (jab wr _)) hg5 (fun g e=>(World.ownsRow.lt HO2.out g e).1)⟩;rw [NX.out,← List.append_assoc,← HY.out];exact hown5
         clear hown5 hg5;go_roundg (W - (j+1))
         case measure=>omega
         case rel=>exact ⟨j+1,v',rfl,by omega,rfl,by go_num,RES.out.1,RES.out.2⟩
        ·obtain rfl:j=W:=by omega
         have RES:Hid (Wr.OwnsB wr w.heap.size (.slice ua Y.length uc) (jiu j (l.take (k+1)))):=by
          show Wr.OwnsB _ _ _ _;rw [SN.out];have h7:(jic j x).take j=jic j x:=List.take_of_length_le (by rw [je9];exact Nat.le_refl _);have h8:=HY.out;rw [h7] at h8;rw [← h8];exact HO2.out
         go_wp2;go_roundg (n - (k+1))
         case measure=>omega
         case rel=>exact ⟨k+1,_,rfl,by omega,rfl,by go_num,RES.out,HG2.out⟩
      ·obtain rfl:k=n:=by omega
       have hcv:=Wr.conv_own HO.out;have E:Hid (jiu W l=jiu W (l.take k)):=by show _=_;rw [Hn.out,List.take_length]
       clear hown hg;go_wp2;go_ret;exact ⟨by rw [E.out];rfl,HG.out⟩
end Go.Proofs.YtbgbpfbjeleooaaGreat.Pd
