/- A part. -/
import Derived.Test.YteigfipgmghgmaaGreatDoorVartBD
import Derived.RangeFuncBox
import Derived.Maps.AppendAt
set_option maxHeartbeats 16000000
set_option maxRecDepth 100000
namespace Go.Proofs.YteigfipgmghgmaaGreatDoor.Vw
open Go.RowKit Go.Shelf
structure RInv (w:World) (Bs g N D1:Nat) (xv:Value) (data:List Int) (ys:List Int) (W:World):Prop where
 box:Boxed W Bs 30 (.slice (some ⟨g,0,none⟩) ys.length N)
 row:W.ownsRow w.heap.size 2 1 (.slice (some ⟨g,0,none⟩) ys.length N) ys.length (ys.map (Value.int .i64))
 dat:W.cell? ⟨D1,0,none⟩=some xv
 ints:IsInts W xv data
 gr:w.grownBy W none
theorem jkD {W:World} {a:Addr} {v:Value} (h:W.cell? a=some v) {row:Option Nat} (hr:∀ r,row=some r→∃ o:Obj,W.heap[r]?=some o∧o.isCells=false):some a.block≠row:=by
 intro e;obtain ⟨o,ho,hc⟩:=hr a.block e.symm;obtain ⟨o',ho',hc'⟩:=cells_of_cell h;rw [ho] at ho'
 cases ho'
 rw [hc] at hc'
 cases hc'
theorem jc2 {W:World} {base g n cap:Nat} {e:TypeId} {xs:List Value} (h:W.ownsRow base e 1 (.slice (some ⟨g,0,none⟩) n cap) n xs):base≤g∧∃ o:Obj,W.heap[g]?=some o∧o.isCells=true:=by
 rcases h.2 with ⟨h',_⟩ | ⟨g',cap',cur,h',hb,hg,_⟩
 ·simp at h'
 ·simp only [Value.slice.injEq,Option.some.injEq,Addr.mk.injEq,and_true,true_and] at h';obtain ⟨rfl,rfl⟩:=h';exact ⟨hb,_,hg,rfl⟩
theorem jpj {W W':World} {v:Value} {zs:List Int} (h:IsInts W v zs) {row:Option Nat} (hg:W.grownBy W' row) (hr:∀ r,row=some r→∃ o:Obj,W.heap[r]?=some o∧o.isCells=false):IsInts W' v zs:=by
 obtain ⟨ao,cap,rfl,h1,h2,h3,h4,h5,h6⟩:=h;refine ⟨ao,cap,rfl,h1,h2,h3,h4,fun hl=>?_,h6⟩;obtain ⟨b,off,rfl,hc⟩:=h5 hl;exact ⟨b,off,rfl,fun t ht=>cell_kept (hc t ht) hg hr⟩
theorem RInv.turn {w W W' : World} {Bs g N D1 B0 : Nat} {xv : Value} {data ys : List Int} (h : RInv w Bs g N D1 xv data ys W) {row : Option Nat} (hg : W.grownBy W' row)
    (hr:∀ r,row=some r→B0≤r∧∃ o:Obj,W.heap[r]?=some o∧o.isCells=false) (hB:w.heap.size≤B0):RInv w Bs g N D1 xv data ys W':=by
     have hr':∀ r,row=some r→∃ o:Obj,W.heap[r]?=some o∧o.isCells=false:=fun r e=>(hr r e).2;refine ⟨h.box.kept hg (jkD (a:=⟨Bs,0,none⟩) h.box.cell hr'),h.row.kept hg (Or.inr ?_),cell_kept h.dat hg hr',jpj h.ints hg hr',jan h.gr hg (fun r e=>by have:=(hr r e).1;omega)⟩;intro e;obtain ⟨_,o,ho,hc⟩:=jc2 h.row;obtain ⟨o',ho',hc'⟩:=hr' g e.symm;rw [ho] at ho'
     cases ho'
     rw [hc] at hc'
     cases hc'
theorem jif {W:World} {base g n cap:Nat} {e:TypeId} {xs:List Value} (h:W.ownsRow base e 1 (.slice (some ⟨g,0,none⟩) n cap) n xs) (hn:n<cap) (u:Value) :
    (∃ c,W.cell? ⟨g,n,none⟩=some c)∧W.frozen? ⟨g,n,none⟩=false∧(W.setCell ⟨g,n,none⟩ u).ownsRow base e 1 (.slice (some ⟨g,0,none⟩) (n+1) cap) (n+1) (xs++[u])∧W.grownBy (W.setCell ⟨g,n,none⟩ u) (some g):=by
     have hfr:=h.frozenAt n;have hst:=(h.stored n u).2
     rcases h.2 with ⟨h',_⟩ | ⟨g',cap',cur,h',hb,hg,hnc,hcm,hcs,htake⟩
     ·simp at h'
     ·simp only [Value.slice.injEq,Option.some.injEq,Addr.mk.injEq,and_true,true_and] at h';obtain ⟨rfl,rfl⟩:=h';rw [Nat.mul_one] at hcs htake;refine ⟨⟨cur[n]'(by omega),by rw [cell_of_row W g n cur e (0,0) hg,Array.getElem?_eq_getElem (by omega)]⟩,hfr,⟨?_,.inr ⟨g,cap,cur.setIfInBounds n u,rfl,hb,heap_setCell_same W g n cur e u hg,hn,hcm,by simpa using hcs,?_⟩⟩,hst⟩
      ·have:=h.1;simp at this;simp [this]
      ·rw [Nat.mul_one,Array.toList_setIfInBounds,List.take_add_one,List.take_set_of_le (Nat.le_refl _),htake];simp [hcs,hn]
theorem RInv.push {w W w1 : World} {Bs g N D1 : Nat} {xv : Value} {data ys : List Int} {tmp : Obj} {y : Int} (h : RInv w Bs g N D1 xv data ys W) (hne : Bs ≠ g) (hD : D1 ≠ Bs ∧ D1 ≠ g) (hBs : w.heap.size ≤ Bs) (hx : jrw Bs g xv data)
    (hown:w1.ownsRow w.heap.size 2 1 (.slice (some ⟨g,0,none⟩) (ys.length+1) N) (ys.length+1) ((ys++[y]).map (Value.int .i64))) (hg:(W.alloc tmp).grownBy w1 (some g)) :
    Boxed w1 Bs 30 (.slice (some ⟨g,0,none⟩) ys.length N) ∧
    RInv w Bs g N D1 xv data (ys++[y]) (w1.setCell ⟨Bs,0,none⟩ (.slice (some ⟨g,0,none⟩) (ys.length+1) N)) ∧
    KeepsOthers W (w1.setCell ⟨Bs,0,none⟩ (.slice (some ⟨g,0,none⟩) (ys.length+1) N))∧Kpv Bs g W (w1.setCell ⟨Bs,0,none⟩ (.slice (some ⟨g,0,none⟩) (ys.length+1) N)):=by
     have hgb:=(jc2 h.row).1;have b1:Boxed w1 Bs 30 (.slice (some ⟨g,0,none⟩) ys.length N):=(h.box.alloc tmp).kept hg (fun e=>hne (by injection e));have g1:w.grownBy (W.alloc tmp) none:=jaa h.gr (jab _ _);have g2:w.grownBy w1 none:=jan g1 hg (fun r e=>by cases e;exact hgb);have hset:=grownBy_setCell' w1 Bs (.slice (some ⟨g,0,none⟩) (ys.length+1) N);have g3:=jan g2 hset (fun r e=>by cases e;exact hBs)
     have hblk:∀ k,k<W.heap.size→k≠Bs→k≠g→(w1.setCell ⟨Bs,0,none⟩ (.slice (some ⟨g,0,none⟩) (ys.length+1) N)).heap[k]?=W.heap[k]?:=by
      intro k hk h1 h2;rw [Below.heap_setCell _ _ _ _ h1,hg.block k (by simp;omega) (fun e=>h2 (by injection e)),Below.heap_alloc W tmp k hk]
     have hsz:W.heap.size≤(w1.setCell ⟨Bs,0,none⟩ (.slice (some ⟨g,0,none⟩) (ys.length+1) N)).heap.size:=by
      have h1:=hg.size;have h2:=hset.size;simp only [World.size_alloc] at h1;omega
     have hk:Kpv Bs g W (w1.setCell ⟨Bs,0,none⟩ (.slice (some ⟨g,0,none⟩) (ys.length+1) N)):=⟨hsz,fun k o ho _ h1 h2=>(hblk k (Array.getElem?_eq_some_iff.1 ho).1 h1 h2).trans ho⟩
     refine ⟨b1,⟨?_,?_,hk.cell h.dat hD.1 hD.2,h.ints.kpv hk hx,g3⟩,⟨hsz,fun k o ho hc=>?_⟩,hk⟩
     ·have:=b1.set (.slice (some ⟨g,0,none⟩) (ys.length+1) N);simpa using this
     ·have:=hown.kept hset (Or.inr (fun e=>hne (by simp [Value.ownBlock] at e;exact e.symm)));simpa using this
     ·refine (hblk k (Array.getElem?_eq_some_iff.1 ho).1 (fun e=>?_) (fun e=>?_)).trans ho
      ·subst e;have h1:W.heap[k]?=some _:=h.box;rw [ho] at h1
       cases h1
       cases hc
      ·subst e;obtain ⟨_,o',ho',hc'⟩:=jc2 h.row;rw [ho] at ho'
       cases ho'
       rw [hc] at hc'
       cases hc'
end Go.Proofs.YteigfipgmghgmaaGreatDoor.Vw
namespace Go.Proofs.YteigfipgmghgmaaGreatDoor.Vw
open Go.RowKit Go.Shelf
attribute [local go_sem] Oper.semAt_some
theorem juT:(Tryz.prog.info? 2).map (fun i=>(i.zero,i.size,i.bytes))=some (some (.int .i64 0),1,8):=by kernel_rfl
def Owns64 (w:World) (base:Nat) (v:Value) (zs:List Int):Prop :=
 w.ownsRow base 2 1 v zs.length (zs.map (Value.int .i64))∧zs.length*8≤140737488351232∧(∀ z∈zs,-9223372036854775808≤z∧z≤9223372036854775807)
theorem owns64_nil (w:World) (base:Nat):Owns64 w base (.slice none 0 0) []:=⟨World.ownsRow_nil _ _ _ _,by simp,fun z hz=>by simp at hz⟩
def shows (off:Int) (ds ss data:List Int):List Int:=(plc ds ss off).map (fun x=>data.getD x.toNat 0)
def rdOk (off:Int) (ds ss data:List Int):Bool:=mayB off ds ss&&decide (off+lst ds ss<data.length)
def rdE (off:Int) (ds ss data:List Int):Int:=if rdOk off ds ss data=true then 0 else 1
def rdL (off:Int) (ds ss data:List Int):List Int:=if rdOk off ds ss data=true then shows off ds ss data else []
theorem jig {off:Int} {ds ss data:List Int} (hm:MayV off ds ss) (hl:off+lst ds ss<data.length) :
    (plc ds ss off).map (fun x=>data.getD (cl data.length x).toNat 0)=(plc ds ss off).map (fun x=>data.getD x.toNat 0):=by
     refine List.map_congr_left fun x hx=>?_;obtain ⟨h1,h2⟩:=plc_mem ds ss off (fun y hy=>(hm.str y hy).1) hm.fine.pos x hx;have:=hm.lo;rw [jpi (by omega) (by omega)]
theorem jtI {data:List Int} (h:∀ z∈data,-9223372036854775808≤z∧z≤9223372036854775807) (i:Nat) : -9223372036854775808≤data.getD i 0∧data.getD i 0≤9223372036854775807:=by
 by_cases hi:i<data.length
 ·exact h _ (by rw [List.getD,List.getElem?_eq_getElem hi];simp)
 ·rw [List.getD,List.getElem?_eq_none (by omega)];simp
theorem jih {off:Int} {ds ss data:List Int} (h:∀ z∈data,-9223372036854775808≤z∧z≤9223372036854775807):∀ z∈shows off ds ss data,-9223372036854775808≤z∧z≤9223372036854775807:=by
 intro z hz;obtain ⟨x,_,rfl⟩:=List.mem_map.1 hz;exact jtI h _
theorem jjn {off:Int} {ds ss data:List Int} {w w':World} (h:rdOk off ds ss data=false) (hg:w.grownBy w' none) :
    ∃ u,Ending.returned (.tuple #[.slice none 0 0,.int .i64 1])=.returned (.tuple #[u,.int .i64 (rdE off ds ss data)])∧Owns64 w' w.heap.size u (rdL off ds ss data)∧w.grownBy w' none :=
     ⟨.slice none 0 0,by simp [rdE,h],by simp only [rdL,h];exact owns64_nil _ _,hg⟩
def jpk (Q:Exit→Act→World→Prop):Exit→Act→World→Prop
 | .normal,a,w=>Q .normal a w
 | .ret,a,w=>Q .ret a w
 | _,_,_=>False
theorem jfb {Q:Exit→Act→World→Prop} : ∀ (e:Exit) (a:Act) (w:World),jpk Q e a w→Q e a w
 | .normal,_,_,h=>h
 | .ret,_,_,h=>h
 | .exit _,_,_,h=>h.elim
 | .goto _,_,_,h=>h.elim
 | .panic _,_,_,h=>h.elim
 | .outgrown,_,_,h=>h.elim
theorem jcL {Q:Exit→Act→World→Prop} {a:Act} {w:World} (h:Q .ret a w):jpk Q .ret a w:=h
theorem jkE {A B l:Nat} {W:World} {o o':Obj} (ho:W.heap[l]?=some o) (hc:o.isCells=false):Kpv A B W (W.putObj l o'):=by
 have hg:=grownBy_putObj' W l o';refine ⟨hg.size,fun k x hk hx _ _=>(hg.block k (Array.getElem?_eq_some_iff.1 hk).1 (fun e=>?_)).trans hk⟩
 injection e with e
 subst e;rw [ho] at hk
 cases hk
 rw [hc] at hx
 cases hx
theorem read_any (off:Int) (ds ss data:List Int) (v xv:Value) (w:World) (h:IsView w v off ds ss) (hx:IsInts w xv data) :
    Calls Tryz.prog 38 #[v,xv] w fun e w'=>∃ u,e=.returned (.tuple #[u,.int .i64 (rdE off ds ss data)])∧Owns64 w' w.heap.size u (rdL off ds ss data)∧w.grownBy w' none:=by
     obtain ⟨i0,hi,hz0,hz1,hz2⟩:=info_parts juT;have hv:=h;obtain ⟨dv,sv,rfl,hd,hs,ho1,ho2⟩:=h;have hx0:=hx;obtain ⟨xo,xcap,rfl,hx1,hx2,hx3,-,-,-⟩:=hx;have g1:=jab w (.cells #[.int .i64 off,dv,sv] 76);have g2:=jaa g1 (jab _ (.cells #[.slice xo data.length xcap] 30));obtain ⟨w2,hw2⟩ : ∃ w2,w2=(w.alloc (.cells #[.int .i64 off,dv,sv] 76)).alloc (.cells #[.slice xo data.length xcap] 30):=⟨_,rfl⟩
     have b0:w2.heap[w.heap.size]?=some (.cells #[.int .i64 off,dv,sv] 76 (0,0)):=by
      rw [hw2,Below.heap_alloc _ _ _ (by simp)];exact heap_alloc_new w _
     have b1:w2.heap[w.heap.size+1]?=some (.cells #[.slice xo data.length xcap] 30 (0,0)):=by
      rw [hw2];have:=heap_alloc_new (w.alloc (.cells #[.int .i64 off,dv,sv] 76)) (.cells #[.slice xo data.length xcap] 30);simpa using this
     have hs2:w.heap.size+2≤w2.heap.size:=by rw [hw2];simp
     rw [← hw2] at g2
     have MB:Hid (∀ wx,w2.grownBy wx none→Calls Tryz.prog 39 #[.agg #[.int .i64 off,dv,sv]] wx fun e w'=>e=.returned (.bool (mayB off ds ss))∧wx.grownBy w' none) :=
      fun wx hg=>jir _ off ds ss wx (hv.more (jaa g2 hg))
     have VC:Hid (∀ wx,w2.grownBy wx none→wx.cell? ⟨w.heap.size,0,none⟩=some (.int .i64 off)∧wx.cell? ⟨w.heap.size,1,none⟩=some dv∧wx.cell? ⟨w.heap.size,2,none⟩=some sv∧wx.cell? ⟨w.heap.size+1,0,none⟩=some (.slice xo data.length xcap)):=by
      intro wx hg;have e0:=(hg.block w.heap.size (Array.getElem?_eq_some_iff.1 b0).1 (by simp)).trans b0;have e1:=(hg.block (w.heap.size+1) (Array.getElem?_eq_some_iff.1 b1).1 (by simp)).trans b1;exact ⟨(cell_of_row _ _ 0 _ _ (0,0) e0).trans rfl,(cell_of_row _ _ 1 _ _ (0,0) e0).trans rfl,(cell_of_row _ _ 2 _ _ (0,0) e0).trans rfl,(cell_of_row _ _ 0 _ _ (0,0) e1).trans rfl⟩
     have HV:=jac hv;have HX:=jac hx0;obtain ⟨c0,c1,c2,cd⟩:=VC.out w2 (jad _);have gd:=jaf (jad w2);clear hv hx0 b0 b1
     by_cases hM:mayB off ds ss=true
     ·rw [hM] at MB;have HMV:=jac (mayB_iff.1 hM)
      have LA:Hid (∀ wx,w2.grownBy wx none→Calls Tryz.prog 65 #[.agg #[.int .i64 off,dv,sv]] wx fun e w'=>e=.returned (.int .i64 (off+lst ds ss))∧wx.grownBy w' none) :=
       fun wx hg=>jrx _ off ds ss wx (HV.out.more (jaa g2 hg)) HMV.out
      have hln:=jeV ds ss HMV.out.fine.pos (fun y hy=>(HMV.out.str y hy).1);obtain ⟨T,hT⟩ : ∃ T,T=lst ds ss:=⟨_,rfl⟩
      rw [← hT] at LA hln;have HT:=jac hT;have hlo:=HMV.out.lo;have hhi:=HMV.out.hi;clear hT
      by_cases hlt:off+T<data.length
      ·have HOK:Hid (rdOk off ds ss data=true):=by simp only [Hid,rdOk,hM,← HT.out];simpa using hlt
       clear hM
       have CN:Hid (∀ wx,w2.grownBy wx none→Calls Tryz.prog 44 #[dv] wx fun e w'=>e=.returned (.tuple #[.int .i64 (jaA ds),.int .i64 0])∧wx=w'):=by
        intro wx hg;have:=jbX dv ds wx (hd.more (jaa g2 hg));rw [HMV.out.fine.cnt,HMV.out.fine.ok] at this;exact this
       have hb2:i0.bytes*(jaA ds).toNat≤281474976710656:=by have:=HMV.out.fine.le;have:=HMV.out.fine.prod_pos;rw [hz2];omega
       have hb3:(jaA ds).toNat≤maxLen:=by have:=HMV.out.fine.le;simp only [maxLen];omega
       have hpp:=HMV.out.fine.prod_pos;have hpn:jaA ds=(((jaA ds).toNat:Nat):Int):=by omega
       have HPN:=jac hpn;clear hpn
       have PL:Hid (∀ wx,Calls Tryz.prog 66 #[.agg #[.int .i64 off,dv,sv]] wx fun e w'=>e=.returned (.func (.func 96) #[] #[.pointer (some ⟨wx.heap.size,0,none⟩)])∧wx.alloc (.cells #[.int .i64 off,dv,sv] 76)=w') :=
        fun wx=>(jcY off dv sv wx).mono (fun e w' h=>⟨h.1,h.2.symm⟩)
       have HLEN:Hid ((plc ds ss off).length=(jaA ds).toNat):=plc_length ds ss off HMV.out.len HMV.out.fine.pos
       have ADD:Hid (∀ (Bs g:Nat) (u:Value) (zs:List Int),IsInts w u zs→w.heap.size≤Bs→w.heap.size≤g→jrw Bs g u zs):=fun Bs g u zs hu h1 h2 hne b hb=>by
        have:=jsv hu hne b hb;omega
       refine (callsIn_wide (n:=5)).1 ?_;refine callsIn_of_wp_marks Tryz.func38 rfl trivial ?_ rfl;simp only [Tryz.ntmps38,List.size_toArray,List.length_cons,List.length_nil,Nat.reduceAdd,Nat.reduceSub,Array.replicate_succ,Array.replicate_zero,List.push_toArray,List.append_toArray,List.nil_append,List.cons_append];refine wpIn_mono (wpIn_wide.2 ?_) jfb;go_wp2;rw [← hw2];have HW2:=jac hw2;clear hw2;go_region_with (first | (go_at_call 39;refine (MB.out _ (by exact gd)).mono ?_;rintro e w4 ⟨rfl,hg4⟩;have g24:=jaa gd hg4;obtain ⟨d0,d1,d2,dd⟩:=VC.out w4 g24) | (go_at_call 65;refine (LA.out _ (by exact g24)).mono ?_;rintro e w5 ⟨rfl,hg5⟩;have g25:=jaa g24 hg5;obtain ⟨e0,e1,e2,ed⟩:=VC.out w5 g25))
       ·skip
        have hz5:w.heap.size≤w5.heap.size:=(jaa g2 g25).size;go_wp2_with (first | (go_at_call 44;refine (CN.out _ (by exact g25)).mono ?_;rintro e w' ⟨rfl,rfl⟩) | (refine wpList_make_own _ rfl (.const (.int .i64 0)) (.tmp 26) 30 rfl w.heap.size 2 i0 (.int .i64 0) 1 Tryz.underlying30 hi hz0 hz1 .i64 .i64 _ (jaA ds).toNat rfl rfl HPN.out hb2 hb3 hz5 ?_;intro w6 hown6 hg6;have g26:=jaa g25 hg6;obtain ⟨f0,f1,f2,fd⟩:=VC.out w6 g26;have hs6:w.heap.size+2≤w6.heap.size:=Nat.le_trans hs2 g26.size;obtain ⟨k0,k1,k2,kd⟩:=VC.out (w6.alloc (.cells #[.slice (some ⟨w5.heap.size,0,none⟩) 0 (jaA ds).toNat] 30)) (jaa g26 (jab _ _))) | (go_at_call 66;refine (PL.out _).mono ?_;rintro e w' ⟨rfl,rfl⟩));have hs5:w.heap.size≤w5.heap.size:=hz5;have h56:=hg6.size;obtain ⟨W7,hW7⟩ : ∃ W7,W7=(w6.alloc (.cells #[.slice (some ⟨w5.heap.size,0,none⟩) 0 (jaA ds).toNat] 30)).alloc (.cells #[.int .i64 off,dv,sv] 76):=⟨_,rfl⟩
        have g67:w6.grownBy W7 none:=by rw [hW7];exact jaa (jab _ _) (jab _ _)
        have g07:w.grownBy W7 none:=jaa g2 (jaa g26 g67);have hs7:W7.heap.size=w6.heap.size+2:=by rw [hW7];simp
        have hg5lt:w5.heap.size<w6.heap.size:=by
         obtain ⟨_,o,ho,_⟩:=jc2 hown6;exact (Array.getElem?_eq_some_iff.1 ho).1
        have bS:Boxed W7 w6.heap.size 30 (.slice (some ⟨w5.heap.size,0,none⟩) 0 (jaA ds).toNat):=by
         rw [hW7];exact (Boxed.new w6 _ _).alloc _
        have bP:W7.heap[w6.heap.size+1]?=some (.cells #[.int .i64 off,dv,sv] 76 (0,0)):=by
         rw [hW7];have:=heap_alloc_new (w6.alloc (.cells #[.slice (some ⟨w5.heap.size,0,none⟩) 0 (jaA ds).toNat] 30)) (.cells #[.int .i64 off,dv,sv] 76);simpa using this
        rw [← hW7];have HS7:=jac hs7;have hdat:=(VC.out W7 (jaa g26 g67)).2.2.2;have hrow7:=hown6.kept g67 (Or.inr (by simp [Value.ownBlock]));clear hW7 hs7 f0 f1 f2 fd k0 k1 k2 kd d0 d1 d2 dd e0 e1 e2 ed c0 c1 c2 cd;have hxL:(0:Int)<data.length:=by omega
        obtain ⟨bx,ox,rfl⟩:=jbQ HX.out (by omega);refine (wpIn_wide (n:=5)).1 ?_
        refine wpIn_rangeFunc_ownG rfl (by decide) (gf:=96) (lb:=#[.pointer (some ⟨w6.heap.size+1,0,none⟩)]) rfl trivial (enters_of Tryz.func96 (by kernel_rfl) rfl)
         (jgd 4 data.length (by omega) w6.heap.size w5.heap.size off dv sv ds ss HMV.out (ADD.out _ _ _ _ hd (by omega) (by omega)) (ADD.out _ _ _ _ hs (by omega) (by omega)) (w6.heap.size+1) W7 (hd.more g07) (hs.more g07) (by have:=HS7.out;omega) (by have:=HS7.out;omega) (by have:=HS7.out;omega) (by rw [← HT.out];exact hlt)
          ((cell_of_row _ _ 0 _ _ (0,0) bP).trans rfl) ((cell_of_row _ _ 1 _ _ (0,0) bP).trans rfl) ((cell_of_row _ _ 2 _ _ (0,0) bP).trans rfl))
         (fun h k=>h.trans k) (fun W l o o' _ ho hc _=>jkE ho hc) (Below.refl _ _) (fun _=>rfl)
         (fun pre W=>RInv w w6.heap.size w5.heap.size (jaA ds).toNat (w.heap.size+1) (.slice (some ⟨bx,ox,none⟩) data.length xcap) data (pre.map (fun x=>data.getD (cl data.length x).toNat 0)) W)
         (fun _ _ _=>False) (fun s A B row hs hg hr=>hs.turn hg hr (by have:=HS7.out;omega)) (fun _ _ _ _ _ hs _ _=>hs)
         ⟨by simpa using bS,by simpa using hrow7,hdat,HX.out.more g07,g07⟩ ?a11 ?assign1 ?body1 ?done1 ?stop1
        case assign1 =>
         intro l x W K hK
         gi_wp2
         exact hK
        case body1 =>
         rintro l pre x W hinv hlt7;obtain ⟨xi,hxi⟩ : ∃ xi:Nat,cl data.length x=xi:=⟨(cl data.length x).toNat,by have:=jmH hxL x;omega⟩
         have hxi2:xi<data.length:=by have:=jmH hxL x;omega
         have hk7:(pre.map (fun x=>data.getD (cl data.length x).toNat 0)).length+1≤(jaA ds).toNat:=by have:=HLEN.out;simp;omega
         have hgr:=hinv.gr.size;have it:=jbH hinv.ints hxi2;obtain ⟨y,hy⟩ : ∃ y,y=data.getD xi 0:=⟨_,rfl⟩
         rw [← hy] at it
         have HY:Hid ((pre++[x]).map (fun x=>data.getD (cl data.length x).toNat 0)=pre.map (fun x=>data.getD (cl data.length x).toNat 0)++[y]):=by
          show _=_;simp [hxi,hy]
         obtain ⟨ys,hys⟩ : ∃ ys,ys=pre.map (fun x=>data.getD (cl data.length x).toNat 0):=⟨_,rfl⟩
         rw [← hys] at hinv HY hk7;have hs25:w.heap.size+2≤w5.heap.size:=Nat.le_trans hs2 g25.size;have hc:=hinv.box.cell;have hf:=hinv.box.frozen;have hcA:=(hinv.box.alloc (.cells #[.int .i64 y] 2)).cell;have hltB:=hinv.box.lt;have hdd:=hinv.dat;have HI:=jac hinv;obtain ⟨⟨cc,hcc⟩,hff,hown1,hgrow1⟩:=jif (hinv.row.alloc (.cells #[.int .i64 y] 2)) hk7 (.int .i64 y);obtain ⟨b1,i1,ko1,kp1⟩:=HI.out.push (y:=y) (w1:=((W.alloc (.cells #[.int .i64 y] 2)).setCell ⟨w5.heap.size,ys.length,none⟩ (.int .i64 y)).drew) (by omega) (by omega) (by omega) (ADD.out _ _ _ _ HX.out (by omega) (by omega)) (by simpa using hown1.drew) ⟨hgrow1.os,hgrow1.tape,hgrow1.output,hgrow1.size,hgrow1.block⟩;have hc1:((W.alloc (.cells #[.int .i64 y] 2)).setCell ⟨w5.heap.size,ys.length,none⟩ (.int .i64 y)).cell? ⟨w6.heap.size,0,none⟩=some (.slice (some ⟨w5.heap.size,0,none⟩) ys.length (jaA ds).toNat):=b1.cell;have hf1:((W.alloc (.cells #[.int .i64 y] 2)).setCell ⟨w5.heap.size,ys.length,none⟩ (.int .i64 y)).frozen? ⟨w6.heap.size,0,none⟩=false:=b1.frozen;have I1:=jac i1;have KO1:=jac ko1;have KP1:=jac kp1;simp only [hxi];clear hinv hys hy hxi hlt7 hown1 hgrow1 b1 i1 ko1 kp1
         gi_wp2
         gi_region_with (fail)
         all_goals exact ⟨KO1.out.from _,KP1.out,by dsimp only;rw [HY.out];exact I1.out⟩
        case done1 =>
         rintro D zs W hD rfl hinv hK;have hc:=hinv.box.cell;have HI:=jac hinv;clear hinv;go_wp2;refine jcL ?_;refine ⟨by simp,.inl ⟨_,_,rfl,run_takeDeferred hK,?_⟩⟩;refine ⟨_,results_tmp2 rfl _ _ _,?_⟩;refine ⟨.slice (some ⟨w5.heap.size,0,none⟩) (plc ds ss off).length (jaA ds).toNat,by simp only [rdE,HOK.out,if_true];rfl,⟨?_,?_,?_⟩,jan HI.out.gr (grownBy_putObj' W D (.deferred none)) (fun r e=>by cases e;have:=HS7.out;omega)⟩
         ·have h1:=ownsRow_putObj HI.out.row (.deferred none) hK rfl;rw [jig HMV.out (by rw [← HT.out];exact hlt)] at h1;rw [List.length_map] at h1;simp only [rdL,HOK.out,if_true];simpa [shows] using h1
         ·have h1:=HLEN.out;have h2:=HMV.out.fine.le;simp only [rdL,HOK.out,if_true,shows,List.length_map];omega
         ·simp only [rdL,HOK.out,if_true];exact jih HX.out.wf
        case stop1 =>
         rintro D c pre W _ _ h _;exact h.elim
       ·skip
        have hz5:w.heap.size≤w5.heap.size:=(jaa g2 g25).size;go_wp2_with (first | (go_at_call 44;refine (CN.out _ (by exact g25)).mono ?_;rintro e w' ⟨rfl,rfl⟩) | (refine wpList_make_own _ rfl (.const (.int .i64 0)) (.tmp 26) 30 rfl w.heap.size 2 i0 (.int .i64 0) 1 Tryz.underlying30 hi hz0 hz1 .i64 .i64 _ (jaA ds).toNat rfl rfl HPN.out hb2 hb3 hz5 ?_;intro w6 hown6 hg6;have g26:=jaa g25 hg6;obtain ⟨f0,f1,f2,fd⟩:=VC.out w6 g26;have hs6:w.heap.size+2≤w6.heap.size:=Nat.le_trans hs2 g26.size;obtain ⟨k0,k1,k2,kd⟩:=VC.out (w6.alloc (.cells #[.slice (some ⟨w5.heap.size,0,none⟩) 0 (jaA ds).toNat] 30)) (jaa g26 (jab _ _))) | (go_at_call 66;refine (PL.out _).mono ?_;rintro e w' ⟨rfl,rfl⟩));have hs5:w.heap.size≤w5.heap.size:=hz5;have h56:=hg6.size;obtain ⟨W7,hW7⟩ : ∃ W7,W7=(w6.alloc (.cells #[.slice (some ⟨w5.heap.size,0,none⟩) 0 (jaA ds).toNat] 30)).alloc (.cells #[.int .i64 off,dv,sv] 76):=⟨_,rfl⟩
        have g67:w6.grownBy W7 none:=by rw [hW7];exact jaa (jab _ _) (jab _ _)
        have g07:w.grownBy W7 none:=jaa g2 (jaa g26 g67);have hs7:W7.heap.size=w6.heap.size+2:=by rw [hW7];simp
        have hg5lt:w5.heap.size<w6.heap.size:=by
         obtain ⟨_,o,ho,_⟩:=jc2 hown6;exact (Array.getElem?_eq_some_iff.1 ho).1
        have bS:Boxed W7 w6.heap.size 30 (.slice (some ⟨w5.heap.size,0,none⟩) 0 (jaA ds).toNat):=by
         rw [hW7];exact (Boxed.new w6 _ _).alloc _
        have bP:W7.heap[w6.heap.size+1]?=some (.cells #[.int .i64 off,dv,sv] 76 (0,0)):=by
         rw [hW7];have:=heap_alloc_new (w6.alloc (.cells #[.slice (some ⟨w5.heap.size,0,none⟩) 0 (jaA ds).toNat] 30)) (.cells #[.int .i64 off,dv,sv] 76);simpa using this
        rw [← hW7];have HS7:=jac hs7;have hdat:=(VC.out W7 (jaa g26 g67)).2.2.2;have hrow7:=hown6.kept g67 (Or.inr (by simp [Value.ownBlock]));clear hW7 hs7 f0 f1 f2 fd k0 k1 k2 kd d0 d1 d2 dd e0 e1 e2 ed c0 c1 c2 cd;have hxL:(0:Int)<data.length:=by omega
        obtain ⟨bx,ox,rfl⟩:=jbQ HX.out (by omega);refine (wpIn_wide (n:=5)).1 ?_
        refine wpIn_rangeFunc_ownG rfl (by decide) (gf:=96) (lb:=#[.pointer (some ⟨w6.heap.size+1,0,none⟩)]) rfl trivial (enters_of Tryz.func96 (by kernel_rfl) rfl)
         (jgd 4 data.length (by omega) w6.heap.size w5.heap.size off dv sv ds ss HMV.out (ADD.out _ _ _ _ hd (by omega) (by omega)) (ADD.out _ _ _ _ hs (by omega) (by omega)) (w6.heap.size+1) W7 (hd.more g07) (hs.more g07) (by have:=HS7.out;omega) (by have:=HS7.out;omega) (by have:=HS7.out;omega) (by rw [← HT.out];exact hlt)
          ((cell_of_row _ _ 0 _ _ (0,0) bP).trans rfl) ((cell_of_row _ _ 1 _ _ (0,0) bP).trans rfl) ((cell_of_row _ _ 2 _ _ (0,0) bP).trans rfl))
         (fun h k=>h.trans k) (fun W l o o' _ ho hc _=>jkE ho hc) (Below.refl _ _) (fun _=>rfl)
         (fun pre W=>RInv w w6.heap.size w5.heap.size (jaA ds).toNat (w.heap.size+1) (.slice (some ⟨bx,ox,none⟩) data.length xcap) data (pre.map (fun x=>data.getD (cl data.length x).toNat 0)) W)
         (fun _ _ _=>False) (fun s A B row hs hg hr=>hs.turn hg hr (by have:=HS7.out;omega)) (fun _ _ _ _ _ hs _ _=>hs)
         ⟨by simpa using bS,by simpa using hrow7,hdat,HX.out.more g07,g07⟩ ?a12 ?assign2 ?body2 ?done2 ?stop2
        case assign2 =>
         intro l x W K hK
         gi_wp2
         exact hK
        case body2 =>
         rintro l pre x W hinv hlt7;obtain ⟨xi,hxi⟩ : ∃ xi:Nat,cl data.length x=xi:=⟨(cl data.length x).toNat,by have:=jmH hxL x;omega⟩
         have hxi2:xi<data.length:=by have:=jmH hxL x;omega
         have hk7:(pre.map (fun x=>data.getD (cl data.length x).toNat 0)).length+1≤(jaA ds).toNat:=by have:=HLEN.out;simp;omega
         have hgr:=hinv.gr.size;have it:=jbH hinv.ints hxi2;obtain ⟨y,hy⟩ : ∃ y,y=data.getD xi 0:=⟨_,rfl⟩
         rw [← hy] at it
         have HY:Hid ((pre++[x]).map (fun x=>data.getD (cl data.length x).toNat 0)=pre.map (fun x=>data.getD (cl data.length x).toNat 0)++[y]):=by
          show _=_;simp [hxi,hy]
         obtain ⟨ys,hys⟩ : ∃ ys,ys=pre.map (fun x=>data.getD (cl data.length x).toNat 0):=⟨_,rfl⟩
         rw [← hys] at hinv HY hk7;have hs25:w.heap.size+2≤w5.heap.size:=Nat.le_trans hs2 g25.size;have hc:=hinv.box.cell;have hf:=hinv.box.frozen;have hcA:=(hinv.box.alloc (.cells #[.int .i64 y] 2)).cell;have hltB:=hinv.box.lt;have hdd:=hinv.dat;have HI:=jac hinv;obtain ⟨⟨cc,hcc⟩,hff,hown1,hgrow1⟩:=jif (hinv.row.alloc (.cells #[.int .i64 y] 2)) hk7 (.int .i64 y);obtain ⟨b1,i1,ko1,kp1⟩:=HI.out.push (y:=y) (w1:=((W.alloc (.cells #[.int .i64 y] 2)).setCell ⟨w5.heap.size,ys.length,none⟩ (.int .i64 y)).drew) (by omega) (by omega) (by omega) (ADD.out _ _ _ _ HX.out (by omega) (by omega)) (by simpa using hown1.drew) ⟨hgrow1.os,hgrow1.tape,hgrow1.output,hgrow1.size,hgrow1.block⟩;have hc1:((W.alloc (.cells #[.int .i64 y] 2)).setCell ⟨w5.heap.size,ys.length,none⟩ (.int .i64 y)).cell? ⟨w6.heap.size,0,none⟩=some (.slice (some ⟨w5.heap.size,0,none⟩) ys.length (jaA ds).toNat):=b1.cell;have hf1:((W.alloc (.cells #[.int .i64 y] 2)).setCell ⟨w5.heap.size,ys.length,none⟩ (.int .i64 y)).frozen? ⟨w6.heap.size,0,none⟩=false:=b1.frozen;have I1:=jac i1;have KO1:=jac ko1;have KP1:=jac kp1;simp only [hxi];clear hinv hys hy hxi hlt7 hown1 hgrow1 b1 i1 ko1 kp1
         gi_wp2
         gi_region_with (fail)
         all_goals exact ⟨KO1.out.from _,KP1.out,by dsimp only;rw [HY.out];exact I1.out⟩
        case done2 =>
         rintro D zs W hD rfl hinv hK;have hc:=hinv.box.cell;have HI:=jac hinv;clear hinv;go_wp2;refine jcL ?_;refine ⟨by simp,.inl ⟨_,_,rfl,run_takeDeferred hK,?_⟩⟩;refine ⟨_,results_tmp2 rfl _ _ _,?_⟩;refine ⟨.slice (some ⟨w5.heap.size,0,none⟩) (plc ds ss off).length (jaA ds).toNat,by simp only [rdE,HOK.out,if_true];rfl,⟨?_,?_,?_⟩,jan HI.out.gr (grownBy_putObj' W D (.deferred none)) (fun r e=>by cases e;have:=HS7.out;omega)⟩
         ·have h1:=ownsRow_putObj HI.out.row (.deferred none) hK rfl;rw [jig HMV.out (by rw [← HT.out];exact hlt)] at h1;rw [List.length_map] at h1;simp only [rdL,HOK.out,if_true];simpa [shows] using h1
         ·have h1:=HLEN.out;have h2:=HMV.out.fine.le;simp only [rdL,HOK.out,if_true,shows,List.length_map];omega
         ·simp only [rdL,HOK.out,if_true];exact jih HX.out.wf
        case stop2 =>
         rintro D c pre W _ _ h _;exact h.elim
       ·skip
        have hz5:w.heap.size≤w5.heap.size:=(jaa g2 g25).size;go_wp2_with (first | (go_at_call 44;refine (CN.out _ (by exact g25)).mono ?_;rintro e w' ⟨rfl,rfl⟩) | (refine wpList_make_own _ rfl (.const (.int .i64 0)) (.tmp 26) 30 rfl w.heap.size 2 i0 (.int .i64 0) 1 Tryz.underlying30 hi hz0 hz1 .i64 .i64 _ (jaA ds).toNat rfl rfl HPN.out hb2 hb3 hz5 ?_;intro w6 hown6 hg6;have g26:=jaa g25 hg6;obtain ⟨f0,f1,f2,fd⟩:=VC.out w6 g26;have hs6:w.heap.size+2≤w6.heap.size:=Nat.le_trans hs2 g26.size;obtain ⟨k0,k1,k2,kd⟩:=VC.out (w6.alloc (.cells #[.slice (some ⟨w5.heap.size,0,none⟩) 0 (jaA ds).toNat] 30)) (jaa g26 (jab _ _))) | (go_at_call 66;refine (PL.out _).mono ?_;rintro e w' ⟨rfl,rfl⟩));have hs5:w.heap.size≤w5.heap.size:=hz5;have h56:=hg6.size;obtain ⟨W7,hW7⟩ : ∃ W7,W7=(w6.alloc (.cells #[.slice (some ⟨w5.heap.size,0,none⟩) 0 (jaA ds).toNat] 30)).alloc (.cells #[.int .i64 off,dv,sv] 76):=⟨_,rfl⟩
        have g67:w6.grownBy W7 none:=by rw [hW7];exact jaa (jab _ _) (jab _ _)
        have g07:w.grownBy W7 none:=jaa g2 (jaa g26 g67);have hs7:W7.heap.size=w6.heap.size+2:=by rw [hW7];simp
        have hg5lt:w5.heap.size<w6.heap.size:=by
         obtain ⟨_,o,ho,_⟩:=jc2 hown6;exact (Array.getElem?_eq_some_iff.1 ho).1
        have bS:Boxed W7 w6.heap.size 30 (.slice (some ⟨w5.heap.size,0,none⟩) 0 (jaA ds).toNat):=by
         rw [hW7];exact (Boxed.new w6 _ _).alloc _
        have bP:W7.heap[w6.heap.size+1]?=some (.cells #[.int .i64 off,dv,sv] 76 (0,0)):=by
         rw [hW7];have:=heap_alloc_new (w6.alloc (.cells #[.slice (some ⟨w5.heap.size,0,none⟩) 0 (jaA ds).toNat] 30)) (.cells #[.int .i64 off,dv,sv] 76);simpa using this
        rw [← hW7];have HS7:=jac hs7;have hdat:=(VC.out W7 (jaa g26 g67)).2.2.2;have hrow7:=hown6.kept g67 (Or.inr (by simp [Value.ownBlock]));clear hW7 hs7 f0 f1 f2 fd k0 k1 k2 kd d0 d1 d2 dd e0 e1 e2 ed c0 c1 c2 cd;have hxL:(0:Int)<data.length:=by omega
        obtain ⟨bx,ox,rfl⟩:=jbQ HX.out (by omega);refine (wpIn_wide (n:=5)).1 ?_
        refine wpIn_rangeFunc_ownG rfl (by decide) (gf:=96) (lb:=#[.pointer (some ⟨w6.heap.size+1,0,none⟩)]) rfl trivial (enters_of Tryz.func96 (by kernel_rfl) rfl)
         (jgd 4 data.length (by omega) w6.heap.size w5.heap.size off dv sv ds ss HMV.out (ADD.out _ _ _ _ hd (by omega) (by omega)) (ADD.out _ _ _ _ hs (by omega) (by omega)) (w6.heap.size+1) W7 (hd.more g07) (hs.more g07) (by have:=HS7.out;omega) (by have:=HS7.out;omega) (by have:=HS7.out;omega) (by rw [← HT.out];exact hlt)
          ((cell_of_row _ _ 0 _ _ (0,0) bP).trans rfl) ((cell_of_row _ _ 1 _ _ (0,0) bP).trans rfl) ((cell_of_row _ _ 2 _ _ (0,0) bP).trans rfl))
         (fun h k=>h.trans k) (fun W l o o' _ ho hc _=>jkE ho hc) (Below.refl _ _) (fun _=>rfl)
         (fun pre W=>RInv w w6.heap.size w5.heap.size (jaA ds).toNat (w.heap.size+1) (.slice (some ⟨bx,ox,none⟩) data.length xcap) data (pre.map (fun x=>data.getD (cl data.length x).toNat 0)) W)
         (fun _ _ _=>False) (fun s A B row hs hg hr=>hs.turn hg hr (by have:=HS7.out;omega)) (fun _ _ _ _ _ hs _ _=>hs)
         ⟨by simpa using bS,by simpa using hrow7,hdat,HX.out.more g07,g07⟩ ?a13 ?assign3 ?body3 ?done3 ?stop3
        case assign3 =>
         intro l x W K hK
         gi_wp2
         exact hK
        case body3 =>
         rintro l pre x W hinv hlt7;obtain ⟨xi,hxi⟩ : ∃ xi:Nat,cl data.length x=xi:=⟨(cl data.length x).toNat,by have:=jmH hxL x;omega⟩
         have hxi2:xi<data.length:=by have:=jmH hxL x;omega
         have hk7:(pre.map (fun x=>data.getD (cl data.length x).toNat 0)).length+1≤(jaA ds).toNat:=by have:=HLEN.out;simp;omega
         have hgr:=hinv.gr.size;have it:=jbH hinv.ints hxi2;obtain ⟨y,hy⟩ : ∃ y,y=data.getD xi 0:=⟨_,rfl⟩
         rw [← hy] at it
         have HY:Hid ((pre++[x]).map (fun x=>data.getD (cl data.length x).toNat 0)=pre.map (fun x=>data.getD (cl data.length x).toNat 0)++[y]):=by
          show _=_;simp [hxi,hy]
         obtain ⟨ys,hys⟩ : ∃ ys,ys=pre.map (fun x=>data.getD (cl data.length x).toNat 0):=⟨_,rfl⟩
         rw [← hys] at hinv HY hk7;have hs25:w.heap.size+2≤w5.heap.size:=Nat.le_trans hs2 g25.size;have hc:=hinv.box.cell;have hf:=hinv.box.frozen;have hcA:=(hinv.box.alloc (.cells #[.int .i64 y] 2)).cell;have hltB:=hinv.box.lt;have hdd:=hinv.dat;have HI:=jac hinv;obtain ⟨⟨cc,hcc⟩,hff,hown1,hgrow1⟩:=jif (hinv.row.alloc (.cells #[.int .i64 y] 2)) hk7 (.int .i64 y);obtain ⟨b1,i1,ko1,kp1⟩:=HI.out.push (y:=y) (w1:=((W.alloc (.cells #[.int .i64 y] 2)).setCell ⟨w5.heap.size,ys.length,none⟩ (.int .i64 y)).drew) (by omega) (by omega) (by omega) (ADD.out _ _ _ _ HX.out (by omega) (by omega)) (by simpa using hown1.drew) ⟨hgrow1.os,hgrow1.tape,hgrow1.output,hgrow1.size,hgrow1.block⟩;have hc1:((W.alloc (.cells #[.int .i64 y] 2)).setCell ⟨w5.heap.size,ys.length,none⟩ (.int .i64 y)).cell? ⟨w6.heap.size,0,none⟩=some (.slice (some ⟨w5.heap.size,0,none⟩) ys.length (jaA ds).toNat):=b1.cell;have hf1:((W.alloc (.cells #[.int .i64 y] 2)).setCell ⟨w5.heap.size,ys.length,none⟩ (.int .i64 y)).frozen? ⟨w6.heap.size,0,none⟩=false:=b1.frozen;have I1:=jac i1;have KO1:=jac ko1;have KP1:=jac kp1;simp only [hxi];clear hinv hys hy hxi hlt7 hown1 hgrow1 b1 i1 ko1 kp1
         gi_wp2
         gi_region_with (fail)
         all_goals exact ⟨KO1.out.from _,KP1.out,by dsimp only;rw [HY.out];exact I1.out⟩
        case done3 =>
         rintro D zs W hD rfl hinv hK;have hc:=hinv.box.cell;have HI:=jac hinv;clear hinv;go_wp2;refine jcL ?_;refine ⟨by simp,.inl ⟨_,_,rfl,run_takeDeferred hK,?_⟩⟩;refine ⟨_,results_tmp2 rfl _ _ _,?_⟩;refine ⟨.slice (some ⟨w5.heap.size,0,none⟩) (plc ds ss off).length (jaA ds).toNat,by simp only [rdE,HOK.out,if_true];rfl,⟨?_,?_,?_⟩,jan HI.out.gr (grownBy_putObj' W D (.deferred none)) (fun r e=>by cases e;have:=HS7.out;omega)⟩
         ·have h1:=ownsRow_putObj HI.out.row (.deferred none) hK rfl;rw [jig HMV.out (by rw [← HT.out];exact hlt)] at h1;rw [List.length_map] at h1;simp only [rdL,HOK.out,if_true];simpa [shows] using h1
         ·have h1:=HLEN.out;have h2:=HMV.out.fine.le;simp only [rdL,HOK.out,if_true,shows,List.length_map];omega
         ·simp only [rdL,HOK.out,if_true];exact jih HX.out.wf
        case stop3 =>
         rintro D c pre W _ _ h _;exact h.elim
      ·have HOK:Hid (rdOk off ds ss data=false):=by simp only [Hid,rdOk,hM,← HT.out];simpa using hlt
       clear hM;refine (callsIn_wide (n:=5)).1 ?_;refine callsIn_of_wp_marks Tryz.func38 rfl trivial ?_ rfl;simp only [Tryz.ntmps38,List.size_toArray,List.length_cons,List.length_nil,Nat.reduceAdd,Nat.reduceSub,Array.replicate_succ,Array.replicate_zero,List.push_toArray,List.append_toArray,List.nil_append,List.cons_append];refine wpIn_mono (wpIn_wide.2 ?_) jfb;go_wp2;rw [← hw2];clear hw2;go_region_with (first | (go_at_call 39;refine (MB.out _ (by exact gd)).mono ?_;rintro e w4 ⟨rfl,hg4⟩;have g24:=jaa gd hg4;obtain ⟨d0,d1,d2,dd⟩:=VC.out w4 g24) | (go_at_call 65;refine (LA.out _ (by exact g24)).mono ?_;rintro e w5 ⟨rfl,hg5⟩;have g25:=jaa g24 hg5;obtain ⟨e0,e1,e2,ed⟩:=VC.out w5 g25))
       all_goals go_wp2
       all_goals (try simp only [Exit.inBlock,Exit.then])
       all_goals refine jcL ?_
       all_goals refine ⟨_,results_tmp2 rfl _ _ _,?_⟩
       all_goals exact jjn HOK.out (jaa g2 g25)
     ·have hM':mayB off ds ss=false:=by simpa using hM
      rw [hM'] at MB;have HOK:Hid (rdOk off ds ss data=false):=by simp [Hid,rdOk,hM']
      clear hM hM';refine (callsIn_wide (n:=5)).1 ?_;refine callsIn_of_wp_marks Tryz.func38 rfl trivial ?_ rfl;simp only [Tryz.ntmps38,List.size_toArray,List.length_cons,List.length_nil,Nat.reduceAdd,Nat.reduceSub,Array.replicate_succ,Array.replicate_zero,List.push_toArray,List.append_toArray,List.nil_append,List.cons_append];refine wpIn_mono (wpIn_wide.2 ?_) jfb;go_wp2;rw [← hw2];clear hw2;go_region_with (go_at_call 39;refine (MB.out _ (by exact gd)).mono ?_;rintro e w4 ⟨rfl,hg4⟩;have g24:=jaa gd hg4;obtain ⟨d0,d1,d2,dd⟩:=VC.out w4 g24)
      all_goals go_wp2
      all_goals (try simp only [Exit.inBlock,Exit.then])
      all_goals refine jcL ?_
      all_goals refine ⟨_,results_tmp2 rfl _ _ _,?_⟩
      all_goals exact jjn HOK.out (jaa g2 g24)
end Go.Proofs.YteigfipgmghgmaaGreatDoor.Vw
