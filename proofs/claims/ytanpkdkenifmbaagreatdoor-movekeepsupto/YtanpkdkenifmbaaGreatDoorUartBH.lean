/- A part. -/
import Derived.Test.YtanpkdkenifmbaaGreatDoorUartAB
import Derived.Laws.ResultCell
set_option maxHeartbeats 6400000
namespace Go.Proofs.YtanpkdkenifmbaaGreatDoor.Vw
open Go.RowKit
def OwnView (w:World) (base:Nat) (u:Value) (off:Int) (ds ss:List Int):Prop :=
 ∃ dv sv,u=.agg #[.int .i64 off,dv,sv]∧Owns w base dv ds∧Owns w base sv ss ∧ -9223372036854775808≤off∧off≤9223372036854775807∧(dv.ownBlock=none∨dv.ownBlock≠sv.ownBlock)
theorem OwnView.new {w w':World} {base:Nat} {u:Value} {off:Int} {ds ss:List Int} (h:OwnView w base u off ds ss) (hg:w.grownBy w' none):OwnView w' base u off ds ss:=by
 obtain ⟨dv,sv,rfl,h1,h2,h3,h4,h5⟩:=h;exact ⟨dv,sv,rfl,h1.new hg,h2.new hg,h3,h4,h5⟩
theorem OwnView.nil (w:World) (base:Nat):OwnView w base (.agg #[.int .i64 0,.slice none 0 0,.slice none 0 0]) 0 [] [] :=
 ⟨_,_,rfl,jbg _ _,jbg _ _,by omega,by omega,Or.inl rfl⟩
theorem store3 {w w3:World} {B:Nat} {z0 z1 z2:Value} (a b c:Value) (hg:w.grownBy w3 none) (hB:w.heap.size≤B) (hb:w3.heap[B]?=some (.cells #[z0,z1,z2] 63 (0,0))) :
    (((w3.setCell ⟨B,0,none⟩ a).setCell ⟨B,1,none⟩ b).setCell ⟨B,2,none⟩ c).heap[B]?=some (.cells #[a,b,c] 63 (0,0)) ∧
    w.grownBy (((w3.setCell ⟨B,0,none⟩ a).setCell ⟨B,1,none⟩ b).setCell ⟨B,2,none⟩ c) none∧w3.grownBy (((w3.setCell ⟨B,0,none⟩ a).setCell ⟨B,1,none⟩ b).setCell ⟨B,2,none⟩ c) (some B):=by
     have h1:=heap_setCell_same w3 B 0 _ _ a hb;have h2:=heap_setCell_same _ B 1 _ _ b h1;have h3:=heap_setCell_same _ B 2 _ _ c h2
     have g:∀ (x:World) (j:Nat) (v:Value),x.grownBy (x.setCell ⟨B,j,none⟩ v) (some B):=fun x j v =>
      ⟨rfl,rfl,rfl,by simp [World.setCell],fun k _ hk=>Below.heap_setCell _ _ _ _ (fun e=>hk (by rw [e]))⟩
     have g3:=jbI (jbI (g w3 0 a) (g _ 1 b)) (g _ 2 c);exact ⟨by simpa using h3,jao hg g3 (fun r e=>by cases e;exact hB),g3⟩
theorem box_cells {w:World} {B:Nat} {a b c:Value} (hb:w.heap[B]?=some (.cells #[a,b,c] 63 (0,0))) :
    w.cell? ⟨B,0,none⟩=some a∧w.cell? ⟨B,1,none⟩=some b∧w.cell? ⟨B,2,none⟩=some c∧w.frozen? ⟨B,0,none⟩=false∧w.frozen? ⟨B,1,none⟩=false∧w.frozen? ⟨B,2,none⟩=false :=
     ⟨(cell_of_row _ _ 0 _ _ (0,0) hb).trans rfl,(cell_of_row _ _ 1 _ _ (0,0) hb).trans rfl,(cell_of_row _ _ 2 _ _ (0,0) hb).trans rfl,frozen_of_row w B 0 _ _ hb,frozen_of_row w B 1 _ _ hb,frozen_of_row w B 2 _ _ hb⟩
theorem jpD:(Tryz.prog.info? 63).map (·.size)=some 3:=by kernel_rfl
theorem ret_view {fn : Func} {p u : Tmp} (h : fn.results = #[.cell p 63, .tmp u]) (tmps : Array Value) (w : World) (B : Nat) (hp : tmps.getD p undef = .pointer (some ⟨B, 0, none⟩)) {a b c : Value}
    (hb:w.heap[B]?=some (.cells #[a,b,c] 63 (0,0))):(results fn tmps).run Tryz.prog w=.ok (.tuple #[.agg #[a,b,c],tmps.getD u undef]) w:=by
     have hl:=run_loadVar_row (P:=Tryz.prog) w B _ 63 #[a,b,c] (0,0) _ hb Tryz.underlying63 rfl (by rw [jpD];rfl);rw [results_cell_tmp h,hp];simp [asAddr,hl,Result.andThen]
theorem jcL (v:Value) (zs:List Int) (w:World) (h:IsInts w v zs) :
    Calls Tryz.prog 58 #[v] w fun e w'=>∃ u,e=.returned u∧Owns w' w.heap.size u zs∧w.grownBy w' none:=by
     have h3:=h.le;have H:=jac h;obtain ⟨ao,cap,rfl,h1,h2,_,h4,-,-⟩:=h;have heq:=fun wx=>Lib.run_eql_slice_nil (P:=Tryz.prog) wx 29 3 ao zs.length cap 0 0 Tryz.underlying29
     cases ao with
     | none =>
      obtain ⟨rfl,rfl⟩:=h4 rfl;have heq0:=fun wx=>Lib.run_eql_slice_nil (P:=Tryz.prog) wx 29 3 none 0 0 0 0 Tryz.underlying29;simp only [List.length_nil];clear heq H;go_enter Tryz.func58,Tryz.ntmps58;go_wp2;go_ret;exact ⟨_,rfl,jbg _ _,jae _⟩
     | some ad =>
      have O0:Owns (w.alloc (.cells #[] 3)) w.heap.size (.slice (some ⟨w.heap.size,0,none⟩) 0 0) [] :=
       ⟨by simpa using World.ownsRow_lit (base:=w.heap.size) (e:=3) (size:=1) w #[] 0 (Nat.le_refl _) (by simp [maxLen]) rfl,by simp,fun z hz=>by simp at hz⟩
      have g0:=jab w (.cells #[] 3);have H0:=jac (H.out.more g0);go_enter Tryz.func58,Tryz.ntmps58;go_wp2_with (at_builtin;refine jdu rfl (.tmp 5) (.tmp 6) rfl w.heap.size _ [] rfl O0 _ zs rfl H0.out ?_ ?_ ?_;(simpa using h3);simp;intro v' w1 hown hgrow);go_ret;exact ⟨_,rfl,by simpa using hown,jao g0 hgrow (fun g hg=>by cases hg;exact Nat.le_refl _)⟩
end Go.Proofs.YtanpkdkenifmbaaGreatDoor.Vw
namespace Go.Proofs.YtanpkdkenifmbaaGreatDoor.Vw
open Go.RowKit
def jej (off:Int) (ds:List Int):Int:=if ja7 ds=0 then off else 0
def rowDs (ds:List Int):List Int:=if ja7 ds=0 then ds else []
theorem jnA (w:World):(w.alloc (.cells #[.int .i64 0,.slice none 0 0,.slice none 0 0] 63)).heap[w.heap.size]?=some (.cells #[.int .i64 0,.slice none 0 0,.slice none 0 0] 63 (0,0)):=heap_alloc_new w _
theorem jag {w w':World} {B:Nat} {o:Obj} (hb:w.heap[B]?=some o) (hg:w.grownBy w' none):w'.heap[B]?=some o:=(hg.block B (Array.getElem?_eq_some_iff.1 hb).1 (by simp)).trans hb
theorem _root_.Go.Proofs.YtanpkdkenifmbaaGreatDoor.Owns.box {w w':World} {base B:Nat} {v:Value} {zs:List Int} (h:Owns w base v zs) (hg:w.grownBy w' (some B)) (hB:B<base):Owns w' base v zs :=
 h.more hg (Or.inr (fun e=>by have:=(h.lt B e).1;omega))
theorem jnB (off:Int) (v:Value) (ds:List Int) (w:World) (h:IsInts w v ds) (ho1 : -9223372036854775808≤off) (ho2:off≤9223372036854775807) :
    Calls Tryz.prog 32 #[.int .i64 off,v] w fun e w'=>∃ u,e=.returned (.tuple #[u,.int .i64 (ja7 ds)])∧OwnView w' w.heap.size u (jej off ds) (rowDs ds) (jbM ds)∧w.grownBy w' none:=by
     have g0:=jab w (.cells #[.int .i64 0,.slice none 0 0,.slice none 0 0] 63);have b0:=jac (jnA w);have c1:=jac (je0 v ds _ (h.more g0));have H:=jac h;have hs0:(w.alloc (.cells #[.int .i64 0,.slice none 0 0,.slice none 0 0] 63)).heap.size=w.heap.size+1:=by simp
     rw [hs0] at c1;clear h hs0
     by_cases hE:ja7 ds=0
     ·rw [show jej off ds=off by simp [jej,hE],show rowDs ds=ds by simp [rowDs,hE],hE];rw [hE] at c1;clear hE;go_enter Tryz.func32,Tryz.ntmps32;go_wp2_with fail;refine c1.out.mono ?_;rintro e w1 ⟨s,rfl,os,hg1⟩;have g1:=jaa g0 hg1;have OS:=jac os;have c2:=jac (jcL v ds w1 (H.out.more g1));have hsz:=hg1.size;simp only [World.size_alloc] at hsz;clear os;go_wp2_with fail;refine c2.out.mono ?_;rintro e w2 ⟨d,rfl,od,hg2⟩;have g2:=jaa g1 hg2;have hb:=jag b0.out (jaa hg1 hg2);obtain ⟨k0,k1,k2,f0,f1,f2⟩:=box_cells hb;obtain ⟨hX,gX,gB⟩:=store3 (.int .i64 off) d s g2 (Nat.le_refl _) hb;have OD:=jac (od.box gB (by omega));have OS2:=jac ((OS.out.new hg2).box gB (by omega));have AP:=jac (jd2 (v:=s) (v':=d) (a:=w1.heap.size) (b:=w1.heap.size) (fun k hk=>(OS.out.lt k hk).2) (fun k hk=>(od.lt k hk).1) (Nat.le_refl _));have HX:=jac hX;have GX:=jac gX;obtain ⟨da,dc,rfl,-,-,-,-,-,-⟩:=od.ints;obtain ⟨sa,sc,rfl,-,-,-,-,-,-⟩:=OS.out.ints;clear od hX gX gB hb;go_wp2;refine bodyPost_ret (ret_view rfl _ _ w.heap.size rfl HX.out) rfl ?_;refine ⟨_,rfl,⟨_,_,rfl,OD.out.base_le (by omega),OS2.out.base_le (by omega),ho1,ho2,?_⟩,GX.out⟩
      rcases AP.out with h | h
      ·rw [h];generalize Value.ownBlock _=o
       cases o with
       | none=>exact Or.inl rfl
       | some k=>exact Or.inr (by simp)
      ·exact Or.inr (fun e=>h e.symm)
     ·rw [show jej off ds=0 by simp [jej,hE],show rowDs ds=[] by simp [rowDs,hE]];rw [show jbM ds=[] by simp [jbM,hE]] at c1 ⊢;have hE':=jcD hE;obtain ⟨E,hEE⟩ : ∃ E,E=ja7 ds:=⟨_,rfl⟩
      rw [← hEE] at hE' c1 ⊢;clear hE hEE;go_enter Tryz.func32,Tryz.ntmps32;go_wp2_with fail;refine c1.out.mono ?_;rintro e w1 ⟨s,rfl,os,hg1⟩;have g1:=jaa g0 hg1;have hb:=jag b0.out hg1;obtain ⟨k0,k1,k2,f0,f1,f2⟩:=box_cells hb;obtain ⟨hX,gX,gB⟩:=store3 (.int .i64 0) (.slice none 0 0) (.slice none 0 0) g1 (Nat.le_refl _) hb;have HX:=jac hX;have GX:=jac gX;clear os hX gX gB hb;go_wp2;refine bodyPost_ret (ret_view rfl _ _ w.heap.size rfl HX.out) rfl ?_;exact ⟨_,rfl,OwnView.nil _ _,GX.out⟩
theorem whole_any (v:Value) (ds:List Int) (w:World) (h:IsInts w v ds) :
    Calls Tryz.prog 27 #[v] w fun e w'=>∃ u,e=.returned (.tuple #[u,.int .i64 (ja7 ds)])∧OwnView w' w.heap.size u 0 (rowDs ds) (jbM ds)∧w.grownBy w' none:=by
     have g0:=jab w (.cells #[.int .i64 0,.slice none 0 0,.slice none 0 0] 63);have b0:=jac (jnA w);have c1:=jnB 0 v ds _ (h.more g0) (by omega) (by omega);have hs0:(w.alloc (.cells #[.int .i64 0,.slice none 0 0,.slice none 0 0] 63)).heap.size=w.heap.size+1:=by simp
     rw [hs0,show jej 0 ds=0 by simp [jej]] at c1;have C1:=jac c1;clear h hs0 c1;go_enter Tryz.func27,Tryz.ntmps27;go_wp2_with fail;refine C1.out.mono ?_;rintro e w1 ⟨u,rfl,⟨d,s,rfl,od,os,_,_,ap⟩,hg1⟩;have g1:=jaa g0 hg1;have hb:=jag b0.out hg1;obtain ⟨k0,k1,k2,f0,f1,f2⟩:=box_cells hb;obtain ⟨hX,gX,gB⟩:=store3 (.int .i64 0) d s g1 (Nat.le_refl _) hb;have OD:=jac (od.box gB (by omega));have OS:=jac (os.box gB (by omega));have AP:=jac ap;have HX:=jac hX;have GX:=jac gX;obtain ⟨da,dc,rfl,-,-,-,-,-,-⟩:=od.ints;obtain ⟨sa,sc,rfl,-,-,-,-,-,-⟩:=os.ints;clear od os ap hX gX gB hb;go_wp2;refine bodyPost_ret (ret_view rfl _ _ w.heap.size rfl HX.out) rfl ?_;exact ⟨_,rfl,⟨_,_,rfl,OD.out.base_le (by omega),OS.out.base_le (by omega),by omega,by omega,AP.out⟩,GX.out⟩
theorem jaJ (w:World) (o o':Obj):((w.alloc o).alloc o').heap[w.heap.size]?=some o∧((w.alloc o).alloc o').heap[w.heap.size+1]?=some o':=by
 constructor
 ·rw [Below.heap_alloc _ _ _ (by simp)];exact heap_alloc_new w o
 ·have:=heap_alloc_new (w.alloc o) o';simpa using this
theorem jek {w wl : World} {B base : Nat} {z0 z1 z2 d s : Value} {off : Int} {ds ss : List Int} (hg : w.grownBy wl none) (hB : w.heap.size ≤ B) (hb : wl.heap[B]? = some (.cells #[z0, z1, z2] 63 (0, 0)))
    (hd:Owns wl base d ds) (hs:Owns wl base s ss) (hbB:B<base) (ho1 : -9223372036854775808≤off) (ho2:off≤9223372036854775807) (hap:d.ownBlock=none∨d.ownBlock≠s.ownBlock) :
    (((wl.setCell ⟨B,0,none⟩ (.int .i64 off)).setCell ⟨B,1,none⟩ d).setCell ⟨B,2,none⟩ s).heap[B]?=some (.cells #[.int .i64 off,d,s] 63 (0,0)) ∧
    OwnView (((wl.setCell ⟨B,0,none⟩ (.int .i64 off)).setCell ⟨B,1,none⟩ d).setCell ⟨B,2,none⟩ s) w.heap.size (.agg #[.int .i64 off,d,s]) off ds ss ∧
    w.grownBy (((wl.setCell ⟨B,0,none⟩ (.int .i64 off)).setCell ⟨B,1,none⟩ d).setCell ⟨B,2,none⟩ s) none:=by
     obtain ⟨hX,gX,gB⟩:=store3 (.int .i64 off) d s hg hB hb;exact ⟨hX,⟨d,s,rfl,(hd.box gB hbB).base_le (by omega),(hs.box gB hbB).base_le (by omega),ho1,ho2,hap⟩,gX⟩
theorem jlg {d s:Value} (h:s.ownBlock=none∨s.ownBlock≠d.ownBlock):d.ownBlock=none∨d.ownBlock≠s.ownBlock:=by
 rcases h with h | h
 ·rw [h]
  cases d.ownBlock with
  | none=>exact Or.inl rfl
  | some k=>exact Or.inr (by simp)
 ·exact Or.inr (fun e=>h e.symm)
end Go.Proofs.YtanpkdkenifmbaaGreatDoor.Vw
namespace Go.Proofs.YtanpkdkenifmbaaGreatDoor.Vw
open Go.RowKit
def spr (ds ss l:List Int):List Int :=
 (List.range l.length).map fun j=>if l.length - ds.length≤j∧ds.getD (j - (l.length - ds.length)) 0=l.getD j 0 then ss.getD (j - (l.length - ds.length)) 0 else 0
theorem jez (ds ss l:List Int):(spr ds ss l).length=l.length:=by simp [spr]
theorem jqu {ds ss l:List Int} {j:Nat} (hj:j<l.length) :
    (spr ds ss l).getD j 0=if l.length - ds.length≤j∧ds.getD (j - (l.length - ds.length)) 0=l.getD j 0 then ss.getD (j - (l.length - ds.length)) 0 else 0:=by
     rw [List.getD,List.getElem?_eq_getElem (by rw [jez];exact hj)];simp [spr]
theorem jdZ {n k t:Nat} {l:List Int} (hl:l.length=n) (hk:k≤n):(jbd n k l).getD t 0=if t<k then l.getD t 0 else 0:=by
 unfold jbd;simp only [List.getD,List.getElem?_append,List.length_take,List.getElem?_take,List.getElem?_replicate]
 by_cases h:t<k
 ·simp [h,show t<min k l.length by omega]
 ·simp only [h,show ¬ t<min k l.length by omega,if_false]
  split <;> rfl
theorem jcv {n k:Nat} {l:List Int} (hl:l.length=n) (hk:k≤n):(jbd n k l).length=n:=by
 simp [jbd];omega
theorem jnC {n k:Nat} {l:List Int} (hl:l.length=n) (hk:k≤n) (h:∀ t,t<k→l.getD t 0=0):List.replicate n 0=jbd n k l:=by
 refine jdt (by rw [jcv hl hk];simp) fun t ht=>?_;have ht':t<n:=by simpa using ht
 rw [jdZ hl hk]
 split
 ·rename_i h1;rw [h t h1];simp [List.getD,ht']
 ·simp [List.getD,ht']
theorem jnD {n k:Nat} {l:List Int} (hl:l.length=n) (hk:k<n) (h:l.getD k 0=0):jbd n k l=jbd n (k+1) l:=by
 refine jdt (by rw [jcv hl (by omega),jcv hl (by omega)]) fun t ht=>?_;rw [jdZ hl (by omega),jdZ hl (by omega)]
 by_cases h1:t<k
 ·simp [h1,show t<k+1 by omega]
 ·by_cases h2:t=k
  ·subst h2;rw [if_neg h1,if_pos (by omega),h]
  ·rw [if_neg h1,if_neg (by omega)]
def jpE (off:Int) (ds ss l:List Int) (E:Int) (off':Int) (ds' ss':List Int):Prop :=
 (¬ MayV off ds ss∧E=1∧off'=0∧ds'=[]∧ss'=[])∨(MayV off ds ss∧bcE ds l≠0∧E=bcE ds l∧off'=0∧ds'=[]∧ss'=[]) ∨
 (MayV off ds ss∧bcE ds l=0∧bcR ds l≠l∧E=4∧off'=0∧ds'=[]∧ss'=[]) ∨
 (MayV off ds ss∧bcE ds l=0∧bcR ds l=l∧E=0∧off'=off∧ds'=l∧ss'=spr ds ss l)
theorem jse {ds ss l:List Int} (h:∀ s∈ss,0≤s∧s≤65536):∀ z∈spr ds ss l,0≤z∧z≤65536:=by
 intro z hz;obtain ⟨j,_,rfl⟩:=List.mem_map.1 hz
 split
 ·rw [List.getD]
  cases e:ss[j - (l.length - ds.length)]? with
  | none=>simp
  | some x=>exact h x (List.mem_of_getElem? e)
 ·omega
theorem jrx {ds l:List Int} (hE:bcE ds l=0) (hR:bcR ds l=l):ds.length≤l.length∧ja7 l=0:=by
 have h1:l.length=rank ds l:=by rw [← jcn ds l (rank ds l),← show bcR ds l=bcL ds l (rank ds l) by simp [bcR,hE],hR]
 refine ⟨by simp only [rank] at h1;omega,?_⟩;unfold bcE at hE
 by_cases h2:ja7 l=0
 ·exact h2
 ·rw [if_pos h2] at hE
  split at hE
  ·contradiction
  ·exact hE
theorem spread_any (v lv:Value) (off:Int) (ds ss l:List Int) (w:World) (h:IsView w v off ds ss) (hl:IsInts w lv l) :
    Calls Tryz.prog 15 #[v,lv] w fun e w'=>∃ u E off' ds' ss',e=.returned (.tuple #[u,.int .i64 E])∧jpE off ds ss l E off' ds' ss'∧OwnView w' w.heap.size u off' ds' ss'∧w.grownBy w' none:=by
     obtain ⟨i0,hi,hz0,hz1,hz2⟩:=info_parts jcE;have hv:=h;obtain ⟨dv,sv,rfl,hd,hs,ho1,ho2⟩:=h;obtain ⟨w0,hw0⟩ : ∃ w0,w0=(w.alloc (.cells #[.int .i64 off,dv,sv] 63)).alloc (.cells #[.int .i64 0,.slice none 0 0,.slice none 0 0] 63):=⟨_,rfl⟩
     have g0:w.grownBy w0 none:=by rw [hw0];exact jaa (jab _ _) (jab _ _)
     have hs0:w0.heap.size=w.heap.size+2:=by rw [hw0];simp
     have hbx:=jaJ w (.cells #[.int .i64 off,dv,sv] 63) (.cells #[.int .i64 0,.slice none 0 0,.slice none 0 0] 63);rw [← hw0] at hbx
     have BX:Hid (∀ wx,w0.grownBy wx none→wx.heap[w.heap.size]?=some (.cells #[.int .i64 off,dv,sv] 63 (0,0))∧wx.heap[w.heap.size+1]?=some (.cells #[.int .i64 0,.slice none 0 0,.slice none 0 0] 63 (0,0))∧w.heap.size+2≤wx.heap.size) :=
      fun wx hg=>⟨jag hbx.1 hg,jag hbx.2 hg,by have:=hg.size;omega⟩
     have MB:=jac (jde _ off ds ss w0 (hv.more g0));have HD:=jac hd;have HS:=jac hs;have HL:=jac hl;obtain ⟨x0,x1,x2,-,-,-⟩:=box_cells hbx.1
     have FAIL:Hid (∀ wx,w0.grownBy wx none→(((wx.setCell ⟨w.heap.size+1,0,none⟩ (.int .i64 0)).setCell ⟨w.heap.size+1,1,none⟩ (.slice none 0 0)).setCell ⟨w.heap.size+1,2,none⟩ (.slice none 0 0)).heap[w.heap.size+1]?=some (.cells #[.int .i64 0,.slice none 0 0,.slice none 0 0] 63 (0,0))∧w.grownBy (((wx.setCell ⟨w.heap.size+1,0,none⟩ (.int .i64 0)).setCell ⟨w.heap.size+1,1,none⟩ (.slice none 0 0)).setCell ⟨w.heap.size+1,2,none⟩ (.slice none 0 0)) none):=fun wx hg=>by
      obtain ⟨hX,gX,_⟩:=store3 (.int .i64 0) (.slice none 0 0) (.slice none 0 0) (jaa g0 hg) (show w.heap.size≤w.heap.size+1 by omega) (BX.out wx hg).2.1;exact ⟨hX,gX⟩
     clear hv hbx
     by_cases hM:jfN off ds ss=true
     ·rw [hM] at MB;have HMV:=jac (mayB_iff.1 hM);clear hM;obtain ⟨da,dc,rfl,hd1,hd2,hd3,-,-,-⟩:=hd;obtain ⟨sa,sc,rfl,hs1,hs2,hs3,-,-,-⟩:=hs;obtain ⟨la,lc,rfl,hl1,hl2,hl3,-,-,-⟩:=hl;have hll:Hid (ds.length=ss.length):=HMV.out.len.symm;go_enter Tryz.func15,Tryz.ntmps15;go_wp2_with fail;rw [← hw0];clear hw0;refine MB.out.mono ?_;rintro e w1 ⟨rfl,hg1⟩;obtain ⟨y0,y1,y2,-,-,-⟩:=box_cells (BX.out w1 hg1).1;have g01:=jaa g0 hg1;have BC:=jac (jqb _ _ ds l w1 (HD.out.more g01) (HL.out.more g01));clear x0 x1 x2;go_wp2_with fail;refine BC.out.mono ?_;rintro e w2 ⟨r,rfl,or,hg2⟩;have g02:=jaa hg1 hg2;obtain ⟨k0,k1,k2,f0,f1,f2⟩:=box_cells (BX.out w2 g02).2.1;obtain ⟨ra,rc,rfl,hr1,hr2,hr3,-,-,-⟩:=or.ints;have OR:=jac or;clear or y0 y1 y2
      by_cases hE:bcE ds l=0
      ·have hE':(bcE ds l != 0)=false:=by simp [hE]
       have HE:=jac hE;have EQ:=jac (jd3 _ _ (bcR ds l) l w2 OR.out.ints (HL.out.more (jaa g0 g02)));clear hE;go_wp2_with fail;refine EQ.out.mono ?_;rintro e w3 ⟨rfl,hg3⟩;have g03:=jaa g02 hg3;obtain ⟨k0,k1,k2,f0,f1,f2⟩:=box_cells (BX.out w3 g03).2.1
       by_cases hR:bcR ds l=l
       ·have HR:=jac hR;rw [decide_eq_true hR];clear hR;obtain ⟨y0,y1,y2,-,-,-⟩:=box_cells (BX.out w3 g03).1;obtain ⟨hroom,hcl⟩:=jrx HE.out HR.out;have hl6:=(jaX hcl).few;have hb4:i0.bytes*l.length≤281474976710656:=by rw [hz2];omega
        have hb5:l.length≤maxLen:=by simp only [maxLen];omega
        clear hcl;go_wp2_with (refine wpList_make_full _ rfl (.tmp 33) (.tmp 33) 29 rfl w3.heap.size 3 i0 (.int .i64 0) 1 Tryz.underlying29 hi hz0 hz1 .i64 .i64 _ _ l.length rfl rfl rfl rfl hb4 hb5 (Nat.le_refl _) ?_;intro w4 hown hgrow;obtain ⟨q0,q1,q2,-,-,-⟩:=box_cells (BX.out w4 (jaa g03 hgrow)).1);rw [jby] at hown;obtain ⟨an,han⟩ : ∃ an:Nat,an=l.length - ds.length:=⟨_,rfl⟩
        have hsub:(l.length:Int) - (ds.length:Int)=(an:Int):=by omega
        have hroom2:an+ds.length≤l.length:=by omega
        have HAN:=jac han;have HSL:=jac (jez ds ss l);rw [hsub];have HST:=jac (jnC (n:=l.length) (k:=an) (l:=spr ds ss l) (jez ds ss l) (by omega) (fun t ht=>by rw [jqu (by omega),if_neg (fun h=>by omega)]));clear hsub han
        go_loopw [44] (fun i wr=>w3.grownBy wr none∧∃ k:Nat,k≤ds.length∧i=.int .i64 k ∧
         wr.ownsRow w3.heap.size 3 1 (.slice (some ⟨w3.heap.size,0,none⟩) l.length l.length) l.length ((jbd l.length (an+k) (spr ds ss l)).map (Value.int .i64))) (fun i _=>ds.length - (intOf i).toNat)
        case atStart=>exact ⟨hgrow,0,Nat.zero_le _,rfl,by rw [Nat.add_zero,← HST.out];exact hown⟩
        case round =>
         clear hown hgrow q0 q1 q2 y0 y1 y2 k0 k1 k2 f0 f1 f2;obtain ⟨hw,k,hk,rfl,hown⟩:=hrel;rename_i wr;have g0r:=jaa g03 hw;obtain ⟨y0,y1,y2,-,-,-⟩:=box_cells (BX.out wr g0r).1
         by_cases hkl:k<ds.length
         ·have hkl2:an+k<l.length:=by omega
          have hkl3:k<ss.length:=by have:=hll.out;omega
          obtain ⟨bd,od,rfl⟩:=jbp HD.out (by omega);obtain ⟨bl,ol,rfl⟩:=jbp HL.out (by omega);obtain ⟨bs,os,rfl⟩:=jbp HS.out (by omega);have cd:=jbk (HD.out.more (jaa g0 g0r)) hkl;have cl:=jbk (HL.out.more (jaa g0 g0r)) hkl2;have cs:=jbk (HS.out.more (jaa g0 g0r)) hkl3;have hsp:=jqu (ds:=ds) (ss:=ss) (l:=l) hkl2;rw [← HAN.out,show an+k - an=k by omega] at hsp;obtain ⟨D,hD⟩ : ∃ D,D=ds.getD k 0:=⟨_,rfl⟩
          obtain ⟨L,hL⟩ : ∃ L,L=l.getD (an+k) 0:=⟨_,rfl⟩
          obtain ⟨S,hS⟩ : ∃ S,S=ss.getD k 0:=⟨_,rfl⟩
          rw [← hD] at cd hsp;rw [← hL] at cl hsp;rw [← hS] at cs hsp;clear hD hL hS
          by_cases hDL:D=L
          ·rw [if_pos ⟨by omega,hDL⟩] at hsp;have hDL':(D==L)=true:=by simp [hDL]
           obtain ⟨⟨c,hc⟩,hf,hown2,hw2⟩:=jhr (z:=S) hkl2 HSL.out hsp.symm hw hown;have HO:=jac hown2;have HW:=jac hw2;clear hown hown2 hw2 hw hsp hDL;go_wp2;go_roundw
           case rel=>exact ⟨HW.out,k+1,by omega,by go_num,HO.out⟩
           case measure=>simp [intOf];omega
          ·rw [if_neg (fun h=>hDL h.2)] at hsp;have hDL':(D==L)=false:=by simp [hDL]
           rw [jnD HSL.out hkl2 hsp] at hown;have HO:=jac hown;have HW:=jac hw;clear hown hw hsp hDL;go_wp2;go_roundw
           case rel=>exact ⟨HW.out,k+1,by omega,by go_num,HO.out⟩
           case measure=>simp [intOf];omega
         ·obtain ⟨k0,k1,k2,f0,f1,f2⟩:=box_cells (BX.out wr g0r).2.1;have hsz1:w.heap.size+2≤w1.heap.size:=(BX.out w1 hg1).2.2;have hsz3:w.heap.size+2≤w3.heap.size:=(BX.out w3 g03).2.2
          have OR2:Owns w2 w1.heap.size (.slice ra (bcR ds l).length rc) l:=by
           have:=OR.out;rw [HR.out] at this ⊢;exact this
          have OS:Owns wr w3.heap.size (.slice (some ⟨w3.heap.size,0,none⟩) l.length l.length) (spr ds ss l):=by
           refine ⟨?_,by rw [HSL.out];omega,fun z hz=>by have:=jse HMV.out.str z hz;omega⟩;rw [show jbd l.length (an+k) (spr ds ss l)=spr ds ss l by simp [jbd,show l.length - (an+k)=0 by have:=HAN.out;omega,List.take_of_length_le (show (spr ds ss l).length≤an+k by rw [HSL.out];have:=HAN.out;omega)]] at hown;rw [HSL.out];exact hown
          obtain ⟨HX,OV,GX⟩:=jek (off:=off) (base:=w.heap.size+2) (jaa g0 g0r) (show w.heap.size≤w.heap.size+1 by omega) (BX.out wr g0r).2.1 ((OR2.new (jaa hg3 hw)).base_le hsz1) (OS.base_le hsz3) (by omega) ho1 ho2 (jd2 (fun k hk=>(OR2.lt k hk).2) (fun k hk=>(OS.lt k hk).1) hg3.size);have HXX:=jac HX;have HOV:=jac OV;have HGX:=jac GX;clear HX OV GX OS OR2 hown;go_wp2;refine bodyPost_ret (ret_view rfl _ _ (w.heap.size+1) rfl HXX.out) rfl ?_;exact ⟨_,0,off,_,_,rfl,Or.inr (Or.inr (Or.inr ⟨HMV.out,HE.out,HR.out,rfl,rfl,rfl,rfl⟩)),HOV.out,HGX.out⟩
       ·have HR:=jac hR;rw [decide_eq_false hR];clear hR;go_wp2;refine bodyPost_ret (ret_view rfl _ _ (w.heap.size+1) rfl (FAIL.out w3 g03).1) rfl ?_;exact ⟨_,4,0,[],[],rfl,Or.inr (Or.inr (Or.inl ⟨HMV.out,HE.out,HR.out,rfl,rfl,rfl,rfl⟩)),OwnView.nil _ _,(FAIL.out w3 g03).2⟩
      ·have hE':(bcE ds l != 0)=true:=by simp [hE]
       have HE:=jac hE;clear hE;go_wp2;refine bodyPost_ret (ret_view rfl _ _ (w.heap.size+1) rfl (FAIL.out w2 g02).1) rfl ?_;exact ⟨_,_,0,[],[],rfl,Or.inr (Or.inl ⟨HMV.out,HE.out,rfl,rfl,rfl,rfl⟩),OwnView.nil _ _,(FAIL.out w2 g02).2⟩
     ·have hM':jfN off ds ss=false:=by simpa using hM
      have HNM:Hid (¬ MayV off ds ss):=fun h=>hM (mayB_iff.2 h);rw [hM'] at MB;clear hM hM';go_enter Tryz.func15,Tryz.ntmps15;go_wp2_with fail;rw [← hw0];clear hw0;refine MB.out.mono ?_;rintro e w1 ⟨rfl,hg1⟩;obtain ⟨k0,k1,k2,f0,f1,f2⟩:=box_cells (BX.out w1 hg1).2.1;go_wp2;refine bodyPost_ret (ret_view rfl _ _ (w.heap.size+1) rfl (FAIL.out w1 hg1).1) rfl ?_;exact ⟨_,1,0,[],[],rfl,Or.inl ⟨HNM.out,rfl,rfl,rfl,rfl⟩,OwnView.nil _ _,(FAIL.out w1 hg1).2⟩
end Go.Proofs.YtanpkdkenifmbaaGreatDoor.Vw
namespace Go.Proofs.YtanpkdkenifmbaaGreatDoor.Vw
open Go.RowKit
def Tells (p:Prop) (w:World) (e:Ending) (w':World):Prop:=∃ b,e=.returned (.bool b)∧(b=true↔p)∧w.grownBy w' none
def jgA (ds ss:List Int):Prop:=∀ t,t<ds.length→ds.getD t 0≠1→ss.getD t 0=(jbo ds).getD t 0
theorem jjh (v:Value) (off:Int) (ds ss:List Int) (w:World) (h:IsView w v off ds ss) (hm:MayV off ds ss) :
    Calls Tryz.prog 31 #[v] w (Tells (jgA ds ss) w):=by
     obtain ⟨dv,sv,rfl,hd,hs,ho1,ho2⟩:=h;have g0:=jab w (.cells #[.int .i64 off,dv,sv] 63);have b0:=jac (show (w.alloc (.cells #[.int .i64 off,dv,sv] 63)).heap[w.heap.size]?=some (.cells #[.int .i64 off,dv,sv] 63 (0,0)) from heap_alloc_new w _);have c1:=je0 dv ds _ (hd.more g0);rw [hm.fine.ok,show jbM ds=jbo ds by simp [jbM,hm.fine.ok]] at c1;have C1:=jac c1;have HD:=jac hd;have HS:=jac hs;have hll:ds.length≤ss.length:=by have:=hm.len;omega
     have hls:ds.length≤(jbo ds).length:=by rw [jbs];omega
     obtain ⟨da,dc,rfl,hd1,hd2,hd3,-,-,-⟩:=hd;obtain ⟨sa,sc,rfl,hs1,hs2,hs3,-,-,-⟩:=hs;clear c1 hm;go_enter Tryz.func31,Tryz.ntmps31;go_wp2_with fail;refine C1.out.mono ?_;rintro e w1 ⟨s,rfl,os,hg1⟩;have g1:=jaa g0 hg1;have OS:=jac os.ints;obtain ⟨x0,x1,x2,-,-,-⟩:=box_cells (jag b0.out hg1);obtain ⟨pa,pc,rfl,hp1,hp2,hp3,-,-,-⟩:=os.ints;clear os;go_wp2;go_loopw [16] (fun i wr=>w1.grownBy wr none∧∃ k:Nat,k≤ds.length∧i=.int .i64 k∧∀ t,t<k→ds.getD t 0≠1→ss.getD t 0=(jbo ds).getD t 0) (fun i _=>ds.length - (intOf i).toNat)
     case atStart=>exact ⟨jae _,0,Nat.zero_le _,rfl,fun t h=>absurd h (by omega)⟩
     case round =>
      obtain ⟨hw,k,hk,rfl,hp⟩:=hrel;have HP:=jac hp;clear hp x0 x1 x2
      by_cases hkl:k<ds.length
      ·have gr:=jaa g1 hw;obtain ⟨x0,x1,x2,-,-,-⟩:=box_cells (jag b0.out (jaa hg1 hw));obtain ⟨bd,od,rfl⟩:=jbp HD.out (by omega);obtain ⟨bs,os,rfl⟩:=jbp HS.out (by omega);obtain ⟨bp,op,hop⟩:=jbp OS.out (by omega);subst hop;have cd:=jbk (HD.out.more gr) hkl;have cs:=jbk (HS.out.more gr) (k:=k) (by omega);have cp:=jbk (OS.out.more hw) (k:=k) (by omega);have hks:k<ss.length:=by omega
       have hkp:k<(jbo ds).length:=by omega
       obtain ⟨d,hdd⟩ : ∃ d,d=ds.getD k 0:=⟨_,rfl⟩
       obtain ⟨s,hss⟩ : ∃ s,s=ss.getD k 0:=⟨_,rfl⟩
       obtain ⟨p,hpp⟩ : ∃ p,p=(jbo ds).getD k 0:=⟨_,rfl⟩
       rw [← hdd] at cd;rw [← hss] at cs;rw [← hpp] at cp;have HDD:=jac hdd;have HSS:=jac hss;have HPP:=jac hpp;clear hdd hss hpp
       by_cases h1:d=1
       ·have t1:(d != 1)=false:=by simp [h1]
        have H1:=jac h1;clear h1;go_wp2;go_region
        all_goals go_wp2
        all_goals
         go_roundw
         case rel =>
          refine ⟨jaf hw,k+1,by omega,by go_num,fun t ht hne=>?_⟩
          rcases jaL ht with h | rfl
          ·exact HP.out t h hne
          ·exact absurd (HDD.out.symm.trans H1.out) hne
         case measure=>simp [intOf];omega
       ·have t1:(d != 1)=true:=by simp [h1]
        have H1:=jac h1;clear h1
        by_cases h2:s=p
        ·have t2:(s != p)=false:=by simp [h2]
         have H2:=jac h2;clear h2;go_wp2;go_region
         all_goals go_wp2
         all_goals
          go_roundw
          case rel =>
           refine ⟨jaf hw,k+1,by omega,by go_num,fun t ht hne=>?_⟩
           rcases jaL ht with h | rfl
           ·exact HP.out t h hne
           ·rw [← HSS.out,← HPP.out,H2.out]
          case measure=>simp [intOf];omega
        ·have t2:(s != p)=true:=by simp [h2]
         have H2:=jac h2;clear h2;have HF:Hid (¬ jgA ds ss):=fun hP=>H2.out (by rw [HSS.out,HPP.out];exact hP k hkl (by rw [← HDD.out];exact H1.out));go_wp2;go_region
         all_goals go_wp2
         all_goals go_ret
         all_goals exact ⟨false,rfl,⟨fun h=>(by cases h),fun h=>absurd h HF.out⟩,jaa g1 (jaf hw)⟩
      ·have HT:Hid (jgA ds ss):=fun t ht=>HP.out t (by omega);go_wp2;go_ret;exact ⟨true,rfl,⟨fun _=>HT.out,fun _=>rfl⟩,jaa g1 hw⟩
def jpF (off:Int) (ds ss l:List Int) (E:Int) (off':Int) (ds' ss':List Int):Prop :=
 (¬ MayV off ds ss∧E=1∧off'=0∧ds'=[]∧ss'=[])∨(MayV off ds ss∧ja7 l≠0∧E=ja7 l∧off'=0∧ds'=[]∧ss'=[]) ∨
 (MayV off ds ss∧Fine l∧jaB ds≠jaB l∧E=4∧off'=0∧ds'=[]∧ss'=[])∨(MayV off ds ss∧Fine l∧jaB ds=jaB l∧¬ jgA ds ss∧E=1∧off'=0∧ds'=[]∧ss'=[]) ∨
 (MayV off ds ss∧Fine l∧jaB ds=jaB l∧jgA ds ss∧E=0∧off'=off∧ds'=l∧ss'=jbo l)
theorem reshape_any (v lv:Value) (off:Int) (ds ss l:List Int) (w:World) (h:IsView w v off ds ss) (hl:IsInts w lv l) :
    Calls Tryz.prog 14 #[v,lv] w fun e w'=>∃ u E off' ds' ss',e=.returned (.tuple #[u,.int .i64 E])∧jpF off ds ss l E off' ds' ss'∧OwnView w' w.heap.size u off' ds' ss'∧w.grownBy w' none:=by
     have hv:=h;obtain ⟨dv,sv,rfl,hd,hs,ho1,ho2⟩:=h;obtain ⟨w0,hw0⟩ : ∃ w0,w0=(w.alloc (.cells #[.int .i64 off,dv,sv] 63)).alloc (.cells #[.int .i64 0,.slice none 0 0,.slice none 0 0] 63):=⟨_,rfl⟩
     have g0:w.grownBy w0 none:=by rw [hw0];exact jaa (jab _ _) (jab _ _)
     have hs0:w0.heap.size=w.heap.size+2:=by rw [hw0];simp
     have hbx:=jaJ w (.cells #[.int .i64 off,dv,sv] 63) (.cells #[.int .i64 0,.slice none 0 0,.slice none 0 0] 63);rw [← hw0] at hbx
     have BX:Hid (∀ wx,w0.grownBy wx none→wx.heap[w.heap.size]?=some (.cells #[.int .i64 off,dv,sv] 63 (0,0))∧wx.heap[w.heap.size+1]?=some (.cells #[.int .i64 0,.slice none 0 0,.slice none 0 0] 63 (0,0))∧w.heap.size+2≤wx.heap.size) :=
      fun wx hg=>⟨jag hbx.1 hg,jag hbx.2 hg,by have:=hg.size;omega⟩
     have MB:=jac (jde _ off ds ss w0 (hv.more g0));have HV:=jac hv;have HD:=jac hd;have HL:=jac hl;obtain ⟨x0,x1,x2,-,-,-⟩:=box_cells hbx.1
     have FAIL:Hid (∀ wx,w0.grownBy wx none→(((wx.setCell ⟨w.heap.size+1,0,none⟩ (.int .i64 0)).setCell ⟨w.heap.size+1,1,none⟩ (.slice none 0 0)).setCell ⟨w.heap.size+1,2,none⟩ (.slice none 0 0)).heap[w.heap.size+1]?=some (.cells #[.int .i64 0,.slice none 0 0,.slice none 0 0] 63 (0,0))∧w.grownBy (((wx.setCell ⟨w.heap.size+1,0,none⟩ (.int .i64 0)).setCell ⟨w.heap.size+1,1,none⟩ (.slice none 0 0)).setCell ⟨w.heap.size+1,2,none⟩ (.slice none 0 0)) none):=fun wx hg=>by
      obtain ⟨hX,gX,_⟩:=store3 (.int .i64 0) (.slice none 0 0) (.slice none 0 0) (jaa g0 hg) (show w.heap.size≤w.heap.size+1 by omega) (BX.out wx hg).2.1;exact ⟨hX,gX⟩
     clear hv hbx hs hl hd
     by_cases hM:jfN off ds ss=true
     ·rw [hM] at MB;have HMV:=jac (mayB_iff.1 hM);clear hM
      by_cases hE:ja7 l=0
      ·have HF:=jac (jaX hE)
       by_cases hP:jaB ds=jaB l
       ·go_enter Tryz.func14,Tryz.ntmps14;go_wp2_with fail;rw [← hw0];clear hw0;refine MB.out.mono ?_;rintro e w1 ⟨rfl,hg1⟩;obtain ⟨y0,y1,y2,-,-,-⟩:=box_cells (BX.out w1 hg1).1;have g1:=jaa g0 hg1;have c1:=jbe lv l w1 (HL.out.more g1);have c2:=jbe dv ds w1 (HD.out.more g1);rw [hE,HF.out.cnt] at c1;rw [HMV.out.fine.ok,HMV.out.fine.cnt,hP] at c2;have C1:=jac c1;have C2:=jac c2;have C3:=jac (jjh _ off ds ss w1 (HV.out.more g1) HMV.out);obtain ⟨M,hMM⟩ : ∃ M,M=jaB l:=⟨_,rfl⟩
        rw [← hMM] at C1 C2;have HP:=jac hP;clear c1 c2 hE hP hMM x0 x1 x2;go_wp2_with fail;refine C1.out.mono ?_;rintro e w' ⟨rfl,rfl⟩;go_wp2_with fail;refine C2.out.mono ?_;rintro e w' ⟨rfl,rfl⟩;go_wp2_with fail;refine C3.out.mono ?_;rintro e w2 ⟨b,rfl,hb,hg2⟩;have g2:=jaa hg1 hg2;obtain ⟨z0,z1,z2,-,-,-⟩:=box_cells (BX.out w2 g2).1
        cases b with
        | true =>
         have PP:=jac (hb.1 rfl);have c4:=jnB off lv l w2 (HL.out.more (jaa g0 g2)) ho1 ho2;rw [HF.out.ok,show jej off l=off by simp [jej,HF.out.ok],show rowDs l=l by simp [rowDs,HF.out.ok],show jbM l=jbo l by simp [jbM,HF.out.ok]] at c4;have C4:=jac c4;have hsz:=(BX.out w2 g2).2.2;clear c4 hb y0 y1 y2;go_wp2_with fail;refine C4.out.mono ?_;rintro e w3 ⟨u,rfl,⟨d,s,rfl,od,os,_,_,ap⟩,hg3⟩;have g3:=jaa g2 hg3;obtain ⟨k0,k1,k2,f0,f1,f2⟩:=box_cells (BX.out w3 g3).2.1;obtain ⟨HX,OV,GX⟩:=jek (off:=off) (base:=w.heap.size+2) (jaa g0 g3) (show w.heap.size≤w.heap.size+1 by omega) (BX.out w3 g3).2.1 (od.base_le hsz) (os.base_le hsz) (by omega) ho1 ho2 ap;obtain ⟨da,dc,rfl,-,-,-,-,-,-⟩:=od.ints;obtain ⟨sa,sc,rfl,-,-,-,-,-,-⟩:=os.ints;have HXX:=jac HX;have HOV:=jac OV;have HGX:=jac GX;clear HX OV GX od os ap;go_wp2;refine bodyPost_ret (ret_view rfl _ _ (w.heap.size+1) rfl HXX.out) rfl ?_;exact ⟨_,0,off,_,_,rfl,Or.inr (Or.inr (Or.inr (Or.inr ⟨HMV.out,HF.out,HP.out,PP.out,rfl,rfl,rfl,rfl⟩))),HOV.out,HGX.out⟩
        | false =>
         have PP:Hid (¬ jgA ds ss):=fun h=>by have:=hb.2 h;cases this
         obtain ⟨k0,k1,k2,f0,f1,f2⟩:=box_cells (BX.out w2 g2).2.1;clear hb y0 y1 y2;go_wp2;refine bodyPost_ret (ret_view rfl _ _ (w.heap.size+1) rfl (FAIL.out w2 g2).1) rfl ?_;exact ⟨_,1,0,[],[],rfl,Or.inr (Or.inr (Or.inr (Or.inl ⟨HMV.out,HF.out,HP.out,PP.out,rfl,rfl,rfl,rfl⟩))),OwnView.nil _ _,(FAIL.out w2 g2).2⟩
       ·have hP':(jaB ds != jaB l)=true:=by simp [hP]
        have HP:=jac hP;go_enter Tryz.func14,Tryz.ntmps14;go_wp2_with fail;rw [← hw0];clear hw0;refine MB.out.mono ?_;rintro e w1 ⟨rfl,hg1⟩;obtain ⟨y0,y1,y2,-,-,-⟩:=box_cells (BX.out w1 hg1).1;obtain ⟨k0,k1,k2,f0,f1,f2⟩:=box_cells (BX.out w1 hg1).2.1;have g1:=jaa g0 hg1;have c1:=jbe lv l w1 (HL.out.more g1);have c2:=jbe dv ds w1 (HD.out.more g1);rw [hE,HF.out.cnt] at c1;rw [HMV.out.fine.ok,HMV.out.fine.cnt] at c2;have C1:=jac c1;have C2:=jac c2;obtain ⟨M,hMM⟩ : ∃ M,M=jaB l:=⟨_,rfl⟩
        obtain ⟨K,hKK⟩ : ∃ K,K=jaB ds:=⟨_,rfl⟩
        rw [← hMM] at C1 hP';rw [← hKK] at C2 hP';clear c1 c2 hE hP hMM hKK x0 x1 x2;go_wp2_with fail;refine C1.out.mono ?_;rintro e w' ⟨rfl,rfl⟩;go_wp2_with fail;refine C2.out.mono ?_;rintro e w' ⟨rfl,rfl⟩;go_wp2;refine bodyPost_ret (ret_view rfl _ _ (w.heap.size+1) rfl (FAIL.out w1 hg1).1) rfl ?_;exact ⟨_,4,0,[],[],rfl,Or.inr (Or.inr (Or.inl ⟨HMV.out,HF.out,HP.out,rfl,rfl,rfl,rfl⟩)),OwnView.nil _ _,(FAIL.out w1 hg1).2⟩
      ·have hE':=jcD hE;have HE:=jac hE;go_enter Tryz.func14,Tryz.ntmps14;go_wp2_with fail;rw [← hw0];clear hw0;refine MB.out.mono ?_;rintro e w1 ⟨rfl,hg1⟩;obtain ⟨y0,y1,y2,-,-,-⟩:=box_cells (BX.out w1 hg1).1;obtain ⟨k0,k1,k2,f0,f1,f2⟩:=box_cells (BX.out w1 hg1).2.1;have C1:=jac (jbe lv l w1 (HL.out.more (jaa g0 hg1)));obtain ⟨E,hEE⟩ : ∃ E,E=ja7 l:=⟨_,rfl⟩
       rw [← hEE] at C1 hE';have HEE:=jac hEE;clear hE hEE x0 x1 x2;go_wp2_with fail;refine C1.out.mono ?_;rintro e w' ⟨rfl,rfl⟩;go_wp2;refine bodyPost_ret (ret_view rfl _ _ (w.heap.size+1) rfl (FAIL.out w1 hg1).1) rfl ?_;exact ⟨_,E,0,[],[],rfl,Or.inr (Or.inl ⟨HMV.out,HE.out,HEE.out,rfl,rfl,rfl⟩),OwnView.nil _ _,(FAIL.out w1 hg1).2⟩
     ·have hM':jfN off ds ss=false:=by simpa using hM
      have HNM:Hid (¬ MayV off ds ss):=fun h=>hM (mayB_iff.2 h);rw [hM'] at MB;clear hM hM';go_enter Tryz.func14,Tryz.ntmps14;go_wp2_with fail;rw [← hw0];clear hw0;refine MB.out.mono ?_;rintro e w1 ⟨rfl,hg1⟩;obtain ⟨k0,k1,k2,f0,f1,f2⟩:=box_cells (BX.out w1 hg1).2.1;go_wp2;refine bodyPost_ret (ret_view rfl _ _ (w.heap.size+1) rfl (FAIL.out w1 hg1).1) rfl ?_;exact ⟨_,1,0,[],[],rfl,Or.inl ⟨HNM.out,rfl,rfl,rfl,rfl⟩,OwnView.nil _ _,(FAIL.out w1 hg1).2⟩
end Go.Proofs.YtanpkdkenifmbaaGreatDoor.Vw
namespace Go.Proofs.YtanpkdkenifmbaaGreatDoor.Vw
open Go.RowKit
structure IsPerm (perm:List Int) (n:Nat):Prop where
 len:perm.length=n
 rng:∀ p∈perm,0≤p∧p<n
 once:perm.Nodup
def pickL (l perm:List Int):List Int:=perm.map (fun p=>l.getD p.toNat 0)
theorem jjS (v u:Value) (l perm:List Int) (w:World) (h:IsInts w v l) (hu:IsInts w u perm) (hr:∀ p∈perm,0≤p∧p<l.length) (hl6:perm.length≤6) :
    Calls Tryz.prog 36 #[v,u] w fun e w'=>∃ r,e=.returned r∧Owns w' w.heap.size r (pickL l perm)∧w.grownBy w' none:=by
     obtain ⟨i0,hi,hz0,hz1,hz2⟩:=info_parts jcE;have h0:=jac h;have hu0:=jac hu;have HR:=jac hr;have hpl:(pickL l perm).length=perm.length:=by simp [pickL]
     have HPL:=jac hpl;obtain ⟨ao,cap,rfl,h1,h2,h3,-,-,-⟩:=h;obtain ⟨bo,bcap,rfl,hb1,hb2,hb3,-,-,-⟩:=hu;have hb4:i0.bytes*perm.length≤281474976710656:=by rw [hz2];omega
     have hb5:perm.length≤maxLen:=by simp only [maxLen];omega
     clear hr hpl;go_enter Tryz.func36,Tryz.ntmps36;go_wp2_with (refine wpList_make_full _ rfl (.tmp 9) (.tmp 9) 29 rfl w.heap.size 3 i0 (.int .i64 0) 1 Tryz.underlying29 hi hz0 hz1 .i64 .i64 _ _ perm.length rfl rfl rfl rfl hb4 hb5 (Nat.le_refl _) ?_;intro w1 hown hgrow);rw [jby] at hown
     go_loopw [13] (fun i wr=>w.grownBy wr none∧∃ k:Nat,k≤perm.length∧i=.int .i64 k ∧
      wr.ownsRow w.heap.size 3 1 (.slice (some ⟨w.heap.size,0,none⟩) perm.length perm.length) perm.length ((jbd perm.length k (pickL l perm)).map (Value.int .i64))) (fun i _=>perm.length - (intOf i).toNat)
     case atStart=>exact ⟨hgrow,0,Nat.zero_le _,rfl,by simpa [jbd] using hown⟩
     case round =>
      clear hown hgrow;obtain ⟨hw,k,hk,rfl,hown⟩:=hrel
      by_cases hkl:k<perm.length
      ·obtain ⟨b',o',rfl⟩:=jbp hu0.out (by omega);have hcp:=jbk (hu0.out.more hw) hkl;have hrg:=HR.out (perm.getD k 0) (by rw [List.getD,List.getElem?_eq_getElem hkl];simp);obtain ⟨pn,hpn⟩ : ∃ pn:Nat,perm.getD k 0=pn:=⟨(perm.getD k 0).toNat,by omega⟩
       have hpn2:pn<l.length:=by omega
       rw [hpn] at hcp;obtain ⟨b,o,rfl⟩:=jbp h0.out (by omega);have hcl:=jbk (h0.out.more hw) hpn2
       have hz:l.getD pn 0=(pickL l perm).getD k 0:=by
        have e:perm[k]'hkl=(pn:Int):=by rw [← hpn];simp [List.getD,hkl]
        simp [pickL,List.getD,hkl,e]
       obtain ⟨z,hzz⟩ : ∃ z,z=l.getD pn 0:=⟨_,rfl⟩
       rw [← hzz] at hcl hz;obtain ⟨⟨c,hc⟩,hf,hown2,hw2⟩:=jhr (z:=z) hkl HPL.out hz hw hown;have HO:=jac hown2;have HW:=jac hw2;clear hown hown2 hw2 hw hz hzz hpn hrg;go_wp2;go_roundw
       case rel=>exact ⟨HW.out,k+1,by omega,by go_num,HO.out⟩
       case measure=>simp [intOf];omega
      ·have HO:=jac hown;clear hown;go_wp2;go_ret;refine ⟨_,rfl,⟨?_,?_,?_⟩,hw⟩
       ·have:=HO.out;rw [show jbd perm.length k (pickL l perm)=pickL l perm by simp [jbd,show perm.length - k=0 by omega,List.take_of_length_le (show (pickL l perm).length≤k by rw [HPL.out];omega)]] at this;rw [HPL.out];exact this
       ·rw [HPL.out];omega
       ·intro s hs;obtain ⟨p,hp,rfl⟩:=List.mem_map.1 hs;have:=HR.out p hp;exact h0.out.wf _ (by rw [List.getD,List.getElem?_eq_getElem (by omega)];simp)
def Told (perm:List Int) (n:Nat) (w:World) (e:Ending) (w':World):Prop:=∃ b,e=.returned (.bool b)∧(b=true↔IsPerm perm n)∧w.grownBy w' none
structure Met (m:Array Value) (perm:List Int) (k:Nat):Prop where
 size:m.size=6
 mark:∀ j:Nat,j<6→m[j]?=some (.bool (decide ((j:Int)∈perm.take k)))
theorem jpG (perm:List Int):Met #[.bool false,.bool false,.bool false,.bool false,.bool false,.bool false] perm 0:=by
 refine ⟨rfl,fun j hj=>?_⟩;simp only [List.take_zero,List.not_mem_nil,decide_false]
 match j,hj with
 | 0,_=>rfl
 | 1,_=>rfl
 | 2,_=>rfl
 | 3,_=>rfl
 | 4,_=>rfl
 | 5,_=>rfl
theorem Met.cell {m:Array Value} {perm:List Int} {k B:Nat} {e:TypeId} {w:World} (h:Met m perm k) (hb:w.heap[B]?=some (.cells m e (0,0))) (j:Nat) (hj:j<6):w.cell? ⟨B,j,none⟩=some (.bool (decide ((j:Int)∈perm.take k))) :=
 (cell_of_row w B j m e (0,0) hb).trans (h.mark j hj)
theorem Met.put {m:Array Value} {perm:List Int} {k p:Nat} (h:Met m perm k) (hs:perm.take (k+1)=perm.take k++[(p:Int)]) (_hp:p<6):Met (m.setIfInBounds p (.bool true)) perm (k+1):=by
 refine ⟨by simpa using h.size,fun j hj=>?_⟩;rw [hs,Array.getElem?_setIfInBounds]
 by_cases e:p=j
 ·subst e;simp [h.size,hj]
 ·rw [if_neg e,h.mark j hj];have:¬ (j:Int)=(p:Int):=by omega
  simp [this]
theorem jnE (v:Value) (perm:List Int) (n:Nat) (w:World) (h:IsInts w v perm) (hn:n≤6) :
    Calls Tryz.prog 35 #[v,.int .i64 n] w (Told perm n w):=by
     have h0:=jac h;obtain ⟨ao,cap,rfl,h1,h2,h3,-,-,-⟩:=h
     by_cases hl:perm.length=n
     ·have hl':((perm.length:Int) != (n:Int))=false:=by simp [hl]
      have HL:=jac hl;have hl6:perm.length≤6:=by omega
      have hl7:n≤perm.length:=by omega
      have hl8:perm.length≤n:=by omega
      clear hl;go_enter Tryz.func35,Tryz.ntmps35;go_wp2;go_loopw [14] (fun i wr=>w.grownBy wr none∧∃ (k:Nat) (m:Array Value),k≤perm.length∧i=.int .i64 k∧wr.heap[w.heap.size]?=some (.cells m 101 (0,0))∧Met m perm k∧(∀ p∈perm.take k,0≤p∧p<n)∧(perm.take k).Nodup) (fun i _=>perm.length - (intOf i).toNat)
      case atStart=>exact ⟨jab _ _,0,_,Nat.zero_le _,rfl,heap_alloc_new w _,jpG perm,fun p hp=>by simp at hp,by simp⟩
      case round =>
       obtain ⟨hw,k,m,hk,rfl,hblk,hmet,hrng,hnd⟩:=hrel;have HB:=jac hblk;have HM:=jac hmet;have HR:=jac hrng;have HN:=jac hnd;clear hblk hmet hrng hnd
       by_cases hkl:k<perm.length
       ·obtain ⟨b,o,rfl⟩:=jbp h0.out (by omega);have hcp:=jbk (h0.out.more hw) hkl;have hst:=jcJ perm k hkl;have hmem:perm.getD k 0∈perm:=by rw [List.getD,List.getElem?_eq_getElem hkl];simp
        obtain ⟨p,hp⟩ : ∃ p,p=perm.getD k 0:=⟨_,rfl⟩
        rw [← hp] at hcp hst hmem;have HST:=jac hst;have HME:=jac hmem;clear hp hst hmem
        by_cases hp0:p<0
        ·have HF:Hid (¬ IsPerm perm n):=fun hP=>by have:=hP.rng p HME.out;omega
         go_wp2;go_ret;exact ⟨false,rfl,⟨fun h=>(by cases h),fun h=>absurd h HF.out⟩,hw⟩
        ·by_cases hp1:(n:Int)≤p
         ·have HF:Hid (¬ IsPerm perm n):=fun hP=>by have:=hP.rng p HME.out;omega
          go_wp2;go_ret;exact ⟨false,rfl,⟨fun h=>(by cases h),fun h=>absurd h HF.out⟩,hw⟩
         ·obtain ⟨pn,rfl⟩ : ∃ pn:Nat,p=pn:=⟨p.toNat,by omega⟩
          have hpn:pn<n:=by omega
          have hcell:=HM.out.cell HB.out pn (by omega);have hfr:=frozen_of_row wr w.heap.size pn m _ HB.out
          by_cases hin:(pn:Int)∈perm.take k
          ·have hd:decide ((pn:Int)∈perm.take k)=true:=decide_eq_true hin;rw [hd] at hcell
           have HF:Hid (¬ IsPerm perm n):=fun hP=>by
            have h1:=hP.once.sublist (List.take_sublist (k+1) perm);rw [HST.out,List.nodup_append] at h1;exact absurd rfl (h1.2.2 _ hin _ (by simp))
           clear hd hin;go_wp2;go_ret;exact ⟨false,rfl,⟨fun h=>(by cases h),fun h=>absurd h HF.out⟩,hw⟩
          ·have hd:decide ((pn:Int)∈perm.take k)=false:=decide_eq_false hin;rw [hd] at hcell;have HI:=jac hin;have hgs:wr.grownBy (wr.setCell ⟨w.heap.size,pn,none⟩ (.bool true)) (some w.heap.size):=⟨rfl,rfl,rfl,by simp [World.setCell],fun j _ hj=>Below.heap_setCell _ _ _ _ (fun e=>hj (by rw [e]))⟩
           have HG:=jac (jao hw hgs (fun r e=>by cases e;exact Nat.le_refl _));clear hd hin hgs;go_wp2;go_roundw
           case rel =>
            refine ⟨HG.out,k+1,_,by omega,by go_num,heap_setCell_same wr w.heap.size pn m _ (.bool true) HB.out,HM.out.put HST.out (by omega),?_,?_⟩
            ·rw [HST.out];intro q hq
             rcases List.mem_append.1 hq with h | h
             ·exact HR.out q h
             ·simp only [List.mem_singleton] at h;omega
            ·rw [HST.out,List.nodup_append];exact ⟨HN.out,by simp,fun a ha b hb e=>HI.out (by simp only [List.mem_singleton] at hb;rw [← hb,← e];exact ha)⟩
           case measure=>simp [intOf];omega
       ·have HP : Hid (IsPerm perm n) := by
          have h1:=HR.out;have h2:=HN.out;rw [List.take_of_length_le (by omega)] at h1 h2;exact ⟨HL.out,h1,h2⟩
        go_wp2;go_ret;exact ⟨true,rfl,⟨fun _=>HP.out,fun _=>rfl⟩,hw⟩
     ·have hl':((perm.length:Int) != (n:Int))=true:=by simp;omega
      have HL:=jac hl;clear hl;go_enter Tryz.func35,Tryz.ntmps35;go_wp2;go_ret;exact ⟨false,rfl,⟨fun h=>(by cases h),fun h=>absurd h.len HL.out⟩,jae _⟩
end Go.Proofs.YtanpkdkenifmbaaGreatDoor.Vw
namespace Go.Proofs.YtanpkdkenifmbaaGreatDoor.Vw
theorem jie:∀ (l m:List Int),l.Nodup→(∀ x∈l,x∈m)→l.length≤m.length
 | [],_,_,_=>by simp
 | a::l,m,hn,hs=>by
  rw [List.nodup_cons] at hn;have h1:=hs a (by simp);have ih:=jie l (m.erase a) hn.2 fun x hx=>(List.mem_erase_of_ne (fun e=>hn.1 (by rw [← e];exact hx))).2 (hs x (by simp [hx]));rw [List.length_erase_of_mem h1] at ih;have:=List.length_pos_of_mem h1;simp only [List.length_cons];omega
theorem IsPerm.hits {perm:List Int} {n:Nat} (h:IsPerm perm n) (j:Nat) (hj:j<n):∃ i,i<n∧perm.getD i 0=j:=by
 have hm:(j:Int)∈perm:=by
  by_cases hm:(j:Int)∈perm
  ·exact hm
  ·have h1 := jie ((j : Int) :: perm) ((List.range n).map (fun (i : Nat) => (i : Int))) (List.nodup_cons.2 ⟨hm, h.once⟩) (fun y hy => by
     rcases List.mem_cons.1 hy with rfl | hy
     ·exact List.mem_map.2 ⟨j,List.mem_range.2 hj,rfl⟩
     ·have:=h.rng y hy;exact List.mem_map.2 ⟨y.toNat,List.mem_range.2 (by omega),by omega⟩)
   simp [h.len] at h1;omega
 obtain ⟨i,hi,e⟩:=List.mem_iff_getElem.1 hm;exact ⟨i,by rw [← h.len];exact hi,by simp [List.getD,hi,e]⟩
theorem IsPerm.at {perm:List Int} {n:Nat} (h:IsPerm perm n) (i:Nat) (hi:i<n):∃ j:Nat,j<n∧perm.getD i 0=j:=by
 have hl:=h.len;have:=h.rng (perm.getD i 0) (by rw [List.getD,List.getElem?_eq_getElem (by omega)];simp);exact ⟨(perm.getD i 0).toNat,by omega,by omega⟩
theorem IsPerm.inj {perm:List Int} {n:Nat} (h:IsPerm perm n) {i j:Nat} (hi:i<n) (hj:j<n) (e:perm.getD i 0=perm.getD j 0):i=j:=by
 have hl:=h.len;have h1:perm[i]'(by omega)=perm[j]'(by omega):=by simpa [List.getD,show i<perm.length by omega,show j<perm.length by omega] using e
 exact (List.getElem_inj h.once).1 h1
def jsf (perm l:List Int) (n:Nat):Prop:=l.length=n∧∀ i:Nat,i<n→l.getD (perm.getD i 0).toNat 0=i
theorem jsf.perm {perm l:List Int} {n:Nat} (h:IsPerm perm n) (ht:jsf perm l n):IsPerm l n:=by
 have hat:∀ j,j<n→∃ i:Nat,i<n∧l.getD j 0=i∧perm.getD i 0=j:=fun j hj=>by
  obtain ⟨i,hi,e⟩:=h.hits j hj;refine ⟨i,hi,?_,e⟩;have:=ht.2 i hi;rw [e,Int.toNat_natCast] at this;exact this
 refine ⟨ht.1,fun p hp=>?_,?_⟩
 ·obtain ⟨j,hj,e⟩:=List.mem_iff_getElem.1 hp;obtain ⟨i,hi,e1,_⟩:=hat j (by rw [← ht.1];exact hj);have:p=(i:Int):=by rw [← e,← e1];simp [List.getD,hj]
  omega
 ·rw [List.nodup_iff_pairwise_ne,List.pairwise_iff_getElem];intro a b ha hb hab e;obtain ⟨i,hi,e1,e2⟩:=hat a (by rw [← ht.1];exact ha);obtain ⟨k,hk,e3,e4⟩:=hat b (by rw [← ht.1];exact hb);have h1:l.getD a 0=l.getD b 0:=by simp [List.getD,ha,hb,e]
  have:i=k:=by omega
  subst this;omega
theorem pickL_at (l perm:List Int) (i:Nat) (hi:i<perm.length):(pickL l perm).getD i 0=l.getD (perm.getD i 0).toNat 0:=by simp [pickL,List.getD,hi]
theorem pickL_len (l perm:List Int):(pickL l perm).length=perm.length:=by simp [pickL]
theorem jpH {off:Int} {ds ss perm:List Int} (hm:MayV off ds ss) (hp:IsPerm perm ds.length) (hprod:jaB (pickL ds perm)=jaB ds):MayV off (pickL ds perm) (pickL ss perm):=by
 have hmem:∀ (l:List Int),l.length=ds.length→∀ z∈pickL l perm,z∈l:=fun l hl z hz=>by
  obtain ⟨p,hp',rfl⟩:=List.mem_map.1 hz;have:=hp.rng p hp';rw [List.getD,List.getElem?_eq_getElem (by omega)];simp
 exact ⟨⟨fun d hd=>hm.fine.pos d (hmem ds rfl d hd),by rw [pickL_len,hp.len];exact hm.fine.few,by rw [hprod];exact hm.fine.le⟩,by rw [pickL_len,pickL_len],hm.lo,hm.hi,fun s hs=>hm.str s (hmem ss hm.len s hs)⟩
theorem jnF {l m:List Int} (h:l.Perm m):jaB l=jaB m:=by
 induction h with
 | nil=>rfl
 | cons x _ ih=>simp only [jaB,ih]
 | swap x y l=>simp only [jaB,← Int.mul_assoc,Int.mul_comm x y]
 | trans _ _ ih1 ih2=>exact ih1.trans ih2
theorem jnG {ds perm:List Int} (hp:IsPerm perm ds.length):jaB (pickL ds perm)=jaB ds:=by
 have h1:perm.Perm ((List.range ds.length).map (fun (i:Nat)=>(i:Int))):=by
  refine (List.perm_ext_iff_of_nodup hp.once ?_).2 fun x=>⟨fun hx=>?_,fun hx=>?_⟩
  ·rw [List.nodup_iff_pairwise_ne,List.pairwise_iff_getElem];intro i j hi hj hij;simp only [List.getElem_map,List.getElem_range];omega
  ·have:=hp.rng x hx;exact List.mem_map.2 ⟨x.toNat,List.mem_range.2 (by omega),by omega⟩
  ·obtain ⟨j,hj,rfl⟩:=List.mem_map.1 hx;obtain ⟨i,hi,e⟩:=hp.hits j (List.mem_range.1 hj);have hl:=hp.len;rw [← e,List.getD,List.getElem?_eq_getElem (by omega)];simp
 have h2:pickL ds ((List.range ds.length).map (fun (i:Nat)=>(i:Int)))=ds:=by
  refine jdt (by simp [pickL]) fun t ht=>?_;have ht':t<ds.length:=by simpa [pickL] using ht
  simp [pickL,List.getD,ht']
 have h3:=jnF (h1.map (fun p=>ds.getD p.toNat 0));simp only [pickL] at h2 ⊢;rw [h3,h2]
theorem MayV.turn {off:Int} {ds ss perm:List Int} (hm:MayV off ds ss) (hp:IsPerm perm ds.length):MayV off (pickL ds perm) (pickL ss perm):=jpH hm hp (jnG hp)
end Go.Proofs.YtanpkdkenifmbaaGreatDoor.Vw
