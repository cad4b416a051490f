/- A part. -/
import Derived.Test.YteigfipgmghgmaaGreatDoorVartAB
import Derived.Laws.ResultCell
set_option maxHeartbeats 6400000
namespace Go.Proofs.YteigfipgmghgmaaGreatDoor.Vw
open Go.RowKit
def jci (w:World) (base:Nat) (u:Value) (off:Int) (ds ss:List Int):Prop :=
 ∃ dv sv,u=.agg #[.int .i64 off,dv,sv]∧Owns w base dv ds∧Owns w base sv ss ∧ -9223372036854775808≤off∧off≤9223372036854775807∧(dv.ownBlock=none∨dv.ownBlock≠sv.ownBlock)
theorem jci.new {w w':World} {base:Nat} {u:Value} {off:Int} {ds ss:List Int} (h:jci w base u off ds ss) (hg:w.grownBy w' none):jci w' base u off ds ss:=by
 obtain ⟨dv,sv,rfl,h1,h2,h3,h4,h5⟩:=h;exact ⟨dv,sv,rfl,h1.new hg,h2.new hg,h3,h4,h5⟩
theorem jci.nil (w:World) (base:Nat):jci w base (.agg #[.int .i64 0,.slice none 0 0,.slice none 0 0]) 0 [] [] :=
 ⟨_,_,rfl,jbp _ _,jbp _ _,by omega,by omega,Or.inl rfl⟩
theorem store3 {w w3:World} {B:Nat} {z0 z1 z2:Value} (a b c:Value) (hg:w.grownBy w3 none) (hB:w.heap.size≤B) (hb:w3.heap[B]?=some (.cells #[z0,z1,z2] 76 (0,0))) :
    (((w3.setCell ⟨B,0,none⟩ a).setCell ⟨B,1,none⟩ b).setCell ⟨B,2,none⟩ c).heap[B]?=some (.cells #[a,b,c] 76 (0,0)) ∧
    w.grownBy (((w3.setCell ⟨B,0,none⟩ a).setCell ⟨B,1,none⟩ b).setCell ⟨B,2,none⟩ c) none∧w3.grownBy (((w3.setCell ⟨B,0,none⟩ a).setCell ⟨B,1,none⟩ b).setCell ⟨B,2,none⟩ c) (some B):=by
     have h1:=heap_setCell_same w3 B 0 _ _ a hb;have h2:=heap_setCell_same _ B 1 _ _ b h1;have h3:=heap_setCell_same _ B 2 _ _ c h2
     have g:∀ (x:World) (j:Nat) (v:Value),x.grownBy (x.setCell ⟨B,j,none⟩ v) (some B):=fun x j v =>
      ⟨rfl,rfl,rfl,by simp [World.setCell],fun k _ hk=>Below.heap_setCell _ _ _ _ (fun e=>hk (by rw [e]))⟩
     have g3:=jbN (jbN (g w3 0 a) (g _ 1 b)) (g _ 2 c);exact ⟨by simpa using h3,jan hg g3 (fun r e=>by cases e;exact hB),g3⟩
theorem box_cells {w:World} {B:Nat} {a b c:Value} (hb:w.heap[B]?=some (.cells #[a,b,c] 76 (0,0))) :
    w.cell? ⟨B,0,none⟩=some a∧w.cell? ⟨B,1,none⟩=some b∧w.cell? ⟨B,2,none⟩=some c∧w.frozen? ⟨B,0,none⟩=false∧w.frozen? ⟨B,1,none⟩=false∧w.frozen? ⟨B,2,none⟩=false :=
     ⟨(cell_of_row _ _ 0 _ _ (0,0) hb).trans rfl,(cell_of_row _ _ 1 _ _ (0,0) hb).trans rfl,(cell_of_row _ _ 2 _ _ (0,0) hb).trans rfl,frozen_of_row w B 0 _ _ hb,frozen_of_row w B 1 _ _ hb,frozen_of_row w B 2 _ _ hb⟩
theorem jru:(Tryz.prog.info? 76).map (·.size)=some 3:=by kernel_rfl
theorem jdi {fn : Func} {p u : Tmp} (h : fn.results = #[.cell p 76, .tmp u]) (tmps : Array Value) (w : World) (B : Nat) (hp : tmps.getD p undef = .pointer (some ⟨B, 0, none⟩)) {a b c : Value}
    (hb:w.heap[B]?=some (.cells #[a,b,c] 76 (0,0))):(results fn tmps).run Tryz.prog w=.ok (.tuple #[.agg #[a,b,c],tmps.getD u undef]) w:=by
     have hl:=run_loadVar_row (P:=Tryz.prog) w B _ 76 #[a,b,c] (0,0) _ hb Tryz.underlying76 rfl (by rw [jru];rfl);rw [results_cell_tmp h,hp];simp [asAddr,hl,Result.andThen]
theorem jeE (v:Value) (zs:List Int) (w:World) (h:IsInts w v zs) :
    Calls Tryz.prog 94 #[v] w fun e w'=>∃ u,e=.returned u∧Owns w' w.heap.size u zs∧w.grownBy w' none:=by
     have h3:=h.le;have H:=jac h;obtain ⟨ao,cap,rfl,h1,h2,_,h4,-,-⟩:=h;have heq:=fun wx=>Lib.run_eql_slice_nil (P:=Tryz.prog) wx 29 3 ao zs.length cap 0 0 Tryz.underlying29
     cases ao with
     | none =>
      obtain ⟨rfl,rfl⟩:=h4 rfl;have heq0:=fun wx=>Lib.run_eql_slice_nil (P:=Tryz.prog) wx 29 3 none 0 0 0 0 Tryz.underlying29;simp only [List.length_nil];clear heq H;go_enter Tryz.func94,Tryz.ntmps94;go_wp2;go_ret;exact ⟨_,rfl,jbp _ _,jad _⟩
     | some ad =>
      have O0:Owns (w.alloc (.cells #[] 3)) w.heap.size (.slice (some ⟨w.heap.size,0,none⟩) 0 0) [] :=
       ⟨by simpa using World.ownsRow_lit (base:=w.heap.size) (e:=3) (size:=1) w #[] 0 (Nat.le_refl _) (by simp [maxLen]) rfl,by simp,fun z hz=>by simp at hz⟩
      have g0:=jab w (.cells #[] 3);have H0:=jac (H.out.more g0);go_enter Tryz.func94,Tryz.ntmps94;go_wp2_with (at_builtin;refine jdS rfl (.tmp 5) (.tmp 6) rfl w.heap.size _ [] rfl O0 _ zs rfl H0.out ?_ ?_ ?_;(simpa using h3);simp;intro v' w1 hown hgrow);go_ret;exact ⟨_,rfl,by simpa using hown,jan g0 hgrow (fun g hg=>by cases hg;exact Nat.le_refl _)⟩
end Go.Proofs.YteigfipgmghgmaaGreatDoor.Vw
namespace Go.Proofs.YteigfipgmghgmaaGreatDoor.Vw
open Go.RowKit
def jgb (off:Int) (ds:List Int):Int:=if ja2 ds=0 then off else 0
def rowDs (ds:List Int):List Int:=if ja2 ds=0 then ds else []
theorem jo9 (w:World):(w.alloc (.cells #[.int .i64 0,.slice none 0 0,.slice none 0 0] 76)).heap[w.heap.size]?=some (.cells #[.int .i64 0,.slice none 0 0,.slice none 0 0] 76 (0,0)):=heap_alloc_new w _
theorem jag {w w':World} {B:Nat} {o:Obj} (hb:w.heap[B]?=some o) (hg:w.grownBy w' none):w'.heap[B]?=some o:=(hg.block B (Array.getElem?_eq_some_iff.1 hb).1 (by simp)).trans hb
theorem _root_.Go.Proofs.YteigfipgmghgmaaGreatDoor.Owns.box {w w':World} {base B:Nat} {v:Value} {zs:List Int} (h:Owns w base v zs) (hg:w.grownBy w' (some B)) (hB:B<base):Owns w' base v zs :=
 h.more hg (Or.inr (fun e=>by have:=(h.lt B e).1;omega))
theorem jtH (off:Int) (v:Value) (ds:List Int) (w:World) (h:IsInts w v ds) (ho1 : -9223372036854775808≤off) (ho2:off≤9223372036854775807) :
    Calls Tryz.prog 64 #[.int .i64 off,v] w fun e w'=>∃ u,e=.returned (.tuple #[u,.int .i64 (ja2 ds)])∧jci w' w.heap.size u (jgb off ds) (rowDs ds) (jez ds)∧w.grownBy w' none:=by
     have g0:=jab w (.cells #[.int .i64 0,.slice none 0 0,.slice none 0 0] 76);have b0:=jac (jo9 w);have c1:=jac (jjC v ds _ (h.more g0));have H:=jac h;have hs0:(w.alloc (.cells #[.int .i64 0,.slice none 0 0,.slice none 0 0] 76)).heap.size=w.heap.size+1:=by simp
     rw [hs0] at c1;clear h hs0
     by_cases hE:ja2 ds=0
     ·rw [show jgb off ds=off by simp [jgb,hE],show rowDs ds=ds by simp [rowDs,hE],hE];rw [hE] at c1;clear hE;go_enter Tryz.func64,Tryz.ntmps64;go_wp2_with fail;refine c1.out.mono ?_;rintro e w1 ⟨s,rfl,os,hg1⟩;have g1:=jaa g0 hg1;have OS:=jac os;have c2:=jac (jeE v ds w1 (H.out.more g1));have hsz:=hg1.size;simp only [World.size_alloc] at hsz;clear os;go_wp2_with fail;refine c2.out.mono ?_;rintro e w2 ⟨d,rfl,od,hg2⟩;have g2:=jaa g1 hg2;have hb:=jag b0.out (jaa hg1 hg2);obtain ⟨k0,k1,k2,f0,f1,f2⟩:=box_cells hb;obtain ⟨hX,gX,gB⟩:=store3 (.int .i64 off) d s g2 (Nat.le_refl _) hb;have OD:=jac (od.box gB (by omega));have OS2:=jac ((OS.out.new hg2).box gB (by omega));have AP:=jac (jkQ (v:=s) (v':=d) (a:=w1.heap.size) (b:=w1.heap.size) (fun k hk=>(OS.out.lt k hk).2) (fun k hk=>(od.lt k hk).1) (Nat.le_refl _));have HX:=jac hX;have GX:=jac gX;obtain ⟨da,dc,rfl,-,-,-,-,-,-⟩:=od.ints;obtain ⟨sa,sc,rfl,-,-,-,-,-,-⟩:=OS.out.ints;clear od hX gX gB hb;go_wp2;refine bodyPost_ret (jdi rfl _ _ w.heap.size rfl HX.out) rfl ?_;refine ⟨_,rfl,⟨_,_,rfl,OD.out.base_le (by omega),OS2.out.base_le (by omega),ho1,ho2,?_⟩,GX.out⟩
      rcases AP.out with h | h
      ·rw [h];generalize Value.ownBlock _=o
       cases o with
       | none=>exact Or.inl rfl
       | some k=>exact Or.inr (by simp)
      ·exact Or.inr (fun e=>h e.symm)
     ·rw [show jgb off ds=0 by simp [jgb,hE],show rowDs ds=[] by simp [rowDs,hE]];rw [show jez ds=[] by simp [jez,hE]] at c1 ⊢;have hE':=jec hE;obtain ⟨E,hEE⟩ : ∃ E,E=ja2 ds:=⟨_,rfl⟩
      rw [← hEE] at hE' c1 ⊢;clear hE hEE;go_enter Tryz.func64,Tryz.ntmps64;go_wp2_with fail;refine c1.out.mono ?_;rintro e w1 ⟨s,rfl,os,hg1⟩;have g1:=jaa g0 hg1;have hb:=jag b0.out hg1;obtain ⟨k0,k1,k2,f0,f1,f2⟩:=box_cells hb;obtain ⟨hX,gX,gB⟩:=store3 (.int .i64 0) (.slice none 0 0) (.slice none 0 0) g1 (Nat.le_refl _) hb;have HX:=jac hX;have GX:=jac gX;clear os hX gX gB hb;go_wp2;refine bodyPost_ret (jdi rfl _ _ w.heap.size rfl HX.out) rfl ?_;exact ⟨_,rfl,jci.nil _ _,GX.out⟩
theorem whole_any (v:Value) (ds:List Int) (w:World) (h:IsInts w v ds) :
    Calls Tryz.prog 37 #[v] w fun e w'=>∃ u,e=.returned (.tuple #[u,.int .i64 (ja2 ds)])∧jci w' w.heap.size u 0 (rowDs ds) (jez ds)∧w.grownBy w' none:=by
     have g0:=jab w (.cells #[.int .i64 0,.slice none 0 0,.slice none 0 0] 76);have b0:=jac (jo9 w);have c1:=jtH 0 v ds _ (h.more g0) (by omega) (by omega);have hs0:(w.alloc (.cells #[.int .i64 0,.slice none 0 0,.slice none 0 0] 76)).heap.size=w.heap.size+1:=by simp
     rw [hs0,show jgb 0 ds=0 by simp [jgb]] at c1;have C1:=jac c1;clear h hs0 c1;go_enter Tryz.func37,Tryz.ntmps37;go_wp2_with fail;refine C1.out.mono ?_;rintro e w1 ⟨u,rfl,⟨d,s,rfl,od,os,_,_,ap⟩,hg1⟩;have g1:=jaa g0 hg1;have hb:=jag b0.out hg1;obtain ⟨k0,k1,k2,f0,f1,f2⟩:=box_cells hb;obtain ⟨hX,gX,gB⟩:=store3 (.int .i64 0) d s g1 (Nat.le_refl _) hb;have OD:=jac (od.box gB (by omega));have OS:=jac (os.box gB (by omega));have AP:=jac ap;have HX:=jac hX;have GX:=jac gX;obtain ⟨da,dc,rfl,-,-,-,-,-,-⟩:=od.ints;obtain ⟨sa,sc,rfl,-,-,-,-,-,-⟩:=os.ints;clear od os ap hX gX gB hb;go_wp2;refine bodyPost_ret (jdi rfl _ _ w.heap.size rfl HX.out) rfl ?_;exact ⟨_,rfl,⟨_,_,rfl,OD.out.base_le (by omega),OS.out.base_le (by omega),by omega,by omega,AP.out⟩,GX.out⟩
theorem jbi (w:World) (o o':Obj):((w.alloc o).alloc o').heap[w.heap.size]?=some o∧((w.alloc o).alloc o').heap[w.heap.size+1]?=some o':=by
 constructor
 ·rw [Below.heap_alloc _ _ _ (by simp)];exact heap_alloc_new w o
 ·have:=heap_alloc_new (w.alloc o) o';simpa using this
theorem jrv {w wl : World} {B base : Nat} {z0 z1 z2 d s : Value} {off : Int} {ds ss : List Int} (hg : w.grownBy wl none) (hB : w.heap.size ≤ B) (hb : wl.heap[B]? = some (.cells #[z0, z1, z2] 76 (0, 0)))
    (hd:Owns wl base d ds) (hs:Owns wl base s ss) (hbB:B<base) (ho1 : -9223372036854775808≤off) (ho2:off≤9223372036854775807) (hap:d.ownBlock=none∨d.ownBlock≠s.ownBlock) :
    (((wl.setCell ⟨B,0,none⟩ (.int .i64 off)).setCell ⟨B,1,none⟩ d).setCell ⟨B,2,none⟩ s).heap[B]?=some (.cells #[.int .i64 off,d,s] 76 (0,0)) ∧
    jci (((wl.setCell ⟨B,0,none⟩ (.int .i64 off)).setCell ⟨B,1,none⟩ d).setCell ⟨B,2,none⟩ s) w.heap.size (.agg #[.int .i64 off,d,s]) off ds ss ∧
    w.grownBy (((wl.setCell ⟨B,0,none⟩ (.int .i64 off)).setCell ⟨B,1,none⟩ d).setCell ⟨B,2,none⟩ s) none:=by
     obtain ⟨hX,gX,gB⟩:=store3 (.int .i64 off) d s hg hB hb;exact ⟨hX,⟨d,s,rfl,(hd.box gB hbB).base_le (by omega),(hs.box gB hbB).base_le (by omega),ho1,ho2,hap⟩,gX⟩
end Go.Proofs.YteigfipgmghgmaaGreatDoor.Vw
namespace Go.Proofs.YteigfipgmghgmaaGreatDoor.Vw
open Go.RowKit
def spr (ds ss l:List Int):List Int :=
 (List.range l.length).map fun j=>if l.length - ds.length≤j∧ds.getD (j - (l.length - ds.length)) 0=l.getD j 0 then ss.getD (j - (l.length - ds.length)) 0 else 0
theorem spr_length (ds ss l:List Int):(spr ds ss l).length=l.length:=by simp [spr]
theorem jpa {ds ss l:List Int} {j:Nat} (hj:j<l.length) :
    (spr ds ss l).getD j 0=if l.length - ds.length≤j∧ds.getD (j - (l.length - ds.length)) 0=l.getD j 0 then ss.getD (j - (l.length - ds.length)) 0 else 0:=by
     rw [List.getD,List.getElem?_eq_getElem (by rw [spr_length];exact hj)];simp [spr]
theorem jew {n k t:Nat} {l:List Int} (hl:l.length=n) (hk:k≤n):(jbv n k l).getD t 0=if t<k then l.getD t 0 else 0:=by
 unfold jbv;simp only [List.getD,List.getElem?_append,List.length_take,List.getElem?_take,List.getElem?_replicate]
 by_cases h:t<k
 ·simp [h,show t<min k l.length by omega]
 ·simp only [h,show ¬ t<min k l.length by omega,if_false]
  split <;> rfl
theorem jcK {n k:Nat} {l:List Int} (hl:l.length=n) (hk:k≤n):(jbv n k l).length=n:=by
 simp [jbv];omega
theorem jpb {n k:Nat} {l:List Int} (hl:l.length=n) (hk:k≤n) (h:∀ t,t<k→l.getD t 0=0):List.replicate n 0=jbv n k l:=by
 refine jdR (by rw [jcK hl hk];simp) fun t ht=>?_;have ht':t<n:=by simpa using ht
 rw [jew hl hk]
 split
 ·rename_i h1;rw [h t h1];simp [List.getD,ht']
 ·simp [List.getD,ht']
theorem jpc {n k:Nat} {l:List Int} (hl:l.length=n) (hk:k<n) (h:l.getD k 0=0):jbv n k l=jbv n (k+1) l:=by
 refine jdR (by rw [jcK hl (by omega),jcK hl (by omega)]) fun t ht=>?_;rw [jew hl (by omega),jew hl (by omega)]
 by_cases h1:t<k
 ·simp [h1,show t<k+1 by omega]
 ·by_cases h2:t=k
  ·subst h2;rw [if_neg h1,if_pos (by omega),h]
  ·rw [if_neg h1,if_neg (by omega)]
def Spreaded (off:Int) (ds ss l:List Int) (E:Int) (off':Int) (ds' ss':List Int):Prop :=
 (¬ MayV off ds ss∧E=1∧off'=0∧ds'=[]∧ss'=[])∨(MayV off ds ss∧bcE ds l≠0∧E=bcE ds l∧off'=0∧ds'=[]∧ss'=[]) ∨
 (MayV off ds ss∧bcE ds l=0∧bcR ds l≠l∧E=4∧off'=0∧ds'=[]∧ss'=[]) ∨
 (MayV off ds ss∧bcE ds l=0∧bcR ds l=l∧E=0∧off'=off∧ds'=l∧ss'=spr ds ss l)
theorem juR {ds ss l:List Int} (h:∀ s∈ss,0≤s∧s≤65536):∀ z∈spr ds ss l,0≤z∧z≤65536:=by
 intro z hz;obtain ⟨j,_,rfl⟩:=List.mem_map.1 hz
 split
 ·rw [List.getD]
  cases e:ss[j - (l.length - ds.length)]? with
  | none=>simp
  | some x=>exact h x (List.mem_of_getElem? e)
 ·omega
theorem bc_room {ds l:List Int} (hE:bcE ds l=0) (hR:bcR ds l=l):ds.length≤l.length∧ja2 l=0:=by
 have h1:l.length=jaL ds l:=by rw [← jcB ds l (jaL ds l),← show bcR ds l=bcL ds l (jaL ds l) by simp [bcR,hE],hR]
 refine ⟨by simp only [jaL] at h1;omega,?_⟩;unfold bcE at hE
 by_cases h2:ja2 l=0
 ·exact h2
 ·rw [if_pos h2] at hE
  split at hE
  ·contradiction
  ·exact hE
theorem spread_any (v lv:Value) (off:Int) (ds ss l:List Int) (w:World) (h:IsView w v off ds ss) (hl:IsInts w lv l) :
    Calls Tryz.prog 23 #[v,lv] w fun e w'=>∃ u E off' ds' ss',e=.returned (.tuple #[u,.int .i64 E])∧Spreaded off ds ss l E off' ds' ss'∧jci w' w.heap.size u off' ds' ss'∧w.grownBy w' none:=by
     obtain ⟨i0,hi,hz0,hz1,hz2⟩:=info_parts jdx;have hv:=h;obtain ⟨dv,sv,rfl,hd,hs,ho1,ho2⟩:=h;obtain ⟨w0,hw0⟩ : ∃ w0,w0=(w.alloc (.cells #[.int .i64 off,dv,sv] 76)).alloc (.cells #[.int .i64 0,.slice none 0 0,.slice none 0 0] 76):=⟨_,rfl⟩
     have g0:w.grownBy w0 none:=by rw [hw0];exact jaa (jab _ _) (jab _ _)
     have hs0:w0.heap.size=w.heap.size+2:=by rw [hw0];simp
     have hbx:=jbi w (.cells #[.int .i64 off,dv,sv] 76) (.cells #[.int .i64 0,.slice none 0 0,.slice none 0 0] 76);rw [← hw0] at hbx
     have BX:Hid (∀ wx,w0.grownBy wx none→wx.heap[w.heap.size]?=some (.cells #[.int .i64 off,dv,sv] 76 (0,0))∧wx.heap[w.heap.size+1]?=some (.cells #[.int .i64 0,.slice none 0 0,.slice none 0 0] 76 (0,0))∧w.heap.size+2≤wx.heap.size) :=
      fun wx hg=>⟨jag hbx.1 hg,jag hbx.2 hg,by have:=hg.size;omega⟩
     have MB:=jac (jir _ off ds ss w0 (hv.more g0));have HD:=jac hd;have HS:=jac hs;have HL:=jac hl;obtain ⟨x0,x1,x2,-,-,-⟩:=box_cells hbx.1
     have FAIL:Hid (∀ wx,w0.grownBy wx none→(((wx.setCell ⟨w.heap.size+1,0,none⟩ (.int .i64 0)).setCell ⟨w.heap.size+1,1,none⟩ (.slice none 0 0)).setCell ⟨w.heap.size+1,2,none⟩ (.slice none 0 0)).heap[w.heap.size+1]?=some (.cells #[.int .i64 0,.slice none 0 0,.slice none 0 0] 76 (0,0))∧w.grownBy (((wx.setCell ⟨w.heap.size+1,0,none⟩ (.int .i64 0)).setCell ⟨w.heap.size+1,1,none⟩ (.slice none 0 0)).setCell ⟨w.heap.size+1,2,none⟩ (.slice none 0 0)) none):=fun wx hg=>by
      obtain ⟨hX,gX,_⟩:=store3 (.int .i64 0) (.slice none 0 0) (.slice none 0 0) (jaa g0 hg) (show w.heap.size≤w.heap.size+1 by omega) (BX.out wx hg).2.1;exact ⟨hX,gX⟩
     clear hv hbx
     by_cases hM:mayB off ds ss=true
     ·rw [hM] at MB;have HMV:=jac (mayB_iff.1 hM);clear hM;obtain ⟨da,dc,rfl,hd1,hd2,hd3,-,-,-⟩:=hd;obtain ⟨sa,sc,rfl,hs1,hs2,hs3,-,-,-⟩:=hs;obtain ⟨la,lc,rfl,hl1,hl2,hl3,-,-,-⟩:=hl;have hll:Hid (ds.length=ss.length):=HMV.out.len.symm;go_enter Tryz.func23,Tryz.ntmps23;go_wp2_with fail;rw [← hw0];clear hw0;refine MB.out.mono ?_;rintro e w1 ⟨rfl,hg1⟩;obtain ⟨y0,y1,y2,-,-,-⟩:=box_cells (BX.out w1 hg1).1;have g01:=jaa g0 hg1;have BC:=jac (jrZ _ _ ds l w1 (HD.out.more g01) (HL.out.more g01));clear x0 x1 x2;go_wp2_with fail;refine BC.out.mono ?_;rintro e w2 ⟨r,rfl,or,hg2⟩;have g02:=jaa hg1 hg2;obtain ⟨k0,k1,k2,f0,f1,f2⟩:=box_cells (BX.out w2 g02).2.1;obtain ⟨ra,rc,rfl,hr1,hr2,hr3,-,-,-⟩:=or.ints;have OR:=jac or;clear or y0 y1 y2
      by_cases hE:bcE ds l=0
      ·have hE':(bcE ds l != 0)=false:=by simp [hE]
       have HE:=jac hE;have EQ:=jac (jeA _ _ (bcR ds l) l w2 OR.out.ints (HL.out.more (jaa g0 g02)));clear hE;go_wp2_with fail;refine EQ.out.mono ?_;rintro e w3 ⟨rfl,hg3⟩;have g03:=jaa g02 hg3;obtain ⟨k0,k1,k2,f0,f1,f2⟩:=box_cells (BX.out w3 g03).2.1
       by_cases hR:bcR ds l=l
       ·have HR:=jac hR;rw [decide_eq_true hR];clear hR;obtain ⟨y0,y1,y2,-,-,-⟩:=box_cells (BX.out w3 g03).1;obtain ⟨hroom,hcl⟩:=bc_room HE.out HR.out;have hl6:=(jbb hcl).few;have hb4:i0.bytes*l.length≤281474976710656:=by rw [hz2];omega
        have hb5:l.length≤maxLen:=by simp only [maxLen];omega
        clear hcl;go_wp2_with (refine wpList_make_full _ rfl (.tmp 33) (.tmp 33) 29 rfl w3.heap.size 3 i0 (.int .i64 0) 1 Tryz.underlying29 hi hz0 hz1 .i64 .i64 _ _ l.length rfl rfl rfl rfl hb4 hb5 (Nat.le_refl _) ?_;intro w4 hown hgrow;obtain ⟨q0,q1,q2,-,-,-⟩:=box_cells (BX.out w4 (jaa g03 hgrow)).1);rw [jcA] at hown;obtain ⟨an,han⟩ : ∃ an:Nat,an=l.length - ds.length:=⟨_,rfl⟩
        have hsub:(l.length:Int) - (ds.length:Int)=(an:Int):=by omega
        have hroom2:an+ds.length≤l.length:=by omega
        have HAN:=jac han;have HSL:=jac (spr_length ds ss l);rw [hsub];have HST:=jac (jpb (n:=l.length) (k:=an) (l:=spr ds ss l) (spr_length ds ss l) (by omega) (fun t ht=>by rw [jpa (by omega),if_neg (fun h=>by omega)]));clear hsub han
        go_loopw [44] (fun i wr=>w3.grownBy wr none∧∃ k:Nat,k≤ds.length∧i=.int .i64 k ∧
         wr.ownsRow w3.heap.size 3 1 (.slice (some ⟨w3.heap.size,0,none⟩) l.length l.length) l.length ((jbv l.length (an+k) (spr ds ss l)).map (Value.int .i64))) (fun i _=>ds.length - (intOf i).toNat)
        case atStart=>exact ⟨hgrow,0,Nat.zero_le _,rfl,by rw [Nat.add_zero,← HST.out];exact hown⟩
        case round =>
         clear hown hgrow q0 q1 q2 y0 y1 y2 k0 k1 k2 f0 f1 f2;obtain ⟨hw,k,hk,rfl,hown⟩:=hrel;rename_i wr;have g0r:=jaa g03 hw;obtain ⟨y0,y1,y2,-,-,-⟩:=box_cells (BX.out wr g0r).1
         by_cases hkl:k<ds.length
         ·have hkl2:an+k<l.length:=by omega
          have hkl3:k<ss.length:=by have:=hll.out;omega
          obtain ⟨bd,od,rfl⟩:=jbQ HD.out (by omega);obtain ⟨bl,ol,rfl⟩:=jbQ HL.out (by omega);obtain ⟨bs,os,rfl⟩:=jbQ HS.out (by omega);have cd:=jbH (HD.out.more (jaa g0 g0r)) hkl;have cl:=jbH (HL.out.more (jaa g0 g0r)) hkl2;have cs:=jbH (HS.out.more (jaa g0 g0r)) hkl3;have hsp:=jpa (ds:=ds) (ss:=ss) (l:=l) hkl2;rw [← HAN.out,show an+k - an=k by omega] at hsp;obtain ⟨D,hD⟩ : ∃ D,D=ds.getD k 0:=⟨_,rfl⟩
          obtain ⟨L,hL⟩ : ∃ L,L=l.getD (an+k) 0:=⟨_,rfl⟩
          obtain ⟨S,hS⟩ : ∃ S,S=ss.getD k 0:=⟨_,rfl⟩
          rw [← hD] at cd hsp;rw [← hL] at cl hsp;rw [← hS] at cs hsp;clear hD hL hS
          by_cases hDL:D=L
          ·rw [if_pos ⟨by omega,hDL⟩] at hsp;have hDL':(D==L)=true:=by simp [hDL]
           obtain ⟨⟨c,hc⟩,hf,hown2,hw2⟩:=jmT (z:=S) hkl2 HSL.out hsp.symm hw hown;have HO:=jac hown2;have HW:=jac hw2;clear hown hown2 hw2 hw hsp hDL;go_wp2;go_roundw
           case rel=>exact ⟨HW.out,k+1,by omega,by go_num,HO.out⟩
           case measure=>simp [intOf];omega
          ·rw [if_neg (fun h=>hDL h.2)] at hsp;have hDL':(D==L)=false:=by simp [hDL]
           rw [jpc HSL.out hkl2 hsp] at hown;have HO:=jac hown;have HW:=jac hw;clear hown hw hsp hDL;go_wp2;go_roundw
           case rel=>exact ⟨HW.out,k+1,by omega,by go_num,HO.out⟩
           case measure=>simp [intOf];omega
         ·obtain ⟨k0,k1,k2,f0,f1,f2⟩:=box_cells (BX.out wr g0r).2.1;have hsz1:w.heap.size+2≤w1.heap.size:=(BX.out w1 hg1).2.2;have hsz3:w.heap.size+2≤w3.heap.size:=(BX.out w3 g03).2.2
          have OR2:Owns w2 w1.heap.size (.slice ra (bcR ds l).length rc) l:=by
           have:=OR.out;rw [HR.out] at this ⊢;exact this
          have OS:Owns wr w3.heap.size (.slice (some ⟨w3.heap.size,0,none⟩) l.length l.length) (spr ds ss l):=by
           refine ⟨?_,by rw [HSL.out];omega,fun z hz=>by have:=juR HMV.out.str z hz;omega⟩;rw [show jbv l.length (an+k) (spr ds ss l)=spr ds ss l by simp [jbv,show l.length - (an+k)=0 by have:=HAN.out;omega,List.take_of_length_le (show (spr ds ss l).length≤an+k by rw [HSL.out];have:=HAN.out;omega)]] at hown;rw [HSL.out];exact hown
          obtain ⟨HX,OV,GX⟩:=jrv (off:=off) (base:=w.heap.size+2) (jaa g0 g0r) (show w.heap.size≤w.heap.size+1 by omega) (BX.out wr g0r).2.1 ((OR2.new (jaa hg3 hw)).base_le hsz1) (OS.base_le hsz3) (by omega) ho1 ho2 (jkQ (fun k hk=>(OR2.lt k hk).2) (fun k hk=>(OS.lt k hk).1) hg3.size);have HXX:=jac HX;have HOV:=jac OV;have HGX:=jac GX;clear HX OV GX OS OR2 hown;go_wp2;refine bodyPost_ret (jdi rfl _ _ (w.heap.size+1) rfl HXX.out) rfl ?_;exact ⟨_,0,off,_,_,rfl,Or.inr (Or.inr (Or.inr ⟨HMV.out,HE.out,HR.out,rfl,rfl,rfl,rfl⟩)),HOV.out,HGX.out⟩
       ·have HR:=jac hR;rw [decide_eq_false hR];clear hR;go_wp2;refine bodyPost_ret (jdi rfl _ _ (w.heap.size+1) rfl (FAIL.out w3 g03).1) rfl ?_;exact ⟨_,4,0,[],[],rfl,Or.inr (Or.inr (Or.inl ⟨HMV.out,HE.out,HR.out,rfl,rfl,rfl,rfl⟩)),jci.nil _ _,(FAIL.out w3 g03).2⟩
      ·have hE':(bcE ds l != 0)=true:=by simp [hE]
       have HE:=jac hE;clear hE;go_wp2;refine bodyPost_ret (jdi rfl _ _ (w.heap.size+1) rfl (FAIL.out w2 g02).1) rfl ?_;exact ⟨_,_,0,[],[],rfl,Or.inr (Or.inl ⟨HMV.out,HE.out,rfl,rfl,rfl,rfl⟩),jci.nil _ _,(FAIL.out w2 g02).2⟩
     ·have hM':mayB off ds ss=false:=by simpa using hM
      have HNM:Hid (¬ MayV off ds ss):=fun h=>hM (mayB_iff.2 h);rw [hM'] at MB;clear hM hM';go_enter Tryz.func23,Tryz.ntmps23;go_wp2_with fail;rw [← hw0];clear hw0;refine MB.out.mono ?_;rintro e w1 ⟨rfl,hg1⟩;obtain ⟨k0,k1,k2,f0,f1,f2⟩:=box_cells (BX.out w1 hg1).2.1;go_wp2;refine bodyPost_ret (jdi rfl _ _ (w.heap.size+1) rfl (FAIL.out w1 hg1).1) rfl ?_;exact ⟨_,1,0,[],[],rfl,Or.inl ⟨HNM.out,rfl,rfl,rfl,rfl⟩,jci.nil _ _,(FAIL.out w1 hg1).2⟩
end Go.Proofs.YteigfipgmghgmaaGreatDoor.Vw
namespace Go.Proofs.YteigfipgmghgmaaGreatDoor.Vw
open Go.RowKit
theorem jsl (a b:List Int):∀ (n j:Nat),j<n→(bcL a b n).getD j 0=max (bh a (n - 1 - j)) (bh b (n - 1 - j))
 | n+1,0,_=>by simp [bcL]
 | n+1,j+1,h=>by
  simp only [bcL,List.getD_cons_succ];rw [jsl a b n j (by omega),show n+1 - 1 - (j+1)=n - 1 - j by omega]
theorem bc_fits {ds l:List Int} (hd:Fine ds) (hE:bcE ds l=0) (hR:bcR ds l=l):∀ j,j<ds.length→ds.getD j 0=l.getD (l.length - ds.length+j) 0∨ds.getD j 0=1:=by
 intro j hj;obtain ⟨hroom,hcl⟩:=bc_room hE hR;have hrk:jaL ds l=l.length:=by simp only [jaL];omega
 have hbad:jcG ds l l.length=false:=by
  cases e:jcG ds l l.length with
  | false=>rfl
  | true=>unfold bcE at hE;rw [hrk,e] at hE;simp [hd.ok,hcl] at hE
 have hL:l=bcL ds l l.length:=by
  have h1:bcR ds l=bcL ds l (jaL ds l):=by simp [bcR,hE]
  rw [hR,hrk] at h1;exact h1
 have h2:=jsl ds l l.length (l.length - ds.length+j) (by omega);rw [← hL,show l.length - 1 - (l.length - ds.length+j)=ds.length - 1 - j by omega] at h2
 have h3:bh ds (ds.length - 1 - j)=ds.getD j 0:=by
  unfold bh;rw [if_neg (by omega),show ds.length - 1 - (ds.length - 1 - j)=j by omega]
 have h4:bh l (ds.length - 1 - j)=l.getD (l.length - ds.length+j) 0:=by
  unfold bh;rw [if_neg (by omega),show l.length - 1 - (ds.length - 1 - j)=l.length - ds.length+j by omega]
 have h5:jbC (bh ds (ds.length - 1 - j)) (bh l (ds.length - 1 - j))=false:=by
  cases e:jbC (bh ds (ds.length - 1 - j)) (bh l (ds.length - 1 - j)) with
  | false=>rfl
  | true=>rw [jhh (show ds.length - 1 - j<l.length by omega) e] at hbad;cases hbad
 have h6:=hd.pos (ds.getD j 0) (by rw [List.getD,List.getElem?_eq_getElem hj];simp);rw [h3,h4] at h2 h5
 by_cases h7:ds.getD j 0=l.getD (l.length - ds.length+j) 0
 ·exact .inl h7
 ·refine .inr ?_
  by_cases h8:ds.getD j 0=1
  ·exact h8
  ·by_cases h9:l.getD (l.length - ds.length+j) 0=1
   ·omega
   ·simp only [jbC,Bool.and_eq_false_iff,Bool.not_eq_false',beq_iff_eq] at h5;omega
theorem jgc:∀ (ds ss ls:List Int),ss.length=ds.length→ls.length=ds.length→(jkV ds ss ls).length=ds.length
 | [],_,_,_,_=>by simp [jkV]
 | d::ds,s::ss,l::ls,h1,h2=>by simp [jkV,jgc ds ss ls (by simpa using h1) (by simpa using h2)]
theorem jpd:∀ (ds ss ls:List Int) (j:Nat),ss.length=ds.length→ls.length=ds.length→j<ds.length→(jkV ds ss ls).getD j 0=if ds.getD j 0=ls.getD j 0 then ss.getD j 0 else 0
 | d::ds,s::ss,l::ls,0,_,_,_=>by simp [jkV]
 | d::ds,s::ss,l::ls,j+1,h1,h2,h3=>by
  simp only [jkV,List.getD_cons_succ];exact jpd ds ss ls j (by simpa using h1) (by simpa using h2) (by simpa using h3)
theorem jpe (a b:List Int) (t:Nat):(a++b).getD t 0=if t<a.length then a.getD t 0 else b.getD (t - a.length) 0:=by
 simp only [List.getD,List.getElem?_append]
 split <;> rfl
theorem jpf {ds ss l:List Int} (hs:ss.length=ds.length) (hl:ds.length≤l.length):spr ds ss l=List.replicate (l.length - ds.length) 0++jkV ds ss (l.drop (l.length - ds.length)):=by
 have hdl:(l.drop (l.length - ds.length)).length=ds.length:=by simp;omega
 have hsl:=jgc ds ss _ hs hdl;refine jdR (by rw [spr_length,List.length_append,hsl,List.length_replicate];omega) fun t ht=>?_;rw [spr_length] at ht;rw [jpa ht,jpe,List.length_replicate]
 by_cases h:t<l.length - ds.length
 ·rw [if_neg (fun h'=>by omega),if_pos h];simp [List.getD,h]
 ·rw [if_neg h];have h1:=jpd ds ss _ (t - (l.length - ds.length)) hs hdl (by omega)
  have h2:(l.drop (l.length - ds.length)).getD (t - (l.length - ds.length)) 0=l.getD t 0:=by
   simp only [List.getD,List.getElem?_drop];rw [show l.length - ds.length+(t - (l.length - ds.length))=t by omega]
  rw [h2] at h1;rw [h1]
  by_cases h3:ds.getD (t - (l.length - ds.length)) 0=l.getD t 0
  ·rw [if_pos h3,if_pos ⟨by omega,h3⟩]
  ·rw [if_neg h3,if_neg fun h'=>h3 h'.2]
theorem crds_drop:∀ (zs:List Int) (k:Nat) (n:Int),(jdn zs n).drop k=jdn (zs.drop k) n
 | [],k,n=>by simp [jdn]
 | z::zs,0,n=>rfl
 | z::zs,k+1,n=>by simp only [jdn,List.drop_succ_cons];exact crds_drop zs k n
theorem spread_at {ds l:List Int} (hd:Fine ds) (hE:bcE ds l=0) (hR:bcR ds l=l) (n:Nat) (hn:(n:Int)<jaA l) :
    (plc l (spr ds (jcj ds) l) 0).getD n 0=jey ds (msk ds ((jdn l n).drop (l.length - ds.length))):=by
     obtain ⟨hroom,hcl⟩:=bc_room hE hR;have hF:=jbb hcl;have hdl:(l.drop (l.length - ds.length)).length=ds.length:=by simp;omega
     rw [jr0 l _ 0 (spr_length _ _ _) hF.pos n hn,jpf (jcF ds) hroom,Int.zero_add]
     have h1:dot (jdn l n) (List.replicate (l.length - ds.length) 0++jkV ds (jcj ds) (l.drop (l.length - ds.length)))=dot ((jdn l n).drop (l.length - ds.length)) (jkV ds (jcj ds) (l.drop (l.length - ds.length))):=by
      have h2:=jgM ((jdn l n).take (l.length - ds.length)) (List.replicate (l.length - ds.length) 0) ((jdn l n).drop (l.length - ds.length)) (jkV ds (jcj ds) (l.drop (l.length - ds.length))) (by rw [List.length_take,jc5,List.length_replicate];omega);rw [List.take_append_drop,jit _ _ fun s hs=>List.eq_of_mem_replicate hs,Int.zero_add] at h2;exact h2
     rw [h1];refine jkW ds _ _ hdl.symm (by rw [crds_drop];exact jek _ _ fun z hz=>hF.pos z (List.mem_of_mem_drop hz)) fun j hj=>?_;have h3:=bc_fits hd hE hR j hj;rw [show (l.drop (l.length - ds.length)).getD j 0=l.getD (l.length - ds.length+j) 0 by simp only [List.getD,List.getElem?_drop]];exact h3
end Go.Proofs.YteigfipgmghgmaaGreatDoor.Vw
