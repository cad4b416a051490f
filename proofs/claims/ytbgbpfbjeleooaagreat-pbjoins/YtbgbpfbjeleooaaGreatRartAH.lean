/- A part. -/
import Derived.Test.YtbgbpfbjeleooaaGreatRartAE
import Derived.Test.YtbgbpfbjeleooaaGreatRartAG
import Derived.Test.YtbgbpfbjeleooaaGreatRartAC
import Derived.Deep.RegionHeld3
import Derived.Deep.AppendLies
set_option maxHeartbeats 6400000
set_option maxRecDepth 100000
namespace Go.Proofs.YtbgbpfbjeleooaaGreat
open Go.RowKit
def jev (z:Int):List Value:=[.int .i64 z]
theorem jdq (z:Int):(jev z).length=1:=rfl
def New (n m:Nat) (v:Value):Prop:=∀ k,v.ownBlock=some k→n≤k∧k<m
theorem New.mono {n m n' m':Nat} {v:Value} (h:New n m v) (hn:n'≤n) (hm:m≤m'):New n' m' v:=fun k hk=>by have:=h k hk;omega
theorem jaj.past {w w':World} {v:Value} {zs:List Int} (h:jaj w v zs) {B n m:Nat} (hn:New n m v) (hB:B<n∨m≤B) (hg:w.grownBy w' (some B)):jaj w' v zs :=
 h.kept fun b hb hv=>hg.block b hb (fun e=>by have:=hn b hv;cases e;omega)
theorem jg9 {w:World} {v:Value} {zs:List Int} (h:jaj w v zs):IsL 8 1 jev w v zs:=by
 obtain ⟨ao,cap,rfl,h1,h2,h3,h4,h5,h6⟩:=h;refine ⟨ao,cap,rfl,h1,h2,h3,h4,fun hl=>?_⟩;obtain ⟨b,off,rfl,hc⟩:=h5 hl;refine ⟨b,off,rfl,fun k hk j hj=>?_⟩;obtain rfl:j=0:=by omega
 rw [Nat.mul_one,Nat.add_zero,hc k hk];exact ⟨by simp [jev,List.getD,hk],by simp [jev]⟩
theorem jha {w:World} {v:Value} {zs:List Int} (h:IsL 8 1 jev w v zs) (hwf:∀ z∈zs,-9223372036854775808≤z∧z≤9223372036854775807):jaj w v zs:=by
 obtain ⟨ao,cap,rfl,h1,h2,h3,h4,h5⟩:=h;refine ⟨ao,cap,rfl,h1,h2,h3,h4,fun hl=>?_,hwf⟩;obtain ⟨b,off,rfl,hc⟩:=h5 hl;refine ⟨b,off,rfl,fun k hk=>?_⟩;obtain ⟨e,-⟩:=hc k hk 0 (by omega);rw [Nat.mul_one,Nat.add_zero] at e;rw [e];simp [jev,List.getD,hk]
theorem jky:(Tryz.prog.info? 2).map (fun i=>(i.zero,i.size,i.bytes))=some (some (.int .i64 0),1,8):=by kernel_rfl
theorem jiy:(Tryz.prog.info? 3).map (fun i=>(i.zero,i.size,i.bytes))=some (some (.int .i64 0),1,8):=by kernel_rfl
theorem jjc {α : Type} {o : Oper} {a : Act} {w : World} {K : Act → World → Prop} {Q : Exit → Act → World → Prop} (s x : Operand) (t te : TypeId) (size bytes : Nat) (z : Value) (i0 : TypeInfo) (f : α → List Value)
    (ho:o.op=.call { callee:=.builtin .append,args:=#[s,x],argTypes:=#[t,t] }) (ht:Tryz.prog.underlying t=some (.slice te)) (hi:Tryz.prog.info? te=some i0) (hz:i0.zero=some z)
    (hsize:i0.size=size) (hby:i0.bytes=bytes) (hzs:z.cells.size=size) (hsz:0<size) (hs:a.eval s=.slice none 0 0)
    (xv:Value) (ys:List α) (hx:a.eval x=xv) (hys:IsL bytes size f w xv ys) (hl:∀ y,(f y).length=size) (h1:∀ y,∀ u∈f y,u.oneCell'=true)
    (h:∀ v' w',OwnsL te size f w' w.heap.size v' ys→w.grownBy w' none→K (a.put o.dst v') w'):o.wp Tryz.prog a w K Q:=by
     obtain ⟨ao,cap,rfl,k1,k2,k3,k4,k5⟩:=hys
     cases ao with
     | none =>
      obtain ⟨rfl,rfl⟩:=k4 rfl;have hrun:=run_append_owned_none (P:=Tryz.prog) (w:=w) w.heap.size t o.type te i0 size ht hi (.slice none 0 0) 0 [] (World.ownsRow_nil _ _ _ _);unfold Oper.wp;simp [execOp,ho,resolve,invoke,builtin,hs,hx,hrun,Result.andThen];exact h _ _ (OwnsL.nil ..) (jae _)
     | some ad =>
      refine wp_append_own w s x t ho w.heap.size te i0 z size bytes ht hi hz hsize hby hzs hsz (.slice none 0 0) 0 [] hs (World.ownsRow_nil _ _ _ _) ad ys.length cap (ys.flatMap f) hx (jdC hl ys) ?_ ?_ (by simp only [maxLen];omega) (by rw [Nat.zero_add];omega) (Nat.le_refl _) ?_
      ·intro j u hu
       by_cases hy:0<ys.length
       ·obtain ⟨b,off,hao,hc⟩:=k5 hy;obtain rfl:=Option.some.inj hao
        have hj:j<ys.length*size:=by
         have:=(List.getElem?_eq_some_iff.1 hu).1
         rwa [jdC hl] at this
        have hjs:j % size<size:=Nat.mod_lt _ hsz;have hjd:j / size<ys.length:=(Nat.div_lt_iff_lt_mul hsz).2 hj;have e1:j=j / size*size+j % size:=by rw [Nat.mul_comm];exact (Nat.div_add_mod j size).symm
        rw [e1,jfm hl ys _ _ hjd hjs] at hu;rw [Addr.add_lit];have:=(hc (j / size) hjd (j % size) hjs).1;rw [Nat.add_assoc,← e1] at this;rw [this,hu]
       ·obtain rfl:ys=[]:=List.length_eq_zero_iff.1 (by omega);simp at hu
      ·intro u hu;obtain ⟨y,-,hy⟩:=List.mem_flatMap.1 hu;exact h1 y u hy
      ·intro v' w' ho' hg _;refine h v' w' ?_ hg;unfold OwnsL;simpa using ho'
theorem jf5 {α : Type} {ops : Array Oper} {rest : List Oper} {o : Oper} {a : Act} {w : World} {Q : Exit → Act → World → Prop} (hgd : o.guard = none) (s x : Operand) (t te : TypeId) (size bytes : Nat) (z : Value) (i0 : TypeInfo) (f : α → List Value)
    (ho:o.op=.call { callee:=.builtin .append,args:=#[s,x],argTypes:=#[t,t] }) (ht:Tryz.prog.underlying t=some (.slice te)) (hi:Tryz.prog.info? te=some i0) (hz:i0.zero=some z)
    (hsize:i0.size=size) (hby:i0.bytes=bytes) (hzs:z.cells.size=size) (hsz:0<size) (hs:a.eval s=.slice none 0 0)
    (xv:Value) (ys:List α) (hx:a.eval x=xv) (hys:IsL bytes size f w xv ys) (hl:∀ y,(f y).length=size) (h1:∀ y,∀ u∈f y,u.oneCell'=true)
    (h:∀ v' w',OwnsL te size f w' w.heap.size v' ys→w.grownBy w' none→wpList Tryz.prog ops Q rest (a.put o.dst v') w'):wpList Tryz.prog ops Q (o::rest) a w :=
     wpList_plain hgd fun _ hK=>jjc s x t te size bytes z i0 f ho ht hi hz hsize hby hzs hsz hs xv ys hx hys hl h1 fun v' w' h2 h3=>hK _ _ (h v' w' h2 h3)
theorem jjT {α : Type} {ops : Array Oper} {o : Oper} {a : Act} {w : World} {K : Act → World → Prop} {Q : Exit → Act → World → Prop} {E : Prop} (hgd : o.guard = none) (s x : Operand) (t te : TypeId) (size bytes : Nat) (z : Value) (i0 : TypeInfo) (f : α → List Value)
    (ho:o.op=.call { callee:=.builtin .append,args:=#[s,x],argTypes:=#[t,t] }) (ht:Tryz.prog.underlying t=some (.slice te)) (hi:Tryz.prog.info? te=some i0) (hz:i0.zero=some z)
    (hsize:i0.size=size) (hby:i0.bytes=bytes) (hzs:z.cells.size=size) (hsz:0<size) (hs:a.eval s=.slice none 0 0)
    (xv:Value) (ys:List α) (hx:a.eval x=xv) (hys:IsL bytes size f w xv ys) (hl:∀ y,(f y).length=size) (h1:∀ y,∀ u∈f y,u.oneCell'=true)
    (h:∀ v' w',OwnsL te size f w' w.heap.size v' ys→w.grownBy w' none→K (a.put o.dst v') w'):if Region.wanted o (yielded ops a.tmps)=true then Oper.wp Tryz.prog o a w K Q else E:=by
     have hw:Region.wanted o (yielded ops a.tmps)=true:=by simp [Region.wanted,hgd]
     rw [if_pos hw];exact jjc s x t te size bytes z i0 f ho ht hi hz hsize hby hzs hsz hs xv ys hx hys hl h1 h
theorem jf6 (y:Int):∀ u∈jev y,u.oneCell'=true:=by intro u hu;rw [jev,List.mem_singleton] at hu;subst hu;rfl
theorem jf7 {te:TypeId} {w:World} {base:Nat} {v:Value} {zs:List Int} (h:OwnsL te 1 jev w base v zs) (hl:zs.length*8≤140737488351232) (hwf:∀ z∈zs,-9223372036854775808≤z∧z≤9223372036854775807):jaj w v zs:=jha (h.isL (bytes:=8) jdq hl) hwf
theorem jhb {α:Type} {te:TypeId} {size:Nat} {f:α→List Value} {w:World} {base:Nat} {v:Value} {xs:List α} (h:OwnsL te size f w base v xs):New base w.heap.size v:=fun k hk=>World.ownsRow.lt h k hk
theorem jfC (v:Value) (zs:List Int) (w:World) (h:jaj w v zs) :
    Calls Tryz.prog 64 #[v] w fun e w'=>∃ u:Sl,e=.returned u.v∧jaj w' u.v zs∧New w.heap.size w'.heap.size u.v∧w.grownBy w' none:=by
     obtain ⟨i0,hi,hz0,hz1,hz2⟩:=info_parts jiy;have h3:=h.le;have hwf:=jac h.wf;have H:=jac (jg9 h);clear h;go_enter Tryz.func64,Tryz.ntmps64;go_wp2_with (at_builtin;refine jf5 rfl (.tmp 4) (.tmp 5) 41 3 1 8 (.int .i64 0) i0 jev rfl Tryz.underlying41 hi hz0 hz1 hz2 rfl (by decide) rfl v zs rfl H.out jdq jf6 ?_;intro v' w1 hown hgrow);have HO:=jac hown;obtain ⟨xa,xc,rfl⟩:=OwnsL.form hown;clear hown;go_ret;exact ⟨⟨xa,zs.length,xc⟩,rfl,jf7 HO.out h3 hwf.out,jhb HO.out,hgrow⟩
end Go.Proofs.YtbgbpfbjeleooaaGreat
namespace Go.Proofs.YtbgbpfbjeleooaaGreat
open Go.RowKit
theorem jng:(Tryz.prog.info? 44).map (·.size)=some 3:=by kernel_rfl
theorem jnh {fn : Func} {p : Tmp} (h : fn.results = #[.cell p 44]) (tmps : Array Value) (w : World) (B : Nat) (hp : tmps.getD p undef = .pointer (some ⟨B, 0, none⟩)) {a0 a1 a2 : Value}
    (hb:w.heap[B]?=some (.cells #[a0,a1,a2] 44 (0,0))):(results fn tmps).run Tryz.prog w=.ok (.agg #[a0,a1,a2]) w :=
     results_cell_row h tmps w B 44 #[a0,a1,a2] (0,0) _ hp hb Tryz.underlying44 rfl (by rw [jng];rfl)
theorem jkz {w3:World} {B:Nat} {z0 z1 z2:Value} {t:TypeId} (a b c:Value) (hb:w3.heap[B]?=some (.cells #[z0,z1,z2] t (0,0))) :
    (((w3.setCell ⟨B,0,none⟩ a).setCell ⟨B,1,none⟩ b).setCell ⟨B,2,none⟩ c).heap[B]?=some (.cells #[a,b,c] t (0,0))∧w3.grownBy (((w3.setCell ⟨B,0,none⟩ a).setCell ⟨B,1,none⟩ b).setCell ⟨B,2,none⟩ c) (some B):=by
     have h1:=heap_setCell_same w3 B 0 _ _ a hb;have h2:=heap_setCell_same _ B 1 _ _ b h1;have h3:=heap_setCell_same _ B 2 _ _ c h2
     have g:∀ (x:World) (j:Nat) (v:Value),x.grownBy (x.setCell ⟨B,j,none⟩ v) (some B):=fun x j v =>
      ⟨rfl,rfl,rfl,by simp [World.setCell],fun k _ hk=>Below.heap_setCell _ _ _ _ (fun e=>hk (by rw [e]))⟩
     exact ⟨by simpa using h3,ja1 (ja1 (g w3 0 a) (g _ 1 b)) (g _ 2 c)⟩
theorem jfo {w:World} {B:Nat} {z0 z1 z2:Value} {t:TypeId} (hb:w.heap[B]?=some (.cells #[z0,z1,z2] t (0,0))) :
    w.frozen? ⟨B,0,none⟩=false∧w.frozen? ⟨B,1,none⟩=false∧w.frozen? ⟨B,2,none⟩=false :=
     ⟨frozen_of_row w B 0 _ _ hb,frozen_of_row w B 1 _ _ hb,frozen_of_row w B 2 _ _ hb⟩
theorem jf8 (ty:Int) (dv tv:Value) (ds ts:List Int) (w:World) (hd:jaj w dv ds) (ht:jaj w tv ts) :
    Calls Tryz.prog 34 #[.agg #[.int .i64 ty,dv,tv]] w fun e w'=>∃ d t:Sl,e=.returned (.agg #[.int .i64 ty,d.v,t.v])∧jaj w' d.v ds∧jaj w' t.v ts∧New w.heap.size w'.heap.size d.v∧New w.heap.size w'.heap.size t.v∧w.grownBy w' none:=by
     obtain ⟨i0,hi,hz0,hz1,hz2⟩:=info_parts jky;have HD:=jac hd;have HT:=jac ht;obtain ⟨da,dc,rfl,-⟩:=hd;obtain ⟨ta,tc,rfl,-⟩:=ht;obtain ⟨w0,hw0⟩ : ∃ w0,w0=(w.alloc (.cells #[.int .i64 ty,.slice da ds.length dc,.slice ta ts.length tc] 44)).alloc (.cells #[.int .i64 0,.slice none 0 0,.slice none 0 0] 44):=⟨_,rfl⟩
     have g0:w.grownBy w0 none:=by rw [hw0];exact jaa (jab _ _) (jab _ _)
     have hbx:w0.heap[w.heap.size]?=some (.cells #[.int .i64 ty,.slice da ds.length dc,.slice ta ts.length tc] 44 (0,0))∧w0.heap[w.heap.size+1]?=some (.cells #[.int .i64 0,.slice none 0 0,.slice none 0 0] 44 (0,0)):=by
      rw [hw0];refine ⟨jag (heap_alloc_new w _) (jab _ _),?_⟩;have:=heap_alloc_new (w.alloc (.cells #[.int .i64 ty,.slice da ds.length dc,.slice ta ts.length tc] 44)) (.cells #[.int .i64 0,.slice none 0 0,.slice none 0 0] 44);simpa using this
     have hs0:w0.heap.size=w.heap.size+1+1:=by rw [hw0];simp
     have BX:=jac hbx;have S0:=jac hs0;obtain ⟨c0,c1,c2⟩:=ja3 hbx.1;clear hbx hs0;go_enter Tryz.func34,Tryz.ntmps34;go_wp2_with fail;rw [← hw0];clear hw0;go_cut [3] from 4 to 9 (fun p wx=>∃ (B:Nat) (d:Sl),p=.pointer (some ⟨B,0,none⟩)∧wx.heap[B]?=some (.cells #[.int .i64 ty,.slice d.a d.n d.c,.slice none 0 0] 44 (0,0))∧jaj wx d.v ds∧New w0.heap.size wx.heap.size d.v∧w0.heap.size≤B∧(∀ k,d.v.ownBlock=some k→k≠B)∧w0.grownBy wx none)
     case first =>
      have gd:=jaz (jae w0);have CI:=jac (fun (wx:World) (hx:w0.grownBy wx none)=>jfC _ ds wx (HD.out.more (jaa g0 hx)));have ga:=jaz (jab w0 (.cells #[.int .i64 0,.slice none 0 0,.slice none 0 0] 44));have y1:w.heap.size≠w0.heap.size:=by have:=S0.out;omega
      have y1':=y1.symm;go_region_held3 (fun w'=>w'.cell? ⟨w.heap.size,0,none⟩=some (.int .i64 ty)∧w'.cell? ⟨w.heap.size,1,none⟩=some (.slice da ds.length dc)∧w'.cell? ⟨w.heap.size,2,none⟩=some (.slice ta ts.length tc)) (go_keep) (first | (go_at_call 64;refine (CI.out _ (by first | exact gd | exact ga)).mono ?_;rintro e w3 ⟨u,rfl,hu,nu,hg3⟩;have g3:w0.grownBy w3 none:=(by first | exact jaa gd hg3 | exact jaa ga hg3);obtain ⟨c0,c1,c2⟩:=ja3 (jag BX.out.1 g3);have y2:w.heap.size≠w3.heap.size:=(by have:=g3.size;have:=S0.out;omega);have y2':=y2.symm;try (have kz:w3.heap[w0.heap.size]?=some (.cells #[.int .i64 0,.slice none 0 0,.slice none 0 0] 44 (0,0)):=jag (show ((w0.alloc (.cells #[.int .i64 0,.slice none 0 0,.slice none 0 0] 44)).drew).heap[w0.heap.size]?=_ from heap_alloc_new w0 _) hg3;obtain ⟨f0,f1,f2⟩:=jfo kz;obtain ⟨k0,k1,k2⟩:=ja3 kz)))
      all_goals (go_wp2_with fail;go_meet)
      ·refine ⟨_,u,rfl,heap_alloc_new w3 _,hu.more (jab _ _),nu.mono (Nat.le_refl _) (by simp),g3.size,fun k hk=>?_,jaa g3 (jab _ _)⟩;have:=nu k hk;omega
      ·have nu':New (w0.heap.size+1) w3.heap.size u.v:=by simpa using nu
       obtain ⟨hX,gX⟩:=jkz (.int .i64 ty) (.slice u.a u.n u.c) (.slice none 0 0) kz;have gs:=gX.size;refine ⟨_,u,rfl,hX,hu.past nu' (Or.inl (by omega)) gX,nu'.mono (by omega) gs,Nat.le_refl _,fun k hk=>?_,jah g3 gX (fun r e=>by cases e;exact Nat.le_refl _)⟩;have:=nu' k hk;omega
     case rest =>
      obtain ⟨B,d,rfl,hb,hu,nu,hB,hne,hg⟩:=hcut;have HU:=jac hu;have HB:=jac hb;have NU:=jac nu;have NE:=jac hne;have gw:=jaa g0 hg;have BW:=jac (And.intro (jag BX.out.1 hg) (jag BX.out.2 hg));clear c0 c1 c2 hu hb nu hne;obtain ⟨c0,c1,c2⟩:=ja3 BW.out.1;obtain ⟨b0,b1,b2⟩:=ja3 HB.out;have HL:=jac (jg9 (HT.out.more gw));have hlt:=HT.out.le;have y1:w.heap.size+1≠B:=by have:=S0.out;omega
      have y1':=y1.symm;go_wp2_with (at_builtin;refine jf5 rfl (.tmp 11) (.tmp 13) 42 2 1 8 (.int .i64 0) i0 jev rfl Tryz.underlying42 hi hz0 hz1 hz2 rfl (by decide) rfl _ ts rfl HL.out jdq jf6 ?_;intro v' w1 hown hgrow;have HO:=jac hown;obtain ⟨xa,xc,rfl⟩:=OwnsL.form hown;have HB1:=jac (jag HB.out hgrow);have BW1:=jac (jag BW.out.2 hgrow);clear c0 c1 c2 b0 b1 b2 hown;obtain ⟨b0,b1,b2⟩:=ja3 HB1.out;obtain ⟨f0,f1,f2⟩:=jfo HB1.out;obtain ⟨q0,q1,q2⟩:=ja3 BW1.out;obtain ⟨p0,p1,p2⟩:=jfo BW1.out);have h1:=heap_setCell_same w1 B 2 _ _ (.slice xa ts.length xc) HB1.out;have gB:w1.grownBy (w1.setCell ⟨B,2,none⟩ (.slice xa ts.length xc)) (some B):=⟨rfl,rfl,rfl,by simp [World.setCell],fun k _ hk=>Below.heap_setCell _ _ _ _ (fun e=>hk (by rw [e]))⟩
      have h2:(w1.setCell ⟨B,2,none⟩ (.slice xa ts.length xc)).heap[w.heap.size+1]?=some (.cells #[.int .i64 0,.slice none 0 0,.slice none 0 0] 44 (0,0)):=(gB.block _ (Array.getElem?_eq_some_iff.1 BW1.out).1 (fun e=>y1 (Option.some.inj e))).trans BW1.out;obtain ⟨hX,gX⟩:=jkz (.int .i64 ty) (.slice d.a d.n d.c) (.slice xa ts.length xc) h2;refine bodyPost_ret (jnh rfl _ _ (w.heap.size+1) rfl hX) rfl ?_;have n1:New w0.heap.size w1.heap.size d.v:=NU.out.mono (Nat.le_refl _) hgrow.size;have n2:=jhb HO.out;have s0:=S0.out;have s1:=hg.size;have s2:=(Array.getElem?_eq_some_iff.1 HB.out).1;have e1:(w1.setCell ⟨B,2,none⟩ (.slice xa ts.length xc)).heap.size=w1.heap.size:=by simp [World.setCell]
      refine ⟨d,⟨xa,ts.length,xc⟩,rfl,?_,?_,?_,?_,?_⟩
      ·have a1:=HU.out.more hgrow;have a2:=a1.kept (w':=w1.setCell ⟨B,2,none⟩ (.slice xa ts.length xc)) (fun b hb hv=>gB.block b hb (fun e=>NE.out b hv (Option.some.inj e)));exact a2.past (n1.mono (Nat.le_refl _) (Nat.le_of_eq e1.symm)) (Or.inl (by omega)) gX
      ·have a1:=jf7 HO.out hlt HT.out.wf;exact (a1.past n2 (Or.inl s2) gB).past n2 (Or.inl (by omega)) gX
      ·exact n1.mono (by omega) (by have:=gX.size;omega)
      ·exact n2.mono (by omega) (by have:=gX.size;omega)
      ·exact jah (jah (jaa gw hgrow) gB (fun r e=>by cases e;omega)) gX (fun r e=>by cases e;omega)
end Go.Proofs.YtbgbpfbjeleooaaGreat
namespace Go.Proofs.YtbgbpfbjeleooaaGreat
open Go.RowKit
structure Cont where
 d:List Int
 t:List Int
 i:List Int
def jcS (a:Atr):Atr:=⟨a.name,a.kind,a.f,a.i,a.s,a.ty,⟨none,0,0⟩,⟨none,0,0⟩,⟨none,0,0⟩⟩
structure Has (w:World) (a:Atr) (c:Cont):Prop where
 d:jaj w a.dv.v c.d
 t:jaj w a.tv.v c.t
 i:jaj w a.iv.v c.i
def Apt (u v:Value):Prop:=∀ k,u.ownBlock=some k→v.ownBlock≠some k
structure NewA (n m:Nat) (a:Atr):Prop where
 d:New n m a.dv.v
 t:New n m a.tv.v
 i:New n m a.iv.v
structure ApA (a:Atr) (v:Value):Prop where
 d:Apt a.dv.v v
 t:Apt a.tv.v v
 i:Apt a.iv.v v
theorem Has.kept {w w':World} {a:Atr} {c:Cont} (h:Has w a c) (hk:∀ b,b<w.heap.size→(a.dv.v.ownBlock=some b∨a.tv.v.ownBlock=some b∨a.iv.v.ownBlock=some b)→w'.heap[b]?=w.heap[b]?):Has w' a c :=
 ⟨h.d.kept fun b hb e=>hk b hb (Or.inl e),h.t.kept fun b hb e=>hk b hb (Or.inr (Or.inl e)),h.i.kept fun b hb e=>hk b hb (Or.inr (Or.inr e))⟩
theorem Has.more {w w':World} {a:Atr} {c:Cont} (h:Has w a c) (hg:w.grownBy w' none):Has w' a c:=⟨h.d.more hg,h.t.more hg,h.i.more hg⟩
theorem NewA.mono {n m n' m':Nat} {a:Atr} (h:NewA n m a) (hn:n'≤n) (hm:m≤m'):NewA n' m' a:=⟨h.d.mono hn hm,h.t.mono hn hm,h.i.mono hn hm⟩
theorem NewA.any {n m:Nat} {a:Atr} (h:NewA n m a) {b:Nat} (e:a.dv.v.ownBlock=some b∨a.tv.v.ownBlock=some b∨a.iv.v.ownBlock=some b):n≤b∧b<m:=by
 rcases e with e | e | e
 ·exact h.d b e
 ·exact h.t b e
 ·exact h.i b e
theorem ApA.any {a:Atr} {v:Value} (h:ApA a v) {b:Nat} (e:a.dv.v.ownBlock=some b∨a.tv.v.ownBlock=some b∨a.iv.v.ownBlock=some b):v.ownBlock≠some b:=by
 rcases e with e | e | e
 ·exact h.d b e
 ·exact h.t b e
 ·exact h.i b e
theorem ApA.of {a:Atr} {v:Value} (h:∀ b,(a.dv.v.ownBlock=some b∨a.tv.v.ownBlock=some b∨a.iv.v.ownBlock=some b)→v.ownBlock≠some b):ApA a v :=
 ⟨fun b e=>h b (Or.inl e),fun b e=>h b (Or.inr (Or.inl e)),fun b e=>h b (Or.inr (Or.inr e))⟩
structure CInv (W2:World) (O b2:Nat) (op nam out:ByteArray) (I:Sl) (xs:List Atr) (cs:List Cont) (k:Nat) (wr:World) (v:Sl) (ys:List Atr):Prop where
 box:wr.heap[O]?=some (.cells #[.string op,.string nam,.slice I.a I.n I.c,.string out,.slice v.a v.n v.c] 35 (0,0))
 own:OwnsL 78 9 jbw wr b2 v.v ys
 len:ys.length=k
 eq:ys.map jcS=(xs.take k).map jcS
 has:∀ (j:Nat) (a:Atr) (c:Cont),ys[j]?=some a→cs[j]?=some c→Has wr a c
 new:∀ a∈ys,NewA b2 wr.heap.size a∧ApA a v.v
 grown:W2.grownBy wr (some O)
theorem jed (a:Atr):(jbw a).length=9:=rfl
theorem jkA (a:Atr):∀ u∈jbw a,u.oneCell'=true:=by
 intro u hu;simp only [jbw,List.mem_cons,List.not_mem_nil,or_false] at hu
 rcases hu with rfl | rfl | rfl | rfl | rfl | rfl | rfl | rfl | rfl <;> rfl
theorem jlU:(Tryz.prog.info? 78).map (fun i=>(i.zero,i.size,i.bytes))=some (some (.agg #[.string ⟨#[]⟩,.int .i64 0,.int .i64 0,.int .i64 0,.string ⟨#[]⟩,.int .i64 0,.slice none 0 0,.slice none 0 0,.slice none 0 0]),9,136):=by kernel_rfl
theorem jjU {xs:List Atr} {k:Nat} (hk:k<xs.length):(xs.take (k+1)).map jcS=(xs.take k).map jcS++[jcS xs[k]]:=by
 rw [List.take_add_one,List.map_append,List.getElem?_eq_getElem hk]
 rfl
theorem CInv.step {W2 : World} {O b2 : Nat} {op nam out : ByteArray} {I : Sl} {xs : List Atr} {cs : List Cont} {k : Nat} {wr W9 : World} {v v' : Sl} {ys : List Atr} {y : Atr} {lo : Nat} (h : CInv W2 O b2 op nam out I xs cs k wr v ys) (hk : k < xs.length) (hO : O < b2) (hW2 : W2.heap.size ≤ b2) (hb2 : b2 ≤ wr.heap.size) (hlo0 : wr.heap.size ≤ lo)
    (kp:∀ b,b<wr.heap.size→b≠O→v.v.ownBlock≠some b→W9.heap[b]?=wr.heap[b]?) (hsz:wr.heap.size≤W9.heap.size) (hos:W9.os=wr.os) (htp:W9.tape=wr.tape) (hout:W9.output=wr.output)
    (box:W9.heap[O]?=some (.cells #[.string op,.string nam,.slice I.a I.n I.c,.string out,.slice v'.a v'.n v'.c] 35 (0,0)))
    (own:OwnsL 78 9 jbw W9 b2 v'.v (ys++[y])) (hst:jcS y=jcS xs[k]) (hy:∀ c,cs[k]?=some c→Has W9 y c) (hny:NewA wr.heap.size lo y) (hlo:lo≤W9.heap.size) (hay:∀ b,v'.v.ownBlock=some b→v.v.ownBlock=some b∨lo≤b):CInv W2 O b2 op nam out I xs cs (k+1) W9 v' (ys++[y]):=by
     have vlt:∀ b,v.v.ownBlock=some b→b2≤b∧b<wr.heap.size:=fun b e=>World.ownsRow.lt h.own b e;refine ⟨box,own,by rw [List.length_append,h.len];rfl,by rw [List.map_append,h.eq,jjU hk];simp [hst],?_,?_,?_⟩
     ·intro j a c ha hc
      by_cases hj:j<ys.length
      ·rw [List.getElem?_append_left hj] at ha;have hm:=h.new a (List.mem_of_getElem? ha);refine (h.has j a c ha hc).kept fun b hb e=>kp b hb ?_ (hm.2.any e);have:=hm.1.any e;omega
      ·obtain rfl : j = ys.length := by
         have:=(List.getElem?_eq_some_iff.1 ha).1;rw [List.length_append] at this;simp at this;omega
       rw [List.getElem?_append_right (Nat.le_refl _),Nat.sub_self] at ha;obtain rfl:y=a:=by simpa using ha
       exact hy c (by rw [← h.len];exact hc)
     ·intro a ha
      rcases List.mem_append.1 ha with ha | ha
      ·have hm:=h.new a ha;refine ⟨hm.1.mono (Nat.le_refl _) hsz,ApA.of fun b e hv=>?_⟩;have h1:=hm.1.any e
       rcases hay b hv with h2 | h2
       ·exact hm.2.any e h2
       ·omega
      ·obtain rfl:a=y:=by simpa using ha
       refine ⟨hny.mono hb2 hlo,ApA.of fun b e hv=>?_⟩;have h1:=hny.any e
       rcases hay b hv with h2 | h2
       ·have:=vlt b h2;omega
       ·omega
     ·refine ⟨hos.trans h.grown.os,htp.trans h.grown.tape,hout.trans h.grown.output,Nat.le_trans h.grown.size hsz,fun b hb hne=>?_⟩;refine (kp b (Nat.lt_of_lt_of_le hb h.grown.size) (fun e=>hne (by rw [e])) (fun e=>?_)).trans (h.grown.block b hb hne);have:=vlt b e;omega
structure Copied (w w':World) (n:Nod) (ins:List ByteArray) (xs:List Atr) (cs:List Cont) (iv av:Sl) (ys:List Atr):Prop where
 ins:OwnsL 9 1 jgD w' w.heap.size iv.v ins
 own:OwnsL 78 9 jbw w' w.heap.size av.v ys
 eq:ys.map jcS=xs.map jcS
 has:∀ (j:Nat) (a:Atr) (c:Cont),ys[j]?=some a→cs[j]?=some c→Has w' a c
 new:∀ a∈ys,NewA w.heap.size w'.heap.size a∧ApA a av.v∧ApA a iv.v
 apt:Apt iv.v av.v
 grown:w.grownBy w' none
theorem jlV:(Tryz.prog.info? 35).map (·.size)=some 5:=by kernel_rfl
theorem jiz {fn : Func} {p : Tmp} (h : fn.results = #[.cell p 35]) (tmps : Array Value) (w : World) (B : Nat) (hp : tmps.getD p undef = .pointer (some ⟨B, 0, none⟩)) {a0 a1 a2 a3 a4 : Value}
    (hb:w.heap[B]?=some (.cells #[a0,a1,a2,a3,a4] 35 (0,0))):(results fn tmps).run Tryz.prog w=.ok (.agg #[a0,a1,a2,a3,a4]) w :=
     results_cell_row h tmps w B 35 #[a0,a1,a2,a3,a4] (0,0) _ hp hb Tryz.underlying35 rfl (by rw [jlV];rfl)
theorem jfp {w:World} {B:Nat} {z0 z1 z2 z3 z4:Value} (hb:w.heap[B]?=some (.cells #[z0,z1,z2,z3,z4] 35 (0,0))) :
    w.frozen? ⟨B,0,none⟩=false∧w.frozen? ⟨B,1,none⟩=false∧w.frozen? ⟨B,2,none⟩=false∧w.frozen? ⟨B,3,none⟩=false∧w.frozen? ⟨B,4,none⟩=false :=
     ⟨frozen_of_row w B 0 _ _ hb,frozen_of_row w B 1 _ _ hb,frozen_of_row w B 2 _ _ hb,frozen_of_row w B 3 _ _ hb,frozen_of_row w B 4 _ _ hb⟩
theorem jit {w:World} {B j:Nat} {cs:Array Value} {t:TypeId} (x:Value) (hb:w.heap[B]?=some (.cells cs t (0,0))) :
    (w.setCell ⟨B,j,none⟩ x).heap[B]?=some (.cells (cs.setIfInBounds j x) t (0,0))∧w.grownBy (w.setCell ⟨B,j,none⟩ x) (some B)∧(w.setCell ⟨B,j,none⟩ x).heap.size=w.heap.size :=
     ⟨heap_setCell_same w B j _ _ x hb,⟨rfl,rfl,rfl,by simp [World.setCell],fun k _ hk=>Below.heap_setCell _ _ _ _ (fun e=>hk (by rw [e]))⟩,by simp [World.setCell]⟩
theorem jdr {α:Type} {te:TypeId} {size:Nat} {f:α→List Value} {w w':World} {base:Nat} {v:Value} {xs:List α} (h:OwnsL te size f w base v xs) (hk:∀ b,v.ownBlock=some b→w'.heap[b]?=w.heap[b]?):OwnsL te size f w' base v xs:=by
 refine ⟨h.1,?_⟩
 rcases h.2 with h0 | ⟨g,cap,cur,rfl,hg,hb,r⟩
 ·exact .inl h0
 ·exact .inr ⟨g,cap,cur,rfl,hg,(hk g rfl).trans hb,r⟩
theorem jni {w:World} {B:Nat} {z0 z1 z2 z3 z4 z5 z6 z7 z8:Value} (a b c d:Value) (hb:w.heap[B]?=some (.cells #[z0,z1,z2,z3,z4,z5,z6,z7,z8] 78 (0,0))) :
    ((((w.setCell ⟨B,5,none⟩ a).setCell ⟨B,6,none⟩ b).setCell ⟨B,7,none⟩ c).setCell ⟨B,8,none⟩ d).heap[B]?=some (.cells #[z0,z1,z2,z3,z4,a,b,c,d] 78 (0,0))∧w.grownBy ((((w.setCell ⟨B,5,none⟩ a).setCell ⟨B,6,none⟩ b).setCell ⟨B,7,none⟩ c).setCell ⟨B,8,none⟩ d) (some B)∧((((w.setCell ⟨B,5,none⟩ a).setCell ⟨B,6,none⟩ b).setCell ⟨B,7,none⟩ c).setCell ⟨B,8,none⟩ d).heap.size=w.heap.size:=by
     obtain ⟨h1,g1,s1⟩:=jit (j:=5) a hb;obtain ⟨h2,g2,s2⟩:=jit (j:=6) b h1;obtain ⟨h3,g3,s3⟩:=jit (j:=7) c h2;obtain ⟨h4,g4,s4⟩:=jit (j:=8) d h3;exact ⟨by simpa using h4,ja1 (ja1 (ja1 g1 g2) g3) g4,by rw [s4,s3,s2,s1]⟩
end Go.Proofs.YtbgbpfbjeleooaaGreat
namespace Go.Proofs.YtbgbpfbjeleooaaGreat
open Go.RowKit
structure NodeIn (w:World) (n:Nod) (ins:List ByteArray) (xs:List Atr) (cs:List Cont):Prop where
 ins:jgL w n.iv.v ins
 av:jfn w n.av.v xs
 has:∀ (j:Nat) (a:Atr),xs[j]?=some a→∃ c,cs[j]?=some c∧Has w a c
 few:xs.length≤2097152
 short:∀ a∈xs,a.s.size≤1048576
theorem NodeIn.more {w w':World} {n:Nod} {ins:List ByteArray} {xs:List Atr} {cs:List Cont} (h:NodeIn w n ins xs cs) (hg:w.grownBy w' none):NodeIn w' n ins xs cs :=
 ⟨h.ins.more hg,h.av.more hg,fun j a e=>by obtain ⟨c,e1,e2⟩:=h.has j a e;exact ⟨c,e1,e2.more hg⟩,h.few,h.short⟩
theorem Copied.len {w w':World} {n:Nod} {ins:List ByteArray} {xs:List Atr} {cs:List Cont} {iv av:Sl} {ys:List Atr} (h:Copied w w' n ins xs cs iv av ys):ys.length=xs.length:=by
 have:=congrArg List.length h.eq;simpa using this
end Go.Proofs.YtbgbpfbjeleooaaGreat
namespace Go.Proofs.YtbgbpfbjeleooaaGreat
open Go.RowKit
structure Val where
 name:ByteArray
 ty:Int
 dv:Sl
def ja5 (v:Val):List Value:=[.string v.name,.int .i64 v.ty,.slice v.dv.a v.dv.n v.dv.c]
theorem ja2 (v:Val):(ja5 v).length=3:=rfl
structure Nam where
 name:ByteArray
 ty:Int
 dv:Sl
 tv:Sl
def jbm (v:Nam):List Value:=[.string v.name,.int .i64 v.ty,.slice v.dv.a v.dv.n v.dv.c,.slice v.tv.a v.tv.n v.tv.c]
theorem jcn (v:Nam):(jbm v).length=4:=rfl
def ncells (n:Nod):List Value:=[.string n.op,.string n.name,.slice n.iv.a n.iv.n n.iv.c,.string n.out,.slice n.av.a n.av.n n.av.c]
theorem jco (n:Nod):(ncells n).length=5:=rfl
abbrev jex (w:World) (v:Value) (xs:List Val):Prop:=IsL 48 3 ja5 w v xs
abbrev jjd (w:World) (v:Value) (xs:List Nam):Prop:=IsL 72 4 jbm w v xs
abbrev jje (w:World) (v:Value) (xs:List Nod):Prop:=IsL 96 5 ncells w v xs
theorem IsL.val {w:World} {b off len cap:Nat} {xs:List Val} (h:IsL 48 3 ja5 w (.slice (some ⟨b,off,none⟩) len cap) xs) (k:Nat) (hk:k<xs.length) :
    w.cell? ⟨b,off+k*3,none⟩=some (.string xs[k].name)∧w.cell? ⟨b,off+k*3+1,none⟩=some (.int .i64 xs[k].ty)∧w.cell? ⟨b,off+k*3+2,none⟩=some (.slice xs[k].dv.a xs[k].dv.n xs[k].dv.c) :=
     ⟨h.at k hk 0 (by omega),h.at k hk 1 (by omega),h.at k hk 2 (by omega)⟩
theorem IsL.nam {w:World} {b off len cap:Nat} {xs:List Nam} (h:IsL 72 4 jbm w (.slice (some ⟨b,off,none⟩) len cap) xs) (k:Nat) (hk:k<xs.length) :
    w.cell? ⟨b,off+k*4,none⟩=some (.string xs[k].name)∧w.cell? ⟨b,off+k*4+1,none⟩=some (.int .i64 xs[k].ty)∧w.cell? ⟨b,off+k*4+2,none⟩=some (.slice xs[k].dv.a xs[k].dv.n xs[k].dv.c)∧w.cell? ⟨b,off+k*4+3,none⟩=some (.slice xs[k].tv.a xs[k].tv.n xs[k].tv.c) :=
     ⟨h.at k hk 0 (by omega),h.at k hk 1 (by omega),h.at k hk 2 (by omega),h.at k hk 3 (by omega)⟩
theorem IsL.nod {w:World} {b off len cap:Nat} {xs:List Nod} (h:IsL 96 5 ncells w (.slice (some ⟨b,off,none⟩) len cap) xs) (k:Nat) (hk:k<xs.length) :
    w.cell? ⟨b,off+k*5,none⟩=some (.string xs[k].op)∧w.cell? ⟨b,off+k*5+1,none⟩=some (.string xs[k].name)∧w.cell? ⟨b,off+k*5+2,none⟩=some (.slice xs[k].iv.a xs[k].iv.n xs[k].iv.c)∧w.cell? ⟨b,off+k*5+3,none⟩=some (.string xs[k].out)∧w.cell? ⟨b,off+k*5+4,none⟩=some (.slice xs[k].av.a xs[k].av.n xs[k].av.c) :=
     ⟨h.at k hk 0 (by omega),h.at k hk 1 (by omega),h.at k hk 2 (by omega),h.at k hk 3 (by omega),h.at k hk 4 (by omega)⟩
structure Gra where
 name:ByteArray
 nv:Sl
 iv:Sl
 ov:Sl
 tv:Sl
def jcM (g:Gra):Value:=.agg #[.string g.name,.slice g.nv.a g.nv.n g.nv.c,.slice g.iv.a g.iv.n g.iv.c,.slice g.ov.a g.ov.n g.ov.c,.slice g.tv.a g.tv.n g.tv.c]
theorem jaY {w:World} {B:Nat} {g:Gra} {t:TypeId} (hb:w.heap[B]?=some (.cells #[.string g.name,.slice g.nv.a g.nv.n g.nv.c,.slice g.iv.a g.iv.n g.iv.c,.slice g.ov.a g.ov.n g.ov.c,.slice g.tv.a g.tv.n g.tv.c] t (0,0))) :
    w.cell? ⟨B,0,none⟩=some (.string g.name)∧w.cell? ⟨B,1,none⟩=some (.slice g.nv.a g.nv.n g.nv.c)∧w.cell? ⟨B,2,none⟩=some (.slice g.iv.a g.iv.n g.iv.c)∧w.cell? ⟨B,3,none⟩=some (.slice g.ov.a g.ov.n g.ov.c)∧w.cell? ⟨B,4,none⟩=some (.slice g.tv.a g.tv.n g.tv.c) :=
     ⟨(cell_of_row _ _ 0 _ _ (0,0) hb).trans rfl,(cell_of_row _ _ 1 _ _ (0,0) hb).trans rfl,(cell_of_row _ _ 2 _ _ (0,0) hb).trans rfl,(cell_of_row _ _ 3 _ _ (0,0) hb).trans rfl,(cell_of_row _ _ 4 _ _ (0,0) hb).trans rfl⟩
structure Nc where
 n:Nod
 ins:List ByteArray
 xs:List Atr
 cs:List Cont
structure GraphIn (w:World) (g:Gra) (nds:List Nc) (vin vout:List (Val×List Int)) (its:List (Nam×List Int×List Int)):Prop where
 nodes:jje w g.nv.v (nds.map (·.n))
 ins:jex w g.iv.v (vin.map (·.1))
 outs:jex w g.ov.v (vout.map (·.1))
 inits:jjd w g.tv.v (its.map (·.1))
 node:∀ c∈nds,NodeIn w c.n c.ins c.xs c.cs
 din:∀ p∈vin,jaj w p.1.dv.v p.2
 dout:∀ p∈vout,jaj w p.1.dv.v p.2
 dinit:∀ p∈its,jaj w p.1.dv.v p.2.1∧jaj w p.1.tv.v p.2.2
 short:∀ p∈vin,p.1.name.size≤1048576
 few:nds.length≤1048576∧vin.length≤1048576∧vout.length≤1048576∧its.length≤1048576
theorem GraphIn.more {w w':World} {g:Gra} {nds:List Nc} {vin vout:List (Val×List Int)} {its:List (Nam×List Int×List Int)} (h:GraphIn w g nds vin vout its) (hg:w.grownBy w' none):GraphIn w' g nds vin vout its :=
 ⟨h.nodes.more hg,h.ins.more hg,h.outs.more hg,h.inits.more hg,fun c hc=>(h.node c hc).more hg,fun p hp=>(h.din p hp).more hg,fun p hp=>(h.dout p hp).more hg,fun p hp=>⟨(h.dinit p hp).1.more hg,(h.dinit p hp).2.more hg⟩,h.short,h.few⟩
end Go.Proofs.YtbgbpfbjeleooaaGreat
namespace Go.Proofs.YtbgbpfbjeleooaaGreat
open Go.RowKit
structure OwnD {α β:Type} (te:TypeId) (size:Nat) (f:α→List Value) (H:World→α→β→Prop) (foot:α→β→Nat→Prop) (w:World) (lo hi:Nat) (v:Value) (ps:List (α×β)):Prop where
 own:OwnsL te size f w lo v (ps.map (·.1))
 row:∀ b,v.ownBlock=some b→b<hi
 has:∀ p∈ps,H w p.1 p.2
 new:∀ p∈ps,∀ b,foot p.1 p.2 b→lo≤b∧b<hi∧v.ownBlock≠some b
 le:hi≤w.heap.size
def jhN {α β:Type} (H:World→α→β→Prop) (foot:α→β→Nat→Prop):Prop:=∀ (w w':World) (a:α) (c:β),H w a c→(∀ b,b<w.heap.size→foot a c b→w'.heap[b]?=w.heap[b]?)→H w' a c
section
variable {α β : Type} {te : TypeId} {size : Nat} {f : α → List Value} {H : World → α → β → Prop} {foot : α → β → Nat → Prop}
theorem OwnD.nil {w:World} {lo hi:Nat} (h:hi≤w.heap.size):OwnD te size f H foot w lo hi (.slice none 0 0) [] :=
 ⟨OwnsL.nil ..,(fun b e=>by simp [Value.ownBlock] at e),(fun p hp=>by cases hp),(fun p hp=>by cases hp),h⟩
theorem OwnD.kept {w w':World} {lo hi:Nat} {v:Value} {ps:List (α×β)} (HK:jhN H foot) (h:OwnD te size f H foot w lo hi v ps) (hs:hi≤w'.heap.size) (hk:∀ b,lo≤b→b<hi→w'.heap[b]?=w.heap[b]?):OwnD te size f H foot w' lo hi v ps :=
 ⟨jdr h.own (fun b e=>hk b (World.ownsRow.lt h.own b e).1 (h.row b e)),h.row,fun p hp=>HK _ _ _ _ (h.has p hp) (fun b _ e=>have k:=h.new p hp b e;hk b k.1 k.2.1),h.new,hs⟩
theorem OwnD.past {w w':World} {lo hi:Nat} {v:Value} {ps:List (α×β)} {row:Option Nat} (HK:jhN H foot) (h:OwnD te size f H foot w lo hi v ps) (hg:w.grownBy w' row) (hr:∀ g,row=some g→g<lo∨hi≤g):OwnD te size f H foot w' lo hi v ps :=
 h.kept HK (Nat.le_trans h.le hg.size) fun b h1 h2=>hg.block b (Nat.lt_of_lt_of_le h2 h.le) (fun e=>by have:=hr b e.symm;omega)
theorem OwnD.more {w w':World} {lo hi:Nat} {v:Value} {ps:List (α×β)} (HK:jhN H foot) (h:OwnD te size f H foot w lo hi v ps) (hg:w.grownBy w' none):OwnD te size f H foot w' lo hi v ps:=h.past HK hg (by simp)
theorem OwnD.wide {w:World} {lo hi lo' hi':Nat} {v:Value} {ps:List (α×β)} (h:OwnD te size f H foot w lo hi v ps) (hl:lo'≤lo) (hh:hi≤hi') (hw:hi'≤w.heap.size):OwnD te size f H foot w lo' hi' v ps :=
 ⟨h.own.base_le hl,fun b e=>Nat.lt_of_lt_of_le (h.row b e) hh,h.has,fun p hp b e=>have k:=h.new p hp b e;⟨Nat.le_trans hl k.1,Nat.lt_of_lt_of_le k.2.1 hh,k.2.2⟩,hw⟩
theorem OwnD.snoc {w W w' : World} {lo hi g n cap : Nat} {v : Value} {ps : List (α × β)} {y : α} {c : β} (HK : jhN H foot) (h : OwnD te size f H foot w lo hi v ps) (hb : lo ≤ w.heap.size) (hg : w.grownBy W none) (hgr : W.grownBy w' v.ownBlock) (hat : v.ownBlock = some g ∨ g = W.heap.size)
    (own':OwnsL te size f w' lo (.slice (some ⟨g,0,none⟩) n cap) (ps.map (·.1)++[y])) (hy:H W y c) (fy:∀ b,foot y c b→w.heap.size≤b∧b<W.heap.size):OwnD te size f H foot w' lo w'.heap.size (.slice (some ⟨g,0,none⟩) n cap) (ps++[(y,c)]):=by
     have vlt:∀ b,v.ownBlock=some b→lo≤b∧b<w.heap.size:=fun b e=>World.ownsRow.lt h.own b e;have s0:=h.le;have s1:=hg.size;have s2:=hgr.size;have og:∀ b,(Value.slice (some ⟨g,0,none⟩) n cap).ownBlock=some b→g=b:=fun b e=>by simpa [Value.ownBlock] using e
     refine ⟨by rw [List.map_append];exact own',fun b e=>(World.ownsRow.lt own' b e).2,fun p hp=>?_,fun p hp b e=>?_,Nat.le_refl _⟩
     ·rcases List.mem_append.1 hp with hp | hp
      ·exact HK _ _ _ _ (h.has p hp) fun b hb e=>(hgr.block b (by omega) (fun e2=>(h.new p hp b e).2.2 e2.symm)).trans (hg.block b hb (by simp))
      ·obtain rfl:p=(y,c):=by simpa using hp
       exact HK _ _ _ _ hy fun b hb e=>hgr.block b hb (fun e2=>by have:=vlt b e2.symm;have:=fy b e;omega)
     ·rcases List.mem_append.1 hp with hp | hp
      ·have k:=h.new p hp b e;refine ⟨k.1,by omega,fun e2=>?_⟩;have e3:=og b e2;subst e3
       rcases hat with h2 | h2
       ·exact k.2.2 h2
       ·omega
      ·obtain rfl:p=(y,c):=by simpa using hp
       have k:=fy b e;refine ⟨by omega,by omega,fun e2=>?_⟩;have e3:=og b e2;subst e3
       rcases hat with h2 | h2
       ·have:=vlt _ h2;omega
       ·omega
end
def jiA (w:World) (v:Val) (ds:List Int):Prop:=jaj w v.dv.v ds
def jdD (v:Val) (_:List Int) (b:Nat):Prop:=v.dv.v.ownBlock=some b
theorem jaL:jhN jiA jdD:=fun _ _ _ _ h hk=>jaj.kept h fun b hb e=>hk b hb e
def jlW (w:World) (v:Nam) (q:List Int×List Int):Prop:=jaj w v.dv.v q.1∧jaj w v.tv.v q.2
def jf9 (v:Nam) (_:List Int×List Int) (b:Nat):Prop:=v.dv.v.ownBlock=some b∨v.tv.v.ownBlock=some b
theorem jbB:jhN jlW jf9:=fun _ _ _ _ h hk=>⟨h.1.kept fun b hb e=>hk b hb (Or.inl e),h.2.kept fun b hb e=>hk b hb (Or.inr e)⟩
structure Ni where
 ins:List ByteArray
 xs:List Atr
 cs:List Cont
def jmQ (w:World) (n:Nod) (q:Ni):Prop:=NodeIn w n q.ins q.xs q.cs
def jdS (n:Nod) (q:Ni) (b:Nat):Prop:=n.iv.v.ownBlock=some b∨n.av.v.ownBlock=some b∨∃ a∈q.xs,a.dv.v.ownBlock=some b∨a.tv.v.ownBlock=some b∨a.iv.v.ownBlock=some b
theorem jdE:jhN jmQ jdS:=fun _ _ _ _ h hk=>⟨h.ins.kept fun b hb e=>hk b hb (Or.inl e),h.av.kept fun b hb e=>hk b hb (Or.inr (Or.inl e)),fun j a e=>by
 obtain ⟨c,e1,e2⟩:=h.has j a e;exact ⟨c,e1,e2.kept fun b hb e3=>hk b hb (Or.inr (Or.inr ⟨a,List.mem_of_getElem? e,e3⟩))⟩,h.few,h.short⟩
abbrev jcZ (w:World) (lo hi:Nat) (v:Value) (ps:List (Val×List Int)):Prop:=OwnD 82 3 ja5 jiA jdD w lo hi v ps
abbrev jiB (w:World) (lo hi:Nat) (v:Value) (ps:List (Nam×List Int×List Int)):Prop:=OwnD 67 4 jbm jlW jf9 w lo hi v ps
abbrev jnj (w:World) (lo hi:Nat) (v:Value) (ps:List (Nod×Ni)):Prop:=OwnD 35 5 ncells jmQ jdS w lo hi v ps
end Go.Proofs.YtbgbpfbjeleooaaGreat
namespace Go.Proofs.YtbgbpfbjeleooaaGreat
open Go.RowKit
theorem jbD {w:World} {a:Option Addr} {l c:Nat} {zs:List Int} (h:jaj w (.slice a l c) zs) {k:Nat} (hk:k<zs.length):∃ b off,a=some ⟨b,off,none⟩∧w.cell? ⟨b,off+k,none⟩=some (.int .i64 (zs.getD k 0)):=by
 obtain ⟨ao,cap,e,h1,h2,h3,h4,h5,h6⟩:=h
 cases e
 obtain ⟨b,off,rfl,hc⟩:=h5 (by omega);exact ⟨b,off,rfl,hc k hk⟩
theorem jga (u v:Value) (xs:List Int) (w:World) (hu:jaj w u xs) (hv:jaj w v xs) :
    Calls Tryz.prog 62 #[u,v] w fun e w'=>e=.returned (.bool true)∧w.grownBy w' none:=by
     have HU:=jac hu;have HV:=jac hv;obtain ⟨ua,uc,rfl,h1,h2,h3,-⟩:=hu;obtain ⟨va,vc,rfl,k1,k2,k3,-⟩:=hv;go_enter Tryz.func62,Tryz.ntmps62;go_wp2;go_loopw [5] (fun i wr=>w.grownBy wr none∧∃ k:Nat,k≤xs.length∧i=.int .i64 k) (fun i _=>xs.length - (intOf i).toNat)
     case atStart=>exact ⟨jae _,0,Nat.zero_le _,rfl⟩
     case round =>
      obtain ⟨hg,k,hk,rfl⟩:=hrel
      by_cases hlt:k<xs.length
      ·obtain ⟨ub,uo,rfl,a0⟩:=jbD (HU.out.more hg) hlt;obtain ⟨vb,vo,rfl,b0⟩:=jbD (HV.out.more hg) hlt;obtain ⟨X,hX⟩ : ∃ X,X=xs.getD k 0:=⟨_,rfl⟩
       rw [← hX] at a0 b0;clear hX;go_wp2;go_region
       all_goals
        go_wp2;go_roundw
        case rel=>exact ⟨jaz hg,k+1,by omega,by go_num⟩
        case measure=>simp [intOf];omega
      ·go_wp2;go_ret;exact ⟨rfl,hg⟩
theorem jgM (ty:Int) (d t d' t':Value) (ds ts:List Int) (w:World) (hd:jaj w d ds) (ht:jaj w t ts) (hd':jaj w d' ds) (ht':jaj w t' ts) :
    Calls Tryz.prog 31 #[.agg #[.int .i64 ty,d,t],.agg #[.int .i64 ty,d',t']] w fun e w'=>e=.returned (.bool true)∧w.grownBy w' none:=by
     have HD:=jac hd;have HD':=jac hd';have HT:=jac ht;have HT':=jac ht';obtain ⟨da,dc,rfl,-⟩:=hd;obtain ⟨ea,ec,rfl,-⟩:=hd';obtain ⟨ua,uc,rfl,h1,h2,h3,-⟩:=ht;obtain ⟨va,vc,rfl,k1,k2,k3,-⟩:=ht';obtain ⟨w0,hw0⟩ : ∃ w0,w0=(w.alloc (.cells #[.int .i64 ty,.slice da ds.length dc,.slice ua ts.length uc] 44)).alloc (.cells #[.int .i64 ty,.slice ea ds.length ec,.slice va ts.length vc] 44):=⟨_,rfl⟩
     have g0:w.grownBy w0 none:=by rw [hw0];exact jaa (jab _ _) (jab _ _)
     have hbx:=jbl w (.cells #[.int .i64 ty,.slice da ds.length dc,.slice ua ts.length uc] 44) (.cells #[.int .i64 ty,.slice ea ds.length ec,.slice va ts.length vc] 44);have hbx0:=hbx;rw [← hw0] at hbx;have B1:Hid (∀ wx,w0.grownBy wx none→wx.heap[w.heap.size]?=some (.cells #[.int .i64 ty,.slice da ds.length dc,.slice ua ts.length uc] 44 (0,0))):=fun wx hg=>jag hbx.1 hg;have B2:Hid (∀ wx,w0.grownBy wx none→wx.heap[w.heap.size+1]?=some (.cells #[.int .i64 ty,.slice ea ds.length ec,.slice va ts.length vc] 44 (0,0))):=fun wx hg=>jag hbx.2 hg;obtain ⟨a0,a1,a2⟩:=ja3 hbx0.1;obtain ⟨b0,b1,b2⟩:=ja3 hbx0.2;clear hbx hbx0;go_enter Tryz.func31,Tryz.ntmps31;go_wp2_with fail;rw [← hw0];clear hw0 a0 a1 a2 b0 b1 b2;refine (jga _ _ ds w0 (HD.out.more g0) (HD'.out.more g0)).mono ?_;rintro e w1 ⟨rfl,hg1⟩;obtain ⟨a0,a1,a2⟩:=ja3 (B1.out w1 hg1);obtain ⟨b0,b1,b2⟩:=ja3 (B2.out w1 hg1);go_wp2_with fail;clear a0 a1 a2 b0 b1 b2;go_loopw [5] (fun i wr=>w0.grownBy wr none∧∃ k:Nat,k≤ts.length∧i=.int .i64 k) (fun i _=>ts.length - (intOf i).toNat)
     case atStart=>exact ⟨hg1,0,Nat.zero_le _,rfl⟩
     case round =>
      obtain ⟨hg,k,hk,rfl⟩:=hrel;obtain ⟨a0,a1,a2⟩:=ja3 (B1.out wr hg);obtain ⟨b0,b1,b2⟩:=ja3 (B2.out wr hg)
      by_cases hlt:k<ts.length
      ·obtain ⟨ub,uo,rfl,x0⟩:=jbD (HT.out.more (jaa g0 hg)) hlt;obtain ⟨vb,vo,rfl,y0⟩:=jbD (HT'.out.more (jaa g0 hg)) hlt;obtain ⟨X,hX⟩ : ∃ X,X=ts.getD k 0:=⟨_,rfl⟩
       rw [← hX] at x0 y0;clear hX;go_wp2;go_region
       all_goals
        go_wp2;go_roundw
        case rel=>exact ⟨jaz hg,k+1,by omega,by go_num⟩
        case measure=>simp [intOf];omega
      ·go_wp2;go_ret;exact ⟨rfl,jaa g0 hg⟩
theorem jiC (A D:Atr) (c:Cont) (w:World) (he:jcS A=jcS D) (ha:Has w A c) (hb:Has w D c) :
    Calls Tryz.prog 63 #[jb8 A,jb8 D] w fun e w'=>e=.returned (.bool true)∧w.grownBy w' none:=by
     have HA:=jac ha;have HB:=jac hb
     have vd:jb8 D=.agg #[.string A.name,.int .i64 A.kind,.int .i64 A.f,.int .i64 A.i,.string A.s,.int .i64 A.ty,.slice D.dv.a D.dv.n D.dv.c,.slice D.tv.a D.tv.n D.tv.c,.slice D.iv.a D.iv.n D.iv.c]:=by
      obtain ⟨d0,d1,d2,d3,d4,d5,d6,d7,d8⟩:=D;obtain ⟨a0,a1,a2,a3,a4,a5,a6,a7,a8⟩:=A;simp only [jcS,Atr.mk.injEq] at he;obtain ⟨rfl,rfl,rfl,rfl,rfl,rfl,-⟩:=he
      rfl
     rw [vd];unfold jb8;have hai:=ha.i;have hbi:=hb.i;obtain ⟨ia,icp,ei,h1,h2,h3,-⟩:=hai;obtain ⟨ja,jcp,ej,k1,k2,k3,-⟩:=hbi;simp only [Sl.v,Value.slice.injEq] at ei ej;have en:=ei.2.1;have em:=ej.2.1;obtain ⟨w0,hw0⟩ : ∃ w0,w0=(w.alloc (.cells #[.string A.name,.int .i64 A.kind,.int .i64 A.f,.int .i64 A.i,.string A.s,.int .i64 A.ty,.slice A.dv.a A.dv.n A.dv.c,.slice A.tv.a A.tv.n A.tv.c,.slice A.iv.a A.iv.n A.iv.c] 78)).alloc (.cells #[.string A.name,.int .i64 A.kind,.int .i64 A.f,.int .i64 A.i,.string A.s,.int .i64 A.ty,.slice D.dv.a D.dv.n D.dv.c,.slice D.tv.a D.tv.n D.tv.c,.slice D.iv.a D.iv.n D.iv.c] 78):=⟨_,rfl⟩
     have g0:w.grownBy w0 none:=by rw [hw0];exact jaa (jab _ _) (jab _ _)
     have hbx:=jbl w (.cells #[.string A.name,.int .i64 A.kind,.int .i64 A.f,.int .i64 A.i,.string A.s,.int .i64 A.ty,.slice A.dv.a A.dv.n A.dv.c,.slice A.tv.a A.tv.n A.tv.c,.slice A.iv.a A.iv.n A.iv.c] 78) (.cells #[.string A.name,.int .i64 A.kind,.int .i64 A.f,.int .i64 A.i,.string A.s,.int .i64 A.ty,.slice D.dv.a D.dv.n D.dv.c,.slice D.tv.a D.tv.n D.tv.c,.slice D.iv.a D.iv.n D.iv.c] 78);have hbx0:=hbx;rw [← hw0] at hbx;have B1:Hid (∀ wx,w0.grownBy wx none→wx.heap[w.heap.size]?=some (.cells #[.string A.name,.int .i64 A.kind,.int .i64 A.f,.int .i64 A.i,.string A.s,.int .i64 A.ty,.slice A.dv.a A.dv.n A.dv.c,.slice A.tv.a A.tv.n A.tv.c,.slice A.iv.a A.iv.n A.iv.c] 78 (0,0))):=fun wx hg=>jag hbx.1 hg;have B2:Hid (∀ wx,w0.grownBy wx none→wx.heap[w.heap.size+1]?=some (.cells #[.string A.name,.int .i64 A.kind,.int .i64 A.f,.int .i64 A.i,.string A.s,.int .i64 A.ty,.slice D.dv.a D.dv.n D.dv.c,.slice D.tv.a D.tv.n D.tv.c,.slice D.iv.a D.iv.n D.iv.c] 78 (0,0))):=fun wx hg=>jag hbx.2 hg;obtain ⟨a0,a1,a2,a3,a4,a5,a6,a7,a8⟩:=jcd (a:=A) hbx0.1;obtain ⟨b0,b1,b2,b3,b4,b5,b6,b7,b8⟩:=jcd (a:=⟨A.name,A.kind,A.f,A.i,A.s,A.ty,D.dv,D.tv,D.iv⟩) hbx0.2;have ST:=jac (jgM A.ty A.dv.v A.tv.v D.dv.v D.tv.v c.d c.t w0 (ha.d.more g0) (ha.t.more g0) (hb.d.more g0) (hb.t.more g0));clear hbx hbx0 ha hb he vd ei ej;rw [en] at a8 B1;rw [em] at b8 B2;rw [en,em];rw [en,em] at hw0;clear en em;go_enter Tryz.func63,Tryz.ntmps63;go_wp2_with fail;rw [← hw0];clear hw0 a0 a1 a2 a3 a4 a5 a6 a7 a8 b0 b1 b2 b3 b4 b5 b6 b7 b8;refine ST.out.mono ?_;rintro e w1 ⟨rfl,hg1⟩;obtain ⟨a0,a1,a2,a3,a4,a5,a6,a7,a8⟩:=jcd (a:=⟨A.name,A.kind,A.f,A.i,A.s,A.ty,A.dv,A.tv,⟨A.iv.a,c.i.length,A.iv.c⟩⟩) (B1.out w1 hg1);obtain ⟨b0,b1,b2,b3,b4,b5,b6,b7,b8⟩:=jcd (a:=⟨A.name,A.kind,A.f,A.i,A.s,A.ty,D.dv,D.tv,⟨D.iv.a,c.i.length,D.iv.c⟩⟩) (B2.out w1 hg1);go_wp2_with fail;clear a0 a1 a2 a3 a4 a5 a6 a7 a8 b0 b1 b2 b3 b4 b5 b6 b7 b8;go_loopw [5] (fun i wr=>w0.grownBy wr none∧∃ k:Nat,k≤c.i.length∧i=.int .i64 k) (fun i _=>c.i.length - (intOf i).toNat)
     case atStart=>exact ⟨hg1,0,Nat.zero_le _,rfl⟩
     case round =>
      obtain ⟨hg,k,hk,rfl⟩:=hrel;obtain ⟨a0,a1,a2,a3,a4,a5,a6,a7,a8⟩:=jcd (a:=⟨A.name,A.kind,A.f,A.i,A.s,A.ty,A.dv,A.tv,⟨A.iv.a,c.i.length,A.iv.c⟩⟩) (B1.out wr hg);obtain ⟨b0,b1,b2,b3,b4,b5,b6,b7,b8⟩:=jcd (a:=⟨A.name,A.kind,A.f,A.i,A.s,A.ty,D.dv,D.tv,⟨D.iv.a,c.i.length,D.iv.c⟩⟩) (B2.out wr hg);simp only at a8 b8
      by_cases hlt:k<c.i.length
      ·obtain ⟨ub,uo,ea,x0⟩:=jbD (HA.out.i.more (jaa g0 hg)) hlt;obtain ⟨vb,vo,eb,y0⟩:=jbD (HB.out.i.more (jaa g0 hg)) hlt;rw [ea] at a8;rw [eb] at b8;obtain ⟨X,hX⟩ : ∃ X,X=c.i.getD k 0:=⟨_,rfl⟩
       rw [← hX] at x0 y0;clear hX ea eb;go_wp2;go_region
       all_goals
        go_wp2;go_roundw
        case rel=>exact ⟨jaz hg,k+1,by omega,by go_num⟩
        case measure=>simp [intOf];omega
      ·go_wp2;go_ret;exact ⟨rfl,jaa g0 hg⟩
end Go.Proofs.YtbgbpfbjeleooaaGreat
namespace Go.Proofs.YtbgbpfbjeleooaaGreat
open Go.RowKit
structure NodeIn0 (w:World) (n:Nod) (ins:List ByteArray) (xs:List Atr) (cs:List Cont):Prop where
 ins:jgL w n.iv.v ins
 av:jfn w n.av.v xs
 has:∀ (j:Nat) (a:Atr),xs[j]?=some a→∃ c,cs[j]?=some c∧Has w a c
theorem NodeIn0.more {w w':World} {n:Nod} {ins:List ByteArray} {xs:List Atr} {cs:List Cont} (h:NodeIn0 w n ins xs cs) (hg:w.grownBy w' none):NodeIn0 w' n ins xs cs :=
 ⟨h.ins.more hg,h.av.more hg,fun j a e=>by obtain ⟨c,e1,e2⟩:=h.has j a e;exact ⟨c,e1,e2.more hg⟩⟩
theorem NodeIn0.kept {w w':World} {n:Nod} {ins:List ByteArray} {xs:List Atr} {cs:List Cont} (h:NodeIn0 w n ins xs cs) (kp:∀ b,b<w.heap.size→w'.heap[b]?=w.heap[b]?):NodeIn0 w' n ins xs cs :=
 ⟨h.ins.kept fun b hb _=>kp b hb,h.av.kept fun b hb _=>kp b hb,fun j a e=>by obtain ⟨c,e1,e2⟩:=h.has j a e;exact ⟨c,e1,e2.kept fun b hb _=>kp b hb⟩⟩
theorem Copied.node0 {w w':World} {n:Nod} {ins:List ByteArray} {xs ys:List Atr} {cs:List Cont} {iv av:Sl} {op nam out:ByteArray} (h:Copied w w' n ins xs cs iv av ys) (hn:NodeIn0 w n ins xs cs):NodeIn0 w' ⟨op,nam,iv,out,av⟩ ins ys cs:=by
 obtain ⟨-,-,-,-,-,hi3⟩:=hn.ins.form;obtain ⟨-,-,-,-,-,ha3⟩:=hn.av.form;refine ⟨h.ins.isL (bytes:=16) jhM hi3,h.own.isL (bytes:=136) jed (by rw [h.len];exact ha3),?_⟩;intro j a ha;have hj:j<xs.length:=by rw [← h.len];exact (List.getElem?_eq_some_iff.1 ha).1
 obtain ⟨c,hc,-⟩:=hn.has j xs[j] (List.getElem?_eq_getElem hj);exact ⟨c,hc,h.has j a c ha hc⟩
theorem jhc (n:Nod) (ins:List ByteArray) (xs:List Atr) (cs:List Cont) (w:World) (hin:jgL w n.iv.v ins) (hv:jfn w n.av.v xs) (hc:∀ (j:Nat) (a:Atr),xs[j]?=some a→∃ c,cs[j]?=some c∧Has w a c) :
    Calls Tryz.prog 33 #[jgJ n] w fun e w'=>∃ (iv av:Sl) (ys:List Atr),e=.returned (jgJ ⟨n.op,n.name,iv,n.out,av⟩)∧Copied w w' n ins xs cs iv av ys:=by
     obtain ⟨i0,hi,hz0,hz1,hz2⟩:=info_parts jnf;obtain ⟨i1,hj,jz0,jz1,jz2⟩:=info_parts jlU;obtain ⟨i2,hm,mz0,mz1,mz2⟩:=info_parts jky;obtain ⟨op,nam,⟨ia,il,ic⟩,out,⟨ao,al,cap⟩⟩:=n;simp only at hin hv ⊢;obtain ⟨ao',cap',hav,h1,h2,h3⟩:=hv.form;obtain ⟨rfl,rfl,rfl⟩ : ao=ao'∧al=xs.length∧cap=cap':=by simpa [Sl.v] using hav
     have HV:=jac hv;have HI:=jac hin;have HC:=jac hc;clear hv hav hin hc;unfold jgJ;simp only;obtain ⟨w0,hw0⟩ : ∃ w0,w0=((w.alloc (.cells #[.string op,.string nam,.slice ia il ic,.string out,.slice ao xs.length cap] 35)).alloc (.cells #[.string ⟨#[]⟩,.string ⟨#[]⟩,.slice none 0 0,.string ⟨#[]⟩,.slice none 0 0] 35)).alloc (.cells #[.string op,.string nam,.slice none 0 0,.string out,.slice none 0 0] 35):=⟨_,rfl⟩
     have g0:w.grownBy w0 none:=by rw [hw0];exact jaa (jaa (jab _ _) (jab _ _)) (jab _ _)
     have hbx:=jbl w (.cells #[.string op,.string nam,.slice ia il ic,.string out,.slice ao xs.length cap] 35) (.cells #[.string ⟨#[]⟩,.string ⟨#[]⟩,.slice none 0 0,.string ⟨#[]⟩,.slice none 0 0] 35);have b1:=jag hbx.1 (jab _ (.cells #[.string op,.string nam,.slice none 0 0,.string out,.slice none 0 0] 35));have b2:=jag hbx.2 (jab _ (.cells #[.string op,.string nam,.slice none 0 0,.string out,.slice none 0 0] 35));have b3:=heap_alloc_new ((w.alloc (.cells #[.string op,.string nam,.slice ia il ic,.string out,.slice ao xs.length cap] 35)).alloc (.cells #[.string ⟨#[]⟩,.string ⟨#[]⟩,.slice none 0 0,.string ⟨#[]⟩,.slice none 0 0] 35)) (.cells #[.string op,.string nam,.slice none 0 0,.string out,.slice none 0 0] 35);rw [← hw0] at b1 b2 b3;rw [show ((w.alloc (.cells #[.string op,.string nam,.slice ia il ic,.string out,.slice ao xs.length cap] 35)).alloc (.cells #[.string ⟨#[]⟩,.string ⟨#[]⟩,.slice none 0 0,.string ⟨#[]⟩,.slice none 0 0] 35)).heap.size=w.heap.size+1+1 by simp] at b3;have S0:Hid (w0.heap.size=w.heap.size+1+1+1):=by show _=_;rw [hw0];simp
     have B1:=jac b1;have B2:=jac b2;have B3:=jac b3;obtain ⟨n0,n1,n2,n3,n4⟩:=jbr (n:=⟨op,nam,⟨ia,il,ic⟩,out,⟨ao,xs.length,cap⟩⟩) b1;obtain ⟨m0,m1,m2,m3,m4⟩:=jbr (n:=⟨op,nam,⟨none,0,0⟩,out,⟨none,0,0⟩⟩) b3;rw [hw0] at n0 n1 n2 n3 n4 m0 m1 m2 m3 m4;clear hbx b1 b2 b3;have HI0:=jac (HI.out.more g0);have y1:w.heap.size≠w.heap.size+1+1:=by omega
     go_enter Tryz.func33,Tryz.ntmps33;go_wp2_with (at_builtin;refine jf5 rfl (.tmp 14) (.tmp 16) 32 9 1 16 (.string ⟨#[]⟩) i0 jgD rfl Tryz.underlying32 hi hz0 hz1 hz2 rfl (by decide) rfl _ ins rfl (by rw [← hw0];exact HI0.out) (fun _=>rfl) (by intro y u hu;rw [jgD,List.mem_singleton] at hu;subst hu;rfl) ?_;intro v' w1 hown hgrow;rw [← hw0] at hown hgrow;have HO:=jac hown;obtain ⟨xa,xc,rfl⟩:=OwnsL.form hown;clear hown n0 n1 n2 n3 n4 m0 m1 m2 m3 m4;have B3':=jac (jag B3.out hgrow);obtain ⟨f0,f1,f2,f3,f4⟩:=jfp B3'.out;obtain ⟨m0,m1,m2,m3,m4⟩:=jbr (n:=⟨op,nam,⟨none,0,0⟩,out,⟨none,0,0⟩⟩) B3'.out);obtain ⟨W2,hW2⟩ : ∃ W2,W2=w1.setCell ⟨w.heap.size+1+1,2,none⟩ (.slice xa ins.length xc):=⟨_,rfl⟩
     rw [← hW2];obtain ⟨P1,P2,P3⟩:=jit (j:=2) (.slice xa ins.length xc) B3'.out;rw [← hW2] at P1 P2 P3;have g1:w.grownBy W2 none:=jah (jaa g0 hgrow) P2 (fun r e=>by cases e;omega);have INV:Hid (CInv W2 (w.heap.size+1+1) W2.heap.size op nam out ⟨xa,ins.length,xc⟩ xs cs 0 W2 ⟨none,0,0⟩ []):=⟨P1,OwnsL.nil ..,rfl,rfl,(by intro j a c h;simp at h),(by intro a h;simp at h),World.grownBy.refl _ _⟩
     have S2:Hid (w.heap.size+1+1<W2.heap.size∧w0.heap.size≤w1.heap.size∧W2.heap.size=w1.heap.size):=⟨by have:=S0.out;have:=hgrow.size;omega,hgrow.size,P3⟩
     have HOW:Hid (OwnsL 9 1 jgD W2 w0.heap.size (.slice xa ins.length xc) ins):=HO.out.kept P2 (by intro g e;cases e;have:=S0.out;omega);have C1:Hid (W2.heap[w.heap.size]?=some (.cells #[.string op,.string nam,.slice ia il ic,.string out,.slice ao xs.length cap] 35 (0,0))):=(P2.block _ (by have:=(Array.getElem?_eq_some_iff.1 B1.out).1;have:=hgrow.size;omega) (fun e=>y1 (Option.some.inj e))).trans (jag B1.out hgrow);have C2:Hid (W2.heap[w.heap.size+1]?=some (.cells #[.string ⟨#[]⟩,.string ⟨#[]⟩,.slice none 0 0,.string ⟨#[]⟩,.slice none 0 0] 35 (0,0))):=(P2.block _ (by have:=(Array.getElem?_eq_some_iff.1 B2.out).1;have:=hgrow.size;omega) (fun e=>by have:=Option.some.inj e;omega)).trans (jag B2.out hgrow);clear P1 P2 P3 hW2 B1 B2 B3 B3' HO f0 f1 f2 f3 f4 m0 m1 m2 m3 m4 hgrow HI0 hw0 g0;go_loopw [4] (fun i wr=>∃ (k:Nat) (v:Sl) (ys:List Atr),k≤xs.length∧i=.int .i64 k∧CInv W2 (w.heap.size+1+1) W2.heap.size op nam out ⟨xa,ins.length,xc⟩ xs cs k wr v ys) (fun i _=>xs.length - (intOf i).toNat)
     case atStart=>exact ⟨0,_,[],Nat.zero_le _,rfl,INV.out⟩
     case round =>
      obtain ⟨k,v,ys,hk,rfl,hinv⟩:=hrel;have CI:=jac hinv;have D1:Hid (∀ {wx:World},W2.grownBy wx (some (w.heap.size+1+1))→wx.heap[w.heap.size]?=some (.cells #[.string op,.string nam,.slice ia il ic,.string out,.slice ao xs.length cap] 35 (0,0))):=fun hg=>(hg.block _ (Array.getElem?_eq_some_iff.1 C1.out).1 (fun e=>y1 (Option.some.inj e))).trans C1.out;obtain ⟨-,-,-,-,n4⟩:=jbr (n:=⟨op,nam,⟨ia,il,ic⟩,out,⟨ao,xs.length,cap⟩⟩) (D1.out hinv.grown);have KW:Hid (∀ b,b<w.heap.size→wr.heap[b]?=w.heap[b]?):=fun b hb=>(hinv.grown.block b (by have:=g1.size;omega) (fun e=>by have:=Option.some.inj e;omega)).trans (g1.block b hb (by simp));clear hinv
      by_cases hlt:k<xs.length
      ·have HVr:IsL 136 9 jbw wr (.slice ao xs.length cap) xs:=HV.out.kept fun b hb _=>KW.out b hb;obtain ⟨b,off,rfl⟩:=HVr.addr hlt;obtain ⟨a0,a1,a2,a3,a4,a5,a6,a7,a8⟩:=HVr.attr k hlt;obtain ⟨c,hcc,hhas⟩:=HC.out k xs[k] (List.getElem?_eq_getElem hlt);have HH:Hid (Has wr xs[k] c):=hhas.kept fun b hb _=>KW.out b hb;have HCC:=jac hcc;clear HVr hcc hhas;obtain ⟨A,hA⟩ : ∃ A,A=xs[k]:=⟨_,rfl⟩
       have HA:=jac hA;rw [← hA] at a0 a1 a2 a3 a4 a5 a6 a7 a8 HH;clear hA;obtain ⟨W3,hW3⟩ : ∃ W3,W3=wr.alloc (.cells #[.string A.name,.int .i64 A.kind,.int .i64 A.f,.int .i64 A.i,.string A.s,.int .i64 A.ty,.slice A.dv.a A.dv.n A.dv.c,.slice A.tv.a A.tv.n A.tv.c,.slice A.iv.a A.iv.n A.iv.c] 78):=⟨_,rfl⟩
       have G3:wr.grownBy W3 none:=by rw [hW3];exact jab _ _
       have bA:=heap_alloc_new wr (.cells #[.string A.name,.int .i64 A.kind,.int .i64 A.f,.int .i64 A.i,.string A.s,.int .i64 A.ty,.slice A.dv.a A.dv.n A.dv.c,.slice A.tv.a A.tv.n A.tv.c,.slice A.iv.a A.iv.n A.iv.c] 78);rw [← hW3] at bA;have BA:=jac bA;have S3:Hid (W3.heap.size=wr.heap.size+1):=by show _=_;rw [hW3];simp
       have n4':=jai n4 G3;have a5':=jai a5 G3;have a6':=jai a6 G3;have a7':=jai a7 G3;have CT:=jac (jf8 A.ty A.dv.v A.tv.v c.d c.t W3 (HH.out.d.more G3) (HH.out.t.more G3));rw [hW3] at n4' a5' a6' a7';clear bA;go_wp2_with fail;rw [← hW3];clear hW3 n4' a5' a6' a7';refine CT.out.mono ?_;rintro e w4 ⟨d,t,rfl,hd4,ht4,nd4,nt4,hg4⟩;have BA4:=jac (jag BA.out hg4);have HD4:=jac hd4;have HT4:=jac ht4;have ND4:=jac nd4;have NT4:=jac nt4;clear hd4 ht4 nd4 nt4;obtain ⟨f0,f1,f2,f3,f4,f5,f6,f7,f8⟩:=jgK BA4.out;obtain ⟨k0,k1,k2,k3,k4,k5,k6,k7,k8⟩:=jcd (a:=A) BA4.out;go_wp2_with fail;obtain ⟨W5,hW5⟩ : ∃ W5,W5=(((w4.setCell ⟨wr.heap.size,5,none⟩ (.int .i64 A.ty)).setCell ⟨wr.heap.size,6,none⟩ (.slice d.a d.n d.c)).setCell ⟨wr.heap.size,7,none⟩ (.slice t.a t.n t.c)).setCell ⟨wr.heap.size,8,none⟩ (.slice none 0 0):=⟨_,rfl⟩
       rw [← hW5];obtain ⟨p1,p2,p3⟩:=jni (.int .i64 A.ty) (.slice d.a d.n d.c) (.slice t.a t.n t.c) (.slice none 0 0) BA4.out;rw [← hW5] at p1 p2 p3;clear hW5 f0 f1 f2 f3 f4 f5 f6 f7 f8 k0 k1 k2 k3 k4 k5 k6 k7 k8;have BA5:=jac p1;have G45:=jac p2;have S5:Hid (W5.heap.size=w4.heap.size∧wr.heap.size<W5.heap.size):=⟨p3,by have:=hg4.size;have:=S3.out;omega⟩
       have KO:Hid (∀ b,b<wr.heap.size→W5.heap[b]?=wr.heap[b]?):=fun b hb=>(p2.block b (by have:=hg4.size;have:=S3.out;omega) (fun e=>by have:=Option.some.inj e;omega)).trans ((hg4.block b (by have:=S3.out;omega) (by simp)).trans (G3.block b hb (by simp)));clear p1 p2 p3;have n45:W5.cell? ⟨w.heap.size,4,none⟩=some (.slice (some ⟨b,off,none⟩) xs.length cap):=(World.cell?_of_block (KO.out _ (World.block_lt_of_cell? wr _ n4))).trans n4;have a85:W5.cell? ⟨b,off+k*9+8,none⟩=some (.slice A.iv.a A.iv.n A.iv.c):=(World.cell?_of_block (KO.out _ (World.block_lt_of_cell? wr _ a8))).trans a8;go_cut [] from 19 to 55 (fun wx=>∃ i':Sl,wx.heap[wr.heap.size]?=some (.cells #[.string A.name,.int .i64 A.kind,.int .i64 A.f,.int .i64 A.i,.string A.s,.int .i64 A.ty,.slice d.a d.n d.c,.slice t.a t.n t.c,.slice i'.a i'.n i'.c] 78 (0,0))∧jaj wx i'.v c.i∧New W5.heap.size wx.heap.size i'.v∧W5.grownBy wx (some wr.heap.size))
       case first =>
        obtain ⟨-,-,-,-,-,-,-,-,k8⟩:=jcd (a:=⟨A.name,A.kind,A.f,A.i,A.s,A.ty,d,t,⟨none,0,0⟩⟩) BA5.out;have HL:=jac (jg9 ((HH.out.i.kept (w':=W5) (fun b hb _=>KO.out b hb)).more (jaz (jae W5))))
        go_region_law (refine jjT (by rfl) (.tmp 41) (.tmp 47) 42 2 1 8 (.int .i64 0) i2 jev (by rfl) Tryz.underlying42 hm mz0 mz1 mz2 (by rfl) (by decide) (by rfl) _ c.i (by rfl) (by exact HL.out) jdq jf6 ?_;intro v' w6 hown hgrow;have HO6:=jac hown;obtain ⟨za,zc,rfl⟩:=OwnsL.form hown;have BA6:=jac (jag (w:=W5.drew) BA5.out hgrow);obtain ⟨f0,f1,f2,f3,f4,f5,f6,f7,f8⟩:=jgK BA6.out;obtain ⟨-,-,-,-,-,-,-,-,k86⟩:=jcd (a:=⟨A.name,A.kind,A.f,A.i,A.s,A.ty,d,t,⟨none,0,0⟩⟩) BA6.out)
        all_goals
         go_wp2_with fail
         go_meet
         obtain ⟨q1,q2,q3⟩:=jit (j:=8) (.slice za c.i.length zc) BA6.out;have n6:=jhb HO6.out;refine ⟨⟨za,c.i.length,zc⟩,by simpa using q1,(jf7 HO6.out HH.out.i.le HH.out.i.wf).past n6 (Or.inl S5.out.2) q2,n6.mono (Nat.le_refl _) (Nat.le_of_eq q3.symm),?_⟩;exact jbx (jaa (jaz (jae W5)) hgrow) q2
       case rest =>
        obtain ⟨i',hb7,hi7,ni7,hg7⟩:=hcut;have BA7:=jac hb7;have HI7:=jac hi7;have NI7:=jac ni7;clear hb7 hi7 ni7 n45 a85;have K7:Hid (∀ b,b<wr.heap.size→wc.heap[b]?=wr.heap[b]?):=fun b hb=>(hg7.block b (by have:=S5.out.2;omega) (fun e=>by have:=Option.some.inj e;omega)).trans (KO.out b hb);have hOlt:w.heap.size+1+1<wr.heap.size:=(Array.getElem?_eq_some_iff.1 CI.out.box).1;have OB7:=jac ((K7.out _ hOlt).trans CI.out.box);obtain ⟨-,-,-,-,o4⟩:=jbr (n:=⟨op,nam,⟨xa,ins.length,xc⟩,out,v⟩) OB7.out;obtain ⟨c0,c1,c2,c3,c4,c5,c6,c7,c8⟩:=jcd (a:=⟨A.name,A.kind,A.f,A.i,A.s,A.ty,d,t,i'⟩) BA7.out;have OW7:Hid (∀ o,OwnsL 78 9 jbw (wc.alloc o) W2.heap.size v.v ys):=fun o=>World.ownsRow.alloc (jdr CI.out.own (fun b hb=>K7.out b (World.ownsRow.lt CI.out.own b hb).2)) o;have s7:wr.heap.size<wc.heap.size:=by have:=S5.out.2;have:=hg7.size;omega
        have b2r:W2.heap.size≤wr.heap.size:=CI.out.grown.size;have hyl:=CI.out.len
        have hvn:v.n=ys.length:=by
         obtain ⟨va,vc,e⟩:=OwnsL.form CI.out.own;simp only [Sl.v,Value.slice.injEq] at e;exact e.2.1
        have HVN:=jac hvn;have HYL:=jac hyl;clear hvn hyl;go_wp2_with (at_builtin;refine wpList_append_lies _ rfl (.tmp 51) (.tmp 53) 33 rfl W2.heap.size 78 i1 (.agg #[.string ⟨#[]⟩,.int .i64 0,.int .i64 0,.int .i64 0,.string ⟨#[]⟩,.int .i64 0,.slice none 0 0,.slice none 0 0,.slice none 0 0]) 9 136 Tryz.underlying33 hj jz0 jz1 jz2 rfl (by decide) v.v ys.length (ys.flatMap jbw) rfl (by exact OW7.out _) ⟨wc.heap.size,0,none⟩ 1 1 (jbw ⟨A.name,A.kind,A.f,A.i,A.s,A.ty,d,t,i'⟩) rfl rfl (by exact World.news_of_block (heap_alloc_new wc _)) (jkA _) (by omega) (by have:=HYL.out;simp only [maxLen];omega) (by have:=HYL.out;omega) (by simp;omega) (wc.heap.size+1) (by simp) ?_;intro g cap' w8 hown' hgrow hat hlt8;have OB8:=jac ((hgrow.block (w.heap.size+1+1) (by simp;omega) (fun e=>by have:=World.ownsRow.lt CI.out.own _ e.symm;have:=S2.out.1;omega)).trans (jag OB7.out (jab wc _)));clear o4 n4;obtain ⟨-,-,-,-,f4⟩:=jfp OB8.out;obtain ⟨-,-,-,-,o4⟩:=jbr (n:=⟨op,nam,⟨xa,ins.length,xc⟩,out,v⟩) OB8.out);obtain ⟨q1,q2,q3⟩:=jit (j:=4) (.slice (some ⟨g,0,none⟩) (ys.length+1) cap') OB8.out
        have ST:Hid (CInv W2 (w.heap.size+1+1) W2.heap.size op nam out ⟨xa,ins.length,xc⟩ xs cs (k+1) (w8.setCell ⟨w.heap.size+1+1,4,none⟩ (.slice (some ⟨g,0,none⟩) (ys.length+1) cap')) ⟨some ⟨g,0,none⟩,ys.length+1,cap'⟩ (ys++[⟨A.name,A.kind,A.f,A.i,A.s,A.ty,d,t,i'⟩])):=by
         have vlt:∀ b,v.v.ownBlock=some b→W2.heap.size≤b∧b<wr.heap.size:=fun b e=>World.ownsRow.lt CI.out.own b e;have hO2:=S2.out.1;have s4:=hg4.size;have s3:=S3.out;have s5:=S5.out;have s7':=hg7.size;have s8:=hgrow.size;have sa:(wc.alloc (.cells #[.string A.name,.int .i64 A.kind,.int .i64 A.f,.int .i64 A.i,.string A.s,.int .i64 A.ty,.slice d.a d.n d.c,.slice t.a t.n t.c,.slice i'.a i'.n i'.c] 78)).heap.size=wc.heap.size+1:=by simp
         rw [sa] at s8;have ND7:New (wr.heap.size+1) wc.heap.size d.v:=ND4.out.mono (by omega) (by omega);have NT7:New (wr.heap.size+1) wc.heap.size t.v:=NT4.out.mono (by omega) (by omega);have NI7':New (wr.heap.size+1) wc.heap.size i'.v:=NI7.out.mono (by omega) (Nat.le_refl _)
         have carry:∀ {u:Value} {zs:List Int},New (wr.heap.size+1) wc.heap.size u→jaj wc u zs→jaj (w8.setCell ⟨w.heap.size+1+1,4,none⟩ (.slice (some ⟨g,0,none⟩) (ys.length+1) cap')) u zs:=by
          intro u zs hn hu;have a1:=hu.more (jab wc (.cells #[.string A.name,.int .i64 A.kind,.int .i64 A.f,.int .i64 A.i,.string A.s,.int .i64 A.ty,.slice d.a d.n d.c,.slice t.a t.n t.c,.slice i'.a i'.n i'.c] 78));have a2:=a1.kept (w':=w8) (fun b hb e=>hgrow.block b hb (fun e2=>by have:=vlt b e2.symm;have:=hn b e;omega));exact a2.past hn (Or.inl (by omega)) q2
         refine CInv.step (lo:=wc.heap.size) CI.out hlt (by omega) (Nat.le_refl _) b2r (by omega) ?_ (by omega) ?_ ?_ ?_ (by simpa using q1) ?_ ?_ ?_ ?_ (by omega) ?_
         ·intro b hb hne hv;refine (q2.block b (by omega) (fun e=>hne (Option.some.inj e))).trans ((hgrow.block b (by rw [sa];omega) (fun e=>hv e.symm)).trans (((jab wc _).block b (by omega) (by simp)).trans (K7.out b hb)))
         ·exact q2.os.trans (hgrow.os.trans ((jab wc _).os.trans (hg7.os.trans (G45.out.os.trans (hg4.os.trans G3.os)))))
         ·exact q2.tape.trans (hgrow.tape.trans ((jab wc _).tape.trans (hg7.tape.trans (G45.out.tape.trans (hg4.tape.trans G3.tape)))))
         ·exact q2.output.trans (hgrow.output.trans ((jab wc _).output.trans (hg7.output.trans (G45.out.output.trans (hg4.output.trans G3.output)))))
         ·have o1 : OwnsL 78 9 jbw w8 W2.heap.size (.slice (some ⟨g, 0, none⟩) (ys.length + 1) cap') (ys ++ [⟨A.name, A.kind, A.f, A.i, A.s, A.ty, d, t, i'⟩]) := by
            unfold OwnsL;rw [List.length_append,List.flatMap_append];simpa using hown'
          exact o1.kept q2 (by intro r e;cases e;omega)
         ·rw [← HA.out];rfl
         ·intro c' hc';obtain rfl:c=c':=Option.some.inj (HCC.out.symm.trans hc');refine ⟨carry ND7 ?_,carry NT7 ?_,carry NI7' HI7.out⟩
          ·exact (HD4.out.past (ND4.out.mono (Nat.le_of_eq s3.symm) (Nat.le_refl _)) (Or.inl (by omega)) G45.out).past ND7 (Or.inl (by omega)) hg7
          ·exact (HT4.out.past (NT4.out.mono (Nat.le_of_eq s3.symm) (Nat.le_refl _)) (Or.inl (by omega)) G45.out).past NT7 (Or.inl (by omega)) hg7
         ·exact ⟨ND7.mono (by omega) (Nat.le_refl _),NT7.mono (by omega) (Nat.le_refl _),NI7'.mono (by omega) (Nat.le_refl _)⟩
         ·intro b hb;have hb':g=b:=by simpa [Value.ownBlock] using hb
          subst hb'
          rcases hat with h | h
          ·exact Or.inl h
          ·exact Or.inr (by omega)
        go_roundw
        case rel=>exact ⟨k+1,_,_,by omega,by go_num,ST.out⟩
        case measure=>simp [intOf];omega
      ·obtain rfl:k=xs.length:=by omega
       have C2r:=jac ((CI.out.grown.block _ (Array.getElem?_eq_some_iff.1 C2.out).1 (fun e=>by have:=Option.some.inj e;omega)).trans C2.out);obtain ⟨o0,o1,o2,o3,o4⟩:=jbr (n:=⟨op,nam,⟨xa,ins.length,xc⟩,out,v⟩) CI.out.box;obtain ⟨f0,f1,f2,f3,f4⟩:=jfp C2r.out;obtain ⟨r0,r1,r2,r3,r4⟩:=jbr (n:=⟨⟨#[]⟩,⟨#[]⟩,⟨none,0,0⟩,⟨#[]⟩,⟨none,0,0⟩⟩) C2r.out;go_wp2;obtain ⟨h1',G1',s1'⟩:=jit (j:=0) (.string op) C2r.out;obtain ⟨h2',G2',s2'⟩:=jit (j:=1) (.string nam) h1';obtain ⟨h3',G3',s3'⟩:=jit (j:=2) (.slice xa ins.length xc) h2';obtain ⟨h4',G4',s4'⟩:=jit (j:=3) (.string out) h3';obtain ⟨h5',G5',s5'⟩:=jit (j:=4) (.slice v.a v.n v.c) h4';have G5:=ja1 (ja1 (ja1 (ja1 G1' G2') G3') G4') G5';refine bodyPost_ret (jiz rfl _ _ (w.heap.size+1) rfl (by simpa using h5')) rfl ?_;refine ⟨⟨xa,ins.length,xc⟩,v,rfl,ys,?_⟩;have hO2:=S2.out;have s0:=S0.out;have sg:=CI.out.grown.size;have sg5:=G5.size;have ivlt:∀ b,(Value.slice xa ins.length xc).ownBlock=some b→w0.heap.size≤b∧b<W2.heap.size:=fun b e=>World.ownsRow.lt HOW.out b e;have avlt:∀ b,v.v.ownBlock=some b→W2.heap.size≤b∧b<wr.heap.size:=fun b e=>World.ownsRow.lt CI.out.own b e;refine ⟨?_,?_,?_,?_,?_,?_,?_⟩
       ·have a1:=HOW.out.kept CI.out.grown (by intro r e;cases e;omega);exact (a1.kept G5 (by intro r e;cases e;omega)).base_le (by omega)
       ·exact (CI.out.own.kept G5 (by intro r e;cases e;omega)).base_le (by omega)
       ·have:=CI.out.eq
        rwa [List.take_of_length_le (Nat.le_refl _)] at this
       ·intro j a c ha hc;refine (CI.out.has j a c ha hc).kept fun b hb e=>G5.block b hb (fun e2=>?_);have:=(CI.out.new a (List.mem_of_getElem? ha)).1.any e
        cases e2
        omega
       ·intro a ha;have hm:=CI.out.new a ha;refine ⟨hm.1.mono (by omega) sg5,hm.2,ApA.of fun b e hv=>?_⟩;have h1:=hm.1.any e;have h2:=ivlt b hv;omega
       ·intro b e hv;have h1:=ivlt b e;have h2:=avlt b hv;omega
       ·exact jah (jah g1 CI.out.grown (fun r e=>by cases e;omega)) G5 (fun r e=>by cases e;omega)
end Go.Proofs.YtbgbpfbjeleooaaGreat
namespace Go.Proofs.YtbgbpfbjeleooaaGreat
open Go.RowKit
abbrev jnV:Sl:=⟨none,0,0⟩
theorem jfR {α:Type} {te:TypeId} {size bytes:Nat} {f:α→List Value} (hf:∀ a,(f a).length=size) {w:World} {B:Nat} {xs:List α} {cur:Array Value} (hb:w.heap[B]?=some (.cells cur te (0,0))) (hc:cur.toList=xs.flatMap f) (hs:cur.size=xs.length*size) (hl:xs.length*bytes≤140737488351232) (hm:xs.length≤1048576) :
    IsL bytes size f w (.slice (some ⟨B,0,none⟩) xs.length xs.length) xs:=by
     refine OwnsL.isL (te:=te) (base:=0) hf ?_ hl;refine ⟨by rw [← hc,Array.length_toList,hs],Or.inr ⟨B,xs.length,cur,rfl,Nat.zero_le _,hb,Nat.le_refl _,by simp only [maxLen];omega,hs,?_⟩⟩;rw [hc,List.take_of_length_le (by rw [← hc,Array.length_toList,hs];exact Nat.le_refl _)]
end Go.Proofs.YtbgbpfbjeleooaaGreat
namespace Go.Proofs.YtbgbpfbjeleooaaGreat
open Go.RowKit
def jfh (p:Val×List Int):ByteArray×Int×List Int:=(p.1.name,p.1.ty,p.2)
def jjf (p:Nam×List Int×List Int):ByteArray×Int×List Int×List Int:=(p.1.name,p.1.ty,p.2)
theorem jnk:(Tryz.prog.info? 82).map (fun i=>(i.zero,i.size,i.bytes))=some (some (.agg #[.string ⟨#[]⟩,.int .i64 0,.slice none 0 0]),3,48):=by kernel_rfl
theorem jkB (v:Val):∀ u∈ja5 v,u.oneCell'=true:=by
 intro u hu;simp only [ja5,List.mem_cons,List.not_mem_nil,or_false] at hu
 rcases hu with rfl | rfl | rfl <;> rfl
theorem jdV {α κ:Type} (f:α→κ) {xs:List α} {k:Nat} {x:α} (hk:xs[k]?=some x):(xs.take (k+1)).map f=(xs.take k).map f++[f x]:=by
 rw [List.take_add_one,List.map_append,hk]
 rfl
theorem jdF {α:Type} {te:TypeId} {size n:Nat} {f:α→List Value} {w:World} {base:Nat} {v:Value} {xs:List α} (h:OwnsL te size f w base v xs) (hn:xs.length=n):w.ownsRow base te size v n (xs.flatMap f):=by
 subst hn;exact h
theorem jeH {α:Type} {te:TypeId} {size n:Nat} {f:α→List Value} {w:World} {base:Nat} {v:Value} {xs:List α} {y:α} (hn:xs.length=n) (h:w.ownsRow base te size v (n+1) (xs.flatMap f++f y)):OwnsL te size f w base v (xs++[y]):=by
 subst hn;unfold OwnsL;rw [List.length_append,List.flatMap_append];simpa using h
end Go.Proofs.YtbgbpfbjeleooaaGreat
namespace Go.Proofs.YtbgbpfbjeleooaaGreat
open Go.RowKit
theorem six (w:World) (a b c d e f:Obj):∀ W,W=(((((w.alloc a).alloc b).alloc c).alloc d).alloc e).alloc f →
    W.heap[w.heap.size]?=some a∧W.heap[w.heap.size+1]?=some b∧W.heap[w.heap.size+1+1]?=some c∧W.heap[w.heap.size+1+1+1]?=some d∧W.heap[w.heap.size+1+1+1+1]?=some e∧W.heap[w.heap.size+1+1+1+1+1]?=some f∧w.grownBy W none:=by
     rintro W rfl;have z:∀ (x:World) (o:Obj),(x.alloc o).heap.size=x.heap.size+1:=fun x o=>by simp
     have k1:=heap_alloc_new w a;have k2:=heap_alloc_new (w.alloc a) b;have k3:=heap_alloc_new ((w.alloc a).alloc b) c;have k4:=heap_alloc_new (((w.alloc a).alloc b).alloc c) d;have k5:=heap_alloc_new ((((w.alloc a).alloc b).alloc c).alloc d) e;have k6:=heap_alloc_new (((((w.alloc a).alloc b).alloc c).alloc d).alloc e) f;rw [z] at k2;rw [z,z] at k3;rw [z,z,z] at k4;rw [z,z,z,z] at k5;rw [z,z,z,z,z] at k6;have up:∀ {x:World} {i:Nat} {o:Obj} (p:Obj),x.heap[i]?=some o→(x.alloc p).heap[i]?=some o:=fun {x i o} p h=>((jab x p).block i (Array.getElem?_eq_some_iff.1 h).1 (by simp)).trans h;exact ⟨up _ (up _ (up _ (up _ (up _ k1)))),up _ (up _ (up _ (up _ k2))),up _ (up _ (up _ k3)),up _ (up _ k4),up _ k5,k6,jaa (jaa (jaa (jaa (jaa (jab _ _) (jab _ _)) (jab _ _)) (jab _ _)) (jab _ _)) (jab _ _)⟩
theorem jnl:(Tryz.prog.info? 27).map (·.size)=some 5:=by kernel_rfl
theorem jfq {fn : Func} {p : Tmp} (h : fn.results = #[.cell p 27]) (tmps : Array Value) (w : World) (B : Nat) (hp : tmps.getD p undef = .pointer (some ⟨B, 0, none⟩)) {a0 a1 a2 a3 a4 : Value}
    (hb:w.heap[B]?=some (.cells #[a0,a1,a2,a3,a4] 27 (0,0))):(results fn tmps).run Tryz.prog w=.ok (.agg #[a0,a1,a2,a3,a4]) w :=
     results_cell_row h tmps w B 27 #[a0,a1,a2,a3,a4] (0,0) _ hp hb Tryz.underlying27 rfl (by rw [jnl];rfl)
theorem jcG {a b c:World} {row:Option Nat} (h:a.grownBy b row) {r':Option Nat} (k:b.grownBy c r') (hr:∀ g,r'=some g→a.heap.size≤g):a.grownBy c row :=
 ⟨k.os.trans h.os,k.tape.trans h.tape,k.output.trans h.output,Nat.le_trans h.size k.size,fun i hi hne=>(k.block i (Nat.lt_of_lt_of_le hi h.size) (fun e=>by have:=hr i e.symm;omega)).trans (h.block i hi hne)⟩
end Go.Proofs.YtbgbpfbjeleooaaGreat
