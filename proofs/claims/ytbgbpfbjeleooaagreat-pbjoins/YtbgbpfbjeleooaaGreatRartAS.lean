/- A part. -/
import Derived.Test.YtbgbpfbjeleooaaGreatRartAR
import Derived.Deep.LoopGhost
set_option maxHeartbeats 12800000
set_option maxRecDepth 100000
namespace Go.Proofs.YtbgbpfbjeleooaaGreat.Pd
open Go.RowKit
open Wr (Fld)
def TInv (st:TSt) (r:List Fld):Prop:=st.dims.length+jgy r≤33554432∧st.p.fl.length+jgy r≤33554432∧st.p.i32.length+jgy r≤33554432∧st.p.i64.length+jgy r≤33554432∧(-9223372036854775808≤st.ty∧st.ty≤9223372036854775807)∧st.p.raw.size≤16777216∧∀ y∈r,y.b.size≤16777216
theorem jd1 {sd lf lg lh:List Int} {ty:Int} {nam raw:ByteArray} {r:List Fld} (h1:sd.length+jgy r≤33554432) (h2:lf.length+jgy r≤33554432) (h3:lg.length+jgy r≤33554432) (h4:lh.length+jgy r≤33554432) (h5 : -9223372036854775808≤ty∧ty≤9223372036854775807) (h6:raw.size≤16777216) (h7:∀ y∈r,y.b.size≤16777216):TInv ⟨sd,ty,nam,⟨lf,lg,lh,raw⟩⟩ r:=⟨h1,h2,h3,h4,h5,h6,h7⟩
theorem jfw {w:World} {base b:Nat} {v:Value} {zs:List Int} (h:jeR w base v zs) (hb:b<base):v.ownBlock=none∨v.ownBlock≠some b:=by
 cases e:v.ownBlock with
 | none=>exact .inl rfl
 | some g=>exact .inr (fun e2=>by cases e2;have:=(h.lt b e).1;omega)
theorem jfx {w:World} {base b:Nat} {v:Value} {zs:List Int} (h:O64 w base v zs) (hb:b<base):v.ownBlock=none∨v.ownBlock≠some b:=by
 cases e:v.ownBlock with
 | none=>exact .inl rfl
 | some g=>exact .inr (fun e2=>by cases e2;have:=h.ge e;omega)
theorem jhk {w3:World} {B:Nat} {z0 z1 z2 z3:Value} {t:TypeId} (a b c d:Value) (hb:w3.heap[B]?=some (.cells #[z0,z1,z2,z3] t (0,0))) :
    ((((w3.setCell ⟨B,0,none⟩ a).setCell ⟨B,1,none⟩ b).setCell ⟨B,2,none⟩ c).setCell ⟨B,3,none⟩ d).heap[B]?=some (.cells #[a,b,c,d] t (0,0))∧w3.grownBy ((((w3.setCell ⟨B,0,none⟩ a).setCell ⟨B,1,none⟩ b).setCell ⟨B,2,none⟩ c).setCell ⟨B,3,none⟩ d) (some B):=by
     have h1:=heap_setCell_same w3 B 0 _ _ a hb;have h2:=heap_setCell_same _ B 1 _ _ b h1;have h3:=heap_setCell_same _ B 2 _ _ c h2;have h4:=heap_setCell_same _ B 3 _ _ d h3;exact ⟨by simpa using h4,Wr.row_trans (Wr.row_trans (Wr.row_trans (jak w3 B 0 a) (jak _ B 1 b)) (jak _ B 2 c)) (jak _ B 3 d)⟩
theorem jkT:(Tryz.prog.info? 67).map (·.size)=some 4:=by kernel_rfl
theorem jkU {fn : Func} {p : Tmp} (h : fn.results = #[.cell p 67]) (tmps : Array Value) (w : World) (B : Nat) (hp : tmps.getD p undef = .pointer (some ⟨B, 0, none⟩)) {a0 a1 a2 a3 : Value}
    (hb:w.heap[B]?=some (.cells #[a0,a1,a2,a3] 67 (0,0))):(results fn tmps).run Tryz.prog w=.ok (.agg #[a0,a1,a2,a3]) w :=
     results_cell_row h tmps w B 67 #[a0,a1,a2,a3] (0,0) _ hp hb Tryz.underlying67 rfl (by rw [jkT];rfl)
theorem jcf {w w2 w3:World} {lo B:Nat} {y:Fld} {r:List Fld} {v:Value} {zs:List Int} (ho:O64 w2 (B+1) v zs) (hg:w2.grownBy w3 v.ownBlock) (hc:jdo w2 lo B y r) (h0:w.grownBy w2 none) (hB:w.heap.size≤B) :
    (∀ b,b≤B→w3.heap[b]?=w2.heap[b]?)∧jdo w3 lo B y r∧w.grownBy w3 none :=
     ⟨fun b hb=>hg.block b (by have:=hc.lt;omega) (fun e=>by have:=ho.ge e.symm;omega),hc.kept hg (fun g e=>.inr (by have:=ho.ge e;omega)),jaf h0 hg (fun g e=>.inr (by have:=ho.ge e;omega))⟩
theorem jdJ {w w3:World} {lo B b0 j base:Nat} {y:Fld} {r:List Fld} (a:Value) {d f g h:Value} {ld lf lg lh:List Int} (hc:jdo w3 lo B y r) (h0:w.grownBy w3 none) (h4:Four w3 base d f g h ld lf lg lh) (hb:b0<lo) (hw:w.heap.size≤b0) (hl:lo≤base) :
    (∀ b,b≠b0→b<w3.heap.size→(w3.setCell ⟨b0,j,none⟩ a).heap[b]?=w3.heap[b]?)∧jdo (w3.setCell ⟨b0,j,none⟩ a) lo B y r∧w.grownBy (w3.setCell ⟨b0,j,none⟩ a) none∧Four (w3.setCell ⟨b0,j,none⟩ a) base d f g h ld lf lg lh :=
     have hg:=jak w3 b0 j a
     ⟨fun b hne hl=>hg.block b hl (fun e=>hne (Option.some.inj e)),hc.kept hg (fun g e=>.inl (by cases e;exact hb)),jaf h0 hg (fun g e=>.inr (by cases e;exact hw)),h4.box hg (by omega)⟩
theorem jar (w:World) (a:Array Value) (t:TypeId):(w.alloc (.cells a t)).heap.size=w.heap.size+1:=by simp
theorem jb1 (w:World) (a b c:Array Value) (t u v:TypeId):(((w.alloc (.cells a t)).alloc (.cells b u)).alloc (.cells c v)).heap[w.heap.size]?=some (.cells a t (0,0)) :=
 ((jab _ (.cells c v)).block _ (by rw [jar,jar];omega) (by simp)).trans (((jab _ (.cells b u)).block _ (by rw [jar];omega) (by simp)).trans (heap_alloc_new w _))
theorem jbO (w:World) (a b c:Array Value) (t u v:TypeId):(((w.alloc (.cells a t)).alloc (.cells b u)).alloc (.cells c v)).heap[w.heap.size+1]?=some (.cells b u (0,0)):=by
 have h:=heap_alloc_new (w.alloc (.cells a t)) (.cells b u);rw [jar] at h;exact ((jab _ (.cells c v)).block _ (by rw [jar,jar];omega) (by simp)).trans h
theorem jb2 (w:World) (a b c:Array Value) (t u v:TypeId):(((w.alloc (.cells a t)).alloc (.cells b u)).alloc (.cells c v)).heap[w.heap.size+1+1]?=some (.cells c v (0,0)):=by
 have h:=heap_alloc_new ((w.alloc (.cells a t)).alloc (.cells b u)) (.cells c v);rw [jar,jar] at h;exact h
theorem jj2 {s:ByteArray} {l:List Fld} (h:jaX s=.ok l):TInv t0 l:=by
 have h1:=jcD h;have h2:=jbq h;have hc:jgy l≤33554432:=by unfold jgy;omega
 refine ⟨by simpa [t0] using hc,by simpa [t0] using hc,by simpa [t0] using hc,by simpa [t0] using hc,by decide,by decide,fun y hy=>jdX h y hy⟩
theorem jnr {x:Fld} {q:ByteArray} (h:jbZ x=.ok q):x.b=q:=by
 unfold jbZ at h
 rcases jb5 x 2 with h1 | h1
 ·rw [h1] at h;cases h;rfl
 ·rw [h1] at h;cases h
theorem jbI (s:ByteArray) (w:World) (hs:s.size≤9223372036854775807) :
    Calls Tryz.prog 82 #[.string s] w (jbU w (jaB s) fun T v w'=>∃ d t:Sl,v=.agg #[.string T.name,.int .i64 T.ty,.slice d.a d.n d.c,.slice t.a t.n t.c]∧jeR w' w.heap.size d.v T.dims∧O64 w' w.heap.size t.v T.data):=by
     have O:=jac (fun wx=>jcI s wx hs);obtain ⟨w0,hw0⟩ : ∃ w0,w0=((w.alloc (.cells #[.string ⟨#[]⟩,.int .i64 0,.slice none 0 0,.slice none 0 0] 67)).alloc (.cells #[.string ⟨#[]⟩,.int .i64 0,.slice none 0 0,.slice none 0 0] 67)).alloc (.cells #[.slice none 0 0,.slice none 0 0,.slice none 0 0,.string ⟨#[]⟩] 166):=⟨_,rfl⟩
     have g0:w.grownBy w0 none:=by rw [hw0];exact jaa (jaa (jab _ _) (jab _ _)) (jab _ _)
     have hbR:w0.heap[w.heap.size]?=some (.cells #[.string ⟨#[]⟩,.int .i64 0,.slice none 0 0,.slice none 0 0] 67 (0,0)):=by rw [hw0];exact jb1 _ _ _ _ _ _ _
     have hbT:w0.heap[w.heap.size+1]?=some (.cells #[.string ⟨#[]⟩,.int .i64 0,.slice none 0 0,.slice none 0 0] 67 (0,0)):=by rw [hw0];exact jbO _ _ _ _ _ _ _
     have hbP:w0.heap[w.heap.size+1+1]?=some (.cells #[.slice none 0 0,.slice none 0 0,.slice none 0 0,.string ⟨#[]⟩] 166 (0,0)):=by rw [hw0];exact jb2 _ _ _ _ _ _ _
     have S0:w0.heap.size=w.heap.size+3:=by rw [hw0,jar,jar,jar]
     rcases jbd s with ⟨l,hl⟩ | ⟨c,hc,-⟩
     ·rw [hl] at O;have FL:=jac hl;have E0:Hid (jaB s=(jaF jaQ t0 l).bind fun t=>(jfl (pbE t.ty t.dims (jdT t.ty t.p))).bind fun _=>(jal (jas [t.name]) 6).bind fun _=>.ok ⟨t.name,t.ty,t.dims,jdT t.ty t.p⟩):=by show _=_;unfold jaB;rw [hl];rfl
      clear hl;go_enter Tryz.func82,Tryz.ntmps82;go_wp2_with fail;rw [← hw0];refine (O.out w0).mono ?_;rintro e w1 ⟨hg1,v,rfl,B,rfl,hcur⟩;obtain ⟨lo,hlo⟩ : ∃ lo,lo=w0.heap.size:=⟨_,rfl⟩
      rw [← hlo] at hcur S0;have LB:lo≤B:=by obtain ⟨_,_,_,_,h⟩:=hcur;exact h
      obtain ⟨bR,hR⟩ : ∃ b,b=w.heap.size:=⟨_,rfl⟩
      obtain ⟨bT,hT⟩ : ∃ b,b=w.heap.size+1:=⟨_,rfl⟩
      obtain ⟨bP,hP⟩ : ∃ b,b=w.heap.size+1+1:=⟨_,rfl⟩
      rw [← hR] at hbR;rw [← hP] at hbP ⊢;rw [← hT] at hbT ⊢;rw [← hR];have BT:Hid (bT≤B∧bP≤B∧bR≤B):=⟨by omega,by omega,by omega⟩
      have BL:Hid (bP<lo∧w.heap.size≤bP∧(bT<lo∧w.heap.size≤bT)∧lo≤B+1):=⟨by omega,by omega,⟨by omega,by omega⟩,by omega⟩
      have BN:Hid (bT≠bP∧bR≠bP∧bR≠bT):=⟨by omega,by omega,by omega⟩
      have HB:Hid (w.heap.size≤B):=by show w.heap.size≤B;omega
      have RI:Hid (bR=w.heap.size):=hR;have R1:w1.heap[bR]?=some (.cells #[.string ⟨#[]⟩,.int .i64 0,.slice none 0 0,.slice none 0 0] 67 (0,0)):=(hg1.block bR (by omega) (by simp)).trans hbR;have T1:w1.heap[bT]?=some (.cells #[.string ⟨#[]⟩,.int .i64 0,.slice none 0 0,.slice none 0 0] 67 (0,0)):=(hg1.block bT (by omega) (by simp)).trans hbT;have P1:w1.heap[bP]?=some (.cells #[.slice none 0 0,.slice none 0 0,.slice none 0 0,.string ⟨#[]⟩] 166 (0,0)):=(hg1.block bP (by omega) (by simp)).trans hbP;have IN:TInv t0 l:=jj2 FL.out;have G1:=jaa g0 hg1;clear hbR hbT hbP g0 hg1 hw0 S0 hlo LB hR hT hP;go_wp2_with fail;go_loopg [4] l.length (fun gh dims wr=>∃ (x:Fld) (r:List Fld) (st:TSt) (d f g h:Sl),gh=r.length∧dims=.slice d.a d.n d.c∧wr.heap[bR]?=some (.cells #[.string ⟨#[]⟩,.int .i64 0,.slice none 0 0,.slice none 0 0] 67 (0,0))∧wr.heap[bT]?=some (.cells #[.string st.name,.int .i64 st.ty,.slice none 0 0,.slice none 0 0] 67 (0,0))∧wr.heap[bP]?=some (.cells #[.slice f.a f.n f.c,.slice g.a g.n g.c,.slice h.a h.n h.c,.string st.p.raw] 166 (0,0))∧Four wr (B+1) d.v f.v g.v h.v st.dims st.p.fl st.p.i32 st.p.i64∧jdo wr lo B x r∧w.grownBy wr none∧jaF jaQ t0 l=jaF jaQ st r∧TInv st r)
      case atStart=>exact ⟨_,l,t0,⟨none,0,0⟩,⟨none,0,0⟩,⟨none,0,0⟩,⟨none,0,0⟩,rfl,rfl,R1,T1,P1,Four.nil _ _,hcur,G1,rfl,IN⟩
      case round =>
       obtain ⟨x,r,⟨sd,ty,nam,⟨lf,lg,lh,raw⟩⟩,⟨da,dn,dc⟩,⟨fa,fn,fc⟩,⟨ga,gn,gc⟩,⟨ha,hn,hc⟩,rfl,rfl,hR,hT,hP,h4,hcu,hg,hf,hin⟩:=hrel;simp only [Sl.v] at h4;have HF:=jac hf;have HC:=jac hcu;have HG:=jac hg;have HI:Hid (sd.length+jgy r≤33554432∧lf.length+jgy r≤33554432∧lg.length+jgy r≤33554432∧lh.length+jgy r≤33554432∧(-9223372036854775808≤ty∧ty≤9223372036854775807)∧raw.size≤16777216∧∀ y∈r,y.b.size≤16777216):=hin;have LOB:Hid (lo≤B):=by obtain ⟨_,_,_,_,h⟩:=hcu;exact h
       have H4:=jac h4;have HR:=jac hR;have HT:=jac hT;have HP:=jac hP;clear hf hcu hg hin h4 hR hT hP hcur R1 T1 P1 IN G1
       cases r with
       | nil =>
        have NX:=jac (jbX _ B x wr HC.out);have E1:Hid (jaB s=(jfl (pbE ty sd (jdT ty ⟨lf,lg,lh,raw⟩))).bind fun _=>(jal (jas [nam]) 6).bind fun _=>.ok ⟨nam,ty,sd,jdT ty ⟨lf,lg,lh,raw⟩⟩):=by show _=_;rw [E0.out,HF.out];rfl
        have TI:=jac (jj0 (.slice da dn dc) sd wr H4.out.od.ints (by have:=HI.out.1;omega));go_wp2_with fail;refine NX.out.mono ?_;rintro e w2 ⟨rfl,rfl⟩;go_wp2_with fail;refine TI.out.mono ?_;rintro e w3 ⟨hg3,⟨ua,un,uc⟩,rfl,ho3⟩;have C3:=jac (HC.out.more hg3);have G3:=jac (jaa HG.out hg3);have F3:=jac (H4.out.new hg3);have T3:=jac ((hg3.block bT (by have:=HC.out.lt;have:=BT.out;omega) (by simp)).trans HT.out);have P3:=jac ((hg3.block bP (by have:=HC.out.lt;have:=BT.out;omega) (by simp)).trans HP.out);have R3:=jac ((hg3.block bR (by have:=HC.out.lt;have:=BT.out;omega) (by simp)).trans HR.out);have n1:bT≠bP:=BN.out.1;have n2:bP≠bT:=BN.out.1.symm;obtain ⟨⟨t0,t1,t2,t3⟩,tf0,tf1,tf2,tf3⟩:=jaZ T3.out;obtain ⟨⟨p0,p1,p2,p3⟩,-⟩:=jaZ P3.out;have K4:=jac (jdJ (j:=2) (.slice ua un uc) C3.out G3.out F3.out BL.out.2.2.1.1 BL.out.2.2.1.2 BL.out.2.2.2);have T4:=jac ((jmU T3.out (.slice ua un uc)).2.2.1);have P4:=jac ((K4.out.1 bP n2 (by have:=C3.out.lt;have:=BT.out;omega)).trans P3.out);have R4:=jac ((K4.out.1 bR BN.out.2.2 (by have:=C3.out.lt;have:=BT.out;omega)).trans R3.out);have O4:=jac (ho3.more (jak w3 bT 2 (.slice ua un uc)) (jfw ho3 (by have:=HC.out.lt;have:=BT.out;omega)));have SZ:Hid (lo+1≤wr.heap.size∧w.heap.size≤wr.heap.size∧bT<wr.heap.size):=⟨by have:=HC.out.lt;have:=LOB.out;omega,HG.out.size,by have:=HC.out.lt;have:=BT.out;omega⟩
        clear hg3 ho3 TI NX HC HG H4 HT HP HR;go_wp2_with fail;obtain ⟨w4,hw4⟩ : ∃ w4,w4=w3.setCell ⟨bT,2,none⟩ (.slice ua un uc):=⟨_,rfl⟩
        rw [← hw4] at K4 T4 P4 R4 O4 ⊢;clear hw4 t0 t1 t2 t3 tf0 tf1 tf2 tf3 p0 p1 p2 p3;refine (jl8 ty ⟨lf,lg,lh,raw⟩ (.slice fa fn fc) (.slice ga gn gc) (.slice ha hn hc) (B+1) w4 K4.out.2.2.2.of K4.out.2.2.2.og K4.out.2.2.2.oh HI.out.2.2.2.2.2.1 (by have:=K4.out.2.1.lt;omega)).mono ?_;rintro e w5 ⟨hg5,v5,rfl,ho5⟩;obtain ⟨ya,yc,rfl⟩:=ho5.form;obtain ⟨dat,hdat⟩ : ∃ l,l=jdT ty ⟨lf,lg,lh,raw⟩:=⟨_,rfl⟩
        rw [← hdat] at E1 ho5 ⊢;clear hdat;have hl4:=K4.out.2.1.lt;have G5:=jac (jaa K4.out.2.2.1 hg5);have T5:=jac ((hg5.block bT (by have:=BT.out;omega) (by simp)).trans T4.out);have R5:=jac ((hg5.block bR (by have:=BT.out;omega) (by simp)).trans R4.out);have O5:=jac (O4.out.new hg5);have LT5:Hid (bT<w5.heap.size∧bR<w5.heap.size):=by have:=BT.out;have:=hg5.size;exact ⟨by omega,by omega⟩
        obtain ⟨⟨t0,t1,t2,t3⟩,tf0,tf1,tf2,tf3⟩:=jaZ T5.out;have T6:=jac ((jmU T5.out (.slice ya dat.length yc)).2.2.2);have G6:=jac (jaf (row:=none) G5.out (jak w5 bT 3 (.slice ya dat.length yc)) (fun g e=>by cases e;exact .inr BL.out.2.2.1.2));have R6:=jac (((jak w5 bT 3 (.slice ya dat.length yc)).block bR LT5.out.2 (fun e=>BN.out.2.2 (Option.some.inj e))).trans R5.out);have O6:=jac (O5.out.more (jak w5 bT 3 (.slice ya dat.length yc)) (jfw O5.out (by have:=SZ.out;omega)));have D6:=jac (ho5.more (jak w5 bT 3 (.slice ya dat.length yc)) (jfx ho5 (by have:=BT.out;omega)));have S6:Hid (bT<(w5.setCell ⟨bT,3,none⟩ (.slice ya dat.length yc)).heap.size∧bR<(w5.setCell ⟨bT,3,none⟩ (.slice ya dat.length yc)).heap.size):=by have h1:=(jak w5 bT 3 (.slice ya dat.length yc)).size;have:=LT5.out;exact ⟨by omega,by omega⟩
        have DL:=jac ho5.2.1;clear hg5 ho5 T5 R5 O5 K4 T4 P4 R4 O4 C3 G3 F3 T3 P3 R3 hl4 n1 n2;go_wp2_with fail;obtain ⟨w6,hw6⟩ : ∃ w6,w6=w5.setCell ⟨bT,3,none⟩ (.slice ya dat.length yc):=⟨_,rfl⟩
        rw [← hw6] at T6 G6 R6 O6 D6 S6 ⊢;clear hw6 t0 t1 t2 t3 tf0 tf1 tf2 tf3;refine (jeG ty (.slice ua un uc) (.slice ya dat.length yc) sd dat w6 O6.out.ints D6.out.ints).mono ?_;rintro e w7 ⟨rfl,hg7⟩;have G7:=jac (jaa G6.out hg7);have T7:=jac ((hg7.block bT S6.out.1 (by simp)).trans T6.out);have R7:=jac ((hg7.block bR S6.out.2 (by simp)).trans R6.out);have O7:=jac (O6.out.new hg7);have D7:=jac (D6.out.new hg7);have S7:Hid (bT<w7.heap.size∧bR<w7.heap.size):=by have:=hg7.size;have:=S6.out;exact ⟨by omega,by omega⟩
        clear hg7 T6 R6 O6 D6 S6 G6;obtain ⟨ce,hce⟩ : ∃ c,c=pbE ty sd dat:=⟨_,rfl⟩
        rw [← hce] at E1 ⊢;clear hce;obtain ⟨⟨t0,t1,t2,t3⟩,-⟩:=jaZ T7.out
        by_cases h0:ce=0
        ·have E2:Hid (jaB s=(jal (jas [nam]) 6).bind fun _=>.ok ⟨nam,ty,sd,dat⟩):=by show _=_;rw [E1.out,h0];rfl
         rw [h0];clear E1 h0;have TL:=jac (jaN (.slice (some ⟨w7.heap.size,0,none⟩) 1 1) [nam] (w7.alloc (.cells #[.string nam] 9)) (jci (heap_alloc_new w7 _)));have g8:=jab w7 (.cells #[.string nam] 9);have G8:=jac (jaa G7.out g8);have T8:=jac ((g8.block bT S7.out.1 (by simp)).trans T7.out);have R8:=jac ((g8.block bR S7.out.2 (by simp)).trans R7.out);have O8:=jac (O7.out.new g8);have D8:=jac (D7.out.new g8);clear g8;go_wp2_with (go_at_call 79;refine (jgd _).mono ?_;rintro e w' ⟨rfl,rfl⟩);refine TL.out.mono ?_;obtain ⟨w8,hw8⟩ : ∃ w8,w8=w7.alloc (.cells #[.string nam] 9):=⟨_,rfl⟩
         rw [← hw8] at G8 T8 R8 O8 D8 ⊢;clear hw8 TL t0 t1 t2 t3;rintro e w9 ⟨rfl,rfl⟩
         cases hlg:jas [nam] with
         | true =>
          have E3:Hid (jaB s=.error 6):=by show _=_;rw [E2.out,hlg];rfl
          clear hlg;go_wp2_with (go_at_call 53;refine (jaD _ _).mono ?_;rintro e w' ⟨rfl,rfl⟩);exact ⟨rfl,jad E3.out G8.out⟩
         | false =>
          have E3:Hid (jaB s=.ok ⟨nam,ty,sd,dat⟩):=by show _=_;rw [E2.out,hlg];rfl
          clear hlg;obtain ⟨⟨t0,t1,t2,t3⟩,-⟩:=jaZ T8.out;obtain ⟨⟨r0,r1,r2,r3⟩,rf0,rf1,rf2,rf3⟩:=jaZ R8.out;have n3:bR≠bT:=BN.out.2.2;have n4:bT≠bR:=BN.out.2.2.symm;obtain ⟨hX,gX⟩:=jhk (.string nam) (.int .i64 ty) (.slice ua un uc) (.slice ya dat.length yc) R8.out;have HX:=jac hX;have GX:=jac (jaf (row:=none) G8.out gX (fun g e=>by cases e;exact .inr (by have:=RI.out;omega)));have OX:=jac (O8.out.more gX (jfw O8.out (by have:=SZ.out;have:=RI.out;have:=BL.out;omega)));have DX:=jac (D8.out.more gX (jfx D8.out (by have:=BT.out;omega)));clear hX gX;go_wp2_with (go_at_call 53;refine (jaM _ _).mono ?_;rintro e w' ⟨rfl,rfl⟩);refine bodyPost_ret (jkU rfl _ _ bR rfl HX.out) rfl ?_;exact jaI E3.out GX.out ⟨⟨ua,un,uc⟩,⟨ya,dat.length,yc⟩,rfl,OX.out.base_le SZ.out.2.1,DX.out.base_le (by have:=HB.out;omega)⟩
        ·have E2:Hid (jaB s=.error ce):=by show _=_;rw [E1.out];unfold jfl;rw [if_neg h0];rfl
         have SE:=jac (jei ce h0);clear h0 E1;go_wp2_with (go_at_call 79;refine (SE.out _).mono ?_;rintro e w' ⟨rfl,rfl⟩);exact ⟨rfl,jad E2.out G7.out⟩
       | cons y r =>
        have NX:=jac (jbY _ B x y r wr HC.out);have COST:=jac (jh0 y r);have YB:=jac (HI.out.2.2.2.2.2.2 y (List.mem_cons_self ..));go_wp2_with fail;refine NX.out.mono ?_;rintro e w2 ⟨rfl,hc2,hg2⟩;have HC2:=jac hc2;have HG2:=jac (jah HG.out hg2 (fun g e=>by cases e;exact HB.out));have F2:=jac (H4.out.box hg2 (by omega));have T2:=jac ((hg2.block bT (by have:=HC.out.lt;have:=BT.out;omega) (fun e=>by have e2:=Option.some.inj e;have:=BL.out;have:=RI.out;have:=LOB.out;omega)).trans HT.out);have P2:=jac ((hg2.block bP (by have:=HC.out.lt;have:=BT.out;omega) (fun e=>by have e2:=Option.some.inj e;have:=BL.out;have:=RI.out;have:=LOB.out;omega)).trans HP.out);have R2:=jac ((hg2.block bR (by have:=HC.out.lt;have:=BT.out;omega) (fun e=>by have e2:=Option.some.inj e;have:=BL.out;have:=RI.out;have:=LOB.out;omega)).trans HR.out);obtain ⟨a0,a1,a2,a3⟩:=hc2.cells;clear hc2 hg2 NX HC HG H4 HT HP HR
        by_cases h1:y.num=1
        ·have b1:(y.num==1)=true:=by simp [h1]
         have H1:=jac h1;clear h1;have p0:True:=trivial;have p1:True:=trivial;have p2:True:=trivial;have p3:True:=trivial;go_wp2_with fail;have TX:=jac (jdI B (B+1) y (.slice da dn dc) sd w2 a1 a2 a3 F2.out.od (by have:=HC2.out.lt;omega) (by have:=HI.out.1;have:=COST.out;omega) YB.out);clear a0 a1 a2 a3 p0 p1 p2 p3
         cases hx:jbc sd y with
         | error c =>
          rw [hx] at TX;have E:Hid (jaB s=.error c):=by show _=_;rw [E0.out,HF.out,jaJ (f:=jaQ) (c:=c) (by unfold jaQ;rw [if_pos H1.out];rw [hx];rfl)];rfl
          clear hx;refine TX.out.mono ?_;rintro e w3 ⟨hg3,rfl⟩;exact ⟨rfl,jad E.out (jcf F2.out.od hg3 HC2.out HG2.out HB.out).2.2⟩
         | ok zs =>
          rw [hx] at TX;have LZ:=jac (jdd hx);have ES:=jac (HF.out.trans (jay (f:=jaQ) (b:=⟨zs,ty,nam,⟨lf,lg,lh,raw⟩⟩) (by unfold jaQ;rw [if_pos H1.out];rw [hx];rfl)));clear hx;refine TX.out.mono ?_;rintro e w3 ⟨hg3,v',rfl,ho,hfrom⟩;have F3:=jac (F2.out.setd hg3 ho hfrom);have K3:=jac (jcf F2.out.od hg3 HC2.out HG2.out HB.out);have T3:=jac ((K3.out.1 bT BT.out.1).trans T2.out);have P3:=jac ((K3.out.1 bP BT.out.2.1).trans P2.out);have R3:=jac ((K3.out.1 bR BT.out.2.2).trans R2.out);obtain ⟨va,vc,rfl⟩:=ho.form;clear hg3 ho hfrom TX;go_wp2_with fail;go_roundg r.length
          case measure=>simp
          case rel=>exact ⟨y,r,⟨zs,ty,nam,⟨lf,lg,lh,raw⟩⟩,⟨va,zs.length,vc⟩,⟨fa,fn,fc⟩,⟨ga,gn,gc⟩,⟨ha,hn,hc⟩,rfl,rfl,R3.out,T3.out,P3.out,F3.out,K3.out.2.1,K3.out.2.2,ES.out,jd1 (by have:=HI.out.1;have:=COST.out;have:=LZ.out;omega) (by have:=HI.out.2.1;have:=COST.out;omega) (by have:=HI.out.2.2.1;have:=COST.out;omega) (by have:=HI.out.2.2.2.1;have:=COST.out;omega) (HI.out.2.2.2.2.1) (HI.out.2.2.2.2.2.1) (fun z hz=>HI.out.2.2.2.2.2.2 z (List.mem_cons_of_mem _ hz))⟩
        ·have b1:(y.num==1)=false:=by simpa using h1
         have H1:=jac h1;clear h1
         by_cases h2:y.num=2
         ·have b2:(y.num==2)=true:=by simp [h2]
          have H2:=jac h2;clear h2;obtain ⟨⟨p0,p1,p2,p3⟩,-⟩:=jaZ T2.out;go_wp2_with fail;have TX:=jac (jcW B y w2 a1 a2);clear a0 a1 a2 a3 p0 p1 p2 p3
          rcases jcq y with ⟨q,hx,hq⟩ | hx
          ·rw [hx] at TX;have ES:=jac (HF.out.trans (jay (f:=jaQ) (b:=⟨sd,q,nam,⟨lf,lg,lh,raw⟩⟩) (by unfold jaQ;rw [if_neg H1.out];rw [if_pos H2.out];rw [hx];rfl)));have HQ:=jac hq;clear hq;clear hx;refine TX.out.mono ?_;rintro e w3 ⟨hg3,v,rfl,rfl,rfl⟩;obtain ⟨⟨p0,p1,p2,p3⟩,pf0,pf1,pf2,pf3⟩:=jaZ T2.out;go_wp2_with (go_at_call 109;refine (jdW _ _ HQ.out).mono ?_;rintro e w' ⟨rfl,rfl⟩);have K4:=jac (jdJ (j:=1) (.int .i64 q) HC2.out HG2.out F2.out BL.out.2.2.1.1 BL.out.2.2.1.2 BL.out.2.2.2);have T4:=jac ((jmU T2.out (.int .i64 q)).2.1);have P4:=jac ((K4.out.1 bP BN.out.1.symm (by have:=HC2.out.lt;have:=BT.out;omega)).trans P2.out);have R4:=jac ((K4.out.1 bR BN.out.2.2 (by have:=HC2.out.lt;have:=BT.out.2.2;omega)).trans R2.out);clear p0 p1 p2 p3 pf0 pf1 pf2 pf3;go_roundg r.length
           case measure=>simp
           case rel=>exact ⟨y,r,⟨sd,q,nam,⟨lf,lg,lh,raw⟩⟩,⟨da,dn,dc⟩,⟨fa,fn,fc⟩,⟨ga,gn,gc⟩,⟨ha,hn,hc⟩,rfl,rfl,R4.out,T4.out,P4.out,K4.out.2.2.2,K4.out.2.1,K4.out.2.2.1,ES.out,jd1 (by have:=HI.out.1;have:=COST.out;omega) (by have:=HI.out.2.1;have:=COST.out;omega) (by have:=HI.out.2.2.1;have:=COST.out;omega) (by have:=HI.out.2.2.2.1;have:=COST.out;omega) (HQ.out) (HI.out.2.2.2.2.2.1) (fun z hz=>HI.out.2.2.2.2.2.2 z (List.mem_cons_of_mem _ hz))⟩
          ·rw [hx] at TX;have E:Hid (jaB s=.error 3):=by show _=_;rw [E0.out,HF.out,jaJ (f:=jaQ) (c:=3) (by unfold jaQ;rw [if_neg H1.out];rw [if_pos H2.out];rw [hx];rfl)];rfl
           clear hx;refine TX.out.mono ?_;rintro e w3 ⟨hg3,rfl⟩;exact ⟨rfl,jad E.out (jaa HG2.out hg3)⟩
         ·have b2:(y.num==2)=false:=by simpa using h2
          have H2:=jac h2;clear h2
          by_cases h4:y.num=4
          ·have b4:(y.num==4)=true:=by simp [h4]
           have H4:=jac h4;clear h4;obtain ⟨⟨p0,p1,p2,p3⟩,-⟩:=jaZ P2.out;go_wp2_with fail;have TX:=jac (jjY B (B+1) y (.slice fa fn fc) lf w2 a1 a2 a3 F2.out.of (by have:=HC2.out.lt;omega) (by have:=HI.out.2.1;have:=COST.out;omega) YB.out);clear a0 a1 a2 a3 p0 p1 p2 p3
           cases hx:jca lf y with
           | error c =>
            rw [hx] at TX;have E:Hid (jaB s=.error c):=by show _=_;rw [E0.out,HF.out,jaJ (f:=jaQ) (c:=c) (by unfold jaQ;rw [if_neg H1.out];rw [if_neg H2.out];rw [if_pos H4.out];rw [hx];rfl)];rfl
            clear hx;refine TX.out.mono ?_;rintro e w3 ⟨hg3,rfl⟩;exact ⟨rfl,jad E.out (jcf F2.out.of hg3 HC2.out HG2.out HB.out).2.2⟩
           | ok zs =>
            rw [hx] at TX;have LZ:=jac (jiK hx);have ES:=jac (HF.out.trans (jay (f:=jaQ) (b:=⟨sd,ty,nam,⟨zs,lg,lh,raw⟩⟩) (by unfold jaQ;rw [if_neg H1.out];rw [if_neg H2.out];rw [if_pos H4.out];rw [hx];rfl)));clear hx;refine TX.out.mono ?_;rintro e w3 ⟨hg3,v',rfl,ho,hfrom⟩;have F3:=jac (F2.out.setf hg3 ho hfrom);have K3:=jac (jcf F2.out.of hg3 HC2.out HG2.out HB.out);have T3:=jac ((K3.out.1 bT BT.out.1).trans T2.out);have P3:=jac ((K3.out.1 bP BT.out.2.1).trans P2.out);have R3:=jac ((K3.out.1 bR BT.out.2.2).trans R2.out);obtain ⟨va,vc,rfl⟩:=ho.form;clear hg3 ho hfrom TX;obtain ⟨⟨p0,p1,p2,p3⟩,pf0,pf1,pf2,pf3⟩:=jaZ P3.out;go_wp2_with fail;have K4:=jac (jdJ (j:=0) (.slice va zs.length vc) K3.out.2.1 K3.out.2.2 F3.out BL.out.1 BL.out.2.1 BL.out.2.2.2);have P4:=jac ((jmU P3.out (.slice va zs.length vc)).1);have T4:=jac ((K4.out.1 bT BN.out.1 (by have:=K3.out.2.1.lt;have:=BT.out.1;omega)).trans T3.out);have R4:=jac ((K4.out.1 bR BN.out.2.1 (by have:=K3.out.2.1.lt;have:=BT.out.2.2;omega)).trans R3.out);clear p0 p1 p2 p3 pf0 pf1 pf2 pf3;go_roundg r.length
            case measure=>simp
            case rel=>exact ⟨y,r,⟨sd,ty,nam,⟨zs,lg,lh,raw⟩⟩,⟨da,dn,dc⟩,⟨va,zs.length,vc⟩,⟨ga,gn,gc⟩,⟨ha,hn,hc⟩,rfl,rfl,R4.out,T4.out,P4.out,K4.out.2.2.2,K4.out.2.1,K4.out.2.2.1,ES.out,jd1 (by have:=HI.out.1;have:=COST.out;omega) (by have:=HI.out.2.1;have:=COST.out;have:=LZ.out;omega) (by have:=HI.out.2.2.1;have:=COST.out;omega) (by have:=HI.out.2.2.2.1;have:=COST.out;omega) (HI.out.2.2.2.2.1) (HI.out.2.2.2.2.2.1) (fun z hz=>HI.out.2.2.2.2.2.2 z (List.mem_cons_of_mem _ hz))⟩
          ·have b4:(y.num==4)=false:=by simpa using h4
           have H4:=jac h4;clear h4
           by_cases h5:y.num=5
           ·have b5:(y.num==5)=true:=by simp [h5]
            have H5:=jac h5;clear h5;obtain ⟨⟨p0,p1,p2,p3⟩,-⟩:=jaZ P2.out;go_wp2_with fail;have TX:=jac (jdI B (B+1) y (.slice ga gn gc) lg w2 a1 a2 a3 F2.out.og (by have:=HC2.out.lt;omega) (by have:=HI.out.2.2.1;have:=COST.out;omega) YB.out);clear a0 a1 a2 a3 p0 p1 p2 p3
            cases hx:jbc lg y with
            | error c =>
             rw [hx] at TX;have E:Hid (jaB s=.error c):=by show _=_;rw [E0.out,HF.out,jaJ (f:=jaQ) (c:=c) (by unfold jaQ;rw [if_neg H1.out];rw [if_neg H2.out];rw [if_neg H4.out];rw [if_pos H5.out];rw [hx];rfl)];rfl
             clear hx;refine TX.out.mono ?_;rintro e w3 ⟨hg3,rfl⟩;exact ⟨rfl,jad E.out (jcf F2.out.og hg3 HC2.out HG2.out HB.out).2.2⟩
            | ok zs =>
             rw [hx] at TX;have LZ:=jac (jdd hx);have ES:=jac (HF.out.trans (jay (f:=jaQ) (b:=⟨sd,ty,nam,⟨lf,zs,lh,raw⟩⟩) (by unfold jaQ;rw [if_neg H1.out];rw [if_neg H2.out];rw [if_neg H4.out];rw [if_pos H5.out];rw [hx];rfl)));clear hx;refine TX.out.mono ?_;rintro e w3 ⟨hg3,v',rfl,ho,hfrom⟩;have F3:=jac (F2.out.setg hg3 ho hfrom);have K3:=jac (jcf F2.out.og hg3 HC2.out HG2.out HB.out);have T3:=jac ((K3.out.1 bT BT.out.1).trans T2.out);have P3:=jac ((K3.out.1 bP BT.out.2.1).trans P2.out);have R3:=jac ((K3.out.1 bR BT.out.2.2).trans R2.out);obtain ⟨va,vc,rfl⟩:=ho.form;clear hg3 ho hfrom TX;obtain ⟨⟨p0,p1,p2,p3⟩,pf0,pf1,pf2,pf3⟩:=jaZ P3.out;go_wp2_with fail;have K4:=jac (jdJ (j:=1) (.slice va zs.length vc) K3.out.2.1 K3.out.2.2 F3.out BL.out.1 BL.out.2.1 BL.out.2.2.2);have P4:=jac ((jmU P3.out (.slice va zs.length vc)).2.1);have T4:=jac ((K4.out.1 bT BN.out.1 (by have:=K3.out.2.1.lt;have:=BT.out.1;omega)).trans T3.out);have R4:=jac ((K4.out.1 bR BN.out.2.1 (by have:=K3.out.2.1.lt;have:=BT.out.2.2;omega)).trans R3.out);clear p0 p1 p2 p3 pf0 pf1 pf2 pf3;go_roundg r.length
             case measure=>simp
             case rel=>exact ⟨y,r,⟨sd,ty,nam,⟨lf,zs,lh,raw⟩⟩,⟨da,dn,dc⟩,⟨fa,fn,fc⟩,⟨va,zs.length,vc⟩,⟨ha,hn,hc⟩,rfl,rfl,R4.out,T4.out,P4.out,K4.out.2.2.2,K4.out.2.1,K4.out.2.2.1,ES.out,jd1 (by have:=HI.out.1;have:=COST.out;omega) (by have:=HI.out.2.1;have:=COST.out;omega) (by have:=HI.out.2.2.1;have:=COST.out;have:=LZ.out;omega) (by have:=HI.out.2.2.2.1;have:=COST.out;omega) (HI.out.2.2.2.2.1) (HI.out.2.2.2.2.2.1) (fun z hz=>HI.out.2.2.2.2.2.2 z (List.mem_cons_of_mem _ hz))⟩
           ·have b5:(y.num==5)=false:=by simpa using h5
            have H5:=jac h5;clear h5
            by_cases h7:y.num=7
            ·have b7:(y.num==7)=true:=by simp [h7]
             have H7:=jac h7;clear h7;obtain ⟨⟨p0,p1,p2,p3⟩,-⟩:=jaZ P2.out;go_wp2_with fail;have TX:=jac (jdI B (B+1) y (.slice ha hn hc) lh w2 a1 a2 a3 F2.out.oh (by have:=HC2.out.lt;omega) (by have:=HI.out.2.2.2.1;have:=COST.out;omega) YB.out);clear a0 a1 a2 a3 p0 p1 p2 p3
             cases hx:jbc lh y with
             | error c =>
              rw [hx] at TX;have E:Hid (jaB s=.error c):=by show _=_;rw [E0.out,HF.out,jaJ (f:=jaQ) (c:=c) (by unfold jaQ;rw [if_neg H1.out];rw [if_neg H2.out];rw [if_neg H4.out];rw [if_neg H5.out];rw [if_pos H7.out];rw [hx];rfl)];rfl
              clear hx;refine TX.out.mono ?_;rintro e w3 ⟨hg3,rfl⟩;exact ⟨rfl,jad E.out (jcf F2.out.oh hg3 HC2.out HG2.out HB.out).2.2⟩
             | ok zs =>
              rw [hx] at TX;have LZ:=jac (jdd hx);have ES:=jac (HF.out.trans (jay (f:=jaQ) (b:=⟨sd,ty,nam,⟨lf,lg,zs,raw⟩⟩) (by unfold jaQ;rw [if_neg H1.out];rw [if_neg H2.out];rw [if_neg H4.out];rw [if_neg H5.out];rw [if_pos H7.out];rw [hx];rfl)));clear hx;refine TX.out.mono ?_;rintro e w3 ⟨hg3,v',rfl,ho,hfrom⟩;have F3:=jac (F2.out.seth hg3 ho hfrom);have K3:=jac (jcf F2.out.oh hg3 HC2.out HG2.out HB.out);have T3:=jac ((K3.out.1 bT BT.out.1).trans T2.out);have P3:=jac ((K3.out.1 bP BT.out.2.1).trans P2.out);have R3:=jac ((K3.out.1 bR BT.out.2.2).trans R2.out);obtain ⟨va,vc,rfl⟩:=ho.form;clear hg3 ho hfrom TX;obtain ⟨⟨p0,p1,p2,p3⟩,pf0,pf1,pf2,pf3⟩:=jaZ P3.out;go_wp2_with fail;have K4:=jac (jdJ (j:=2) (.slice va zs.length vc) K3.out.2.1 K3.out.2.2 F3.out BL.out.1 BL.out.2.1 BL.out.2.2.2);have P4:=jac ((jmU P3.out (.slice va zs.length vc)).2.2.1);have T4:=jac ((K4.out.1 bT BN.out.1 (by have:=K3.out.2.1.lt;have:=BT.out.1;omega)).trans T3.out);have R4:=jac ((K4.out.1 bR BN.out.2.1 (by have:=K3.out.2.1.lt;have:=BT.out.2.2;omega)).trans R3.out);clear p0 p1 p2 p3 pf0 pf1 pf2 pf3;go_roundg r.length
              case measure=>simp
              case rel=>exact ⟨y,r,⟨sd,ty,nam,⟨lf,lg,zs,raw⟩⟩,⟨da,dn,dc⟩,⟨fa,fn,fc⟩,⟨ga,gn,gc⟩,⟨va,zs.length,vc⟩,rfl,rfl,R4.out,T4.out,P4.out,K4.out.2.2.2,K4.out.2.1,K4.out.2.2.1,ES.out,jd1 (by have:=HI.out.1;have:=COST.out;omega) (by have:=HI.out.2.1;have:=COST.out;omega) (by have:=HI.out.2.2.1;have:=COST.out;omega) (by have:=HI.out.2.2.2.1;have:=COST.out;have:=LZ.out;omega) (HI.out.2.2.2.2.1) (HI.out.2.2.2.2.2.1) (fun z hz=>HI.out.2.2.2.2.2.2 z (List.mem_cons_of_mem _ hz))⟩
            ·have b7:(y.num==7)=false:=by simpa using h7
             have H7:=jac h7;clear h7
             by_cases h8:y.num=8
             ·have b8:(y.num==8)=true:=by simp [h8]
              have H8:=jac h8;clear h8;obtain ⟨⟨p0,p1,p2,p3⟩,-⟩:=jaZ T2.out;go_wp2_with fail;have TX:=jac (jaA B y w2 a1 a3);clear a0 a1 a2 a3 p0 p1 p2 p3
              rcases jaU y with ⟨q,hx⟩ | hx
              ·rw [hx] at TX;have ES:=jac (HF.out.trans (jay (f:=jaQ) (b:=⟨sd,ty,q,⟨lf,lg,lh,raw⟩⟩) (by unfold jaQ;rw [if_neg H1.out];rw [if_neg H2.out];rw [if_neg H4.out];rw [if_neg H5.out];rw [if_neg H7.out];rw [if_pos H8.out];rw [hx];rfl)))
               skip
               clear hx;refine TX.out.mono ?_;rintro e w3 ⟨hg3,v,rfl,rfl,rfl⟩;obtain ⟨⟨p0,p1,p2,p3⟩,pf0,pf1,pf2,pf3⟩:=jaZ T2.out;go_wp2_with fail;have K4:=jac (jdJ (j:=0) (.string q) HC2.out HG2.out F2.out BL.out.2.2.1.1 BL.out.2.2.1.2 BL.out.2.2.2);have T4:=jac ((jmU T2.out (.string q)).1);have P4:=jac ((K4.out.1 bP BN.out.1.symm (by have:=HC2.out.lt;have:=BT.out;omega)).trans P2.out);have R4:=jac ((K4.out.1 bR BN.out.2.2 (by have:=HC2.out.lt;have:=BT.out.2.2;omega)).trans R2.out);clear p0 p1 p2 p3 pf0 pf1 pf2 pf3;go_roundg r.length
               case measure=>simp
               case rel=>exact ⟨y,r,⟨sd,ty,q,⟨lf,lg,lh,raw⟩⟩,⟨da,dn,dc⟩,⟨fa,fn,fc⟩,⟨ga,gn,gc⟩,⟨ha,hn,hc⟩,rfl,rfl,R4.out,T4.out,P4.out,K4.out.2.2.2,K4.out.2.1,K4.out.2.2.1,ES.out,jd1 (by have:=HI.out.1;have:=COST.out;omega) (by have:=HI.out.2.1;have:=COST.out;omega) (by have:=HI.out.2.2.1;have:=COST.out;omega) (by have:=HI.out.2.2.2.1;have:=COST.out;omega) (HI.out.2.2.2.2.1) (HI.out.2.2.2.2.2.1) (fun z hz=>HI.out.2.2.2.2.2.2 z (List.mem_cons_of_mem _ hz))⟩
              ·rw [hx] at TX;have E:Hid (jaB s=.error 3):=by show _=_;rw [E0.out,HF.out,jaJ (f:=jaQ) (c:=3) (by unfold jaQ;rw [if_neg H1.out];rw [if_neg H2.out];rw [if_neg H4.out];rw [if_neg H5.out];rw [if_neg H7.out];rw [if_pos H8.out];rw [hx];rfl)];rfl
               clear hx;refine TX.out.mono ?_;rintro e w3 ⟨hg3,rfl⟩;exact ⟨rfl,jad E.out (jaa HG2.out hg3)⟩
             ·have b8:(y.num==8)=false:=by simpa using h8
              have H8:=jac h8;clear h8
              by_cases h9:y.num=9
              ·have b9:(y.num==9)=true:=by simp [h9]
               have H9:=jac h9;clear h9;obtain ⟨⟨p0,p1,p2,p3⟩,-⟩:=jaZ P2.out;go_wp2_with fail;have TX:=jac (jaA B y w2 a1 a3);clear a0 a1 a2 a3 p0 p1 p2 p3
               rcases jaU y with ⟨q,hx⟩ | hx
               ·rw [hx] at TX;have ES:=jac (HF.out.trans (jay (f:=jaQ) (b:=⟨sd,ty,nam,⟨lf,lg,lh,q⟩⟩) (by unfold jaQ;rw [if_neg H1.out];rw [if_neg H2.out];rw [if_neg H4.out];rw [if_neg H5.out];rw [if_neg H7.out];rw [if_neg H8.out];rw [if_pos H9.out];rw [hx];rfl)));have HQ:Hid (q.size≤16777216):=by show q.size≤_;rw [← jnr hx];exact YB.out
                clear hx;refine TX.out.mono ?_;rintro e w3 ⟨hg3,v,rfl,rfl,rfl⟩;obtain ⟨⟨p0,p1,p2,p3⟩,pf0,pf1,pf2,pf3⟩:=jaZ P2.out;go_wp2_with fail;have K4:=jac (jdJ (j:=3) (.string q) HC2.out HG2.out F2.out BL.out.1 BL.out.2.1 BL.out.2.2.2);have P4:=jac ((jmU P2.out (.string q)).2.2.2);have T4:=jac ((K4.out.1 bT BN.out.1 (by have:=HC2.out.lt;have:=BT.out;omega)).trans T2.out);have R4:=jac ((K4.out.1 bR BN.out.2.1 (by have:=HC2.out.lt;have:=BT.out.2.2;omega)).trans R2.out);clear p0 p1 p2 p3 pf0 pf1 pf2 pf3;go_roundg r.length
                case measure=>simp
                case rel=>exact ⟨y,r,⟨sd,ty,nam,⟨lf,lg,lh,q⟩⟩,⟨da,dn,dc⟩,⟨fa,fn,fc⟩,⟨ga,gn,gc⟩,⟨ha,hn,hc⟩,rfl,rfl,R4.out,T4.out,P4.out,K4.out.2.2.2,K4.out.2.1,K4.out.2.2.1,ES.out,jd1 (by have:=HI.out.1;have:=COST.out;omega) (by have:=HI.out.2.1;have:=COST.out;omega) (by have:=HI.out.2.2.1;have:=COST.out;omega) (by have:=HI.out.2.2.2.1;have:=COST.out;omega) (HI.out.2.2.2.2.1) (HQ.out) (fun z hz=>HI.out.2.2.2.2.2.2 z (List.mem_cons_of_mem _ hz))⟩
               ·rw [hx] at TX;have E:Hid (jaB s=.error 3):=by show _=_;rw [E0.out,HF.out,jaJ (f:=jaQ) (c:=3) (by unfold jaQ;rw [if_neg H1.out];rw [if_neg H2.out];rw [if_neg H4.out];rw [if_neg H5.out];rw [if_neg H7.out];rw [if_neg H8.out];rw [if_pos H9.out];rw [hx];rfl)];rfl
                clear hx;refine TX.out.mono ?_;rintro e w3 ⟨hg3,rfl⟩;exact ⟨rfl,jad E.out (jaa HG2.out hg3)⟩
              ·have b9:(y.num==9)=false:=by simpa using h9
               have H9:=jac h9;clear h9;have ES:=jac (HF.out.trans (jay (f:=jaQ) (b:=⟨sd,ty,nam,⟨lf,lg,lh,raw⟩⟩) (by unfold jaQ;rw [if_neg H1.out];rw [if_neg H2.out];rw [if_neg H4.out];rw [if_neg H5.out];rw [if_neg H7.out];rw [if_neg H8.out];rw [if_neg H9.out])));clear a1 a2 a3;go_wp2_with fail;clear a0;go_roundg r.length
               case measure=>simp
               case rel=>exact ⟨y,r,⟨sd,ty,nam,⟨lf,lg,lh,raw⟩⟩,⟨da,dn,dc⟩,⟨fa,fn,fc⟩,⟨ga,gn,gc⟩,⟨ha,hn,hc⟩,rfl,rfl,R2.out,T2.out,P2.out,F2.out,HC2.out,HG2.out,ES.out,jd1 (by have:=HI.out.1;have:=COST.out;omega) (by have:=HI.out.2.1;have:=COST.out;omega) (by have:=HI.out.2.2.1;have:=COST.out;omega) (by have:=HI.out.2.2.2.1;have:=COST.out;omega) (HI.out.2.2.2.2.1) (HI.out.2.2.2.2.2.1) (fun z hz=>HI.out.2.2.2.2.2.2 z (List.mem_cons_of_mem _ hz))⟩
     ·rw [hc] at O;have E:Hid (jaB s=.error c):=by show _=_;unfold jaB;rw [hc];rfl
      clear hc;go_enter Tryz.func82,Tryz.ntmps82;go_wp2_with fail;rw [← hw0];refine (O.out w0).mono ?_;rintro e w1 ⟨hg1,rfl⟩;exact ⟨rfl,jad E.out (jaa g0 hg1)⟩
end Go.Proofs.YtbgbpfbjeleooaaGreat.Pd
namespace Go.Proofs.YtbgbpfbjeleooaaGreat.Pd
open Go.RowKit
open Wr (Fld)
def jcN (s:Int×List ByteArray) (x:Fld):R (Int×List ByteArray):=if x.num=1 then (jbP x).bind fun d=>.ok (d,s.2) else if x.num=2 then (jbZ x).bind fun t=>.ok (s.1,s.2++[t]) else .ok s
def jat (s:ByteArray):R (Int×List Int):=(jaX s).bind fun l=>(jaF jcN (0,[]) l).bind fun t=>(jal (t.2.length==0) 5).bind fun _=>(jbe (jbR t.2)).bind fun ds=>(jal (!chk t.1 0) 5).bind fun _=>(jfl (jcL ds)).bind fun _=>.ok (t.1,ds)
theorem je0 (s:ByteArray) (w:World) (hs:s.size≤9223372036854775807) :
    Calls Tryz.prog 139 #[.string s] w (jbU w (jat s) fun d v w'=>∃ u:Sl,v=.tuple #[.int .i64 d.1,u.v]∧jeR w' w.heap.size u.v d.2):=by
     obtain ⟨is0,hs0,hs1,hs2,hs3⟩:=info_parts jej;have O:=jac (jcI s w hs)
     rcases jbd s with ⟨l,hl⟩ | ⟨c,hc,-⟩
     ·rw [hl] at O;have FL:=jac hl;have E0:Hid (jat s=(jaF jcN (0,[]) l).bind fun t=>(jal (t.2.length==0) 5).bind fun _=>(jbe (jbR t.2)).bind fun ds=>(jal (!chk t.1 0) 5).bind fun _=>(jfl (jcL ds)).bind fun _=>.ok (t.1,ds)):=by show _=_;unfold jat;rw [hl];rfl
      clear hl;go_enter Tryz.func139,Tryz.ntmps139;go_wp2_with fail;refine O.out.mono ?_;rintro e w1 ⟨hg1,v,rfl,B,rfl,hcur⟩;go_wp2_with fail;have lo:=hg1.size;go_loopg [4,5] l.length (fun gh tv sv wr=>∃ (x:Fld) (r:List Fld) (st:Int×List ByteArray),gh=r.length∧tv=.int .i64 st.1∧jdo wr w.heap.size B x r∧w.grownBy wr none∧jaF jcN (0,[]) l=jaF jcN st r∧jew wr (B+1) sv st.2∧st.2.length+r.length≤16777216∧tot st.2+tot (r.map (·.b))≤16777216∧(-9223372036854775808≤st.1∧st.1≤9223372036854775807))
      case atStart=>exact ⟨_,l,(0,[]),rfl,rfl,hcur,hg1,rfl,OwnsL.nil ..,by have:=jbq FL.out;simpa using this,by have:=jcD FL.out;simpa [tot] using this,by decide⟩
      case round =>
       obtain ⟨x,r,⟨typ,ss⟩,rfl,rfl,hc,hg,hf,hi0,hi1,hi2,hi3⟩:=hrel;have HF:=jac hf;have HC:=jac hc;have HG:=jac hg;have HB:Hid (w.heap.size≤B):=by obtain ⟨_,_,_,_,h⟩:=hc;exact h
       have I0:=jac hi0;have I1:=jac hi1;have I2:=jac hi2;have I3:=jac hi3;clear hf hc hg hcur hg1 hi0 hi1 hi2 hi3;simp only at I0 I1 I2 I3;obtain ⟨va,vc,rfl⟩:=OwnsL.form I0.out
       cases r with
       | nil =>
        have NX:=jac (jbX _ B x wr HC.out);have E1:Hid (jat s=(jal (ss.length==0) 5).bind fun _=>(jbe (jbR ss)).bind fun ds=>(jal (!chk typ 0) 5).bind fun _=>(jfl (jcL ds)).bind fun _=>.ok (typ,ds)):=by show _=_;rw [E0.out,HF.out];rfl
        by_cases h0:ss.length=0
        ·have b0:((ss.length:Int)==0)=true:=by simp [h0]
         have E2:Hid (jat s=.error 5):=by show _=_;rw [E1.out];simp [h0,jal];rfl
         clear h0;go_wp2_with (first | (go_at_call 51;refine NX.out.mono ?_;rintro e w' ⟨rfl,rfl⟩) | (go_at_call 53;refine (jaD _ _).mono ?_;rintro e w' ⟨rfl,rfl⟩));exact ⟨rfl,jad E2.out HG.out⟩
        ·have b0:((ss.length:Int)==0)=false:=beq_eq_false_iff_ne.2 (by omega);have E2:Hid (jat s=(jbe (jbR ss)).bind fun x=>(jal (!chk typ 0) 5).bind fun _=>(jfl (jcL x)).bind fun _=>.ok (typ,x)):=by show _=_;rw [E1.out];simp [h0,jal];rfl
         have TL:Hid (ss.length≤16777216∧tot ss≤16777216):=by
          have h1:=I1.out;have h2:=I2.out;exact ⟨by simpa using h1,by simp [tot] at h2 ⊢;omega⟩
         have JN:=jac (jeX (B+1) _ ss wr I0.out TL.out.1 TL.out.2);clear h0;go_wp2_with (first | (go_at_call 51;refine NX.out.mono ?_;rintro e w' ⟨rfl,rfl⟩) | (go_at_call 53;refine (jaM _ _).mono ?_;rintro e w' ⟨rfl,rfl⟩) | (go_at_call 55;refine JN.out.mono ?_;rintro e w3 ⟨rfl,hg3⟩) | fail);have SB:=jac (jhg (jbR ss) w3 (by rw [jds];have:=TL.out.2;omega));have G3:=jac (jaa HG.out hg3);obtain ⟨jx,hjx⟩ : ∃ jx,jx=jbR ss:=⟨_,rfl⟩
         rw [← hjx] at SB E2 ⊢;clear hjx
         cases hd:jbe jx with
         | error c =>
          have E3:Hid (jat s=.error c):=by show _=_;rw [E2.out,hd];rfl
          rw [hd] at SB;clear hd;refine SB.out.mono ?_;rintro e w4 ⟨hg4,rfl⟩;exact ⟨rfl,jad E3.out (jaa G3.out hg4)⟩
         | ok res =>
          rw [hd] at SB E2;clear hd;refine SB.out.mono ?_;rintro e w4 ⟨hg4,v,rfl,⟨qa,qn,qc⟩,rfl,hq,hql⟩;simp only [Sl.v];have E3:Hid (jat s=(jal (!chk typ 0) 5).bind fun _=>(jfl (jcL res)).bind fun _=>.ok (typ,res)):=E2.out;have HQ:=jac hq;obtain ⟨_,_,ez,-⟩:=hq.ints;simp only [Value.slice.injEq] at ez;obtain ⟨-,rfl,-⟩:=ez;have G4:=jac (jaa G3.out hg4);have SZ:=jac (Nat.le_trans HG.out.size hg3.size);have CT:=jac (jf3 _ res w4 hq.ints);have IT:=jac (jfk typ w4);clear hq hg4 hg3 SB
          cases hk:chk typ 0 with
          | false =>
           have E4:Hid (jat s=.error 5):=by show _=_;rw [E3.out,hk];rfl
           rw [hk] at IT;clear hk;go_wp2_with (first | (go_at_call 43;refine IT.out.mono ?_;rintro e w' ⟨rfl,rfl⟩) | (go_at_call 53;refine (jaD _ _).mono ?_;rintro e w' ⟨rfl,rfl⟩));exact ⟨rfl,jad E4.out G4.out⟩
          | true =>
           have E4:Hid (jat s=(jfl (jcL res)).bind fun _=>.ok (typ,res)):=by show _=_;rw [E3.out,hk];rfl
           rw [hk] at IT;clear hk
           by_cases hx:jcL res=0
           ·have E5:Hid (jat s=.ok (typ,res)):=by show _=_;rw [E4.out,hx];rfl
            rw [hx] at CT;clear hx;go_wp2_with (first | (go_at_call 43;refine IT.out.mono ?_;rintro e w' ⟨rfl,rfl⟩) | (go_at_call 53;refine (jaM _ _).mono ?_;rintro e w' ⟨rfl,rfl⟩) | (go_at_call 44;refine CT.out.mono ?_;rintro e w' ⟨rfl,rfl⟩) | (go_at_call 79;refine (jgd _).mono ?_;rintro e w' ⟨rfl,rfl⟩));go_ret2;exact jaI E5.out G4.out ⟨⟨qa,res.length,qc⟩,rfl,HQ.out.base_le SZ.out⟩
           ·have E5:Hid (jat s=.error (jcL res)):=by show _=_;rw [E4.out];unfold jfl;rw [if_neg hx];rfl
            have HX:=jac hx;clear hx;go_wp2_with (first | (go_at_call 43;refine IT.out.mono ?_;rintro e w' ⟨rfl,rfl⟩) | (go_at_call 53;refine (jaM _ _).mono ?_;rintro e w' ⟨rfl,rfl⟩) | (go_at_call 44;refine CT.out.mono ?_;rintro e w' ⟨rfl,rfl⟩) | (go_at_call 79;refine (jei _ HX.out _).mono ?_;rintro e w' ⟨rfl,rfl⟩));exact ⟨rfl,jad E5.out G4.out⟩
       | cons y r =>
        have NX:=jac (jbY _ B x y r wr HC.out);go_wp2_with fail;refine NX.out.mono ?_;rintro e w2 ⟨rfl,hc2,hg2⟩;have HC2:=jac hc2;have HG2:=jac (jah HG.out hg2 (fun g e=>by cases e;exact HB.out));obtain ⟨a0,a1,a2,a3⟩:=hc2.cells;have HGB:=jac hg2;clear hc2 hg2 NX HC HG
        by_cases h1:y.num=1
        ·have b1:(y.num==1)=true:=by simp [h1]
         have H1:=jac h1;clear h1;go_wp2_with fail;have TX:=jac (jcW B y w2 a1 a2);clear a0 a1 a2 a3
         rcases jcq y with ⟨q,hx,hq⟩ | hx
         ·rw [hx] at TX;have ES:=jac (HF.out.trans (jay (f:=jcN) (b:=(q,ss)) (by unfold jcN;rw [if_pos H1.out];rw [hx];rfl)));clear hx;refine TX.out.mono ?_;rintro e w3 ⟨-,v,rfl,rfl,rfl⟩;have OW2:=jac (I0.out.kept (row:=some B) HGB.out (fun g e=>by cases e;omega));go_wp2_with (go_at_call 109;refine (jdW _ _ hq).mono ?_;rintro e w' ⟨rfl,rfl⟩);go_roundg r.length
          case measure=>simp
          case rel=>exact ⟨y,r,(q,ss),rfl,rfl,HC2.out,HG2.out,ES.out,OW2.out,by have:=I1.out;simp at this ⊢;omega,by have t1:=I2.out;simp only [List.map_cons,jbk] at t1;show tot ss+_≤_;omega,hq⟩
         ·rw [hx] at TX;have E:Hid (jat s=.error 3):=by show _=_;rw [E0.out,HF.out,jaJ (f:=jcN) (c:=3) (by unfold jcN;rw [if_pos H1.out];rw [hx];rfl)];rfl
          clear hx;refine TX.out.mono ?_;rintro e w3 ⟨hg3,rfl⟩;exact ⟨rfl,jad E.out (jaa HG2.out hg3)⟩
        ·have b1:(y.num==1)=false:=by simpa using h1
         have H1:=jac h1;clear h1
         by_cases h2:y.num=2
         ·have b2:(y.num==2)=true:=by simp [h2]
          have H2:=jac h2;clear h2;go_wp2_with fail;have TX:=jac (jaA B y w2 a1 a3);clear a0 a1 a2 a3
          rcases jaU y with ⟨sx,hx⟩ | hx
          ·rw [hx] at TX;have TB:=jac (jdY hx (Nat.le_refl _));have ES:=jac (HF.out.trans (jay (f:=jcN) (b:=(typ,ss++[sx])) (by unfold jcN;rw [if_neg H1.out];rw [if_pos H2.out];rw [hx];rfl)));clear hx;refine TX.out.mono ?_;rintro e w3 ⟨-,v,rfl,rfl,rfl⟩;have OW:Hid (∀ o,jew (w2.alloc o) (B+1) (.slice va ss.length vc) ss):=fun o=>(I0.out.kept HGB.out (fun g e=>by cases e;omega)).more (jab _ _);have sz:B+1≤w2.heap.size:=HC2.out.lt;have hle:ss.length+1≤16777216:=by have:=I1.out;simp at this;omega
           go_wp2_with (at_builtin;refine Wr.wpList_push rfl (.tmp 26) (.tmp 29) 32 9 1 16 (.string ⟨#[]⟩) is0 jbg rfl Tryz.underlying32 hs0 hs1 hs2 hs3 rfl (by decide) (B+1) _ _ rfl (by exact OW.out _) w2.heap.size 1 sx #[.string sx] rfl (by exact heap_alloc_new w2 _) rfl rfl (jb7 sx) (by omega) (by simp only [maxLen];omega) (by simp;omega) ?_;intro v' w8 hown' hgrow)
           have ST:Hid (w.grownBy w8 none∧jew w8 (B+1) v' (ss++[sx])∧jdo w8 w.heap.size B y r):=by
            have og:=World.ownsRow.lt (OW.out (.cells #[.string sx] 9));exact ⟨jah (jaa HG2.out (jab w2 (.cells #[.string sx] 9))) hgrow (fun g e=>by have:=og g e;have:=HB.out;omega),hown',(HC2.out.more (jab w2 _)).kept hgrow (fun g e=>by have:=og g e;omega)⟩
           clear hown' hgrow OW;go_roundg r.length
           case measure=>simp
           case rel=>exact ⟨y,r,(typ,ss++[sx]),rfl,rfl,ST.out.2.2,ST.out.1,ES.out,ST.out.2.1,by have:=I1.out;simp at this ⊢;omega,by have t1:=I2.out;have t2:=TB.out;simp only [List.map_cons,jbk] at t1;show tot (ss++[sx])+_≤_;rw [jge,jfs];omega,I3.out⟩
          ·rw [hx] at TX;have E:Hid (jat s=.error 3):=by show _=_;rw [E0.out,HF.out,jaJ (f:=jcN) (c:=3) (by unfold jcN;rw [if_neg H1.out];rw [if_pos H2.out];rw [hx];rfl)];rfl
           clear hx;refine TX.out.mono ?_;rintro e w3 ⟨hg3,rfl⟩;exact ⟨rfl,jad E.out (jaa HG2.out hg3)⟩
         ·have b2:(y.num==2)=false:=by simpa using h2
          have H2:=jac h2;clear h2;have ES:=jac (HF.out.trans (jay (f:=jcN) (b:=(typ,ss)) (by unfold jcN;rw [if_neg H1.out];rw [if_neg H2.out])));clear a1 a2 a3;have OW2:=jac (I0.out.kept (row:=some B) HGB.out (fun g e=>by cases e;omega));go_wp2_with fail;clear a0;go_roundg r.length
          case measure=>simp
          case rel=>exact ⟨y,r,(typ,ss),rfl,rfl,HC2.out,HG2.out,ES.out,OW2.out,by have:=I1.out;simp at this ⊢;omega,by have t1:=I2.out;simp only [List.map_cons,jbk] at t1;show tot ss+_≤_;omega,I3.out⟩
     ·rw [hc] at O;have E:Hid (jat s=.error c):=by show _=_;unfold jat;rw [hc];rfl
      clear hc;go_enter Tryz.func139,Tryz.ntmps139;go_wp2_with fail;refine O.out.mono ?_;rintro e w1 ⟨hg1,rfl⟩;exact ⟨rfl,jad E.out hg1⟩
def jey (s:List ByteArray) (x:Fld):R (List ByteArray):=if x.num=1 then (jbZ x).bind fun t=>.ok (s++[t]) else .ok s
def jbh (s:ByteArray):R (Int×List Int):=(jaX s).bind fun l=>(jaF jey [] l).bind fun t=>(jal (t.length==0) 5).bind fun _=>(jat (jbR t)).bind fun x=>.ok x
theorem jh1 (s:ByteArray) (w:World) (hs:s.size≤9223372036854775807) :
    Calls Tryz.prog 114 #[.string s] w (jbU w (jbh s) fun d v w'=>∃ u:Sl,v=.tuple #[.int .i64 d.1,u.v]∧jeR w' w.heap.size u.v d.2):=by
     obtain ⟨is0,hs0,hs1,hs2,hs3⟩:=info_parts jej;have O:=jac (jcI s w hs)
     rcases jbd s with ⟨l,hl⟩ | ⟨c,hc,-⟩
     ·rw [hl] at O;have FL:=jac hl;have E0:Hid (jbh s=(jaF jey [] l).bind fun t=>(jal (t.length==0) 5).bind fun _=>(jat (jbR t)).bind fun x=>.ok x):=by show _=_;unfold jbh;rw [hl];rfl
      clear hl;go_enter Tryz.func114,Tryz.ntmps114;go_wp2_with fail;refine O.out.mono ?_;rintro e w1 ⟨hg1,v,rfl,B,rfl,hcur⟩;go_wp2_with fail;have lo:=hg1.size;go_loopg [4] l.length (fun gh sv wr=>∃ (x:Fld) (r:List Fld) (st:List ByteArray),gh=r.length∧jdo wr w.heap.size B x r∧w.grownBy wr none∧jaF jey [] l=jaF jey st r∧jew wr (B+1) sv st∧st.length+r.length≤16777216∧tot st+tot (r.map (·.b))≤16777216)
      case atStart=>exact ⟨_,l,[],rfl,hcur,hg1,rfl,OwnsL.nil ..,by have:=jbq FL.out;simpa using this,by have:=jcD FL.out;simpa [tot] using this⟩
      case round =>
       obtain ⟨x,r,ss,rfl,hc,hg,hf,hi0,hi1,hi2⟩:=hrel;have HF:=jac hf;have HC:=jac hc;have HG:=jac hg;have HB:Hid (w.heap.size≤B):=by obtain ⟨_,_,_,_,h⟩:=hc;exact h
       have I0:=jac hi0;have I1:=jac hi1;have I2:=jac hi2;clear hf hc hg hcur hg1 hi0 hi1 hi2;obtain ⟨va,vc,rfl⟩:=OwnsL.form I0.out
       cases r with
       | nil =>
        have NX:=jac (jbX _ B x wr HC.out);have E1:Hid (jbh s=(jal (ss.length==0) 5).bind fun _=>(jat (jbR ss)).bind fun x=>.ok x):=by show _=_;rw [E0.out,HF.out];rfl
        by_cases h0:ss.length=0
        ·have b0:((ss.length:Int)==0)=true:=by simp [h0]
         have E2:Hid (jbh s=.error 5):=by show _=_;rw [E1.out];simp [h0,jal];rfl
         clear h0;go_wp2_with (first | (go_at_call 51;refine NX.out.mono ?_;rintro e w' ⟨rfl,rfl⟩) | (go_at_call 53;refine (jaD _ _).mono ?_;rintro e w' ⟨rfl,rfl⟩));exact ⟨rfl,jad E2.out HG.out⟩
        ·have b0:((ss.length:Int)==0)=false:=beq_eq_false_iff_ne.2 (by omega);have E2:Hid (jbh s=(jat (jbR ss)).bind fun x=>.ok x):=by show _=_;rw [E1.out];simp [h0,jal];rfl
         have TL:Hid (ss.length≤16777216∧tot ss≤16777216):=by
          have h1:=I1.out;have h2:=I2.out;exact ⟨by simpa using h1,by simp [tot] at h2 ⊢;omega⟩
         have JN:=jac (jeX (B+1) _ ss wr I0.out TL.out.1 TL.out.2);clear h0;go_wp2_with (first | (go_at_call 51;refine NX.out.mono ?_;rintro e w' ⟨rfl,rfl⟩) | (go_at_call 53;refine (jaM _ _).mono ?_;rintro e w' ⟨rfl,rfl⟩) | (go_at_call 55;refine JN.out.mono ?_;rintro e w3 ⟨rfl,hg3⟩) | fail);have SB:=jac (je0 (jbR ss) w3 (by rw [jds];have:=TL.out.2;omega));have G3:=jac (jaa HG.out hg3);obtain ⟨jx,hjx⟩ : ∃ jx,jx=jbR ss:=⟨_,rfl⟩
         rw [← hjx] at SB E2 ⊢;clear hjx
         cases hd:jat jx with
         | error c =>
          have E3:Hid (jbh s=.error c):=by show _=_;rw [E2.out,hd];rfl
          rw [hd] at SB;clear hd;refine SB.out.mono ?_;rintro e w4 ⟨hg4,rfl⟩;exact ⟨rfl,jad E3.out (jaa G3.out hg4)⟩
         | ok res =>
          rw [hd] at SB E2;clear hd;refine SB.out.mono ?_;rintro e w4 ⟨hg4,v,rfl,⟨qa,qn,qc⟩,rfl,hq⟩;have HQ:=jac hq;have G4:=jac (jaa G3.out hg4);have SZ:=jac (Nat.le_trans HG.out.size hg3.size);clear hq hg4 hg3 SB;go_wp2;go_ret2;exact jaI E2.out G4.out ⟨⟨qa,qn,qc⟩,rfl,HQ.out.base_le SZ.out⟩
       | cons y r =>
        have NX:=jac (jbY _ B x y r wr HC.out);go_wp2_with fail;refine NX.out.mono ?_;rintro e w2 ⟨rfl,hc2,hg2⟩;have HC2:=jac hc2;have HG2:=jac (jah HG.out hg2 (fun g e=>by cases e;exact HB.out));obtain ⟨a0,a1,a2,a3⟩:=hc2.cells;have HGB:=jac hg2;clear hc2 hg2 NX HC HG
        by_cases h1:y.num=1
        ·have b1:(y.num==1)=true:=by simp [h1]
         have H1:=jac h1;clear h1;go_wp2_with fail;have TX:=jac (jaA B y w2 a1 a3);clear a0 a1 a2 a3
         rcases jaU y with ⟨sx,hx⟩ | hx
         ·rw [hx] at TX;have TB:=jac (jdY hx (Nat.le_refl _));have ES:=jac (HF.out.trans (jay (f:=jey) (b:=ss++[sx]) (by unfold jey;rw [if_pos H1.out];rw [hx];rfl)));clear hx;refine TX.out.mono ?_;rintro e w3 ⟨-,v,rfl,rfl,rfl⟩;have OW:Hid (∀ o,jew (w2.alloc o) (B+1) (.slice va ss.length vc) ss):=fun o=>(I0.out.kept HGB.out (fun g e=>by cases e;omega)).more (jab _ _);have sz:B+1≤w2.heap.size:=HC2.out.lt;have hle:ss.length+1≤16777216:=by have:=I1.out;simp at this;omega
          go_wp2_with (at_builtin;refine Wr.wpList_push rfl (.tmp 16) (.tmp 19) 32 9 1 16 (.string ⟨#[]⟩) is0 jbg rfl Tryz.underlying32 hs0 hs1 hs2 hs3 rfl (by decide) (B+1) _ _ rfl (by exact OW.out _) w2.heap.size 1 sx #[.string sx] rfl (by exact heap_alloc_new w2 _) rfl rfl (jb7 sx) (by omega) (by simp only [maxLen];omega) (by simp;omega) ?_;intro v' w8 hown' hgrow)
          have ST:Hid (w.grownBy w8 none∧jew w8 (B+1) v' (ss++[sx])∧jdo w8 w.heap.size B y r):=by
           have og:=World.ownsRow.lt (OW.out (.cells #[.string sx] 9));exact ⟨jah (jaa HG2.out (jab w2 (.cells #[.string sx] 9))) hgrow (fun g e=>by have:=og g e;have:=HB.out;omega),hown',(HC2.out.more (jab w2 _)).kept hgrow (fun g e=>by have:=og g e;omega)⟩
          clear hown' hgrow OW;go_roundg r.length
          case measure=>simp
          case rel=>exact ⟨y,r,ss++[sx],rfl,ST.out.2.2,ST.out.1,ES.out,ST.out.2.1,by have:=I1.out;simp at this ⊢;omega,by have t1:=I2.out;have t2:=TB.out;simp only [List.map_cons,jbk] at t1;show tot (ss++[sx])+_≤_;rw [jge,jfs];omega⟩
         ·rw [hx] at TX;have E:Hid (jbh s=.error 3):=by show _=_;rw [E0.out,HF.out,jaJ (f:=jey) (c:=3) (by unfold jey;rw [if_pos H1.out];rw [hx];rfl)];rfl
          clear hx;refine TX.out.mono ?_;rintro e w3 ⟨hg3,rfl⟩;exact ⟨rfl,jad E.out (jaa HG2.out hg3)⟩
        ·have b1:(y.num==1)=false:=by simpa using h1
         have H1:=jac h1;clear h1;have ES:=jac (HF.out.trans (jay (f:=jey) (b:=ss) (by unfold jey;rw [if_neg H1.out])));clear a1 a2 a3;have OW2:=jac (I0.out.kept (row:=some B) HGB.out (fun g e=>by cases e;omega));go_wp2_with fail;clear a0;go_roundg r.length
         case measure=>simp
         case rel=>exact ⟨y,r,ss,rfl,HC2.out,HG2.out,ES.out,OW2.out,by have:=I1.out;simp at this ⊢;omega,by have t1:=I2.out;simp only [List.map_cons,jbk] at t1;show tot ss+_≤_;omega⟩
     ·rw [hc] at O;have E:Hid (jbh s=.error c):=by show _=_;unfold jbh;rw [hc];rfl
      clear hc;go_enter Tryz.func114,Tryz.ntmps114;go_wp2_with fail;refine O.out.mono ?_;rintro e w1 ⟨hg1,rfl⟩;exact ⟨rfl,jad E.out hg1⟩
end Go.Proofs.YtbgbpfbjeleooaaGreat.Pd
