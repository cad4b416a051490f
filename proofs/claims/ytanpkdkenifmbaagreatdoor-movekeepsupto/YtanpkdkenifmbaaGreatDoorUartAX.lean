/- A part. -/
import Derived.Test.YtanpkdkenifmbaaGreatDoorUartAW
import Derived.Defers
import Derived.Recover
import Derived.Test.YtanpkdkenifmbaaGreatDoorUartAI
import Derived.Deep.AppendLies
import Derived.Test.YtanpkdkenifmbaaGreatDoorUartAB
set_option maxHeartbeats 4000000
set_option maxRecDepth 100000
namespace Go.Proofs.YtanpkdkenifmbaaGreatDoor
open Go.RowKit
def ValQ (out:ByteArray) (base:Nat) (r:Int×List Int) (v:Value) (w':World):Prop:=∃ s:Sl,v=.agg #[.string out,.int .i64 r.1,.slice s.a s.n s.c]∧Owns w' base s.v r.2
theorem jpo (n : Nod) (u : Sl) (r : R (Int × List Int)) (w : World) (pn pi : Nat) (hn : w.heap[pn]? = some (.cells #[.string n.op, .string n.name, .slice n.iv.a n.iv.n n.iv.c, .string n.out, .slice n.av.a n.av.n n.av.c] 25 (0, 0))) (hi : w.heap[pi]? = some (.cells #[.slice u.a u.n u.c] 59 (0, 0)))
    (VO:∀ wx,w.grownBy wx none→Calls Tryz.prog 53 #[jaA n,.slice u.a u.n u.c] wx (jaH wx r (ValQ n.out wx.heap.size))) :
    Calls Tryz.prog 52 #[.pointer (some ⟨pn,0,none⟩),.pointer (some ⟨pi,0,none⟩)] w (jaH w r (ValQ n.out w.heap.size)):=by
     have HVO:=jac VO;obtain ⟨op,nam,⟨ia,il,ic⟩,out,⟨ao,al,cap⟩⟩:=n;obtain ⟨ua,un,uc⟩:=u;unfold jaA at HVO;simp only at HVO hn hi ⊢;clear VO;have V0:(.cells #[.string ⟨#[]⟩,.int .i64 0,.slice none 0 0] 43:Obj)=.cells #[.string ⟨#[]⟩,.int .i64 0,.slice none 0 0] 43:=rfl;obtain ⟨w0,hw0⟩ : ∃ w0,w0=w.alloc (.cells #[.string ⟨#[]⟩,.int .i64 0,.slice none 0 0] 43):=⟨_,rfl⟩
     have g0:Hid (w.grownBy w0 none):=by show w.grownBy w0 none;rw [hw0];exact jab _ _
     have hb0:=heap_alloc_new w (.cells #[.string ⟨#[]⟩,.int .i64 0,.slice none 0 0] 43);rw [← hw0] at hb0;have BX:Hid (∀ wx,w0.grownBy wx none→wx.heap[w.heap.size]?=some (.cells #[.string ⟨#[]⟩,.int .i64 0,.slice none 0 0] 43 (0,0))):=fun wx hg=>jag hb0 hg;have hn1:=jag hn g0.out;have hi1:=jag hi g0.out;rw [hw0] at hn1 hi1;obtain ⟨n0,n1,n2,n3,n4⟩:=jai (n:=⟨op,nam,⟨ia,il,ic⟩,out,⟨ao,al,cap⟩⟩) hn1;have i0:=jdx hi1;simp only at n0 n1 n2 n3 n4;clear hb0 hn hi hn1 hi1 V0;go_enter Tryz.func52,Tryz.ntmps52;go_wp2_with fail;rw [← hw0];clear hw0 n0 n1 n2 n3 n4 i0;have V1:=jac (HVO.out w0 g0.out)
     cases r with
     | error c =>
      refine V1.out.mono ?_;rintro e w1 ⟨hg,rfl⟩;exact ⟨rfl,jah rfl (jaa g0.out hg)⟩
     | ok rr =>
      refine V1.out.mono ?_;rintro e w1 ⟨hg,v,rfl,⟨s1,s2,s3⟩,rfl,ho⟩;simp only;have B1:=BX.out w1 hg;obtain ⟨f0,f1,f2⟩:=ja3 B1;have c0:=(cell_of_row _ _ 0 _ _ (0,0) B1).trans rfl;have c1:=(cell_of_row _ _ 1 _ _ (0,0) B1).trans rfl;have c2:=(cell_of_row _ _ 2 _ _ (0,0) B1).trans rfl;obtain ⟨hX,gX⟩:=jbu (.string out) (.int .i64 rr.1) (.slice s1 s2 s3) B1;have gf:=jac (jay (jaa g0.out hg) gX (Nat.le_refl _));have HX:=jac hX;have hb:w.heap.size+1≤w0.heap.size:=(Array.getElem?_eq_some_iff.1 (BX.out w0 (jae _))).1
      have HO:=jac (((ho.base_le (b':=w.heap.size+1) hb).more gX (by
       rcases ho.1.2 with ⟨e,-⟩ | ⟨gg,cap',cur,e,hgg,-⟩
       ·exact .inl (by rw [e];rfl)
       ·exact .inr (by rw [e];simp [Value.ownBlock];omega))).base_le (b':=w.heap.size) (by omega))
      clear hX gX ho;go_wp2;refine bodyPost_ret (ji0 rfl _ _ w.heap.size rfl HX.out) rfl ?_;exact jap rfl gf.out ⟨⟨s1,s2,s3⟩,rfl,HO.out⟩
def joj (out:ByteArray) (w:World) (r:R (Int×List Int)) (e:Ending) (w':World):Prop:=w.grownBy w' none∧match r with
 | .ok rr=>∃ s:Sl,e=.returned (.tuple #[.agg #[.string out,.int .i64 rr.1,.slice s.a s.n s.c],.int .i64 0])∧Owns w' w.heap.size s.v rr.2
 | .error c=>e=.returned (.tuple #[.agg #[.string ⟨#[]⟩,.int .i64 0,.slice none 0 0],.int .i64 c])
theorem jhS (c:Int) (w:World):(Instr.typeAssert (.iface 33 (.int .i64 c)) 20 33 false).run Tryz.prog w=.ok (.int .i64 c) w:=by kernel_rfl
theorem jkU (p:Addr) (w:World) :
    CallsD Tryz.prog 64 #[.pointer (some p)] .returning w fun e u' w'=>e=.returned (.tuple #[])∧u'=.returning∧w'=w:=by
     refine callsD_of_wpS Tryz.func64 rfl fun c₀ cs hu=>?_;apply wpS_seq;apply wpS_region;simp [wpOpsS,go_sem,recoverD,hu,Tryz.ntmps64,Exit.thenS];apply wpS_seq;apply wpS_region;simp [wpOpsS,go_sem,Exit.thenS];refine wpS_cond (t:=false) (by simp [Act.eval,Array.replicate]) ?_;simp only [Bool.false_eq_true,if_false];refine wpS_of_wp (wp_skip ?_)
     cases c₀
     simp_all [bodyPostS,results,Tryz.results64]
theorem jfr (p:Addr) (x c:Int) (older:List PanicEntry) (w:World) (hc:w.cell? p=some (.int .i64 x)) (hz:w.frozen? p=false) :
    CallsD Tryz.prog 64 #[.pointer (some p)] (.panicking ({ v:=.iface 33 (.int .i64 c),recovered:=false }::older)) w fun e u' w'=>e=.returned (.tuple #[])∧u'=.panicking ({ v:=.iface 33 (.int .i64 c),recovered:=true }::older)∧w'=w.setCell p (.int .i64 c):=by
     refine callsD_of_wpS Tryz.func64 rfl fun c₀ cs hu=>?_;apply wpS_seq;apply wpS_region;simp [wpOpsS,go_sem,recoverD,hu,Tryz.ntmps64,Exit.thenS];apply wpS_seq;apply wpS_region;simp [wpOpsS,go_sem,Exit.thenS];refine wpS_cond (t:=true) (by simp [Act.eval,Array.replicate]) ?_;simp only [if_true];apply wpS_region;have ha:=jhS c w;simp [wpOpsS,go_sem,hc,hz,ha,bodyPostS,results,Tryz.results64]
theorem ji2 (out:ByteArray) (r:R (Int×List Int)) (w:World) (pn pi:Nat) (HC:∀ wx,w.grownBy wx none→Calls Tryz.prog 52 #[.pointer (some ⟨pn,0,none⟩),.pointer (some ⟨pi,0,none⟩)] wx (jaH wx r (ValQ out wx.heap.size))) :
    Calls Tryz.prog 51 #[.func (.func 52) #[] #[.pointer (some ⟨pn,0,none⟩),.pointer (some ⟨pi,0,none⟩)]] w (joj out w r):=by
     have hmf:∀ (fn:Fn) (first cap:Array Value) (w:World),(Instr.makeFunc fn first cap).run Tryz.prog w=.ok (.func fn first cap) w:=fun _ _ _ _=>rfl;have H:=jac HC;clear HC
     go_enter_defers Tryz.func51,Tryz.ntmps51
     obtain ⟨w0,hw0⟩ : ∃ w0,w0=(w.alloc (.cells #[.string ⟨#[]⟩,.int .i64 0,.slice none 0 0] 43)).alloc (.cells #[.int .i64 0] 33):=⟨_,rfl⟩
     have g0:Hid (w.grownBy w0 none):=by show w.grownBy w0 none;rw [hw0];exact jaa (jab _ _) (jab _ _)
     have hbx:=jaJ w (.cells #[.string ⟨#[]⟩,.int .i64 0,.slice none 0 0] 43) (.cells #[.int .i64 0] 33);rw [← hw0] at hbx;have BX:Hid (∀ wx,w0.grownBy wx none→wx.heap[w.heap.size]?=some (.cells #[.string ⟨#[]⟩,.int .i64 0,.slice none 0 0] 43 (0,0))∧wx.heap[w.heap.size+1]?=some (.cells #[.int .i64 0] 33 (0,0))):=fun wx hg=>⟨jag hbx.1 hg,jag hbx.2 hg⟩
     clear hbx;go_wp2_with fail;rw [← hw0];clear hw0;have H1:=jac (H.out w0 g0.out);clear H
     cases r with
     | error c =>
      refine H1.out.mono ?_;rintro e w1 ⟨hg,rfl⟩;obtain ⟨B1,B2⟩:=BX.out w1 hg;refine leaves_cons (f:=64) (args:=#[.pointer (some ⟨w.heap.size+1,0,none⟩)]) (by simp) (by simp [go_sem]) ?_;refine (jfr ⟨w.heap.size+1,0,none⟩ 0 c [] w1 (jdx B2) (frozen_of_row w1 _ 0 _ _ B2)).mono ?_;rintro e u' w'' ⟨rfl,rfl,rfl⟩;have h2:=heap_setCell_same w1 (w.heap.size+1) 0 _ _ (.int .i64 c) B2
      have h1:(w1.setCell ⟨w.heap.size+1,0,none⟩ (.int .i64 c)).heap[w.heap.size]?=some (.cells #[.string ⟨#[]⟩,.int .i64 0,.slice none 0 0] 43 (0,0)):=by
       rw [← B1];exact Below.heap_setCell _ _ _ _ (by simp)
      have k0:=(cell_of_row _ _ 0 _ _ (0,0) h1).trans rfl;have k1:=(cell_of_row _ _ 1 _ _ (0,0) h1).trans rfl;have k2:=(cell_of_row _ _ 2 _ _ (0,0) h1).trans rfl;have k3:=(cell_of_row _ _ 0 _ _ (0,0) h2).trans rfl;have gf:w.grownBy (w1.setCell ⟨w.heap.size+1,0,none⟩ (.int .i64 c)) none:=jay (B:=w.heap.size+1) (jaa g0.out hg) ⟨rfl,rfl,rfl,by simp [World.setCell],fun k _ hk=>Below.heap_setCell _ _ _ _ (fun e=>hk (by rw [e]))⟩ (by omega);obtain ⟨wf,hwf⟩ : ∃ wf,wf=w1.setCell ⟨w.heap.size+1,0,none⟩ (.int .i64 c):=⟨_,rfl⟩
      rw [← hwf] at k0 k1 k2 k3 gf ⊢;clear hwf h1 h2 B1 B2;simp [Leaves,settle,results,Tryz.results51,go_sem,k0,k1,k2,k3];exact ⟨gf,rfl⟩
     | ok rr =>
      refine H1.out.mono ?_;rintro e w1 ⟨hg,v,rfl,⟨s1,s2,s3⟩,rfl,ho⟩;simp only;obtain ⟨B1,B2⟩:=BX.out w1 hg;obtain ⟨f0,f1,f2⟩:=ja3 B1;have c0:=(cell_of_row _ _ 0 _ _ (0,0) B1).trans rfl;have c1:=(cell_of_row _ _ 1 _ _ (0,0) B1).trans rfl;have c2:=(cell_of_row _ _ 2 _ _ (0,0) B1).trans rfl;have e0:=jdx B2;have e1:=frozen_of_row w1 (w.heap.size+1) 0 _ _ B2;obtain ⟨hX,gX⟩:=jbu (.string out) (.int .i64 rr.1) (.slice s1 s2 s3) B1;have B3:=(gX.block (w.heap.size+1) (Array.getElem?_eq_some_iff.1 B2).1 (by simp)).trans B2;have e0x:=jdx B3;have e1x:=frozen_of_row _ (w.heap.size+1) 0 _ _ B3;have h2:=heap_setCell_same _ (w.heap.size+1) 0 _ _ (.int .i64 0) B3;have gs:∀ x:World,x.grownBy (x.setCell ⟨w.heap.size+1,0,none⟩ (.int .i64 0)) (some (w.heap.size+1)):=fun x=>⟨rfl,rfl,rfl,by simp [World.setCell],fun k _ hk=>Below.heap_setCell _ _ _ _ (fun e=>hk (by rw [e]))⟩
      have gy:=gs (((w1.setCell ⟨w.heap.size,0,none⟩ (.string out)).setCell ⟨w.heap.size,1,none⟩ (.int .i64 rr.1)).setCell ⟨w.heap.size,2,none⟩ (.slice s1 s2 s3));have h1:=(gy.block w.heap.size (Array.getElem?_eq_some_iff.1 hX).1 (by simp)).trans hX;have gf:=jay (jay (jaa g0.out hg) gX (Nat.le_refl _)) gy (by omega);have hb:w.heap.size+2≤w0.heap.size:=by have:=(Array.getElem?_eq_some_iff.1 (BX.out w0 (jae _)).2).1;omega
      have hne:∀ B,B<w.heap.size+2→(Sl.v ⟨s1,s2,s3⟩).ownBlock=none∨(Sl.v ⟨s1,s2,s3⟩).ownBlock≠some B:=fun B hB=>by
       rcases ho.1.2 with ⟨e,-⟩ | ⟨gg,cap',cur,e,hgg,-⟩
       ·exact .inl (by rw [e];rfl)
       ·exact .inr (by rw [e];simp [Value.ownBlock];omega)
      have HO:=jac ((((ho.base_le (b':=w.heap.size) (by omega)).more gX (hne _ (by omega))).more gy (hne _ (by omega))));have GF:=jac gf;have H1x:=jac h1;have H2x:=jac h2;clear gs gy h1 h2 gf hX gX hne;go_wp2;refine leaves_cons (f:=64) (args:=#[.pointer (some ⟨w.heap.size+1,0,none⟩)]) (by simp) (by simp [go_sem]) ?_;refine (jkU ⟨w.heap.size+1,0,none⟩ _).mono ?_;rintro e u' w'' ⟨rfl,rfl,rfl⟩;have k0:=(cell_of_row _ _ 0 _ _ (0,0) H1x.out).trans rfl;have k1:=(cell_of_row _ _ 1 _ _ (0,0) H1x.out).trans rfl;have k2:=(cell_of_row _ _ 2 _ _ (0,0) H1x.out).trans rfl;have k3:=(cell_of_row _ _ 0 _ _ (0,0) H2x.out).trans rfl;obtain ⟨wf,hwf⟩ : ∃ wf,wf=((((w1.setCell ⟨w.heap.size,0,none⟩ (.string out)).setCell ⟨w.heap.size,1,none⟩ (.int .i64 rr.1)).setCell ⟨w.heap.size,2,none⟩ (.slice s1 s2 s3)).setCell ⟨w.heap.size+1,0,none⟩ (.int .i64 0)):=⟨_,rfl⟩
      have hO:=HO.out;have hG:=GF.out;rw [← hwf] at k0 k1 k2 k3 hO hG ⊢;clear hwf H1x H2x B1 B2 B3 HO GF c0 c1 c2 f0 f1 f2 e0 e1 e0x e1x;simp [Leaves,settle,results,Tryz.results51,go_sem,k0,k1,k2,k3];exact ⟨hG,⟨s1,s2,s3⟩,rfl,hO⟩
theorem jdY (w:World) (o o' o2:Obj):(((w.alloc o).alloc o').alloc o2).heap[w.heap.size]?=some o∧(((w.alloc o).alloc o').alloc o2).heap[w.heap.size+1]?=some o'∧(((w.alloc o).alloc o').alloc o2).heap[w.heap.size+2]?=some o2:=by
 obtain ⟨h1,h2⟩:=jaJ w o o';have g:=jab ((w.alloc o).alloc o') o2;refine ⟨jag h1 g,jag h2 g,?_⟩;have h3:=heap_alloc_new ((w.alloc o).alloc o') o2;simpa using h3
theorem jee {fn : Func} {p u : Tmp} (h : fn.results = #[.cell p 43, .tmp u]) (tmps : Array Value) (w : World) (B : Nat) (hp : tmps.getD p undef = .pointer (some ⟨B, 0, none⟩)) {a0 a1 a2 : Value}
    (hb:w.heap[B]?=some (.cells #[a0,a1,a2] 43 (0,0))):(results fn tmps).run Tryz.prog w=.ok (.tuple #[.agg #[a0,a1,a2],tmps.getD u undef]) w:=by
     have hl:=run_loadVar_row (P:=Tryz.prog) w B _ 43 #[a0,a1,a2] (0,0) _ hb Tryz.underlying43 rfl (by rw [jnc];rfl);rw [results_cell_tmp h,hp];simp [asAddr,hl,Result.andThen]
theorem jne (n:Nod) (u:Sl) (r:R (Int×List Int)) (w:World) (VO:∀ wx,w.grownBy wx none→Calls Tryz.prog 53 #[jaA n,.slice u.a u.n u.c] wx (jaH wx r (ValQ n.out wx.heap.size))) :
    Calls Tryz.prog 26 #[jaA n,.slice u.a u.n u.c] w (joj n.out w r):=by
     have hmf:∀ (fn:Fn) (first cap:Array Value) (w:World),(Instr.makeFunc fn first cap).run Tryz.prog w=.ok (.func fn first cap) w:=fun _ _ _ _=>rfl;have HVO:=jac VO;obtain ⟨w0,hw0⟩ : ∃ w0,w0=((w.alloc (.cells #[.string n.op,.string n.name,.slice n.iv.a n.iv.n n.iv.c,.string n.out,.slice n.av.a n.av.n n.av.c] 25)).alloc (.cells #[.slice u.a u.n u.c] 59)).alloc (.cells #[.string ⟨#[]⟩,.int .i64 0,.slice none 0 0] 43):=⟨_,rfl⟩
     have g0:Hid (w.grownBy w0 none):=by show w.grownBy w0 none;rw [hw0];exact jaa (jaa (jab _ _) (jab _ _)) (jab _ _)
     have hbx:=jdY w (.cells #[.string n.op,.string n.name,.slice n.iv.a n.iv.n n.iv.c,.string n.out,.slice n.av.a n.av.n n.av.c] 25) (.cells #[.slice u.a u.n u.c] 59) (.cells #[.string ⟨#[]⟩,.int .i64 0,.slice none 0 0] 43);rw [← hw0] at hbx;have AT:=jac (ji2 n.out r w0 w.heap.size (w.heap.size+1) (fun wx hx=>jpo n u r wx w.heap.size (w.heap.size+1) (jag hbx.1 hx) (jag hbx.2.1 hx) (fun wy hy=>HVO.out wy (jaa g0.out (jaa hx hy)))));have BX:Hid (∀ wx,w0.grownBy wx none→wx.heap[w.heap.size+2]?=some (.cells #[.string ⟨#[]⟩,.int .i64 0,.slice none 0 0] 43 (0,0))):=fun wx hg=>jag hbx.2.2 hg;clear VO HVO hbx;obtain ⟨op,nam,⟨ia,il,ic⟩,out,⟨ao,al,cap⟩⟩:=n;obtain ⟨ua,un,uc⟩:=u;unfold jaA;simp only at AT hw0 ⊢;go_enter Tryz.func26,Tryz.ntmps26;go_wp2_with fail;rw [← hw0];clear hw0;refine AT.out.mono ?_;have fin:∀ (w1:World) (a0 a1 a2:Value),w0.grownBy w1 none→(((w1.setCell ⟨w.heap.size+2,0,none⟩ a0).setCell ⟨w.heap.size+2,1,none⟩ a1).setCell ⟨w.heap.size+2,2,none⟩ a2).heap[w.heap.size+2]?=some (.cells #[a0,a1,a2] 43 (0,0))∧w1.grownBy (((w1.setCell ⟨w.heap.size+2,0,none⟩ a0).setCell ⟨w.heap.size+2,1,none⟩ a1).setCell ⟨w.heap.size+2,2,none⟩ a2) (some (w.heap.size+2)):=fun w1 a0 a1 a2 hg=>jbu a0 a1 a2 (BX.out w1 hg);have FIN:=jac fin;clear fin;rintro e w1 ⟨hg,hq⟩;have B1:=BX.out w1 hg;obtain ⟨f0,f1,f2⟩:=ja3 B1;have c0:=(cell_of_row _ _ 0 _ _ (0,0) B1).trans rfl;have c1:=(cell_of_row _ _ 1 _ _ (0,0) B1).trans rfl;have c2:=(cell_of_row _ _ 2 _ _ (0,0) B1).trans rfl;have HG:=jac hg;clear B1 hg
     cases r with
     | error c =>
      obtain rfl:=hq;obtain ⟨hX,gX⟩:=FIN.out w1 (.string ⟨#[]⟩) (.int .i64 0) (.slice none 0 0) HG.out;have HX:=jac hX;have GX:=jac (jay (jaa g0.out HG.out) gX (by omega));clear hX gX;go_wp2;refine bodyPost_ret (jee rfl _ _ (w.heap.size+2) rfl HX.out) rfl ?_;exact ⟨GX.out,rfl⟩
     | ok rr =>
      obtain ⟨⟨s1,s2,s3⟩,rfl,ho⟩:=hq;obtain ⟨hX,gX⟩:=FIN.out w1 (.string out) (.int .i64 rr.1) (.slice s1 s2 s3) HG.out;have hb:w.heap.size+3≤w0.heap.size:=by have:=(Array.getElem?_eq_some_iff.1 (BX.out w0 (jae _))).1;omega
      have HO:=jac ((ho.base_le (b':=w.heap.size) (by omega)).more gX (by
       rcases ho.1.2 with ⟨e,-⟩ | ⟨gg,cap',cur,e,hgg,-⟩
       ·exact .inl (by rw [e];rfl)
       ·exact .inr (by rw [e];simp [Value.ownBlock];omega)))
      have HX:=jac hX;have GX:=jac (jay (jaa g0.out HG.out) gX (by omega));clear hX gX ho;simp only;go_wp2;refine bodyPost_ret (jee rfl _ _ (w.heap.size+2) rfl HX.out) rfl ?_;exact ⟨GX.out,⟨s1,s2,s3⟩,rfl,HO.out⟩
end Go.Proofs.YtanpkdkenifmbaaGreatDoor
namespace Go.Proofs.YtanpkdkenifmbaaGreatDoor
open Go.RowKit
structure Ten where
 ty:Int
 dv:Sl
 tv:Sl
abbrev Tq:=List Int×List Int
def jhT (t:Ten):List Value:=[.int .i64 t.ty,.slice t.dv.a t.dv.n t.dv.c,.slice t.tv.a t.tv.n t.tv.c]
theorem jgw (t:Ten):(jhT t).length=3:=rfl
abbrev jr7 (w:World) (v:Value) (ts:List Ten):Prop:=IsL 56 3 jhT w v ts
def jjQ (t:Ten):Value:=.agg #[.int .i64 t.ty,.slice t.dv.a t.dv.n t.dv.c,.slice t.tv.a t.tv.n t.tv.c]
structure TensIn (w:World) (v:Value) (ps:List (Ten×Tq)):Prop where
 vals:jr7 w v (ps.map (·.1))
 has:∀ p∈ps,IsInts w p.1.dv.v p.2.1∧IsInts w p.1.tv.v p.2.2
theorem TensIn.more {w w':World} {v:Value} {ps:List (Ten×Tq)} (h:TensIn w v ps) (hg:w.grownBy w' none):TensIn w' v ps:=⟨h.vals.more hg,fun p hp=>⟨(h.has p hp).1.more hg,(h.has p hp).2.more hg⟩⟩
theorem TensIn.at {w:World} {b off n c:Nat} {ps:List (Ten×Tq)} (h:TensIn w (.slice (some ⟨b,off,none⟩) n c) ps) (k:Nat) (hk:k<ps.length):w.cell? ⟨b,off+k*3,none⟩=some (.int .i64 ps[k].1.ty)∧w.cell? ⟨b,off+k*3+1,none⟩=some (.slice ps[k].1.dv.a ps[k].1.dv.n ps[k].1.dv.c)∧w.cell? ⟨b,off+k*3+2,none⟩=some (.slice ps[k].1.tv.a ps[k].1.tv.n ps[k].1.tv.c):=by
 have hk':k<(ps.map (·.1)).length:=by rw [List.length_map];exact hk
 have h0:=h.vals.at k hk' 0 (by omega);have h1:=h.vals.at k hk' 1 (by omega);have h2:=h.vals.at k hk' 2 (by omega);rw [List.getElem_map] at h0 h1 h2;exact ⟨h0,h1,h2⟩
def okT (p:Ten×Tq):Bool:=pbE p.1.ty p.2.1 p.2.2==0
def jdJ (ps:List (Ten×Tq)) (r:R (Int×List Int)):R (Int×List Int):=if ps.all okT=true then r else .error 1
theorem jnf {ps:List (Ten×Tq)} {r:R (Int×List Int)} {k:Nat} (hk:k<ps.length) (h:okT ps[k]=false):jdJ ps r=.error 1:=by
 unfold jdJ;rw [if_neg];intro e;rw [List.all_eq_true] at e;rw [e ps[k] (List.getElem_mem hk)] at h
 cases h
theorem jkV {ps:List (Ten×Tq)} {r:R (Int×List Int)} (h:(ps.take ps.length).all okT=true):jdJ ps r=r:=by
 unfold jdJ;rw [List.take_of_length_le (Nat.le_refl _)] at h;rw [if_pos h]
theorem jpp:(Tryz.prog.info? 43).map (fun i=>(i.zero,i.size,i.bytes))=some (some (.agg #[.string ⟨#[]⟩,.int .i64 0,.slice none 0 0]),3,48):=by kernel_rfl
theorem jkW (v:Val):∀ u∈jdM v,u.oneCell'=true:=by
 intro u hu;simp only [jdM,List.mem_cons,List.not_mem_nil,or_false] at hu
 rcases hu with rfl | rfl | rfl <;> rfl
theorem jha {out:ByteArray} {w w':World} {X Y:R (Int×List Int)} {e:Ending} (h:X=Y) (hq:joj out w Y e w'):joj out w X e w':=by rw [h];exact hq
def jdP (p:Ten×Tq):Val:=⟨⟨#[]⟩,p.1.ty,p.1.dv⟩
theorem jhU {α:Type} {te:TypeId} {size n:Nat} {f:α→List Value} {w:World} {base:Nat} {v:Value} {xs:List α} (h:ja6 te size f w base v xs) (hn:xs.length=n):w.ownsRow base te size v n (xs.flatMap f):=by
 subst hn;exact h
theorem jhV {α:Type} {te:TypeId} {size n:Nat} {f:α→List Value} {w:World} {base:Nat} {v:Value} {xs:List α} {y:α} (hn:xs.length=n) (h:w.ownsRow base te size v (n+1) (xs.flatMap f++f y)):ja6 te size f w base v (xs++[y]):=by
 subst hn;unfold ja6;rw [List.length_append,List.flatMap_append];simpa using h
theorem jhW (n : Nod) (u : Sl) (ps : List (Ten × Tq)) (R0 : R (Int × List Int)) (w : World) (hv : TensIn w u.v ps) (hl : ps.length ≤ 1000000)
    (OC:∀ (wx:World) (s:Sl) (vs:List (Val×List Int)),w.grownBy wx none→ValsIn wx s.v vs→vs.map (·.1.ty)=ps.map (·.1.ty)→vs.map (·.2)=ps.map (·.2.1)→Calls Tryz.prog 26 #[jaA n,.slice s.a s.n s.c] wx (joj n.out wx R0)) :
    Calls Tryz.prog 11 #[jaA n,.slice u.a u.n u.c] w (joj n.out w (jdJ ps R0)):=by
     obtain ⟨i0,hi,hz0,hz1,hz2⟩:=info_parts jpp;obtain ⟨xa,xc,e1,p1,p2,p3⟩:=hv.vals.form;rw [List.length_map] at e1 p1 p3;obtain ⟨ua,un,uc⟩:=u;simp only [Sl.v,Value.slice.injEq] at e1;obtain ⟨rfl,rfl,rfl⟩:=e1;have HV:=jac hv;have HOC:=jac OC;clear hv OC;obtain ⟨w0,hw0⟩ : ∃ w0,w0=(w.alloc (.cells #[.string n.op,.string n.name,.slice n.iv.a n.iv.n n.iv.c,.string n.out,.slice n.av.a n.av.n n.av.c] 25)).alloc (.cells #[.string ⟨#[]⟩,.int .i64 0,.slice none 0 0] 43):=⟨_,rfl⟩
     have g0:Hid (w.grownBy w0 none):=by show w.grownBy w0 none;rw [hw0];exact jaa (jab _ _) (jab _ _)
     have hbx:=jaJ w (.cells #[.string n.op,.string n.name,.slice n.iv.a n.iv.n n.iv.c,.string n.out,.slice n.av.a n.av.n n.av.c] 25) (.cells #[.string ⟨#[]⟩,.int .i64 0,.slice none 0 0] 43);rw [← hw0] at hbx;have BN:Hid (∀ wx,w0.grownBy wx none→wx.heap[w.heap.size]?=some (.cells #[.string n.op,.string n.name,.slice n.iv.a n.iv.n n.iv.c,.string n.out,.slice n.av.a n.av.n n.av.c] 25 (0,0))):=fun wx hg=>jag hbx.1 hg;have BX:Hid (∀ wx,w0.grownBy wx none→wx.heap[w.heap.size+1]?=some (.cells #[.string ⟨#[]⟩,.int .i64 0,.slice none 0 0] 43 (0,0))):=fun wx hg=>jag hbx.2 hg;have Z0:Hid (w.heap.size+1<w0.heap.size):=(Array.getElem?_eq_some_iff.1 hbx.2).1;clear hbx;obtain ⟨op,nam,⟨ia,il,ic⟩,out,⟨ao,al,cap⟩⟩:=n;unfold jaA at HOC ⊢;simp only at HOC BN hw0 ⊢;go_enter Tryz.func11,Tryz.ntmps11;go_wp2_with fail;rw [← hw0];clear hw0;go_loopw [6,11] (fun l i wr=>w0.grownBy wr none∧∃ (k:Nat) (va:Option Addr) (vc:Nat),k≤ps.length∧i=.int .i64 k∧l=.slice va k vc∧(ps.take k).all okT=true∧ja6 43 3 jdM wr w0.heap.size (.slice va k vc) ((ps.take k).map jdP)) (fun _ i _=>ps.length - (intOf i).toNat)
     case atStart=>exact ⟨jae _,0,none,0,Nat.zero_le _,rfl,rfl,rfl,ja6.nil ..⟩
     case round =>
      obtain ⟨hg,k,va,vc,hk,rfl,rfl,hall,hown⟩:=hrel;have HG:=jac hg;have HO:=jac hown;have HAL:=jac hall;clear hown hall
      by_cases hlt:k<ps.length
      ·obtain ⟨b,off,rfl⟩:=HV.out.vals.addr (k:=k) (by rw [List.length_map];exact hlt);obtain ⟨a0,a1,a2⟩:=(HV.out.more (jaa g0.out hg)).at k hlt;have HH:=jac (HV.out.has ps[k] (List.getElem_mem hlt))
       have HT:Hid ((ps.take (k+1)).all okT=((ps.take k).all okT&&okT ps[k])):=by
        show _=_;rw [List.take_add_one,List.all_append,List.getElem?_eq_getElem hlt];simp
       have HM:Hid ((ps.take (k+1)).map jdP=(ps.take k).map jdP++[jdP ps[k]]):=by
        show _=_;rw [List.take_add_one,List.map_append,List.getElem?_eq_getElem hlt]
        rfl
       have HBAD:Hid (okT ps[k]=false→jdJ ps R0=.error 1):=fun h=>jnf hlt h;obtain ⟨p,hp⟩ : ∃ p,p=ps[k]:=⟨_,rfl⟩
       rw [← hp] at a0 a1 a2 HH HT HM HBAD;obtain ⟨⟨ty,⟨da,dn,dc⟩,⟨ta,tn,tc⟩⟩,⟨ds,ts⟩⟩:=p;simp only at a0 a1 a2 HH;obtain ⟨w1,hw1⟩ : ∃ w1,w1=wr.alloc (.cells #[.int .i64 ty,.slice da dn dc,.slice ta tn tc] 32):=⟨_,rfl⟩
       have B1:=heap_alloc_new wr (.cells #[.int .i64 ty,.slice da dn dc,.slice ta tn tc] 32);have c0:=(cell_of_row _ _ 0 _ _ (0,0) B1).trans rfl;have c1:=(cell_of_row _ _ 1 _ _ (0,0) B1).trans rfl;have c2:=(cell_of_row _ _ 2 _ _ (0,0) B1).trans rfl;rw [← hw1] at B1;have BT:=jac B1;have g1:Hid (wr.grownBy w1 none):=by show wr.grownBy w1 none;rw [hw1];exact jab _ _
       have PC:=jac (je8 ty _ _ ds ts w1 ((HH.out.1.more (jaa g0.out hg)).more g1.out) ((HH.out.2.more (jaa g0.out hg)).more g1.out));simp only [Sl.v] at PC;clear B1 hp hg;go_wp2_with fail;rw [← hw1];clear hw1 a0 a1 a2 c0 c1 c2;refine PC.out.mono ?_;rintro e w2 ⟨rfl,hg2⟩;have G2:=jac (jaa (jaa HG.out g1.out) hg2)
       by_cases hok:pbE ty ds ts=0
       ·have bo:(pbE ty ds ts != 0)=false:=by simp [hok]
        have HOK:=jac hok;have B2:=jag BT.out hg2;have c0:=(cell_of_row _ _ 0 _ _ (0,0) B2).trans rfl;have c1:=(cell_of_row _ _ 1 _ _ (0,0) B2).trans rfl;have KL:Hid (((ps.take k).map jdP).length=k):=by show _=_;rw [List.length_map,List.length_take];omega
        have OW:Hid (∀ o,(w2.alloc o).ownsRow w0.heap.size 43 3 (.slice va k vc) k (((ps.take k).map jdP).flatMap jdM)):=fun o=>jhU ((HO.out.more (jaa g1.out hg2)).more (jab _ _)) KL.out;have hsz:w0.heap.size≤w2.heap.size:=G2.out.size;clear hok B2 hg2 PC;go_wp2_with (at_builtin;refine wpList_append_lies _ rfl (.tmp 19) (.tmp 25) 59 rfl w0.heap.size 43 i0 (.agg #[.string ⟨#[]⟩,.int .i64 0,.slice none 0 0]) 3 48 Tryz.underlying59 hi hz0 hz1 hz2 rfl (by decide) (.slice va k vc) k (((ps.take k).map jdP).flatMap jdM) rfl (by exact OW.out _) ⟨w2.heap.size,0,none⟩ 1 1 (jdM ⟨⟨#[]⟩,ty,⟨da,dn,dc⟩⟩) rfl rfl (by exact World.news_of_block (by have h:=heap_alloc_new w2 (.cells #[.string ⟨#[]⟩,.int .i64 ty,.slice da dn dc] 43);simpa using h)) (jkW _) (by omega) (by simp only [maxLen];omega) (by omega) (by simp;omega) (w2.heap.size+1) (by simp) ?_;intro gg cap8 w8 hown8 hgrow hat hlt8);have ST:Hid (w0.grownBy w8 none∧ja6 43 3 jdM w8 w0.heap.size (.slice (some ⟨gg,0,none⟩) (k+1) cap8) ((ps.take (k+1)).map jdP)∧(ps.take (k+1)).all okT=true):=⟨jao (jaa G2.out (jab _ _)) hgrow (fun r e=>(World.ownsRow.lt HO.out r e).1),by rw [HM.out];exact jhV KL.out hown8,by rw [HT.out,HAL.out];simp [okT,HOK.out]⟩
        clear hown8 hgrow hat hlt8 c0 c1;go_wp2_with fail;go_roundw
        case rel=>exact ⟨ST.out.1,k+1,_,_,by omega,by go_num,rfl,ST.out.2.2,ST.out.2.1⟩
        case measure=>simp [intOf];omega
       ·have bo:(pbE ty ds ts != 0)=true:=by simpa using hok
        have E:Hid (jdJ ps R0=.error 1):=HBAD.out (by simpa [okT] using hok);have B1:=BX.out w2 G2.out;obtain ⟨f0,f1,f2⟩:=ja3 B1;have c0:=(cell_of_row _ _ 0 _ _ (0,0) B1).trans rfl;have c1:=(cell_of_row _ _ 1 _ _ (0,0) B1).trans rfl;have c2:=(cell_of_row _ _ 2 _ _ (0,0) B1).trans rfl;obtain ⟨hX,gX⟩:=jbu (.string ⟨#[]⟩) (.int .i64 0) (.slice none 0 0) B1;have HX:=jac hX;have GX:=jac (jay (jaa g0.out G2.out) gX (by omega));clear hX gX B1 hok hg2;go_wp2;refine bodyPost_ret (jee rfl _ _ (w.heap.size+1) rfl HX.out) rfl ?_;exact jha E.out ⟨GX.out,rfl⟩
      ·obtain rfl:k=ps.length:=by omega
       have E:=jac (jkV (r:=R0) HAL.out);have HOF:=HO.out;rw [List.take_of_length_le (Nat.le_refl _)] at HOF
       have VI:ValsIn wr (Sl.v ⟨va,ps.length,vc⟩) (ps.map (fun p=>(jdP p,p.2.1))):=⟨by rw [List.map_map];exact HOF.isL (bytes:=48) jku (by rw [List.length_map];omega),fun q hq=>by
        obtain ⟨p,hp,rfl⟩:=List.mem_map.1 hq;exact ((HV.out.has p hp).1).more (jaa g0.out hg)⟩
       have O1:=jac (HOC.out wr ⟨va,ps.length,vc⟩ _ (jaa g0.out hg) VI (by rw [List.map_map];rfl) (by rw [List.map_map];rfl));obtain ⟨n0,n1,n2,n3,n4⟩:=jai (n:=⟨op,nam,⟨ia,il,ic⟩,out,⟨ao,al,cap⟩⟩) (BN.out wr hg);clear HOF VI hg;simp only at O1;go_wp2_with fail;refine O1.out.mono ?_;rintro e w1 ⟨hg1,hq⟩;have B1:=BX.out w1 (jaa HG.out hg1);obtain ⟨f0,f1,f2⟩:=ja3 B1;have c0:=(cell_of_row _ _ 0 _ _ (0,0) B1).trans rfl;have c1:=(cell_of_row _ _ 1 _ _ (0,0) B1).trans rfl;have c2:=(cell_of_row _ _ 2 _ _ (0,0) B1).trans rfl;have G1:=jac (jaa (jaa g0.out HG.out) hg1);have HG1:=jac hg1;have FB:=jac (fun (a0 a1 a2:Value)=>jbu a0 a1 a2 B1);clear hg1 B1 n0 n1 n2 n3 n4
       cases R0 with
       | error c =>
        obtain rfl:=hq;obtain ⟨hX,gX⟩:=FB.out (.string ⟨#[]⟩) (.int .i64 0) (.slice none 0 0);have HX:=jac hX;have GX:=jac (jay G1.out gX (by omega));clear hX gX;go_wp2;refine bodyPost_ret (jee rfl _ _ (w.heap.size+1) rfl HX.out) rfl ?_;exact jha E.out ⟨GX.out,rfl⟩
       | ok rr =>
        obtain ⟨⟨s1,s2,s3⟩,rfl,ho⟩:=hq;obtain ⟨hX,gX⟩:=FB.out (.string out) (.int .i64 rr.1) (.slice s1 s2 s3);have hsz:=HG.out.size;have hz:=Z0.out
        have HO2:=jac ((ho.base_le (b':=w.heap.size) (by have:=g0.out.size;omega)).more gX (by
         rcases ho.1.2 with ⟨e,-⟩ | ⟨gg,cap',cur,e,hgg,-⟩
         ·exact .inl (by rw [e];rfl)
         ·exact .inr (by rw [e];simp [Value.ownBlock];omega)))
        have HX:=jac hX;have GX:=jac (jay G1.out gX (by omega));clear hX gX ho hsz hz;simp only;go_wp2;refine bodyPost_ret (jee rfl _ _ (w.heap.size+1) rfl HX.out) rfl ?_;exact jha E.out ⟨GX.out,⟨s1,s2,s3⟩,rfl,HO2.out⟩
end Go.Proofs.YtanpkdkenifmbaaGreatDoor
namespace Go.Proofs.YtanpkdkenifmbaaGreatDoor
open Go.RowKit
def jbC (w:World) (base:Nat) (v:Value) (zs:List Int):Prop :=
 w.ownsRow base 2 1 v zs.length (zs.map (Value.int .i64))∧zs.length*8≤140737488351232∧(∀ z∈zs,-9223372036854775808≤z∧z≤9223372036854775807)
theorem jbC.ints {w:World} {base:Nat} {v:Value} {zs:List Int} (h:jbC w base v zs):IsInts w v zs:=by
 obtain ⟨hr,hle,hwf⟩:=h;have hr0:=hr
 rcases hr.2 with ⟨rfl,h0⟩ | ⟨g,cap,cur,rfl,_,_,hnc,hcm,_,_⟩
 ·obtain rfl:zs=[]:=List.length_eq_zero_iff.1 h0;exact ⟨none,0,rfl,by simp,by simp,by simp,fun _=>⟨rfl,rfl⟩,fun h=>by simp at h,fun z hz=>by simp at hz⟩
 ·refine ⟨_,cap,rfl,hnc,by simpa [maxLen] using hcm,hle,(fun h=>by cases h),fun _=>⟨g,0,rfl,fun t ht=>?_⟩,hwf⟩;rw [Nat.zero_add,hr0.cellAt t (by omega)];simp [List.getD,ht]
theorem jbC.more {w w':World} {base:Nat} {v:Value} {zs:List Int} (h:jbC w base v zs) {row:Option Nat} (hg:w.grownBy w' row) (hne:v.ownBlock=none∨v.ownBlock≠row):jbC w' base v zs:=⟨h.1.kept hg hne,h.2⟩
theorem jbC.put {w:World} {base g n c:Nat} {zs:List Int} (h:jbC w base (.slice (some ⟨g,0,none⟩) n c) zs) (hn:zs.length=n) {k:Nat} (hk:k<n) (z:Int) (hz : -9223372036854775808≤z∧z≤9223372036854775807) :
    w.cell? ⟨g,k,none⟩=some (.int .i64 (zs.getD k 0))∧w.frozen? ⟨g,k,none⟩=false∧jbC (w.setCell ⟨g,k,none⟩ (.int .i64 z)) base (.slice (some ⟨g,0,none⟩) n c) (zs.set k z)∧w.grownBy (w.setCell ⟨g,k,none⟩ (.int .i64 z)) (some g):=by
     subst hn;have hr:=h.1;obtain ⟨s1,s2⟩:=hr.stored k (.int .i64 z);refine ⟨?_,hr.frozenAt k,⟨?_,by rw [List.length_set];exact h.2.1,fun y hy=>?_⟩,s2⟩
     ·rw [hr.cellAt k (by omega)];simp [List.getD,hk]
     ·rw [List.length_set,List.map_set];exact s1
     ·rcases List.mem_or_eq_of_mem_set hy with hy | rfl
      ·exact h.2.2 y hy
      ·exact hz
def jqt (s:Sl):List Value:=[.slice s.a s.n s.c]
abbrev jr8 (w:World) (v:Value) (cs:List Sl):Prop:=IsL 24 1 jqt w v cs
def EvQ (w:World) (r:R (List Int)) (e:Ending) (w':World):Prop:=w.grownBy w' none∧match r with
 | .ok l=>∃ u:Sl,e=.returned (.tuple #[.slice u.a u.n u.c,.int .i64 0])∧jbC w' w.heap.size u.v l
 | .error c=>e=.returned (.tuple #[.slice none 0 0,.int .i64 c])
theorem jng {w w':World} {r:R (List Int)} {c:Int} (h:r=.error c) (hg:w.grownBy w' none):EvQ w r (.returned (.tuple #[.slice none 0 0,.int .i64 c])) w':=by rw [h];exact ⟨hg,rfl⟩
theorem jnh {w w':World} {r:R (List Int)} {l:List Int} {e:Ending} (h:r=.ok l) (hg:w.grownBy w' none) (hq:∃ u:Sl,e=.returned (.tuple #[.slice u.a u.n u.c,.int .i64 0])∧jbC w' w.heap.size u.v l):EvQ w r e w':=by rw [h];exact ⟨hg,hq⟩
theorem jni:(Tryz.prog.info? 2).map (fun i=>(i.zero,i.size,i.bytes))=some (some (.int .i64 0),1,8):=by kernel_rfl
end Go.Proofs.YtanpkdkenifmbaaGreatDoor
