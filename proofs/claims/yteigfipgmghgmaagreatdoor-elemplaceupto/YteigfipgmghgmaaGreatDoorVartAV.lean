/- A part. -/
import Derived.Test.YteigfipgmghgmaaGreatDoorVartAU
import Derived.Defers
import Derived.Recover
import Derived.Test.YteigfipgmghgmaaGreatDoorVartAI
import Derived.Deep.AppendLies
import Derived.Test.YteigfipgmghgmaaGreatDoorVartAB
set_option maxHeartbeats 8000000
set_option maxRecDepth 100000
namespace Go.Proofs.YteigfipgmghgmaaGreatDoor
open Go.RowKit
def ValQ (out:ByteArray) (base:Nat) (r:Int×List Int) (v:Value) (w':World):Prop:=∃ s:Sl,v=.agg #[.string out,.int .i64 r.1,.slice s.a s.n s.c]∧Owns w' base s.v r.2
theorem jre (n : Nod) (u : Sl) (r : R (Int × List Int)) (w : World) (pn pi : Nat) (hn : w.heap[pn]? = some (.cells #[.string n.op, .string n.name, .slice n.iv.a n.iv.n n.iv.c, .string n.out, .slice n.av.a n.av.n n.av.c] 25 (0, 0))) (hi : w.heap[pi]? = some (.cells #[.slice u.a u.n u.c] 66 (0, 0)))
    (VO:∀ wx,w.grownBy wx none→Calls Tryz.prog 48 #[jaz n,.slice u.a u.n u.c] wx (jaJ wx r (ValQ n.out wx.heap.size))) :
    Calls Tryz.prog 47 #[.pointer (some ⟨pn,0,none⟩),.pointer (some ⟨pi,0,none⟩)] w (jaJ w r (ValQ n.out w.heap.size)):=by
     have HVO:=jac VO;obtain ⟨op,nam,⟨ia,il,ic⟩,out,⟨ao,al,cap⟩⟩:=n;obtain ⟨ua,un,uc⟩:=u;unfold jaz at HVO;simp only at HVO hn hi ⊢;clear VO;have V0:(.cells #[.string ⟨#[]⟩,.int .i64 0,.slice none 0 0] 53:Obj)=.cells #[.string ⟨#[]⟩,.int .i64 0,.slice none 0 0] 53:=rfl;obtain ⟨w0,hw0⟩ : ∃ w0,w0=w.alloc (.cells #[.string ⟨#[]⟩,.int .i64 0,.slice none 0 0] 53):=⟨_,rfl⟩
     have g0:Hid (w.grownBy w0 none):=by show w.grownBy w0 none;rw [hw0];exact jab _ _
     have hb0:=heap_alloc_new w (.cells #[.string ⟨#[]⟩,.int .i64 0,.slice none 0 0] 53);rw [← hw0] at hb0;have BX:Hid (∀ wx,w0.grownBy wx none→wx.heap[w.heap.size]?=some (.cells #[.string ⟨#[]⟩,.int .i64 0,.slice none 0 0] 53 (0,0))):=fun wx hg=>jag hb0 hg;have hn1:=jag hn g0.out;have hi1:=jag hi g0.out;rw [hw0] at hn1 hi1;obtain ⟨n0,n1,n2,n3,n4⟩:=jak (n:=⟨op,nam,⟨ia,il,ic⟩,out,⟨ao,al,cap⟩⟩) hn1;have i0:=jbY hi1;simp only at n0 n1 n2 n3 n4;clear hb0 hn hi hn1 hi1 V0;go_enter Tryz.func47,Tryz.ntmps47;go_wp2_with fail;rw [← hw0];clear hw0 n0 n1 n2 n3 n4 i0;have V1:=jac (HVO.out w0 g0.out)
     cases r with
     | error c =>
      refine V1.out.mono ?_;rintro e w1 ⟨hg,rfl⟩;exact ⟨rfl,jai rfl (jaa g0.out hg)⟩
     | ok rr =>
      refine V1.out.mono ?_;rintro e w1 ⟨hg,v,rfl,⟨s1,s2,s3⟩,rfl,ho⟩;simp only;have B1:=BX.out w1 hg;obtain ⟨f0,f1,f2⟩:=jbf B1;have c0:=(cell_of_row _ _ 0 _ _ (0,0) B1).trans rfl;have c1:=(cell_of_row _ _ 1 _ _ (0,0) B1).trans rfl;have c2:=(cell_of_row _ _ 2 _ _ (0,0) B1).trans rfl;obtain ⟨hX,gX⟩:=jb0 (.string out) (.int .i64 rr.1) (.slice s1 s2 s3) B1;have gf:=jac (jaG (jaa g0.out hg) gX (Nat.le_refl _));have HX:=jac hX;have hb:w.heap.size+1≤w0.heap.size:=(Array.getElem?_eq_some_iff.1 (BX.out w0 (jad _))).1
      have HO:=jac (((ho.base_le (b':=w.heap.size+1) hb).more gX (by
       rcases ho.1.2 with ⟨e,-⟩ | ⟨gg,cap',cur,e,hgg,-⟩
       ·exact .inl (by rw [e];rfl)
       ·exact .inr (by rw [e];simp [Value.ownBlock];omega))).base_le (b':=w.heap.size) (by omega))
      clear hX gX ho;go_wp2;refine bodyPost_ret (jkf rfl _ _ w.heap.size rfl HX.out) rfl ?_;exact jap rfl gf.out ⟨⟨s1,s2,s3⟩,rfl,HO.out⟩
def jsk (out:ByteArray) (w:World) (r:R (Int×List Int)) (e:Ending) (w':World):Prop:=w.grownBy w' none∧match r with
 | .ok rr=>∃ s:Sl,e=.returned (.tuple #[.agg #[.string out,.int .i64 rr.1,.slice s.a s.n s.c],.int .i64 0])∧Owns w' w.heap.size s.v rr.2
 | .error c=>e=.returned (.tuple #[.agg #[.string ⟨#[]⟩,.int .i64 0,.slice none 0 0],.int .i64 c])
theorem ji5 (c:Int) (w:World):(Instr.typeAssert (.iface 33 (.int .i64 c)) 20 33 false).run Tryz.prog w=.ok (.int .i64 c) w:=by kernel_rfl
theorem jml (p:Addr) (w:World) :
    CallsD Tryz.prog 68 #[.pointer (some p)] .returning w fun e u' w'=>e=.returned (.tuple #[])∧u'=.returning∧w'=w:=by
     refine callsD_of_wpS Tryz.func68 rfl fun c₀ cs hu=>?_;apply wpS_seq;apply wpS_region;simp [wpOpsS,go_sem,recoverD,hu,Tryz.ntmps68,Exit.thenS];apply wpS_seq;apply wpS_region;simp [wpOpsS,go_sem,Exit.thenS];refine wpS_cond (t:=false) (by simp [Act.eval,Array.replicate]) ?_;simp only [Bool.false_eq_true,if_false];refine wpS_of_wp (wp_skip ?_)
     cases c₀
     simp_all [bodyPostS,results,Tryz.results68]
theorem jf0 (p:Addr) (x c:Int) (older:List PanicEntry) (w:World) (hc:w.cell? p=some (.int .i64 x)) (hz:w.frozen? p=false) :
    CallsD Tryz.prog 68 #[.pointer (some p)] (.panicking ({ v:=.iface 33 (.int .i64 c),recovered:=false }::older)) w fun e u' w'=>e=.returned (.tuple #[])∧u'=.panicking ({ v:=.iface 33 (.int .i64 c),recovered:=true }::older)∧w'=w.setCell p (.int .i64 c):=by
     refine callsD_of_wpS Tryz.func68 rfl fun c₀ cs hu=>?_;apply wpS_seq;apply wpS_region;simp [wpOpsS,go_sem,recoverD,hu,Tryz.ntmps68,Exit.thenS];apply wpS_seq;apply wpS_region;simp [wpOpsS,go_sem,Exit.thenS];refine wpS_cond (t:=true) (by simp [Act.eval,Array.replicate]) ?_;simp only [if_true];apply wpS_region;have ha:=ji5 c w;simp [wpOpsS,go_sem,hc,hz,ha,bodyPostS,results,Tryz.results68]
theorem jkl (out:ByteArray) (r:R (Int×List Int)) (w:World) (pn pi:Nat) (HC:∀ wx,w.grownBy wx none→Calls Tryz.prog 47 #[.pointer (some ⟨pn,0,none⟩),.pointer (some ⟨pi,0,none⟩)] wx (jaJ wx r (ValQ out wx.heap.size))) :
    Calls Tryz.prog 46 #[.func (.func 47) #[] #[.pointer (some ⟨pn,0,none⟩),.pointer (some ⟨pi,0,none⟩)]] w (jsk out w r):=by
     have hmf:∀ (fn:Fn) (first cap:Array Value) (w:World),(Instr.makeFunc fn first cap).run Tryz.prog w=.ok (.func fn first cap) w:=fun _ _ _ _=>rfl;have H:=jac HC;clear HC
     go_enter_defers Tryz.func46,Tryz.ntmps46
     obtain ⟨w0,hw0⟩ : ∃ w0,w0=(w.alloc (.cells #[.string ⟨#[]⟩,.int .i64 0,.slice none 0 0] 53)).alloc (.cells #[.int .i64 0] 33):=⟨_,rfl⟩
     have g0:Hid (w.grownBy w0 none):=by show w.grownBy w0 none;rw [hw0];exact jaa (jab _ _) (jab _ _)
     have hbx:=jbi w (.cells #[.string ⟨#[]⟩,.int .i64 0,.slice none 0 0] 53) (.cells #[.int .i64 0] 33);rw [← hw0] at hbx;have BX:Hid (∀ wx,w0.grownBy wx none→wx.heap[w.heap.size]?=some (.cells #[.string ⟨#[]⟩,.int .i64 0,.slice none 0 0] 53 (0,0))∧wx.heap[w.heap.size+1]?=some (.cells #[.int .i64 0] 33 (0,0))):=fun wx hg=>⟨jag hbx.1 hg,jag hbx.2 hg⟩
     clear hbx;go_wp2_with fail;rw [← hw0];clear hw0;have H1:=jac (H.out w0 g0.out);clear H
     cases r with
     | error c =>
      refine H1.out.mono ?_;rintro e w1 ⟨hg,rfl⟩;obtain ⟨B1,B2⟩:=BX.out w1 hg;refine leaves_cons (f:=68) (args:=#[.pointer (some ⟨w.heap.size+1,0,none⟩)]) (by simp) (by simp [go_sem]) ?_;refine (jf0 ⟨w.heap.size+1,0,none⟩ 0 c [] w1 (jbY B2) (frozen_of_row w1 _ 0 _ _ B2)).mono ?_;rintro e u' w'' ⟨rfl,rfl,rfl⟩;have h2:=heap_setCell_same w1 (w.heap.size+1) 0 _ _ (.int .i64 c) B2
      have h1:(w1.setCell ⟨w.heap.size+1,0,none⟩ (.int .i64 c)).heap[w.heap.size]?=some (.cells #[.string ⟨#[]⟩,.int .i64 0,.slice none 0 0] 53 (0,0)):=by
       rw [← B1];exact Below.heap_setCell _ _ _ _ (by simp)
      have k0:=(cell_of_row _ _ 0 _ _ (0,0) h1).trans rfl;have k1:=(cell_of_row _ _ 1 _ _ (0,0) h1).trans rfl;have k2:=(cell_of_row _ _ 2 _ _ (0,0) h1).trans rfl;have k3:=(cell_of_row _ _ 0 _ _ (0,0) h2).trans rfl;have gf:w.grownBy (w1.setCell ⟨w.heap.size+1,0,none⟩ (.int .i64 c)) none:=jaG (B:=w.heap.size+1) (jaa g0.out hg) ⟨rfl,rfl,rfl,by simp [World.setCell],fun k _ hk=>Below.heap_setCell _ _ _ _ (fun e=>hk (by rw [e]))⟩ (by omega);obtain ⟨wf,hwf⟩ : ∃ wf,wf=w1.setCell ⟨w.heap.size+1,0,none⟩ (.int .i64 c):=⟨_,rfl⟩
      rw [← hwf] at k0 k1 k2 k3 gf ⊢;clear hwf h1 h2 B1 B2;simp [Leaves,settle,results,Tryz.results46,go_sem,k0,k1,k2,k3];exact ⟨gf,rfl⟩
     | ok rr =>
      refine H1.out.mono ?_;rintro e w1 ⟨hg,v,rfl,⟨s1,s2,s3⟩,rfl,ho⟩;simp only;obtain ⟨B1,B2⟩:=BX.out w1 hg;obtain ⟨f0,f1,f2⟩:=jbf B1;have c0:=(cell_of_row _ _ 0 _ _ (0,0) B1).trans rfl;have c1:=(cell_of_row _ _ 1 _ _ (0,0) B1).trans rfl;have c2:=(cell_of_row _ _ 2 _ _ (0,0) B1).trans rfl;have e0:=jbY B2;have e1:=frozen_of_row w1 (w.heap.size+1) 0 _ _ B2;obtain ⟨hX,gX⟩:=jb0 (.string out) (.int .i64 rr.1) (.slice s1 s2 s3) B1;have B3:=(gX.block (w.heap.size+1) (Array.getElem?_eq_some_iff.1 B2).1 (by simp)).trans B2;have e0x:=jbY B3;have e1x:=frozen_of_row _ (w.heap.size+1) 0 _ _ B3;have h2:=heap_setCell_same _ (w.heap.size+1) 0 _ _ (.int .i64 0) B3;have gs:∀ x:World,x.grownBy (x.setCell ⟨w.heap.size+1,0,none⟩ (.int .i64 0)) (some (w.heap.size+1)):=fun x=>⟨rfl,rfl,rfl,by simp [World.setCell],fun k _ hk=>Below.heap_setCell _ _ _ _ (fun e=>hk (by rw [e]))⟩
      have gy:=gs (((w1.setCell ⟨w.heap.size,0,none⟩ (.string out)).setCell ⟨w.heap.size,1,none⟩ (.int .i64 rr.1)).setCell ⟨w.heap.size,2,none⟩ (.slice s1 s2 s3));have h1:=(gy.block w.heap.size (Array.getElem?_eq_some_iff.1 hX).1 (by simp)).trans hX;have gf:=jaG (jaG (jaa g0.out hg) gX (Nat.le_refl _)) gy (by omega);have hb:w.heap.size+2≤w0.heap.size:=by have:=(Array.getElem?_eq_some_iff.1 (BX.out w0 (jad _)).2).1;omega
      have hne:∀ B,B<w.heap.size+2→(Sl.v ⟨s1,s2,s3⟩).ownBlock=none∨(Sl.v ⟨s1,s2,s3⟩).ownBlock≠some B:=fun B hB=>by
       rcases ho.1.2 with ⟨e,-⟩ | ⟨gg,cap',cur,e,hgg,-⟩
       ·exact .inl (by rw [e];rfl)
       ·exact .inr (by rw [e];simp [Value.ownBlock];omega)
      have HO:=jac ((((ho.base_le (b':=w.heap.size) (by omega)).more gX (hne _ (by omega))).more gy (hne _ (by omega))));have GF:=jac gf;have H1x:=jac h1;have H2x:=jac h2;clear gs gy h1 h2 gf hX gX hne;go_wp2;refine leaves_cons (f:=68) (args:=#[.pointer (some ⟨w.heap.size+1,0,none⟩)]) (by simp) (by simp [go_sem]) ?_;refine (jml ⟨w.heap.size+1,0,none⟩ _).mono ?_;rintro e u' w'' ⟨rfl,rfl,rfl⟩;have k0:=(cell_of_row _ _ 0 _ _ (0,0) H1x.out).trans rfl;have k1:=(cell_of_row _ _ 1 _ _ (0,0) H1x.out).trans rfl;have k2:=(cell_of_row _ _ 2 _ _ (0,0) H1x.out).trans rfl;have k3:=(cell_of_row _ _ 0 _ _ (0,0) H2x.out).trans rfl;obtain ⟨wf,hwf⟩ : ∃ wf,wf=((((w1.setCell ⟨w.heap.size,0,none⟩ (.string out)).setCell ⟨w.heap.size,1,none⟩ (.int .i64 rr.1)).setCell ⟨w.heap.size,2,none⟩ (.slice s1 s2 s3)).setCell ⟨w.heap.size+1,0,none⟩ (.int .i64 0)):=⟨_,rfl⟩
      have hO:=HO.out;have hG:=GF.out;rw [← hwf] at k0 k1 k2 k3 hO hG ⊢;clear hwf H1x H2x B1 B2 B3 HO GF c0 c1 c2 f0 f1 f2 e0 e1 e0x e1x;simp [Leaves,settle,results,Tryz.results46,go_sem,k0,k1,k2,k3];exact ⟨hG,⟨s1,s2,s3⟩,rfl,hO⟩
theorem jbT (w:World) (o o' o2:Obj):(((w.alloc o).alloc o').alloc o2).heap[w.heap.size]?=some o∧(((w.alloc o).alloc o').alloc o2).heap[w.heap.size+1]?=some o'∧(((w.alloc o).alloc o').alloc o2).heap[w.heap.size+2]?=some o2:=by
 obtain ⟨h1,h2⟩:=jbi w o o';have g:=jab ((w.alloc o).alloc o') o2;refine ⟨jag h1 g,jag h2 g,?_⟩;have h3:=heap_alloc_new ((w.alloc o).alloc o') o2;simpa using h3
theorem jeO {fn : Func} {p u : Tmp} (h : fn.results = #[.cell p 53, .tmp u]) (tmps : Array Value) (w : World) (B : Nat) (hp : tmps.getD p undef = .pointer (some ⟨B, 0, none⟩)) {a0 a1 a2 : Value}
    (hb:w.heap[B]?=some (.cells #[a0,a1,a2] 53 (0,0))):(results fn tmps).run Tryz.prog w=.ok (.tuple #[.agg #[a0,a1,a2],tmps.getD u undef]) w:=by
     have hl:=run_loadVar_row (P:=Tryz.prog) w B _ 53 #[a0,a1,a2] (0,0) _ hb Tryz.underlying53 rfl (by rw [joN];rfl);rw [results_cell_tmp h,hp];simp [asAddr,hl,Result.andThen]
theorem jtC (n:Nod) (u:Sl) (r:R (Int×List Int)) (w:World) (VO:∀ wx,w.grownBy wx none→Calls Tryz.prog 48 #[jaz n,.slice u.a u.n u.c] wx (jaJ wx r (ValQ n.out wx.heap.size))) :
    Calls Tryz.prog 27 #[jaz n,.slice u.a u.n u.c] w (jsk n.out w r):=by
     have hmf:∀ (fn:Fn) (first cap:Array Value) (w:World),(Instr.makeFunc fn first cap).run Tryz.prog w=.ok (.func fn first cap) w:=fun _ _ _ _=>rfl;have HVO:=jac VO;obtain ⟨w0,hw0⟩ : ∃ w0,w0=((w.alloc (.cells #[.string n.op,.string n.name,.slice n.iv.a n.iv.n n.iv.c,.string n.out,.slice n.av.a n.av.n n.av.c] 25)).alloc (.cells #[.slice u.a u.n u.c] 66)).alloc (.cells #[.string ⟨#[]⟩,.int .i64 0,.slice none 0 0] 53):=⟨_,rfl⟩
     have g0:Hid (w.grownBy w0 none):=by show w.grownBy w0 none;rw [hw0];exact jaa (jaa (jab _ _) (jab _ _)) (jab _ _)
     have hbx:=jbT w (.cells #[.string n.op,.string n.name,.slice n.iv.a n.iv.n n.iv.c,.string n.out,.slice n.av.a n.av.n n.av.c] 25) (.cells #[.slice u.a u.n u.c] 66) (.cells #[.string ⟨#[]⟩,.int .i64 0,.slice none 0 0] 53);rw [← hw0] at hbx;have AT:=jac (jkl n.out r w0 w.heap.size (w.heap.size+1) (fun wx hx=>jre n u r wx w.heap.size (w.heap.size+1) (jag hbx.1 hx) (jag hbx.2.1 hx) (fun wy hy=>HVO.out wy (jaa g0.out (jaa hx hy)))));have BX:Hid (∀ wx,w0.grownBy wx none→wx.heap[w.heap.size+2]?=some (.cells #[.string ⟨#[]⟩,.int .i64 0,.slice none 0 0] 53 (0,0))):=fun wx hg=>jag hbx.2.2 hg;clear VO HVO hbx;obtain ⟨op,nam,⟨ia,il,ic⟩,out,⟨ao,al,cap⟩⟩:=n;obtain ⟨ua,un,uc⟩:=u;unfold jaz;simp only at AT hw0 ⊢;go_enter Tryz.func27,Tryz.ntmps27;go_wp2_with fail;rw [← hw0];clear hw0;refine AT.out.mono ?_;have fin:∀ (w1:World) (a0 a1 a2:Value),w0.grownBy w1 none→(((w1.setCell ⟨w.heap.size+2,0,none⟩ a0).setCell ⟨w.heap.size+2,1,none⟩ a1).setCell ⟨w.heap.size+2,2,none⟩ a2).heap[w.heap.size+2]?=some (.cells #[a0,a1,a2] 53 (0,0))∧w1.grownBy (((w1.setCell ⟨w.heap.size+2,0,none⟩ a0).setCell ⟨w.heap.size+2,1,none⟩ a1).setCell ⟨w.heap.size+2,2,none⟩ a2) (some (w.heap.size+2)):=fun w1 a0 a1 a2 hg=>jb0 a0 a1 a2 (BX.out w1 hg);have FIN:=jac fin;clear fin;rintro e w1 ⟨hg,hq⟩;have B1:=BX.out w1 hg;obtain ⟨f0,f1,f2⟩:=jbf B1;have c0:=(cell_of_row _ _ 0 _ _ (0,0) B1).trans rfl;have c1:=(cell_of_row _ _ 1 _ _ (0,0) B1).trans rfl;have c2:=(cell_of_row _ _ 2 _ _ (0,0) B1).trans rfl;have HG:=jac hg;clear B1 hg
     cases r with
     | error c =>
      obtain rfl:=hq;obtain ⟨hX,gX⟩:=FIN.out w1 (.string ⟨#[]⟩) (.int .i64 0) (.slice none 0 0) HG.out;have HX:=jac hX;have GX:=jac (jaG (jaa g0.out HG.out) gX (by omega));clear hX gX;go_wp2;refine bodyPost_ret (jeO rfl _ _ (w.heap.size+2) rfl HX.out) rfl ?_;exact ⟨GX.out,rfl⟩
     | ok rr =>
      obtain ⟨⟨s1,s2,s3⟩,rfl,ho⟩:=hq;obtain ⟨hX,gX⟩:=FIN.out w1 (.string out) (.int .i64 rr.1) (.slice s1 s2 s3) HG.out;have hb:w.heap.size+3≤w0.heap.size:=by have:=(Array.getElem?_eq_some_iff.1 (BX.out w0 (jad _))).1;omega
      have HO:=jac ((ho.base_le (b':=w.heap.size) (by omega)).more gX (by
       rcases ho.1.2 with ⟨e,-⟩ | ⟨gg,cap',cur,e,hgg,-⟩
       ·exact .inl (by rw [e];rfl)
       ·exact .inr (by rw [e];simp [Value.ownBlock];omega)))
      have HX:=jac hX;have GX:=jac (jaG (jaa g0.out HG.out) gX (by omega));clear hX gX ho;simp only;go_wp2;refine bodyPost_ret (jeO rfl _ _ (w.heap.size+2) rfl HX.out) rfl ?_;exact ⟨GX.out,⟨s1,s2,s3⟩,rfl,HO.out⟩
end Go.Proofs.YteigfipgmghgmaaGreatDoor
namespace Go.Proofs.YteigfipgmghgmaaGreatDoor
open Go.RowKit
structure Ten where
 ty:Int
 dv:Sl
 tv:Sl
abbrev Tq:=List Int×List Int
def jdo (t:Ten):List Value:=[.int .i64 t.ty,.slice t.dv.a t.dv.n t.dv.c,.slice t.tv.a t.tv.n t.tv.c]
theorem je9 (t:Ten):(jdo t).length=3:=rfl
abbrev juL (w:World) (v:Value) (ts:List Ten):Prop:=IsL 56 3 jdo w v ts
def jpY (t:Ten):Value:=.agg #[.int .i64 t.ty,.slice t.dv.a t.dv.n t.dv.c,.slice t.tv.a t.tv.n t.tv.c]
structure TensIn (w:World) (v:Value) (ps:List (Ten×Tq)):Prop where
 vals:juL w v (ps.map (·.1))
 has:∀ p∈ps,IsInts w p.1.dv.v p.2.1∧IsInts w p.1.tv.v p.2.2
theorem TensIn.more {w w':World} {v:Value} {ps:List (Ten×Tq)} (h:TensIn w v ps) (hg:w.grownBy w' none):TensIn w' v ps:=⟨h.vals.more hg,fun p hp=>⟨(h.has p hp).1.more hg,(h.has p hp).2.more hg⟩⟩
theorem TensIn.at {w:World} {b off n c:Nat} {ps:List (Ten×Tq)} (h:TensIn w (.slice (some ⟨b,off,none⟩) n c) ps) (k:Nat) (hk:k<ps.length):w.cell? ⟨b,off+k*3,none⟩=some (.int .i64 ps[k].1.ty)∧w.cell? ⟨b,off+k*3+1,none⟩=some (.slice ps[k].1.dv.a ps[k].1.dv.n ps[k].1.dv.c)∧w.cell? ⟨b,off+k*3+2,none⟩=some (.slice ps[k].1.tv.a ps[k].1.tv.n ps[k].1.tv.c):=by
 have hk':k<(ps.map (·.1)).length:=by rw [List.length_map];exact hk
 have h0:=h.vals.at k hk' 0 (by omega);have h1:=h.vals.at k hk' 1 (by omega);have h2:=h.vals.at k hk' 2 (by omega);rw [List.getElem_map] at h0 h1 h2;exact ⟨h0,h1,h2⟩
def okT (p:Ten×Tq):Bool:=pbE p.1.ty p.2.1 p.2.2==0
def jde (ps:List (Ten×Tq)) (r:R (Int×List Int)):R (Int×List Int):=if ps.all okT=true then r else .error 1
theorem joS {ps:List (Ten×Tq)} {r:R (Int×List Int)} {k:Nat} (hk:k<ps.length) (h:okT ps[k]=false):jde ps r=.error 1:=by
 unfold jde;rw [if_neg];intro e;rw [List.all_eq_true] at e;rw [e ps[k] (List.getElem_mem hk)] at h
 cases h
theorem jmm {ps:List (Ten×Tq)} {r:R (Int×List Int)} (h:(ps.take ps.length).all okT=true):jde ps r=r:=by
 unfold jde;rw [List.take_of_length_le (Nat.le_refl _)] at h;rw [if_pos h]
theorem jrf:(Tryz.prog.info? 53).map (fun i=>(i.zero,i.size,i.bytes))=some (some (.agg #[.string ⟨#[]⟩,.int .i64 0,.slice none 0 0]),3,48):=by kernel_rfl
theorem jmn (v:Val):∀ u∈jee v,u.oneCell'=true:=by
 intro u hu;simp only [jee,List.mem_cons,List.not_mem_nil,or_false] at hu
 rcases hu with rfl | rfl | rfl <;> rfl
theorem jh9 {out:ByteArray} {w w':World} {X Y:R (Int×List Int)} {e:Ending} (h:X=Y) (hq:jsk out w Y e w'):jsk out w X e w':=by rw [h];exact hq
def jeh (p:Ten×Tq):Val:=⟨⟨#[]⟩,p.1.ty,p.1.dv⟩
theorem jdJ {α:Type} {te:TypeId} {size n:Nat} {f:α→List Value} {w:World} {base:Nat} {v:Value} {xs:List α} (h:jaW te size f w base v xs) (hn:xs.length=n):w.ownsRow base te size v n (xs.flatMap f):=by
 subst hn;exact h
theorem jdK {α:Type} {te:TypeId} {size n:Nat} {f:α→List Value} {w:World} {base:Nat} {v:Value} {xs:List α} {y:α} (hn:xs.length=n) (h:w.ownsRow base te size v (n+1) (xs.flatMap f++f y)):jaW te size f w base v (xs++[y]):=by
 subst hn;unfold jaW;rw [List.length_append,List.flatMap_append];simpa using h
theorem jf1 (n : Nod) (u : Sl) (ps : List (Ten × Tq)) (R0 : R (Int × List Int)) (w : World) (hv : TensIn w u.v ps) (hl : ps.length ≤ 1000000)
    (OC:∀ (wx:World) (s:Sl) (vs:List (Val×List Int)),w.grownBy wx none→ValsIn wx s.v vs→vs.map (·.1.ty)=ps.map (·.1.ty)→vs.map (·.2)=ps.map (·.2.1)→Calls Tryz.prog 27 #[jaz n,.slice s.a s.n s.c] wx (jsk n.out wx R0)) :
    Calls Tryz.prog 20 #[jaz n,.slice u.a u.n u.c] w (jsk n.out w (jde ps R0)):=by
     obtain ⟨i0,hi,hz0,hz1,hz2⟩:=info_parts jrf;obtain ⟨xa,xc,e1,p1,p2,p3⟩:=hv.vals.form;rw [List.length_map] at e1 p1 p3;obtain ⟨ua,un,uc⟩:=u;simp only [Sl.v,Value.slice.injEq] at e1;obtain ⟨rfl,rfl,rfl⟩:=e1;have HV:=jac hv;have HOC:=jac OC;clear hv OC;obtain ⟨w0,hw0⟩ : ∃ w0,w0=(w.alloc (.cells #[.string n.op,.string n.name,.slice n.iv.a n.iv.n n.iv.c,.string n.out,.slice n.av.a n.av.n n.av.c] 25)).alloc (.cells #[.string ⟨#[]⟩,.int .i64 0,.slice none 0 0] 53):=⟨_,rfl⟩
     have g0:Hid (w.grownBy w0 none):=by show w.grownBy w0 none;rw [hw0];exact jaa (jab _ _) (jab _ _)
     have hbx:=jbi w (.cells #[.string n.op,.string n.name,.slice n.iv.a n.iv.n n.iv.c,.string n.out,.slice n.av.a n.av.n n.av.c] 25) (.cells #[.string ⟨#[]⟩,.int .i64 0,.slice none 0 0] 53);rw [← hw0] at hbx;have BN:Hid (∀ wx,w0.grownBy wx none→wx.heap[w.heap.size]?=some (.cells #[.string n.op,.string n.name,.slice n.iv.a n.iv.n n.iv.c,.string n.out,.slice n.av.a n.av.n n.av.c] 25 (0,0))):=fun wx hg=>jag hbx.1 hg;have BX:Hid (∀ wx,w0.grownBy wx none→wx.heap[w.heap.size+1]?=some (.cells #[.string ⟨#[]⟩,.int .i64 0,.slice none 0 0] 53 (0,0))):=fun wx hg=>jag hbx.2 hg;have Z0:Hid (w.heap.size+1<w0.heap.size):=(Array.getElem?_eq_some_iff.1 hbx.2).1;clear hbx;obtain ⟨op,nam,⟨ia,il,ic⟩,out,⟨ao,al,cap⟩⟩:=n;unfold jaz at HOC ⊢;simp only at HOC BN hw0 ⊢;go_enter Tryz.func20,Tryz.ntmps20;go_wp2_with fail;rw [← hw0];clear hw0;go_loopw [6,11] (fun l i wr=>w0.grownBy wr none∧∃ (k:Nat) (va:Option Addr) (vc:Nat),k≤ps.length∧i=.int .i64 k∧l=.slice va k vc∧(ps.take k).all okT=true∧jaW 53 3 jee wr w0.heap.size (.slice va k vc) ((ps.take k).map jeh)) (fun _ i _=>ps.length - (intOf i).toNat)
     case atStart=>exact ⟨jad _,0,none,0,Nat.zero_le _,rfl,rfl,rfl,jaW.nil ..⟩
     case round =>
      obtain ⟨hg,k,va,vc,hk,rfl,rfl,hall,hown⟩:=hrel;have HG:=jac hg;have HO:=jac hown;have HAL:=jac hall;clear hown hall
      by_cases hlt:k<ps.length
      ·obtain ⟨b,off,rfl⟩:=HV.out.vals.addr (k:=k) (by rw [List.length_map];exact hlt);obtain ⟨a0,a1,a2⟩:=(HV.out.more (jaa g0.out hg)).at k hlt;have HH:=jac (HV.out.has ps[k] (List.getElem_mem hlt))
       have HT:Hid ((ps.take (k+1)).all okT=((ps.take k).all okT&&okT ps[k])):=by
        show _=_;rw [List.take_add_one,List.all_append,List.getElem?_eq_getElem hlt];simp
       have HM:Hid ((ps.take (k+1)).map jeh=(ps.take k).map jeh++[jeh ps[k]]):=by
        show _=_;rw [List.take_add_one,List.map_append,List.getElem?_eq_getElem hlt]
        rfl
       have HBAD:Hid (okT ps[k]=false→jde ps R0=.error 1):=fun h=>joS hlt h;obtain ⟨p,hp⟩ : ∃ p,p=ps[k]:=⟨_,rfl⟩
       rw [← hp] at a0 a1 a2 HH HT HM HBAD;obtain ⟨⟨ty,⟨da,dn,dc⟩,⟨ta,tn,tc⟩⟩,⟨ds,ts⟩⟩:=p;simp only at a0 a1 a2 HH;obtain ⟨w1,hw1⟩ : ∃ w1,w1=wr.alloc (.cells #[.int .i64 ty,.slice da dn dc,.slice ta tn tc] 32):=⟨_,rfl⟩
       have B1:=heap_alloc_new wr (.cells #[.int .i64 ty,.slice da dn dc,.slice ta tn tc] 32);have c0:=(cell_of_row _ _ 0 _ _ (0,0) B1).trans rfl;have c1:=(cell_of_row _ _ 1 _ _ (0,0) B1).trans rfl;have c2:=(cell_of_row _ _ 2 _ _ (0,0) B1).trans rfl;rw [← hw1] at B1;have BT:=jac B1;have g1:Hid (wr.grownBy w1 none):=by show wr.grownBy w1 none;rw [hw1];exact jab _ _
       have PC:=jac (jfG ty _ _ ds ts w1 ((HH.out.1.more (jaa g0.out hg)).more g1.out) ((HH.out.2.more (jaa g0.out hg)).more g1.out));simp only [Sl.v] at PC;clear B1 hp hg;go_wp2_with fail;rw [← hw1];clear hw1 a0 a1 a2 c0 c1 c2;refine PC.out.mono ?_;rintro e w2 ⟨rfl,hg2⟩;have G2:=jac (jaa (jaa HG.out g1.out) hg2)
       by_cases hok:pbE ty ds ts=0
       ·have bo:(pbE ty ds ts != 0)=false:=by simp [hok]
        have HOK:=jac hok;have B2:=jag BT.out hg2;have c0:=(cell_of_row _ _ 0 _ _ (0,0) B2).trans rfl;have c1:=(cell_of_row _ _ 1 _ _ (0,0) B2).trans rfl;have KL:Hid (((ps.take k).map jeh).length=k):=by show _=_;rw [List.length_map,List.length_take];omega
        have OW:Hid (∀ o,(w2.alloc o).ownsRow w0.heap.size 53 3 (.slice va k vc) k (((ps.take k).map jeh).flatMap jee)):=fun o=>jdJ ((HO.out.more (jaa g1.out hg2)).more (jab _ _)) KL.out;have hsz:w0.heap.size≤w2.heap.size:=G2.out.size;clear hok B2 hg2 PC;go_wp2_with (at_builtin;refine wpList_append_lies _ rfl (.tmp 19) (.tmp 25) 66 rfl w0.heap.size 53 i0 (.agg #[.string ⟨#[]⟩,.int .i64 0,.slice none 0 0]) 3 48 Tryz.underlying66 hi hz0 hz1 hz2 rfl (by decide) (.slice va k vc) k (((ps.take k).map jeh).flatMap jee) rfl (by exact OW.out _) ⟨w2.heap.size,0,none⟩ 1 1 (jee ⟨⟨#[]⟩,ty,⟨da,dn,dc⟩⟩) rfl rfl (by exact World.news_of_block (by have h:=heap_alloc_new w2 (.cells #[.string ⟨#[]⟩,.int .i64 ty,.slice da dn dc] 53);simpa using h)) (jmn _) (by omega) (by simp only [maxLen];omega) (by omega) (by simp;omega) (w2.heap.size+1) (by simp) ?_;intro gg cap8 w8 hown8 hgrow hat hlt8);have ST:Hid (w0.grownBy w8 none∧jaW 53 3 jee w8 w0.heap.size (.slice (some ⟨gg,0,none⟩) (k+1) cap8) ((ps.take (k+1)).map jeh)∧(ps.take (k+1)).all okT=true):=⟨jan (jaa G2.out (jab _ _)) hgrow (fun r e=>(World.ownsRow.lt HO.out r e).1),by rw [HM.out];exact jdK KL.out hown8,by rw [HT.out,HAL.out];simp [okT,HOK.out]⟩
        clear hown8 hgrow hat hlt8 c0 c1;go_wp2_with fail;go_roundw
        case rel=>exact ⟨ST.out.1,k+1,_,_,by omega,by go_num,rfl,ST.out.2.2,ST.out.2.1⟩
        case measure=>simp [intOf];omega
       ·have bo:(pbE ty ds ts != 0)=true:=by simpa using hok
        have E:Hid (jde ps R0=.error 1):=HBAD.out (by simpa [okT] using hok);have B1:=BX.out w2 G2.out;obtain ⟨f0,f1,f2⟩:=jbf B1;have c0:=(cell_of_row _ _ 0 _ _ (0,0) B1).trans rfl;have c1:=(cell_of_row _ _ 1 _ _ (0,0) B1).trans rfl;have c2:=(cell_of_row _ _ 2 _ _ (0,0) B1).trans rfl;obtain ⟨hX,gX⟩:=jb0 (.string ⟨#[]⟩) (.int .i64 0) (.slice none 0 0) B1;have HX:=jac hX;have GX:=jac (jaG (jaa g0.out G2.out) gX (by omega));clear hX gX B1 hok hg2;go_wp2;refine bodyPost_ret (jeO rfl _ _ (w.heap.size+1) rfl HX.out) rfl ?_;exact jh9 E.out ⟨GX.out,rfl⟩
      ·obtain rfl:k=ps.length:=by omega
       have E:=jac (jmm (r:=R0) HAL.out);have HOF:=HO.out;rw [List.take_of_length_le (Nat.le_refl _)] at HOF
       have VI:ValsIn wr (Sl.v ⟨va,ps.length,vc⟩) (ps.map (fun p=>(jeh p,p.2.1))):=⟨by rw [List.map_map];exact HOF.isL (bytes:=48) jlP (by rw [List.length_map];omega),fun q hq=>by
        obtain ⟨p,hp,rfl⟩:=List.mem_map.1 hq;exact ((HV.out.has p hp).1).more (jaa g0.out hg)⟩
       have O1:=jac (HOC.out wr ⟨va,ps.length,vc⟩ _ (jaa g0.out hg) VI (by rw [List.map_map];rfl) (by rw [List.map_map];rfl));obtain ⟨n0,n1,n2,n3,n4⟩:=jak (n:=⟨op,nam,⟨ia,il,ic⟩,out,⟨ao,al,cap⟩⟩) (BN.out wr hg);clear HOF VI hg;simp only at O1;go_wp2_with fail;refine O1.out.mono ?_;rintro e w1 ⟨hg1,hq⟩;have B1:=BX.out w1 (jaa HG.out hg1);obtain ⟨f0,f1,f2⟩:=jbf B1;have c0:=(cell_of_row _ _ 0 _ _ (0,0) B1).trans rfl;have c1:=(cell_of_row _ _ 1 _ _ (0,0) B1).trans rfl;have c2:=(cell_of_row _ _ 2 _ _ (0,0) B1).trans rfl;have G1:=jac (jaa (jaa g0.out HG.out) hg1);have HG1:=jac hg1;have FB:=jac (fun (a0 a1 a2:Value)=>jb0 a0 a1 a2 B1);clear hg1 B1 n0 n1 n2 n3 n4
       cases R0 with
       | error c =>
        obtain rfl:=hq;obtain ⟨hX,gX⟩:=FB.out (.string ⟨#[]⟩) (.int .i64 0) (.slice none 0 0);have HX:=jac hX;have GX:=jac (jaG G1.out gX (by omega));clear hX gX;go_wp2;refine bodyPost_ret (jeO rfl _ _ (w.heap.size+1) rfl HX.out) rfl ?_;exact jh9 E.out ⟨GX.out,rfl⟩
       | ok rr =>
        obtain ⟨⟨s1,s2,s3⟩,rfl,ho⟩:=hq;obtain ⟨hX,gX⟩:=FB.out (.string out) (.int .i64 rr.1) (.slice s1 s2 s3);have hsz:=HG.out.size;have hz:=Z0.out
        have HO2:=jac ((ho.base_le (b':=w.heap.size) (by have:=g0.out.size;omega)).more gX (by
         rcases ho.1.2 with ⟨e,-⟩ | ⟨gg,cap',cur,e,hgg,-⟩
         ·exact .inl (by rw [e];rfl)
         ·exact .inr (by rw [e];simp [Value.ownBlock];omega)))
        have HX:=jac hX;have GX:=jac (jaG G1.out gX (by omega));clear hX gX ho hsz hz;simp only;go_wp2;refine bodyPost_ret (jeO rfl _ _ (w.heap.size+1) rfl HX.out) rfl ?_;exact jh9 E.out ⟨GX.out,⟨s1,s2,s3⟩,rfl,HO2.out⟩
end Go.Proofs.YteigfipgmghgmaaGreatDoor
namespace Go.Proofs.YteigfipgmghgmaaGreatDoor
open Go.RowKit
def jbW (w:World) (base:Nat) (v:Value) (zs:List Int):Prop :=
 w.ownsRow base 2 1 v zs.length (zs.map (Value.int .i64))∧zs.length*8≤140737488351232∧(∀ z∈zs,-9223372036854775808≤z∧z≤9223372036854775807)
theorem jbW.ints {w:World} {base:Nat} {v:Value} {zs:List Int} (h:jbW w base v zs):IsInts w v zs:=by
 obtain ⟨hr,hle,hwf⟩:=h;have hr0:=hr
 rcases hr.2 with ⟨rfl,h0⟩ | ⟨g,cap,cur,rfl,_,_,hnc,hcm,_,_⟩
 ·obtain rfl:zs=[]:=List.length_eq_zero_iff.1 h0;exact ⟨none,0,rfl,by simp,by simp,by simp,fun _=>⟨rfl,rfl⟩,fun h=>by simp at h,fun z hz=>by simp at hz⟩
 ·refine ⟨_,cap,rfl,hnc,by simpa [maxLen] using hcm,hle,(fun h=>by cases h),fun _=>⟨g,0,rfl,fun t ht=>?_⟩,hwf⟩;rw [Nat.zero_add,hr0.cellAt t (by omega)];simp [List.getD,ht]
theorem jbW.more {w w':World} {base:Nat} {v:Value} {zs:List Int} (h:jbW w base v zs) {row:Option Nat} (hg:w.grownBy w' row) (hne:v.ownBlock=none∨v.ownBlock≠row):jbW w' base v zs:=⟨h.1.kept hg hne,h.2⟩
theorem jbW.put {w:World} {base g n c:Nat} {zs:List Int} (h:jbW w base (.slice (some ⟨g,0,none⟩) n c) zs) (hn:zs.length=n) {k:Nat} (hk:k<n) (z:Int) (hz : -9223372036854775808≤z∧z≤9223372036854775807) :
    w.cell? ⟨g,k,none⟩=some (.int .i64 (zs.getD k 0))∧w.frozen? ⟨g,k,none⟩=false∧jbW (w.setCell ⟨g,k,none⟩ (.int .i64 z)) base (.slice (some ⟨g,0,none⟩) n c) (zs.set k z)∧w.grownBy (w.setCell ⟨g,k,none⟩ (.int .i64 z)) (some g):=by
     subst hn;have hr:=h.1;obtain ⟨s1,s2⟩:=hr.stored k (.int .i64 z);refine ⟨?_,hr.frozenAt k,⟨?_,by rw [List.length_set];exact h.2.1,fun y hy=>?_⟩,s2⟩
     ·rw [hr.cellAt k (by omega)];simp [List.getD,hk]
     ·rw [List.length_set,List.map_set];exact s1
     ·rcases List.mem_or_eq_of_mem_set hy with hy | rfl
      ·exact h.2.2 y hy
      ·exact hz
theorem jf2 {w:World} {base n:Nat} {v:Value} (hn:n≤1000000) (h:w.ownsRow base 2 1 v n ((List.replicate n (0:Int)).map (Value.int .i64))):jbW w base v (List.replicate n 0):=by
 refine ⟨by rw [List.length_replicate];exact h,by rw [List.length_replicate];omega,fun z hz=>?_⟩;rw [(List.mem_replicate.1 hz).2];omega
def jdL (s:Sl):List Value:=[.slice s.a s.n s.c]
theorem jmo (s:Sl):(jdL s).length=1:=rfl
abbrev juM (w:World) (v:Value) (cs:List Sl):Prop:=IsL 24 1 jdL w v cs
def jc0 (cols:List (Sl×List Int)) (k:Nat):List Int:=cols.map (fun c=>c.2.getD k 0)
def evE (F:List Int→Int×Int) (cols:List (Sl×List Int)):Nat→Nat→R (List Int)
 | _,0=>.ok []
 | k,m+1=>if (F (jc0 cols k)).2=0 then (evE F cols (k+1) m).map ((F (jc0 cols k)).1::·) else .error (F (jc0 cols k)).2
def EvQ (w:World) (r:R (List Int)) (e:Ending) (w':World):Prop:=w.grownBy w' none∧match r with
 | .ok l=>∃ u:Sl,e=.returned (.tuple #[.slice u.a u.n u.c,.int .i64 0])∧jbW w' w.heap.size u.v l
 | .error c=>e=.returned (.tuple #[.slice none 0 0,.int .i64 c])
theorem joT {w w':World} {r:R (List Int)} {c:Int} (h:r=.error c) (hg:w.grownBy w' none):EvQ w r (.returned (.tuple #[.slice none 0 0,.int .i64 c])) w':=by rw [h];exact ⟨hg,rfl⟩
theorem juN {w w':World} {r:R (List Int)} {l:List Int} {e:Ending} (h:r=.ok l) (hg:w.grownBy w' none) (hq:∃ u:Sl,e=.returned (.tuple #[.slice u.a u.n u.c,.int .i64 0])∧jbW w' w.heap.size u.v l):EvQ w r e w':=by rw [h];exact ⟨hg,hq⟩
theorem jrg {l:List Int} {k:Nat} (hk:k<l.length):l.getD k 0∈l:=by
 rw [List.getD,List.getElem?_eq_getElem hk];exact List.getElem_mem hk
theorem jrh {F:List Int→Int×Int} {cols:List (Sl×List Int)} {k n:Nat} (hk:k<n):evE F cols k (n - k)=if (F (jc0 cols k)).2=0 then (evE F cols (k+1) (n - (k+1))).map ((F (jc0 cols k)).1::·) else .error (F (jc0 cols k)).2:=by
 rw [show n - k=(n - (k+1))+1 from by omega]
 rfl
theorem jtD:(Tryz.prog.info? 2).map (fun i=>(i.zero,i.size,i.bytes))=some (some (.int .i64 0),1,8):=by kernel_rfl
end Go.Proofs.YteigfipgmghgmaaGreatDoor
namespace Go.Proofs.YteigfipgmghgmaaGreatDoor
open Go.RowKit
def jri (r:Int×Int) (w:World) (e:Ending) (w':World):Prop:=e=.returned (.tuple #[.int .i64 r.1,.int .i64 r.2])∧(r.2=0 → -9223372036854775808≤r.1∧r.1≤9223372036854775807)∧∃ q,w'=w.drewN q
def CloX (F:List Int→Int×Int) (xs:List Int) (w:World) (e:Ending) (w':World):Prop:=jri (F xs) w e w'
theorem joU (cv : Sl) (cols : List (Sl × List Int)) (n m : Nat) (F : List Int → Int × Int) (fn : Nat) (cap : Array Value) (w : World) (hc : juM w cv.v (cols.map (·.1))) (hi : ∀ c ∈ cols, IsInts w c.1.v c.2 ∧ c.2.length = n) (hm : cols.length = m) (hm0 : 0 < m) (hm1 : m ≤ 1000) (hn : n ≤ 65536)
    (CF:∀ (args:Array Value) (wx:World),(callFunc fn args).run Tryz.prog wx=.ok (.enter fn args) wx)
    (WC:∀ (wx:World) (B:Nat) (xs:List Int),w.grownBy wx none→xs.length=m→IsInts wx (.slice (some ⟨B,0,none⟩) m m) xs→Calls Tryz.prog fn (#[.slice (some ⟨B,0,none⟩) m m]++cap) wx (CloX F xs wx)) :
    Calls Tryz.prog 24 #[.slice cv.a cv.n cv.c,.func (.func fn) #[] cap] w (EvQ w (evE F cols 0 n)):=by
     obtain ⟨i0,hi0,hz0,hz1,hz2⟩:=info_parts jtD;obtain ⟨xa,xc,e1,q1,q2,q3⟩:=hc.form;rw [List.length_map,hm] at e1 q1 q3;obtain ⟨ca,cn,cc⟩:=cv;simp only [Sl.v,Value.slice.injEq] at e1;obtain ⟨rfl,hcn,rfl⟩:=e1
     replace hcn:=hcn.symm
     subst hcn;obtain ⟨b,off,rfl⟩:=hc.addr (k:=0) (by rw [List.length_map];omega);have HC:=jac hc;have HI:=jac hi;have HM:=jac hm;have HWC:=jac WC;have HCF:=jac CF;have c0:=hc.at 0 (by rw [List.length_map];omega) 0 (by omega);rw [List.getElem_map] at c0;have hlen:=(hi cols[0] (List.getElem_mem (by omega))).2;have hsl:=(hi cols[0] (List.getElem_mem (by omega))).1.sl;obtain ⟨sx,sc,es,-,-,-⟩:=hsl;rw [hlen] at es;obtain ⟨⟨s0a,s0n,s0c⟩,hs0⟩ : ∃ s0:Sl,s0=cols[0].1:=⟨_,rfl⟩
     rw [← hs0] at c0 es;simp only [Sl.v,Value.slice.injEq] at es;obtain ⟨rfl,hsn,rfl⟩:=es
     replace hsn:=hsn.symm
     subst hsn;have c0':w.cell? ⟨b,off,none⟩=some (.slice s0a n s0c):=by simpa [jdL] using c0
     clear c0 hs0 hlen hc hi hm WC CF;have hb4:i0.bytes*n≤281474976710656:=by rw [hz2];omega
     have hb5:n≤maxLen:=by simp only [maxLen];omega
     have hb6:i0.bytes*m≤281474976710656:=by rw [hz2];omega
     have hb7:m≤maxLen:=by simp only [maxLen];omega
     go_enter Tryz.func24,Tryz.ntmps24;go_wp2_with (first | (refine wpList_make_full _ rfl (.tmp 16) (.tmp 16) 30 rfl w.heap.size 2 i0 (.int .i64 0) 1 Tryz.underlying30 hi0 hz0 hz1 .i64 .i64 _ _ n rfl rfl rfl rfl hb4 hb5 (Nat.le_refl _) ?_;intro w1 hown1 hg1) | (refine wpList_make_full _ rfl (.tmp 19) (.tmp 19) 30 rfl w.heap.size 2 i0 (.int .i64 0) 1 Tryz.underlying30 hi0 hz0 hz1 .i64 .i64 _ _ m rfl rfl rfl rfl hb6 hb7 hg1.size ?_;intro w2 hown2 hg2));rw [jcA] at hown1 hown2;have O1:=jac ((jf2 (by omega) hown1).more hg2 (.inr (by simp [Value.ownBlock])));have O2:=jac (jf2 (by omega) hown2);have G2:=jac (jaa hg1 hg2);have L1:Hid (w.heap.size<w1.heap.size):=(World.ownsRow.lt hown1 w.heap.size rfl).2;obtain ⟨g2,hg2e⟩ : ∃ g2,g2=w1.heap.size:=⟨_,rfl⟩
     rw [← hg2e] at O2 L1 ⊢;clear hown1 hown2 hg1 hg2 hg2e c0' hb4 hb5 hb6 hb7;go_loopw [23] (fun i wr=>w.grownBy wr none∧∃ (k:Nat) (pre xs:List Int),k≤n∧i=.int .i64 k∧pre.length=k∧xs.length=m∧evE F cols 0 n=(evE F cols k (n - k)).map (pre++·)∧jbW wr w.heap.size (.slice (some ⟨w.heap.size,0,none⟩) n n) (pre++List.replicate (n - k) 0)∧jbW wr w.heap.size (.slice (some ⟨g2,0,none⟩) m m) xs) (fun i _=>n - (intOf i).toNat)
     case atStart=>exact ⟨G2.out,0,[],List.replicate m 0,Nat.zero_le _,rfl,rfl,by simp,by cases evE F cols 0 n <;> rfl,by simpa using O1.out,O2.out⟩
     case round =>
      obtain ⟨hg,k,pre,xs,hk,rfl,hpl,hxl,hev,hod,hox⟩:=hrel;have HG:=jac hg;have HPL:=jac hpl;have HEV:=jac hev;have HOD:=jac hod;have HOX:=jac hox;have HXL:=jac hxl;clear hg hpl hev hod hox hxl
      by_cases hlt:k<n
      ·go_wp2_with fail;go_loopw [28] (fun i wr=>w.grownBy wr none∧∃ (j:Nat) (ys:List Int),j≤m∧i=.int .i64 j∧ys.length=m∧ys.take j=(jc0 cols k).take j∧jbW wr w.heap.size (.slice (some ⟨w.heap.size,0,none⟩) n n) (pre++List.replicate (n - k) 0)∧jbW wr w.heap.size (.slice (some ⟨g2,0,none⟩) m m) ys) (fun i _=>m - (intOf i).toNat)
       case atStart=>exact ⟨HG.out,0,xs,Nat.zero_le _,rfl,HXL.out,rfl,HOD.out,HOX.out⟩
       case round =>
        obtain ⟨hg,j,ys,hj,rfl,hyl,hyt,hod,hox⟩:=hrel;have HG3:=jac hg;have HYL:=jac hyl;have HYT:=jac hyt;have HOD3:=jac hod;have HOX3:=jac hox;clear hyl hyt hod hox
        by_cases hjl:j<m
        ·have hcl:=HM.out;have hj':j<cols.length:=by omega
         have hc1:=(HC.out.more hg).at j (by rw [List.length_map];exact hj') 0 (by omega);rw [List.getElem_map] at hc1;have HCI:=jac (HI.out cols[j] (List.getElem_mem hj'));have HCA:Hid ((jc0 cols k).getD j 0=cols[j].2.getD k 0):=by show _=_;unfold jc0;simp [List.getD,hj']
         obtain ⟨⟨⟨sa,sn,sc⟩,zs⟩,hp⟩ : ∃ p,p=cols[j]:=⟨_,rfl⟩
         rw [← hp] at hc1 HCI HCA;simp only at HCI HCA;have hzl:=HCI.out.2;obtain ⟨zb,zo,ezs,hcz⟩:=HCI.out.1.get (k:=k) (by omega);simp only at ezs;subst ezs;have cz:=jae (hcz k (by omega)) hg
         have snE:sn=n:=by
          obtain ⟨a',c',e,-⟩:=HCI.out.1.sl;simp only [Sl.v,Value.slice.injEq] at e;omega
         replace snE:=snE.symm
         subst snE;have hc2:wr.cell? ⟨b,off+j,none⟩=some (.slice (some ⟨zb,zo,none⟩) n sc):=by simpa [jdL] using hc1
         have hbz:=HCI.out.1.wf (zs.getD k 0) (jrg (by omega));obtain ⟨p1',p2',p3',p4'⟩:=HOX3.out.put HYL.out hjl (zs.getD k 0) hbz;have NX:=jac p3';have GX:=jac (jaG hg p4' (by have:=L1.out;omega));have DX:=jac (HOD3.out.more p4' (.inr (by have:=L1.out;simp [Value.ownBlock];omega)))
         have TX:Hid ((ys.set j (zs.getD k 0)).take (j+1)=(jc0 cols k).take (j+1)):=by
          show _=_;have cl:(jc0 cols k).length=m:=by unfold jc0;rw [List.length_map];exact HM.out
          have yl:=HYL.out;rw [List.take_add_one,List.take_add_one,List.take_set_of_le (Nat.le_refl _),HYT.out,List.getElem?_set_self (by omega),List.getElem?_eq_getElem (by omega),← HCA.out];simp [List.getD,show j<(jc0 cols k).length by omega]
         have k0:(k:Int)<(n:Int):=by omega
         obtain ⟨zk,hzk⟩ : ∃ q,q=zs.getD k 0:=⟨_,rfl⟩
         obtain ⟨yj,hyj⟩ : ∃ q,q=ys.getD j 0:=⟨_,rfl⟩
         rw [← hzk] at cz NX GX DX TX;rw [← hyj] at p1';clear hc1 hp hcz hbz p3' p4' hzk hyj hg hzl hcl;go_wp2;go_roundw
         case rel=>exact ⟨GX.out,j+1,ys.set j zk,by omega,by go_num,by rw [List.length_set];exact HYL.out,TX.out,DX.out,NX.out⟩
         case measure=>simp [intOf];omega
        ·obtain rfl:j=m:=by omega
         have EX:Hid (ys=jc0 cols k):=by
          have h:=HYT.out;have cl:(jc0 cols k).length=j:=by unfold jc0;rw [List.length_map];exact HM.out
          rw [List.take_of_length_le (by have:=HYL.out;omega),List.take_of_length_le (by omega)] at h;exact h
         have WX:=jac (HWC.out wr g2 ys hg HYL.out HOX3.out.ints);rw [EX.out] at WX;obtain ⟨v,hv⟩ : ∃ v,v=(F (jc0 cols k)).1:=⟨_,rfl⟩
         obtain ⟨c,hc⟩ : ∃ c,c=(F (jc0 cols k)).2:=⟨_,rfl⟩
         have HST:=jac (jrh (F:=F) (cols:=cols) hlt);unfold CloX jri at WX;rw [← hv,← hc] at WX HST;clear hv hc hg HYT;go_wp2_with fail;rw [HCF.out];refine WX.out.mono ?_;rintro e w5 ⟨rfl,hrg,q,rfl⟩;have HRG:=jac hrg;clear hrg;have gq:wr.grownBy (wr.drewN q) none:=⟨rfl,rfl,rfl,Nat.le_refl _,fun k hk hn=>rfl⟩
         obtain ⟨w6,hw6⟩ : ∃ w6,w6=wr.drewN q:=⟨_,rfl⟩
         rw [← hw6] at gq ⊢;have G6:=jac (jaa HG3.out gq);have D6:=jac (HOD3.out.more gq (by simp [Value.ownBlock]));have X6:=jac (HOX3.out.more gq (by simp [Value.ownBlock]));clear hw6 gq
         by_cases hc0:c=0
         ·have bc:(c != 0)=false:=by simp [hc0]
          have hpl:=HPL.out;obtain ⟨p1',p2',p3',p4'⟩:=D6.out.put (by rw [List.length_append,List.length_replicate];omega) hlt v (HRG.out hc0)
          have ES:Hid ((pre++List.replicate (n - k) 0).set k v=(pre++[v])++List.replicate (n - (k+1)) 0):=by
           show _=_;rw [List.set_append_right _ _ (by omega),hpl,Nat.sub_self,show n - k=(n - (k+1))+1 from by omega,List.replicate_succ,List.set_cons_zero,List.append_assoc]
           rfl
          rw [ES.out] at p3';have NX:=jac p3';have GX:=jac (jaG G6.out p4' (Nat.le_refl _));have XX:=jac (X6.out.more p4' (.inr (by have:=L1.out;simp [Value.ownBlock];omega)))
          have EV:Hid (evE F cols 0 n=(evE F cols (k+1) (n - (k+1))).map ((pre++[v])++·)):=by
           show _=_;rw [HEV.out,HST.out,if_pos hc0]
           cases evE F cols (k+1) (n - (k+1)) with
           | error e=>rfl
           | ok l=>simp [Except.map]
          have PLL:Hid ((pre++[v]).length=k+1):=by show _=_;simp [hpl]
          obtain ⟨ov,hov⟩ : ∃ q,q=(pre++List.replicate (n - k) (0:Int)).getD k 0:=⟨_,rfl⟩
          rw [← hov] at p1';have YL:=HYL;clear hc0 p3' p4' hov hpl ES;go_wp2;go_roundw
          case rel=>exact ⟨GX.out,k+1,pre++[v],ys,by omega,by go_num,PLL.out,YL.out,EV.out,NX.out,XX.out⟩
          case measure=>simp [intOf];omega
         ·have bc:(c != 0)=true:=by simpa using hc0
          have EV:Hid (evE F cols 0 n=.error c):=by show _=_;rw [HEV.out,HST.out,if_neg hc0];rfl
          clear hc0;go_wp2;go_ret2;exact joT EV.out G6.out
      ·obtain rfl:k=n:=by omega
       have EV:Hid (evE F cols 0 k=.ok pre):=by show _=_;rw [HEV.out,Nat.sub_self];simp [evE,Except.map]
       have OD:=HOD.out;rw [Nat.sub_self,List.replicate_zero,List.append_nil] at OD;have HO:=jac OD;clear OD;go_wp2;go_ret2;exact juN EV.out HG.out ⟨⟨some ⟨w.heap.size,0,none⟩,k,k⟩,rfl,HO.out⟩
end Go.Proofs.YteigfipgmghgmaaGreatDoor
namespace Go.Proofs.YteigfipgmghgmaaGreatDoor
open Go.RowKit
def ToldF (k:Nat) (w:World) (e:Ending) (w':World):Prop:=∃ b,e=.returned (.bool b)∧(b=true→k≤6)∧w.grownBy w' none
theorem jmp (u:Sl) (ps:List (Ten×Tq)) (w:World) (hv:TensIn w u.v ps):Calls Tryz.prog 6 #[.slice u.a u.n u.c] w (ToldF ps.length w):=by
 obtain ⟨xa,xc,e1,p1,p2,p3⟩:=hv.vals.form;rw [List.length_map] at e1 p1 p3;obtain ⟨ua,un,uc⟩:=u;simp only [Sl.v,Value.slice.injEq] at e1;obtain ⟨rfl,rfl,rfl⟩:=e1;have HV:=jac hv;clear hv;go_enter Tryz.func6,Tryz.ntmps6;go_wp2_with fail;go_loopw [3,4] (fun n i wr=>w.grownBy wr none∧∃ (k m:Nat),k≤ps.length∧m≤65536∧i=.int .i64 k∧n=.int .i64 m) (fun _ i _=>ps.length - (intOf i).toNat)
 case atStart=>exact ⟨jad _,0,1,Nat.zero_le _,by omega,rfl,rfl⟩
 case round =>
  obtain ⟨hg,k,m,hk,hm,rfl,rfl⟩:=hrel;have HG:=jac hg
  by_cases hlt:k<ps.length
  ·obtain ⟨b,off,rfl⟩:=HV.out.vals.addr (k:=k) (by rw [List.length_map];exact hlt);obtain ⟨-,-,a2⟩:=(HV.out.more hg).at k hlt;obtain ⟨⟨ta,tn,tc⟩,hp⟩ : ∃ p,p=ps[k].1.tv:=⟨_,rfl⟩
   rw [← hp] at a2;simp only at a2;clear hp hg
   by_cases hb:4096<tn
   ·have hb':(4096:Int)<tn:=by omega
    go_wp2;go_ret;exact ⟨_,rfl,(fun h=>by cases h),HG.out⟩
   ·have hb':¬ (4096:Int)<tn:=by omega
    obtain ⟨q,hq⟩ : ∃ q:Nat,q=m*max 1 tn:=⟨_,rfl⟩
    have hq1:q≤65536*4096:=by
     rw [hq];exact Nat.mul_le_mul hm (by omega)
    have hq2:wrap64 ((m:Int)*max 1 (tn:Int))=(q:Int):=by
     have e:(m:Int)*max 1 (tn:Int)=(q:Int):=by
      rw [hq,Int.natCast_mul]
      congr 1
      omega
     rw [e];unfold wrap64;omega
    clear hq
    by_cases hbig:65536<q
    ·have hbig':(65536:Int)<q:=by omega
     go_wp2;go_ret;exact ⟨_,rfl,(fun h=>by cases h),HG.out⟩
    ·have hbig':¬ (65536:Int)<q:=by omega
     go_wp2_with fail;go_roundw
     case rel=>exact ⟨HG.out,k+1,q,by omega,by omega,by go_num,by rw [hq2]⟩
     case measure=>simp [intOf];omega
  ·obtain rfl:k=ps.length:=by omega
   clear hg;go_wp2;go_ret;exact ⟨_,rfl,(fun h=>by have:=of_decide_eq_true h;omega),HG.out⟩
end Go.Proofs.YteigfipgmghgmaaGreatDoor
