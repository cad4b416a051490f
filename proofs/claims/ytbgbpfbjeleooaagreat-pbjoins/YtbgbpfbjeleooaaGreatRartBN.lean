/- A part. -/
import Derived.Test.YtbgbpfbjeleooaaGreatRartAH
set_option maxHeartbeats 6400000
set_option maxRecDepth 100000
namespace Go.Proofs.YtbgbpfbjeleooaaGreat
open Go.RowKit
theorem ji2 {w3:World} {B:Nat} {z0 z1 z2 z3 z4:Value} {t:TypeId} (a b c d e:Value) (hb:w3.heap[B]?=some (.cells #[z0,z1,z2,z3,z4] t (0,0))) :
    (((((w3.setCell ⟨B,0,none⟩ a).setCell ⟨B,1,none⟩ b).setCell ⟨B,2,none⟩ c).setCell ⟨B,3,none⟩ d).setCell ⟨B,4,none⟩ e).heap[B]?=some (.cells #[a,b,c,d,e] t (0,0))∧w3.grownBy (((((w3.setCell ⟨B,0,none⟩ a).setCell ⟨B,1,none⟩ b).setCell ⟨B,2,none⟩ c).setCell ⟨B,3,none⟩ d).setCell ⟨B,4,none⟩ e) (some B):=by
     have h1:=heap_setCell_same w3 B 0 _ _ a hb;have h2:=heap_setCell_same _ B 1 _ _ b h1;have h3:=heap_setCell_same _ B 2 _ _ c h2;have h4:=heap_setCell_same _ B 3 _ _ d h3;have h5:=heap_setCell_same _ B 4 _ _ e h4
     have g:∀ (x:World) (j:Nat) (v:Value),x.grownBy (x.setCell ⟨B,j,none⟩ v) (some B):=fun x j v =>
      ⟨rfl,rfl,rfl,by simp [World.setCell],fun k _ hk=>Below.heap_setCell _ _ _ _ (fun e=>hk (by rw [e]))⟩
     exact ⟨by simpa using h5,ja1 (ja1 (ja1 (ja1 (g w3 0 a) (g _ 1 b)) (g _ 2 c)) (g _ 3 d)) (g _ 4 e)⟩
theorem jbG {w:World} {B:Nat} {z0 z1 z2 z3 z4:Value} {t:TypeId} (hb:w.heap[B]?=some (.cells #[z0,z1,z2,z3,z4] t (0,0))) :
    w.frozen? ⟨B,0,none⟩=false∧w.frozen? ⟨B,1,none⟩=false∧w.frozen? ⟨B,2,none⟩=false∧w.frozen? ⟨B,3,none⟩=false∧w.frozen? ⟨B,4,none⟩=false :=
     ⟨frozen_of_row w B 0 _ _ hb,frozen_of_row w B 1 _ _ hb,frozen_of_row w B 2 _ _ hb,frozen_of_row w B 3 _ _ hb,frozen_of_row w B 4 _ _ hb⟩
theorem jc7 {w:World} {B:Nat} {t:TypeId} (hb:w.heap[B]?=some (.cells #[.string ⟨#[]⟩,.slice none 0 0,.slice none 0 0,.slice none 0 0,.slice none 0 0] t (0,0))) :
    w.cell? ⟨B,0,none⟩=some (.string ⟨#[]⟩)∧w.cell? ⟨B,1,none⟩=some (.slice none 0 0)∧w.cell? ⟨B,2,none⟩=some (.slice none 0 0)∧w.cell? ⟨B,3,none⟩=some (.slice none 0 0)∧w.cell? ⟨B,4,none⟩=some (.slice none 0 0) :=
     ⟨(cell_of_row _ _ 0 _ _ (0,0) hb).trans rfl,(cell_of_row _ _ 1 _ _ (0,0) hb).trans rfl,(cell_of_row _ _ 2 _ _ (0,0) hb).trans rfl,(cell_of_row _ _ 3 _ _ (0,0) hb).trans rfl,(cell_of_row _ _ 4 _ _ (0,0) hb).trans rfl⟩
theorem Copied.feet {w w':World} {n:Nod} {ins:List ByteArray} {xs ys:List Atr} {cs:List Cont} {iv av:Sl} {op nam out:ByteArray} (h:Copied w w' n ins xs cs iv av ys):∀ b,jdS ⟨op,nam,iv,out,av⟩ ⟨ins,ys,cs⟩ b→w.heap.size≤b∧b<w'.heap.size:=by
 intro b e
 rcases e with e | e | ⟨a,ha,e⟩
 ·exact World.ownsRow.lt h.ins b e
 ·exact World.ownsRow.lt h.own b e
 ·exact (h.new a ha).1.any e
def jgA (p:Nod×Ni):Nc:=⟨p.1,p.2.ins,p.2.xs,p.2.cs⟩
def jg3 (c:Nc):ByteArray×ByteArray×List ByteArray×ByteArray×List Atr×List Cont:=(c.n.op,c.n.name,c.ins,c.n.out,c.xs.map jcS,c.cs)
theorem jlp:(Tryz.prog.info? 35).map (fun i=>(i.zero,i.size,i.bytes))=some (some (.agg #[.string ⟨#[]⟩,.string ⟨#[]⟩,.slice none 0 0,.string ⟨#[]⟩,.slice none 0 0]),5,96):=by kernel_rfl
theorem jnF:(Tryz.prog.info? 67).map (fun i=>(i.zero,i.size,i.bytes))=some (some (.agg #[.string ⟨#[]⟩,.int .i64 0,.slice none 0 0,.slice none 0 0]),4,72):=by kernel_rfl
theorem jlq (v:Nod):∀ u∈ncells v,u.oneCell'=true:=by
 intro u hu;simp only [ncells,List.mem_cons,List.not_mem_nil,or_false] at hu
 rcases hu with rfl | rfl | rfl | rfl | rfl <;> rfl
theorem jgs (v:Nam):∀ u∈jbm v,u.oneCell'=true:=by
 intro u hu;simp only [jbm,List.mem_cons,List.not_mem_nil,or_false] at hu
 rcases hu with rfl | rfl | rfl | rfl <;> rfl
def jnX (ms:List (Nod×Ni)):Prop:=∀ (i j:Nat) (p q:Nod×Ni),ms[i]?=some p→ms[j]?=some q→i≠j→∀ b,jdS p.1 p.2 b→¬ jdS q.1 q.2 b
structure NOwn (w:World) (p:Nod×Ni):Prop where
 ins:OwnsL 9 1 jgD w 0 p.1.iv.v p.2.ins
 ap1:Apt p.1.iv.v p.1.av.v
 ap2:∀ a∈p.2.xs,ApA a p.1.iv.v
theorem NOwn.kept {w w':World} {p:Nod×Ni} (h:NOwn w p) (hk:∀ b,jdS p.1 p.2 b→w'.heap[b]?=w.heap[b]?):NOwn w' p:=⟨jdr h.ins (fun b e=>hk b (Or.inl e)),h.ap1,h.ap2⟩
theorem jnX.nil:jnX []:=fun i j p q hp=>by simp at hp
theorem jnX.snoc {ms:List (Nod×Ni)} {p:Nod×Ni} {m:Nat} (h:jnX ms) (hl:∀ q∈ms,∀ b,jdS q.1 q.2 b→b<m) (hp:∀ b,jdS p.1 p.2 b→m≤b):jnX (ms++[p]):=by
 have hat:∀ (i:Nat) (q:Nod×Ni),(ms++[p])[i]?=some q→(i<ms.length∧ms[i]?=some q)∨(i=ms.length∧q=p):=by
  intro i q hq
  by_cases hi:i<ms.length
  ·rw [List.getElem?_append_left hi] at hq;exact Or.inl ⟨hi,hq⟩
  ·have hlt:=(List.getElem?_eq_some_iff.1 hq).1;rw [List.length_append,List.length_singleton] at hlt;obtain rfl:i=ms.length:=by omega
   rw [List.getElem?_append_right (Nat.le_refl _),Nat.sub_self] at hq;exact Or.inr ⟨rfl,by simpa using hq.symm⟩
 intro i j a b ha hb hij c hc hd
 rcases hat i a ha with ⟨h1,h2⟩ | ⟨h1,rfl⟩ <;> rcases hat j b hb with ⟨h3,h4⟩ | ⟨h3,rfl⟩
 ·exact h i j a b h2 h4 hij c hc hd
 ·have:=hl a (List.mem_of_getElem? h2) c hc;have:=hp c hd;omega
 ·have:=hl b (List.mem_of_getElem? h4) c hd;have:=hp c hc;omega
 ·omega
structure NInv (W1:World) (B:Nat) (nam:ByteArray) (ui uo:Sl) (cs:List Nc) (k:Nat) (wr:World) (v:Sl) (ms:List (Nod×Ni)):Prop where
 box:wr.heap[B]?=some (.cells #[.string nam,.slice v.a v.n v.c,.slice ui.a ui.n ui.c,.slice uo.a uo.n uo.c,.slice none 0 0] 27 (0,0))
 own:jnj wr W1.heap.size wr.heap.size v.v ms
 len:(ms.map (·.1)).length=k
 key:(ms.map jgA).map jg3=(cs.take k).map jg3
 grown:W1.grownBy wr (some B)
 nown:∀ p∈ms,NOwn wr p
 sep:jnX ms
structure InitInv (W2:World) (B:Nat) (nam:ByteArray) (un ui uo:Sl) (its:List (Nam×List Int×List Int)) (k:Nat) (wr:World) (v:Sl) (ts:List (Nam×List Int×List Int)):Prop where
 box:wr.heap[B]?=some (.cells #[.string nam,.slice un.a un.n un.c,.slice ui.a ui.n ui.c,.slice uo.a uo.n uo.c,.slice v.a v.n v.c] 27 (0,0))
 own:jiB wr W2.heap.size wr.heap.size v.v ts
 len:(ts.map (·.1)).length=k
 key:ts.map jjf=(its.take k).map jjf
 grown:W2.grownBy wr (some B)
structure CutG (w0:World) (nam:ByteArray) (vin vout:List (Val×List Int)) (wx:World) (B:Nat) (ui uo:Sl) (vi vo:List (Val×List Int)) (i0 i1 o0 o1:Nat):Prop where
 box:wx.heap[B]?=some (.cells #[.string nam,.slice none 0 0,.slice ui.a ui.n ui.c,.slice uo.a uo.n uo.c,.slice none 0 0] 27 (0,0))
 ins:jcZ wx i0 i1 ui.v vi
 outs:jcZ wx o0 o1 uo.v vo
 ki:vi.map jfh=vin.map jfh
 ko:vo.map jfh=vout.map jfh
 li:w0.heap.size≤i0
 lo:w0.heap.size≤o0
 lb:w0.heap.size≤B
 apt:i1≤o0∨o1≤i0
 bi:B<i0∨i1≤B
 bo:B<o0∨o1≤B
 grown:w0.grownBy wx none
def CutP (w0:World) (nam:ByteArray) (vin vout:List (Val×List Int)) (p:Value) (wx:World):Prop:=∃ (B:Nat) (ui uo:Sl) (vi vo:List (Val×List Int)) (i0 i1 o0 o1:Nat),p=.pointer (some ⟨B,0,none⟩)∧CutG w0 nam vin vout wx B ui uo vi vo i0 i1 o0 o1
def TPut (W2:World) (B:Nat) (nam:ByteArray) (un ui uo:Sl) (its:List (Nam×List Int×List Int)) (k:Nat) (wx:World):Prop:=∃ (v:Sl) (ts:List (Nam×List Int×List Int)),InitInv W2 B nam un ui uo its k wx v ts
theorem InitInv.step {W2 : World} {B : Nat} {nam : ByteArray} {un ui uo : Sl} {its : List (Nam × List Int × List Int)} {en : Nat} {wr w3 w8 w9 : World} {ea : Option Addr} {ec gg cap : Nat} {ts : List (Nam × List Int × List Int)} {A : Nam} {ds es : List Int} {d t : Sl} (TI : InitInv W2 B nam un ui uo its en wr ⟨ea, en, ec⟩ ts) (HA : its[en]? = some (A, ds, es)) (hB2 : B < W2.heap.size) (hsr : W2.heap.size ≤ wr.heap.size) (g3 : wr.grownBy w3 none) (hd : jaj w3 d.v ds) (ht : jaj w3 t.v es) (nd : New wr.heap.size w3.heap.size d.v) (nt : New wr.heap.size w3.heap.size t.v)
    (hown8:w8.ownsRow W2.heap.size 67 4 (.slice (some ⟨gg,0,none⟩) (en+1) cap) (en+1) ((ts.map (·.1)).flatMap jbm++jbm ⟨A.name,A.ty,d,t⟩))
    (hgrow:(w3.alloc (.cells #[.string A.name,.int .i64 A.ty,.slice d.a d.n d.c,.slice t.a t.n t.c] 67)).grownBy w8 (Value.slice ea en ec).ownBlock) (hat:(Value.slice ea en ec).ownBlock=some gg∨gg=w3.heap.size+1)
    (q1:w9.heap[B]?=some (.cells #[.string nam,.slice un.a un.n un.c,.slice ui.a ui.n ui.c,.slice uo.a uo.n uo.c,.slice (some ⟨gg,0,none⟩) (en+1) cap] 27 (0,0))) (q2:w8.grownBy w9 (some B)) (q3:w9.heap.size=w8.heap.size):TPut W2 B nam un ui uo its (en+1) w9:=by
     have gn:=jab w3 (.cells #[.string A.name,.int .i64 A.ty,.slice d.a d.n d.c,.slice t.a t.n t.c] 67);have hy:jlW _ ⟨A.name,A.ty,d,t⟩ (ds,es):=⟨hd.more gn,ht.more gn⟩
     have sn:=TI.own.snoc jbB hsr (jaa g3 gn) hgrow (by simpa using hat) (jeH TI.len hown8) (y:=⟨A.name,A.ty,d,t⟩) (c:=(ds,es)) hy (fun b e=>by
      have:=gn.size
      rcases e with e | e
      ·have:=nd b e;omega
      ·have:=nt b e;omega)
     refine ⟨⟨some ⟨gg,0,none⟩,en+1,cap⟩,ts++[(⟨A.name,A.ty,d,t⟩,ds,es)],q1,(sn.past jbB q2 (fun g e=>by cases e;exact Or.inl hB2)).wide (Nat.le_refl _) (Nat.le_of_eq q3.symm) (Nat.le_refl _),by rw [List.map_append,List.length_append,TI.len];rfl,?_,?_⟩
     ·rw [jdV jjf HA,List.map_append,TI.key]
      rfl
     ·exact ja1 (jcG (jcG TI.grown (jaa g3 gn) (by simp)) hgrow (fun g e=>(World.ownsRow.lt TI.own.own g e).1)) q2
end Go.Proofs.YtbgbpfbjeleooaaGreat
namespace Go.Proofs.YtbgbpfbjeleooaaGreat
open Go.RowKit
theorem jec {α κ γ:Type} {k:α→κ} {F:α→γ} (hF:∀ a b,k a=k b→F a=F b):∀ {xs ys:List α},xs.map k=ys.map k→xs.map F=ys.map F
 | [],[],_=>rfl
 | [],y::ys,h=>by simp at h
 | x::xs,[],h=>by simp at h
 | x::xs,y::ys,h=>by
  rw [List.map_cons,List.map_cons,List.cons.injEq] at h;rw [List.map_cons,List.map_cons,hF x y h.1,jec hF h.2]
structure SameG (cs:List Nc) (vin vout:List (Val×List Int)) (its:List (Nam×List Int×List Int)) (cs':List Nc) (vin' vout':List (Val×List Int)) (its':List (Nam×List Int×List Int)):Prop where
 nodes:cs'.map jg3=cs.map jg3
 ins:vin'.map jfh=vin.map jfh
 outs:vout'.map jfh=vout.map jfh
 inits:its'.map jjf=its.map jjf
theorem jeP {α κ:Type} {k:α→κ} {xs ys:List α} (h:xs.map k=ys.map k):xs.length=ys.length:=by
 have:=congrArg List.length h;simpa using this
end Go.Proofs.YtbgbpfbjeleooaaGreat
namespace Go.Proofs.YtbgbpfbjeleooaaGreat
open Go.RowKit
theorem jlr {α κ:Type} {f:α→κ} {xs ys:List α} (h:xs.map f=ys.map f) {k:Nat} (h1:k<xs.length) (h2:k<ys.length):f xs[k]=f ys[k]:=by
 have e:=congrArg (fun l:List κ=>l[k]?) h;simp only [List.getElem?_map,List.getElem?_eq_getElem h1,List.getElem?_eq_getElem h2,Option.map_some,Option.some.injEq] at e;exact e
theorem jgt (u v:Value) (ps qs:List (Val×List Int)) (w:World) (hu:jex w u (ps.map (·.1))) (hv:jex w v (qs.map (·.1))) (hd:∀ p∈ps,jaj w p.1.dv.v p.2) (he:∀ p∈qs,jaj w p.1.dv.v p.2) (hk:ps.map jfh=qs.map jfh) :
    Calls Tryz.prog 29 #[u,v] w fun e w'=>e=.returned (.bool true)∧w.grownBy w' none:=by
     have H1:=jac hu;have H2:=jac hv;have HD:=jac hd;have HE:=jac he;have HK:=jac hk;have hln:=jeP hk;have HN:=jac hln;obtain ⟨xa,xc,e1,p1,p2,p3⟩:=hu.form;obtain ⟨ya,yc,e2,q1,q2,q3⟩:=hv.form;rw [List.length_map] at e1 p1 p3 e2 q1 q3;rw [hln] at e1 p1 p3;subst e1 e2;clear hu hv hd he hk hln;go_enter Tryz.func29,Tryz.ntmps29;go_wp2_with fail;go_loopw [5] (fun i wr=>w.grownBy wr none∧∃ k:Nat,k≤qs.length∧i=.int .i64 k) (fun i _=>qs.length - (intOf i).toNat)
     case atStart=>exact ⟨jae _,0,Nat.zero_le _,rfl⟩
     case round =>
      obtain ⟨hg,k,hk,rfl⟩:=hrel
      by_cases hlt:k<qs.length
      ·have hlp:k<ps.length:=by have:=HN.out;omega
       have I1:=H1.out.more hg;have I2:=H2.out.more hg;have hl1:k<(ps.map (·.1)).length:=by rw [List.length_map];exact hlp
       have hl2:k<(qs.map (·.1)).length:=by rw [List.length_map];exact hlt
       obtain ⟨ub,uo,rfl⟩:=I1.addr hl1;obtain ⟨vb,vo,rfl⟩:=I2.addr hl2;obtain ⟨a0,a1,a2⟩:=I1.val k hl1;obtain ⟨b0,b1,b2⟩:=I2.val k hl2;have hkk:=jlr HK.out hlp hlt;have hda:=HD.out ps[k] (List.getElem_mem hlp);have heb:=HE.out qs[k] (List.getElem_mem hlt);rw [List.getElem_map] at a0 a1 a2 b0 b1 b2;obtain ⟨A,ds,hA⟩ : ∃ A ds,ps[k]=(A,ds):=⟨_,_,rfl⟩
       obtain ⟨B,es,hB⟩ : ∃ B es,qs[k]=(B,es):=⟨_,_,rfl⟩
       rw [hA] at a0 a1 a2 hkk hda;rw [hB] at b0 b1 b2 hkk heb;simp only [jfh,Prod.mk.injEq] at hkk;obtain ⟨k1,k2,rfl⟩:=hkk;simp only at a0 a1 a2 b0 b1 b2 hda heb;rw [← k1] at b0;rw [← k2] at b1;have SM:=jac (jga A.dv.v B.dv.v ds wr.drew (hda.more (jaz hg)) (heb.more (jaz hg)));have CX:=jac (fun (wx:World) (hx:wr.grownBy wx none)=>And.intro (And.intro (jai a0 hx) (And.intro (jai a1 hx) (jai a2 hx))) (And.intro (jai b0 hx) (And.intro (jai b1 hx) (jai b2 hx))));have gd:=jaz (jae wr);clear I1 I2 hA hB k1 k2 hda heb;go_wp2_with fail;go_region_held3 (fun w'=>w'.cell? ⟨ub,uo+k*3,none⟩=some (.string A.name)∧w'.cell? ⟨ub,uo+k*3+1,none⟩=some (.int .i64 A.ty)∧w'.cell? ⟨ub,uo+k*3+2,none⟩=some (.slice A.dv.a A.dv.n A.dv.c)∧w'.cell? ⟨vb,vo+k*3,none⟩=some (.string A.name)∧w'.cell? ⟨vb,vo+k*3+1,none⟩=some (.int .i64 A.ty)∧w'.cell? ⟨vb,vo+k*3+2,none⟩=some (.slice B.dv.a B.dv.n B.dv.c)) (go_keep) (first | (go_at_call 62;refine SM.out.mono ?_;rintro e w3 ⟨rfl,hg3⟩;have g3:wr.grownBy w3 none:=jaa gd hg3;obtain ⟨⟨a0,a1,a2⟩,b0,b1,b2⟩:=CX.out w3 g3) | fail)
       all_goals
        go_wp2;go_roundw
        case rel=>exact ⟨jaa hg g3,k+1,by omega,by go_num⟩
        case measure=>simp [intOf];omega
      ·go_wp2;go_ret;exact ⟨rfl,hg⟩
end Go.Proofs.YtbgbpfbjeleooaaGreat
namespace Go.Proofs.YtbgbpfbjeleooaaGreat
open Go.RowKit
theorem jij (op nam out:ByteArray) (iv av jv bv:Sl) (ins:List ByteArray) (xs ys:List Atr) (cs:List Cont) (w:World) (h1:NodeIn0 w ⟨op,nam,iv,out,av⟩ ins ys cs) (h2:NodeIn0 w ⟨op,nam,jv,out,bv⟩ ins xs cs) (he:ys.map jcS=xs.map jcS) :
    Calls Tryz.prog 30 #[jgJ ⟨op,nam,iv,out,av⟩,jgJ ⟨op,nam,jv,out,bv⟩] w fun e w'=>e=.returned (.bool true)∧w.grownBy w' none:=by
     have H1:=jac h1;have H2:=jac h2;have HE:=jac he;have hyl:ys.length=xs.length:=by have:=congrArg List.length he;simpa using this
     obtain ⟨iva,ivc,ei,i1,i2,i3⟩:=h1.ins.form;obtain ⟨jva,jvc,ej,j1,j2,j3⟩:=h2.ins.form;obtain ⟨ava,avc,ea,a1,a2,a3⟩:=h1.av.form;obtain ⟨bva,bvc,eb,b1,b2,b3⟩:=h2.av.form;obtain ⟨xa,xn,xc⟩:=iv;obtain ⟨ya,yn,yc⟩:=jv;obtain ⟨za,zn,zc⟩:=av;obtain ⟨ua,un,uc⟩:=bv;simp only [Sl.v,Value.slice.injEq] at ei ej ea eb;obtain ⟨rfl,rfl,rfl⟩:=ei;obtain ⟨rfl,rfl,rfl⟩:=ej;obtain ⟨rfl,rfl,rfl⟩:=ea;obtain ⟨rfl,rfl,rfl⟩:=eb;rw [hyl] at a1 a3 H1 ⊢;clear h1 h2 he hyl;unfold jgJ;simp only;obtain ⟨w0,hw0⟩ : ∃ w0,w0=(w.alloc (.cells #[.string op,.string nam,.slice xa ins.length xc,.string out,.slice za xs.length zc] 35)).alloc (.cells #[.string op,.string nam,.slice ya ins.length yc,.string out,.slice ua xs.length uc] 35):=⟨_,rfl⟩
     have g0:w.grownBy w0 none:=by rw [hw0];exact jaa (jab _ _) (jab _ _)
     have hbx:=jbl w (.cells #[.string op,.string nam,.slice xa ins.length xc,.string out,.slice za xs.length zc] 35) (.cells #[.string op,.string nam,.slice ya ins.length yc,.string out,.slice ua xs.length uc] 35);have hbx0:=hbx;rw [← hw0] at hbx;have B1:Hid (∀ wx,w0.grownBy wx none→wx.heap[w.heap.size]?=some (.cells #[.string op,.string nam,.slice xa ins.length xc,.string out,.slice za xs.length zc] 35 (0,0))):=fun wx hg=>jag hbx.1 hg;have B2:Hid (∀ wx,w0.grownBy wx none→wx.heap[w.heap.size+1]?=some (.cells #[.string op,.string nam,.slice ya ins.length yc,.string out,.slice ua xs.length uc] 35 (0,0))):=fun wx hg=>jag hbx.2 hg;obtain ⟨n0,n1,n2,n3,n4⟩:=jbr (n:=⟨op,nam,⟨xa,ins.length,xc⟩,out,⟨za,xs.length,zc⟩⟩) hbx0.1;obtain ⟨m0,m1,m2,m3,m4⟩:=jbr (n:=⟨op,nam,⟨ya,ins.length,yc⟩,out,⟨ua,xs.length,uc⟩⟩) hbx0.2;clear hbx hbx0;go_enter Tryz.func30,Tryz.ntmps30;go_wp2_with fail;rw [← hw0];clear hw0 n0 n1 n2 n3 n4 m0 m1 m2 m3 m4;go_loopw [5] (fun i wr=>w0.grownBy wr none∧∃ k:Nat,k≤ins.length∧i=.int .i64 k) (fun i _=>ins.length - (intOf i).toNat)
     case atStart=>exact ⟨jae _,0,Nat.zero_le _,rfl⟩
     case round =>
      obtain ⟨hg,k,hk,rfl⟩:=hrel;obtain ⟨n0,n1,n2,n3,n4⟩:=jbr (n:=⟨op,nam,⟨xa,ins.length,xc⟩,out,⟨za,xs.length,zc⟩⟩) (B1.out wr hg);obtain ⟨m0,m1,m2,m3,m4⟩:=jbr (n:=⟨op,nam,⟨ya,ins.length,yc⟩,out,⟨ua,xs.length,uc⟩⟩) (B2.out wr hg);simp only at n2 n4 m2 m4
      by_cases hlt:k<ins.length
      ·have I1:=H1.out.ins.more (jaa g0 hg);have I2:=H2.out.ins.more (jaa g0 hg);obtain ⟨ub,uo,rfl⟩:=I1.addr hlt;obtain ⟨vb,vo,rfl⟩:=I2.addr hlt;have x0:=jkx I1 k hlt;have y0:=jkx I2 k hlt;obtain ⟨X,hX⟩ : ∃ X,X=ins[k]:=⟨_,rfl⟩
       rw [← hX] at x0 y0;clear hX I1 I2;go_wp2;go_region
       all_goals
        go_wp2;go_roundw
        case rel=>exact ⟨jaz hg,k+1,by omega,by go_num⟩
        case measure=>simp [intOf];omega
      ·obtain ⟨wo,rfl⟩ : ∃ wo,wo=wr:=⟨_,rfl⟩
       go_wp2_with fail;clear n0 n1 n2 n3 n4 m0 m1 m2 m3 m4;go_loopw [6] (fun i wr=>w0.grownBy wr none∧∃ k:Nat,k≤xs.length∧i=.int .i64 k) (fun i _=>xs.length - (intOf i).toNat)
       case atStart=>exact ⟨hg,0,Nat.zero_le _,rfl⟩
       case round =>
        obtain ⟨hg,k,hk,rfl⟩:=hrel;obtain ⟨n0,n1,n2,n3,n4⟩:=jbr (n:=⟨op,nam,⟨xa,ins.length,xc⟩,out,⟨za,xs.length,zc⟩⟩) (B1.out wr hg);obtain ⟨m0,m1,m2,m3,m4⟩:=jbr (n:=⟨op,nam,⟨ya,ins.length,yc⟩,out,⟨ua,xs.length,uc⟩⟩) (B2.out wr hg);simp only at n2 n4 m2 m4
        by_cases hlt:k<xs.length
        ·have A1:=H1.out.av.more (jaa g0 hg);have A2:=H2.out.av.more (jaa g0 hg);have hyk:k<ys.length:=by have:=congrArg List.length HE.out;simp at this;omega
         obtain ⟨ub,uo,rfl⟩:=A1.addr hyk;obtain ⟨vb,vo,rfl⟩:=A2.addr hlt;obtain ⟨p0,p1,p2,p3,p4,p5,p6,p7,p8⟩:=A1.attr k hyk;obtain ⟨q0,q1,q2,q3,q4,q5,q6,q7,q8⟩:=A2.attr k hlt;obtain ⟨c,hc,hc1⟩:=H1.out.has k ys[k] (List.getElem?_eq_getElem hyk);obtain ⟨c',hc',hc2⟩:=H2.out.has k xs[k] (List.getElem?_eq_getElem hlt);obtain rfl:c=c':=Option.some.inj (hc.symm.trans hc')
         have hst:jcS ys[k]=jcS xs[k]:=by
          have h:=congrArg (fun l:List Atr=>l[k]?) HE.out;simp only [List.getElem?_map,List.getElem?_eq_getElem hyk,List.getElem?_eq_getElem hlt,Option.map_some,Option.some.injEq] at h;exact h
         have SA:=jac (jiC ys[k] xs[k] c wr.drew hst (hc1.more (jaa g0 (jaz hg))) (hc2.more (jaa g0 (jaz hg))));obtain ⟨A,hA⟩ : ∃ A,A=ys[k]:=⟨_,rfl⟩
         obtain ⟨D,hD⟩ : ∃ D,D=xs[k]:=⟨_,rfl⟩
         rw [← hA] at p0 p1 p2 p3 p4 p5 p6 p7 p8 SA;rw [← hD] at q0 q1 q2 q3 q4 q5 q6 q7 q8 SA;unfold jb8 at SA;clear A1 A2 hA hD hc hc' hc1 hc2 hst;go_wp2_with fail;go_region_held3 (fun w'=>w'.cell? ⟨w.heap.size,4,none⟩=some (.slice (some ⟨ub,uo,none⟩) xs.length zc)∧w'.cell? ⟨w.heap.size+1,4,none⟩=some (.slice (some ⟨vb,vo,none⟩) xs.length uc)∧w'.cell? ⟨ub,uo+k*9,none⟩=some (.string A.name)∧w'.cell? ⟨ub,uo+k*9+1,none⟩=some (.int .i64 A.kind)∧w'.cell? ⟨ub,uo+k*9+2,none⟩=some (.int .i64 A.f)∧w'.cell? ⟨ub,uo+k*9+3,none⟩=some (.int .i64 A.i)∧w'.cell? ⟨ub,uo+k*9+4,none⟩=some (.string A.s)∧w'.cell? ⟨ub,uo+k*9+5,none⟩=some (.int .i64 A.ty)∧w'.cell? ⟨ub,uo+k*9+6,none⟩=some (.slice A.dv.a A.dv.n A.dv.c)∧w'.cell? ⟨ub,uo+k*9+7,none⟩=some (.slice A.tv.a A.tv.n A.tv.c)∧w'.cell? ⟨ub,uo+k*9+8,none⟩=some (.slice A.iv.a A.iv.n A.iv.c)∧w'.cell? ⟨vb,vo+k*9,none⟩=some (.string D.name)∧w'.cell? ⟨vb,vo+k*9+1,none⟩=some (.int .i64 D.kind)∧w'.cell? ⟨vb,vo+k*9+2,none⟩=some (.int .i64 D.f)∧w'.cell? ⟨vb,vo+k*9+3,none⟩=some (.int .i64 D.i)∧w'.cell? ⟨vb,vo+k*9+4,none⟩=some (.string D.s)∧w'.cell? ⟨vb,vo+k*9+5,none⟩=some (.int .i64 D.ty)∧w'.cell? ⟨vb,vo+k*9+6,none⟩=some (.slice D.dv.a D.dv.n D.dv.c)∧w'.cell? ⟨vb,vo+k*9+7,none⟩=some (.slice D.tv.a D.tv.n D.tv.c)∧w'.cell? ⟨vb,vo+k*9+8,none⟩=some (.slice D.iv.a D.iv.n D.iv.c)) (go_keep) (first | (go_at_call 63;refine SA.out.mono ?_;rintro e w3 ⟨rfl,hg3⟩;have g3:=jaa (jaz hg) hg3;have gk:wr.grownBy w3 none:=jaa (jaz (jae wr)) hg3;have p0:=jai p0 gk;have p1:=jai p1 gk;have p2:=jai p2 gk;have p3:=jai p3 gk;have p4:=jai p4 gk;have p5:=jai p5 gk;have p6:=jai p6 gk;have p7:=jai p7 gk;have p8:=jai p8 gk;have q0:=jai q0 gk;have q1:=jai q1 gk;have q2:=jai q2 gk;have q3:=jai q3 gk;have q4:=jai q4 gk;have q5:=jai q5 gk;have q6:=jai q6 gk;have q7:=jai q7 gk;have q8:=jai q8 gk;obtain ⟨-,-,-,-,n4⟩:=jbr (n:=⟨op,nam,⟨xa,ins.length,xc⟩,out,⟨some ⟨ub,uo,none⟩,xs.length,zc⟩⟩) (B1.out w3 g3);obtain ⟨-,-,-,-,m4⟩:=jbr (n:=⟨op,nam,⟨ya,ins.length,yc⟩,out,⟨some ⟨vb,vo,none⟩,xs.length,uc⟩⟩) (B2.out w3 g3)))
         all_goals
          go_wp2;go_roundw
          case rel=>exact ⟨g3,k+1,by omega,by go_num⟩
          case measure=>simp [intOf];omega
        ·go_wp2;go_ret;exact ⟨rfl,jaa g0 hg⟩
end Go.Proofs.YtbgbpfbjeleooaaGreat
namespace Go.Proofs.YtbgbpfbjeleooaaGreat
open Go.RowKit
structure GraphIn0 (w:World) (g:Gra) (nds:List Nc) (vin vout:List (Val×List Int)) (its:List (Nam×List Int×List Int)):Prop where
 nodes:jje w g.nv.v (nds.map (·.n))
 ins:jex w g.iv.v (vin.map (·.1))
 outs:jex w g.ov.v (vout.map (·.1))
 inits:jjd w g.tv.v (its.map (·.1))
 node:∀ c∈nds,NodeIn0 w c.n c.ins c.xs c.cs
 din:∀ p∈vin,jaj w p.1.dv.v p.2
 dout:∀ p∈vout,jaj w p.1.dv.v p.2
 dinit:∀ p∈its,jaj w p.1.dv.v p.2.1∧jaj w p.1.tv.v p.2.2
theorem GraphIn0.more {w w':World} {g:Gra} {nds:List Nc} {vin vout:List (Val×List Int)} {its:List (Nam×List Int×List Int)} (h:GraphIn0 w g nds vin vout its) (hg:w.grownBy w' none):GraphIn0 w' g nds vin vout its :=
 ⟨h.nodes.more hg,h.ins.more hg,h.outs.more hg,h.inits.more hg,fun c hc=>(h.node c hc).more hg,fun p hp=>(h.din p hp).more hg,fun p hp=>(h.dout p hp).more hg,fun p hp=>⟨(h.dinit p hp).1.more hg,(h.dinit p hp).2.more hg⟩⟩
def jmx (w:World) (n:Nod) (q:Ni):Prop:=NodeIn0 w n q.ins q.xs q.cs
theorem jcz:jhN jmx jdS:=fun _ _ _ _ h hk=>⟨h.ins.kept fun b hb e=>hk b hb (Or.inl e),h.av.kept fun b hb e=>hk b hb (Or.inr (Or.inl e)),fun j a e=>by
 obtain ⟨c,e1,e2⟩:=h.has j a e;exact ⟨c,e1,e2.kept fun b hb e3=>hk b hb (Or.inr (Or.inr ⟨a,List.mem_of_getElem? e,e3⟩))⟩⟩
abbrev jhC (w:World) (lo hi:Nat) (v:Value) (ps:List (Nod×Ni)):Prop:=OwnD 35 5 ncells jmx jdS w lo hi v ps
structure NInv0 (W1:World) (B:Nat) (nam:ByteArray) (ui uo:Sl) (cs:List Nc) (k:Nat) (wr:World) (v:Sl) (ms:List (Nod×Ni)):Prop where
 box:wr.heap[B]?=some (.cells #[.string nam,.slice v.a v.n v.c,.slice ui.a ui.n ui.c,.slice uo.a uo.n uo.c,.slice none 0 0] 27 (0,0))
 own:jhC wr W1.heap.size wr.heap.size v.v ms
 len:(ms.map (·.1)).length=k
 key:(ms.map jgA).map jg3=(cs.take k).map jg3
 grown:W1.grownBy wr (some B)
structure CopiedG0 (w w':World) (g:Gra) (cs:List Nc) (vin vout:List (Val×List Int)) (its:List (Nam×List Int×List Int)) (h:Gra) (ms:List (Nod×Ni)) (vi vo:List (Val×List Int)) (ts:List (Nam×List Int×List Int)) (i0 i1 o0 o1 n0 n1 t0 t1:Nat):Prop where
 name:h.name=g.name
 ins:jcZ w' i0 i1 h.iv.v vi
 outs:jcZ w' o0 o1 h.ov.v vo
 nodes:jhC w' n0 n1 h.nv.v ms
 inits:jiB w' t0 t1 h.tv.v ts
 ki:vi.map jfh=vin.map jfh
 ko:vo.map jfh=vout.map jfh
 kn:(ms.map jgA).map jg3=cs.map jg3
 kt:ts.map jjf=its.map jjf
 apt:(i1≤o0∨o1≤i0)∧i1≤n0∧o1≤n0∧n1≤t0∧n0≤n1
 low:w.heap.size≤i0∧w.heap.size≤o0∧w.heap.size≤n0∧w.heap.size≤t0
 grown:w.grownBy w' none
theorem jik (ms:List (Nod×Ni)):(ms.map jgA).map (·.n)=ms.map (·.1):=by
 rw [List.map_map]
 rfl
theorem CopiedG0.in0 {w w':World} {g h:Gra} {cs:List Nc} {vin vout:List (Val×List Int)} {its:List (Nam×List Int×List Int)} {ms:List (Nod×Ni)} {vi vo:List (Val×List Int)} {ts:List (Nam×List Int×List Int)} {i0 i1 o0 o1 n0 n1 t0 t1:Nat} (hc:CopiedG0 w w' g cs vin vout its h ms vi vo ts i0 i1 o0 o1 n0 n1 t0 t1) (hg:GraphIn0 w g cs vin vout its):GraphIn0 w' h (ms.map jgA) vi vo ts:=by
 have l1:=jeP hc.kn;have l2:=jeP hc.ki;have l3:=jeP hc.ko;have l4:=jeP hc.kt;rw [List.length_map] at l1;obtain ⟨-,-,-,-,-,b1⟩:=hg.nodes.form;obtain ⟨-,-,-,-,-,b2⟩:=hg.ins.form;obtain ⟨-,-,-,-,-,b3⟩:=hg.outs.form;obtain ⟨-,-,-,-,-,b4⟩:=hg.inits.form;rw [List.length_map] at b1 b2 b3 b4;refine ⟨?_,?_,?_,?_,?_,hc.ins.has,hc.outs.has,hc.inits.has⟩
 ·rw [jik];exact hc.nodes.own.isL jco (by rw [List.length_map,l1];exact b1)
 ·exact hc.ins.own.isL ja2 (by rw [List.length_map,l2];exact b2)
 ·exact hc.outs.own.isL ja2 (by rw [List.length_map,l3];exact b3)
 ·exact hc.inits.own.isL jcn (by rw [List.length_map,l4];exact b4)
 ·intro c hcm;obtain ⟨p,hp,rfl⟩:=List.mem_map.1 hcm;exact hc.nodes.has p hp
end Go.Proofs.YtbgbpfbjeleooaaGreat
namespace Go.Proofs.YtbgbpfbjeleooaaGreat
open Go.RowKit
theorem jhD (h g:Gra) (cs cs':List Nc) (vin vout vin' vout':List (Val×List Int)) (its its':List (Nam×List Int×List Int)) (w:World) (hg:GraphIn0 w g cs vin vout its) (hh:GraphIn0 w h cs' vin' vout' its') (hnm:h.name=g.name) (hs:SameG cs vin vout its cs' vin' vout' its') :
    Calls Tryz.prog 12 #[jcM h,jcM g] w fun e w'=>e=.returned (.bool true)∧w.grownBy w' none:=by
     have HG:=jac hg;have HH:=jac hh;have HS:=jac hs;have l1:=jeP hs.nodes;have l4:=jeP hs.inits;obtain ⟨nam,⟨na0,nn0,nc0⟩,⟨ia,iN,ic⟩,⟨oa,oN,oc⟩,⟨ta,tN,tc⟩⟩:=g;obtain ⟨nam',⟨ma0,mn0,mc0⟩,⟨ja,jN,jc⟩,⟨qa,qN,qc⟩,⟨ua,uN,uc⟩⟩:=h;simp only at hnm;subst hnm;obtain ⟨xa,xc,e1,p1,p2,p3⟩:=hg.nodes.form;rw [List.length_map] at e1 p1 p3;obtain ⟨rfl,rfl,rfl⟩ : na0=xa∧nn0=cs.length∧nc0=xc:=by simpa [Sl.v] using e1
     obtain ⟨ya,yc,e2,p4,p5,p6⟩:=hh.nodes.form;rw [List.length_map,l1] at e2 p4 p6;obtain ⟨rfl,rfl,rfl⟩ : ma0=ya∧mn0=cs.length∧mc0=yc:=by simpa [Sl.v] using e2
     obtain ⟨za,zc,e3,p7,p8,p9⟩:=hg.inits.form;rw [List.length_map] at e3 p7 p9;obtain ⟨rfl,rfl,rfl⟩ : ta=za∧tN=its.length∧tc=zc:=by simpa [Sl.v] using e3
     obtain ⟨va,vc,e4,p10,p11,p12⟩:=hh.inits.form;rw [List.length_map,l4] at e4 p10 p12;obtain ⟨rfl,rfl,rfl⟩ : ua=va∧uN=its.length∧uc=vc:=by simpa [Sl.v] using e4
     have L1:=jac l1;have L4:=jac l4;clear hg hh hs e1 e2 e3 e4 l1 l4;unfold jcM;simp only;obtain ⟨w0,hw0⟩ : ∃ w0,w0=(w.alloc (.cells #[.string nam',.slice ma0 cs.length mc0,.slice ja jN jc,.slice qa qN qc,.slice ua its.length uc] 27)).alloc (.cells #[.string nam',.slice na0 cs.length nc0,.slice ia iN ic,.slice oa oN oc,.slice ta its.length tc] 27):=⟨_,rfl⟩
     have g0:w.grownBy w0 none:=by rw [hw0];exact jaa (jab _ _) (jab _ _)
     have hbx:=jbl w (.cells #[.string nam',.slice ma0 cs.length mc0,.slice ja jN jc,.slice qa qN qc,.slice ua its.length uc] 27) (.cells #[.string nam',.slice na0 cs.length nc0,.slice ia iN ic,.slice oa oN oc,.slice ta its.length tc] 27);have hbx0:=hbx;rw [← hw0] at hbx;have B1:Hid (∀ wx,w0.grownBy wx none→wx.heap[w.heap.size]?=some (.cells #[.string nam',.slice ma0 cs.length mc0,.slice ja jN jc,.slice qa qN qc,.slice ua its.length uc] 27 (0,0))):=fun wx hg=>jag hbx.1 hg;have B2:Hid (∀ wx,w0.grownBy wx none→wx.heap[w.heap.size+1]?=some (.cells #[.string nam',.slice na0 cs.length nc0,.slice ia iN ic,.slice oa oN oc,.slice ta its.length tc] 27 (0,0))):=fun wx hg=>jag hbx.2 hg;obtain ⟨n0,n1,n2,n3,n4⟩:=jaY (g:=⟨nam',⟨ma0,cs.length,mc0⟩,⟨ja,jN,jc⟩,⟨qa,qN,qc⟩,⟨ua,its.length,uc⟩⟩) hbx0.1;obtain ⟨m0,m1,m2,m3,m4⟩:=jaY (g:=⟨nam',⟨na0,cs.length,nc0⟩,⟨ia,iN,ic⟩,⟨oa,oN,oc⟩,⟨ta,its.length,tc⟩⟩) hbx0.2;have SI:=jac (jgt (.slice ja jN jc) (.slice ia iN ic) vin' vin w0 (HH.out.ins.more g0) (HG.out.ins.more g0) (fun p hp=>(HH.out.din p hp).more g0) (fun p hp=>(HG.out.din p hp).more g0) HS.out.ins);have SO:=jac (fun (wx:World) (hx:w0.grownBy wx none)=>jgt (.slice qa qN qc) (.slice oa oN oc) vout' vout wx (HH.out.outs.more (jaa g0 hx)) (HG.out.outs.more (jaa g0 hx)) (fun p hp=>(HH.out.dout p hp).more (jaa g0 hx)) (fun p hp=>(HG.out.dout p hp).more (jaa g0 hx)) HS.out.outs);clear hbx hbx0;go_enter Tryz.func12,Tryz.ntmps12;go_wp2_with fail;rw [← hw0];clear hw0 n0 n1 n2 n3 n4 m0 m1 m2 m3 m4;refine SI.out.mono ?_;rintro e w1 ⟨rfl,hg1⟩;obtain ⟨n0,n1,n2,n3,n4⟩:=jaY (g:=⟨nam',⟨ma0,cs.length,mc0⟩,⟨ja,jN,jc⟩,⟨qa,qN,qc⟩,⟨ua,its.length,uc⟩⟩) (B1.out w1 hg1);obtain ⟨m0,m1,m2,m3,m4⟩:=jaY (g:=⟨nam',⟨na0,cs.length,nc0⟩,⟨ia,iN,ic⟩,⟨oa,oN,oc⟩,⟨ta,its.length,tc⟩⟩) (B2.out w1 hg1);go_wp2_with fail;clear n0 n1 n2 n3 n4 m0 m1 m2 m3 m4;refine (SO.out w1 hg1).mono ?_;rintro e w2 ⟨rfl,hg2⟩;have g2:=jaa hg1 hg2;obtain ⟨n0,n1,n2,n3,n4⟩:=jaY (g:=⟨nam',⟨ma0,cs.length,mc0⟩,⟨ja,jN,jc⟩,⟨qa,qN,qc⟩,⟨ua,its.length,uc⟩⟩) (B1.out w2 g2);obtain ⟨m0,m1,m2,m3,m4⟩:=jaY (g:=⟨nam',⟨na0,cs.length,nc0⟩,⟨ia,iN,ic⟩,⟨oa,oN,oc⟩,⟨ta,its.length,tc⟩⟩) (B2.out w2 g2);go_wp2_with fail;clear n0 n1 n2 n3 n4 m0 m1 m2 m3 m4;go_loopw [5] (fun i wr=>w0.grownBy wr none∧∃ k:Nat,k≤cs.length∧i=.int .i64 k) (fun i _=>cs.length - (intOf i).toNat)
     case atStart=>exact ⟨g2,0,Nat.zero_le _,rfl⟩
     case round =>
      obtain ⟨hg,k,hk,rfl⟩:=hrel;obtain ⟨n0,n1,n2,n3,n4⟩:=jaY (g:=⟨nam',⟨ma0,cs.length,mc0⟩,⟨ja,jN,jc⟩,⟨qa,qN,qc⟩,⟨ua,its.length,uc⟩⟩) (B1.out wr hg);obtain ⟨m0,m1,m2,m3,m4⟩:=jaY (g:=⟨nam',⟨na0,cs.length,nc0⟩,⟨ia,iN,ic⟩,⟨oa,oN,oc⟩,⟨ta,its.length,tc⟩⟩) (B2.out wr hg);simp only at n1 n4 m1 m4;clear n0 n2 n3 m0 m2 m3
      by_cases hlt:k<cs.length
      ·have hlp:k<cs'.length:=by have:=L1.out;omega
       have hl1:k<(cs'.map (·.n)).length:=by rw [List.length_map];exact hlp
       have hl2:k<(cs.map (·.n)).length:=by rw [List.length_map];exact hlt
       have gg:=jaa g0 hg;have I1:=HH.out.nodes.more gg;have I2:=HG.out.nodes.more gg;obtain ⟨ub,uo,rfl⟩:=I1.addr hl1;obtain ⟨vb,vo,rfl⟩:=I2.addr hl2;obtain ⟨a0,a1,a2,a3,a4⟩:=I1.nod k hl1;obtain ⟨b0,b1,b2,b3,b4⟩:=I2.nod k hl2;rw [List.getElem_map] at a0 a1 a2 a3 a4 b0 b1 b2 b3 b4;have hkk:=jlr HS.out.nodes hlp hlt;have hna:=(HH.out.node cs'[k] (List.getElem_mem hlp)).more (jaa g0 (jaz hg));have hnb:=(HG.out.node cs[k] (List.getElem_mem hlt)).more (jaa g0 (jaz hg));obtain ⟨⟨op,nm,iv,ot,av⟩,ins,xs,ks,hA⟩ : ∃ n ins xs ks,cs'[k]=⟨n,ins,xs,ks⟩:=⟨_,_,_,_,rfl⟩
       obtain ⟨⟨op',nm',iv',ot',av'⟩,ins',xs',ks',hB⟩ : ∃ n ins xs ks,cs[k]=⟨n,ins,xs,ks⟩:=⟨_,_,_,_,rfl⟩
       rw [hA] at a0 a1 a2 a3 a4 hkk hna;rw [hB] at b0 b1 b2 b3 b4 hkk hnb;simp only [jg3,Prod.mk.injEq] at hkk;obtain ⟨rfl,rfl,rfl,rfl,hst,rfl⟩:=hkk;simp only at a0 a1 a2 a3 a4 b0 b1 b2 b3 b4 hna hnb;have SN:=jac (jij op nm ot iv av iv' av' ins xs' xs ks wr.drew hna hnb hst);unfold jgJ at SN;have CX:=jac (fun (wx:World) (hx:wr.grownBy wx none)=>And.intro (And.intro (jai n1 hx) (jai m1 hx)) (And.intro (And.intro (jai a0 hx) (And.intro (jai a1 hx) (And.intro (jai a2 hx) (And.intro (jai a3 hx) (jai a4 hx))))) (And.intro (jai b0 hx) (And.intro (jai b1 hx) (And.intro (jai b2 hx) (And.intro (jai b3 hx) (jai b4 hx)))))));have gd:=jaz (jae wr);clear I1 I2 hA hB hst hna hnb;go_wp2_with fail;go_region_held3 (fun w'=>w'.cell? ⟨w.heap.size,1,none⟩=some (.slice (some ⟨ub,uo,none⟩) cs.length mc0)∧w'.cell? ⟨w.heap.size+1,1,none⟩=some (.slice (some ⟨vb,vo,none⟩) cs.length nc0)∧w'.cell? ⟨ub,uo+k*5,none⟩=some (.string op)∧w'.cell? ⟨ub,uo+k*5+1,none⟩=some (.string nm)∧w'.cell? ⟨ub,uo+k*5+2,none⟩=some (.slice iv.a iv.n iv.c)∧w'.cell? ⟨ub,uo+k*5+3,none⟩=some (.string ot)∧w'.cell? ⟨ub,uo+k*5+4,none⟩=some (.slice av.a av.n av.c)∧w'.cell? ⟨vb,vo+k*5,none⟩=some (.string op)∧w'.cell? ⟨vb,vo+k*5+1,none⟩=some (.string nm)∧w'.cell? ⟨vb,vo+k*5+2,none⟩=some (.slice iv'.a iv'.n iv'.c)∧w'.cell? ⟨vb,vo+k*5+3,none⟩=some (.string ot)∧w'.cell? ⟨vb,vo+k*5+4,none⟩=some (.slice av'.a av'.n av'.c)) (go_keep) (first | (go_at_call 30;refine SN.out.mono ?_;rintro e w3 ⟨rfl,hg3⟩;have g3:wr.grownBy w3 none:=jaa gd hg3;obtain ⟨⟨n1,m1⟩,⟨a0,a1,a2,a3,a4⟩,b0,b1,b2,b3,b4⟩:=CX.out w3 g3) | fail)
       all_goals
        go_wp2;go_roundw
        case rel=>exact ⟨jaa hg g3,k+1,by omega,by go_num⟩
        case measure=>simp [intOf];omega
      ·obtain ⟨wo,rfl⟩ : ∃ wo,wo=wr:=⟨_,rfl⟩
       go_wp2_with fail;clear n1 n4 m1 m4;go_loopw [7] (fun i wr=>w0.grownBy wr none∧∃ k:Nat,k≤its.length∧i=.int .i64 k) (fun i _=>its.length - (intOf i).toNat)
       case atStart=>exact ⟨hg,0,Nat.zero_le _,rfl⟩
       case round =>
        obtain ⟨hg,k,hk,rfl⟩:=hrel;obtain ⟨n0,n1,n2,n3,n4⟩:=jaY (g:=⟨nam',⟨ma0,cs.length,mc0⟩,⟨ja,jN,jc⟩,⟨qa,qN,qc⟩,⟨ua,its.length,uc⟩⟩) (B1.out wr hg);obtain ⟨m0,m1,m2,m3,m4⟩:=jaY (g:=⟨nam',⟨na0,cs.length,nc0⟩,⟨ia,iN,ic⟩,⟨oa,oN,oc⟩,⟨ta,its.length,tc⟩⟩) (B2.out wr hg);simp only at n1 n4 m1 m4;clear n0 n1 n2 n3 m0 m1 m2 m3
        by_cases hlt:k<its.length
        ·have hlp:k<its'.length:=by have:=L4.out;omega
         have hl1:k<(its'.map (·.1)).length:=by rw [List.length_map];exact hlp
         have hl2:k<(its.map (·.1)).length:=by rw [List.length_map];exact hlt
         have gg:=jaa g0 hg;have I1:=HH.out.inits.more gg;have I2:=HG.out.inits.more gg;obtain ⟨ub,uo,rfl⟩:=I1.addr hl1;obtain ⟨vb,vo,rfl⟩:=I2.addr hl2;obtain ⟨a0,a1,a2,a3⟩:=I1.nam k hl1;obtain ⟨b0,b1,b2,b3⟩:=I2.nam k hl2;rw [List.getElem_map] at a0 a1 a2 a3 b0 b1 b2 b3;have hkk:=jlr HS.out.inits hlp hlt;have hda:=HH.out.dinit its'[k] (List.getElem_mem hlp);have hdb:=HG.out.dinit its[k] (List.getElem_mem hlt);obtain ⟨⟨nm,ty,dv,tv⟩,ds,es,hA⟩ : ∃ A ds es,its'[k]=(A,ds,es):=⟨_,_,_,rfl⟩
         obtain ⟨⟨nm',ty',dv',tv'⟩,ds',es',hB⟩ : ∃ A ds es,its[k]=(A,ds,es):=⟨_,_,_,rfl⟩
         rw [hA] at a0 a1 a2 a3 hkk hda;rw [hB] at b0 b1 b2 b3 hkk hdb;simp only [jjf,Prod.mk.injEq] at hkk;obtain ⟨rfl,rfl,rfl,rfl⟩:=hkk;simp only at a0 a1 a2 a3 b0 b1 b2 b3 hda hdb;have gdd:=jaa g0 (jaz hg);have SN:=jac (jgM ty dv.v tv.v dv'.v tv'.v ds es wr.drew (hda.1.more gdd) (hda.2.more gdd) (hdb.1.more gdd) (hdb.2.more gdd));have CX:=jac (fun (wx:World) (hx:wr.grownBy wx none)=>And.intro (And.intro (jai n4 hx) (jai m4 hx)) (And.intro (And.intro (jai a0 hx) (And.intro (jai a1 hx) (And.intro (jai a2 hx) (jai a3 hx)))) (And.intro (jai b0 hx) (And.intro (jai b1 hx) (And.intro (jai b2 hx) (jai b3 hx))))));have gd:=jaz (jae wr);clear I1 I2 hA hB hda hdb;go_wp2_with fail;go_region_held3 (fun w'=>w'.cell? ⟨w.heap.size,4,none⟩=some (.slice (some ⟨ub,uo,none⟩) its.length uc)∧w'.cell? ⟨w.heap.size+1,4,none⟩=some (.slice (some ⟨vb,vo,none⟩) its.length tc)∧w'.cell? ⟨ub,uo+k*4,none⟩=some (.string nm)∧w'.cell? ⟨ub,uo+k*4+1,none⟩=some (.int .i64 ty)∧w'.cell? ⟨ub,uo+k*4+1+1,none⟩=some (.slice dv.a dv.n dv.c)∧w'.cell? ⟨ub,uo+k*4+1+2,none⟩=some (.slice tv.a tv.n tv.c)∧w'.cell? ⟨vb,vo+k*4,none⟩=some (.string nm)∧w'.cell? ⟨vb,vo+k*4+1,none⟩=some (.int .i64 ty)∧w'.cell? ⟨vb,vo+k*4+1+1,none⟩=some (.slice dv'.a dv'.n dv'.c)∧w'.cell? ⟨vb,vo+k*4+1+2,none⟩=some (.slice tv'.a tv'.n tv'.c)) (go_keep) (first | (go_at_call 31;refine SN.out.mono ?_;rintro e w3 ⟨rfl,hg3⟩;have g3:wr.grownBy w3 none:=jaa gd hg3;obtain ⟨⟨n4,m4⟩,⟨a0,a1,a2,a3⟩,b0,b1,b2,b3⟩:=CX.out w3 g3) | fail)
         all_goals
          go_wp2;go_roundw
          case rel=>exact ⟨jaa hg g3,k+1,by omega,by go_num⟩
          case measure=>simp [intOf];omega
        ·go_wp2;go_ret;exact ⟨rfl,jaa g0 hg⟩
end Go.Proofs.YtbgbpfbjeleooaaGreat
