/- A part. -/
import Derived.Test.YtbgbpfbjeleooaaGreatRartAM
import Derived.Deep.LoopGhost
import Derived.Deep.AppendLies
set_option maxHeartbeats 3200000
set_option maxRecDepth 100000
namespace Go.Proofs.YtbgbpfbjeleooaaGreat.Wr
open Go.RowKit
def OwnsL {α:Type} (te:TypeId) (size:Nat) (f:α→List Value) (w:World) (base:Nat) (v:Value) (xs:List α):Prop :=
 w.ownsRow base te size v xs.length (xs.flatMap f)
theorem OwnsL.kept {α:Type} {te:TypeId} {size:Nat} {f:α→List Value} {w w':World} {base:Nat} {v:Value} {xs:List α} (h:OwnsL te size f w base v xs) {row:Option Nat} (hg:w.grownBy w' row) (hr:∀ g,row=some g→g<base):OwnsL te size f w' base v xs:=by
 refine World.ownsRow.kept h hg ?_
 cases hv:v.ownBlock with
 | none=>exact .inl rfl
 | some k =>
  refine .inr fun e=>?_;have h1:=World.ownsRow.lt h k hv;have h2:=hr k e.symm;omega
theorem OwnsL.more {α:Type} {te:TypeId} {size:Nat} {f:α→List Value} {w w':World} {base:Nat} {v:Value} {xs:List α} (h:OwnsL te size f w base v xs) (hg:w.grownBy w' none):OwnsL te size f w' base v xs:=h.kept hg (by simp)
theorem OwnsL.nil {α:Type} (te:TypeId) (size:Nat) (f:α→List Value) (w:World) (base:Nat):OwnsL te size f w base (.slice none 0 0) []:=World.ownsRow_nil _ _ _ _
theorem OwnsL.base_le {α:Type} {te:TypeId} {size:Nat} {f:α→List Value} {w:World} {base b':Nat} {v:Value} {xs:List α} (h:OwnsL te size f w base v xs) (hb:b'≤base):OwnsL te size f w b' v xs:=by
 refine ⟨h.1,?_⟩
 rcases h.2 with h0 | ⟨g,cap,cur,e,hg,r⟩
 ·exact .inl h0
 ·exact .inr ⟨g,cap,cur,e,by omega,r⟩
theorem OwnsL.form {α:Type} {te:TypeId} {size:Nat} {f:α→List Value} {w:World} {base:Nat} {v:Value} {xs:List α} (h:OwnsL te size f w base v xs):∃ ao cap,v=.slice ao xs.length cap:=by
 rcases h.2 with ⟨rfl,h0⟩ | ⟨g,cap,cur,rfl,_⟩
 ·exact ⟨none,0,by rw [h0]⟩
 ·exact ⟨_,_,rfl⟩
theorem jkJ {α:Type} {te:TypeId} {size:Nat} {f:α→List Value} {a w w':World} {base:Nat} {v:Value} {xs:List α} (h:OwnsL te size f w base v xs) (ha:a.grownBy w none) (hab:a.heap.size≤base) (hg:w.grownBy w' v.ownBlock):a.grownBy w' none :=
 jah ha hg (fun g e=>by have:=World.ownsRow.lt h g e;omega)
theorem jdG {α : Type} {o : Oper} {a : Act} {w : World} {K : Act → World → Prop} {Q : Exit → Act → World → Prop} (s x : Operand) (t te : TypeId) (size bytes : Nat) (z : Value) (i0 : TypeInfo) (f : α → List Value)
    (ho:o.op=.call { callee:=.builtin .append,args:=#[s,x],argTypes:=#[t,t] }) (ht:Tryz.prog.underlying t=some (.slice te)) (hi:Tryz.prog.info? te=some i0) (hz:i0.zero=some z)
    (hsize:i0.size=size) (hby:i0.bytes=bytes) (hzs:z.cells.size=size) (hsz:0<size) (base:Nat) (v:Value) (xs:List α) (hs:a.eval s=v) (hown:OwnsL te size f w base v xs)
    (B c:Nat) (y:α) (cs:Array Value) (hx:a.eval x=.slice (some ⟨B,0,none⟩) 1 c) (hB:w.heap[B]?=some (.cells cs te (0,0))) (hcs:cs.toList=f y) (hl:(f y).length=size) (h1:∀ u∈f y,u.oneCell'=true)
    (hbytes:(xs.length+1)*bytes≤140737488355328) (h63:xs.length+1≤maxLen) (hbase:base≤w.heap.size)
    (h:∀ v' w',OwnsL te size f w' base v' (xs++[y])→w.grownBy w' v.ownBlock→K (a.put o.dst v') w'):o.wp Tryz.prog a w K Q:=by
     refine wp_append_own w s x t ho base te i0 z size bytes ht hi hz hsize hby hzs hsz v _ _ hs hown ⟨B,0,none⟩ 1 c (f y) hx (by omega) ?_ h1 h63 hbytes hbase ?_
     ·intro j u hu;rw [Addr.add_lit,cell_of_row _ _ _ _ _ (0,0) hB];rw [← hcs] at hu;simpa using hu
     ·intro v' w' ho' hg _;refine h v' w' ?_ hg;unfold OwnsL;simpa [List.flatMap_append] using ho'
end Go.Proofs.YtbgbpfbjeleooaaGreat.Wr
namespace Go.Proofs.YtbgbpfbjeleooaaGreat.Wr
open Go.RowKit
def fcells (x:Fld):List Value:=[.int .i64 x.num,.int .i64 x.kind,.int .u64 x.u,.string x.b]
def ncells (u:Nat):List Value:=[.int .u64 u]
theorem set1 {w:World} {B:Nat} {a:Value} {t:TypeId} (hb:w.heap[B]?=some (.cells #[a] t (0,0))) (v:Value):(w.setCell ⟨B,0,none⟩ v).heap[B]?=some (.cells #[v] t (0,0)):=by
 simp [World.setCell,Array.getElem?_modify,hb]
theorem jhR {α:Type} {item:Nat→Option (α×Nat)} {size:Nat} (hi:∀ {p:Nat} {x:α} {q:Nat},item p=some (x,q)→p<q):∀ {f f' p:Nat},size≤p+f→size≤p+f'→allF item size f p=allF item size f' p:=by
 intro f
 induction f with
 | zero=>intro f' p h h';rw [jch (by omega),jch (by omega)]
 | succ f ih =>
  intro f' p h h'
  by_cases hp:p<size
  ·cases f' with
   | zero=>omega
   | succ f' =>
    unfold allF;rw [if_pos hp,if_pos hp]
    cases hx:item p with
    | none=>rfl
    | some y =>
     obtain ⟨x,q⟩:=y;have:=hi hx;simp only;rw [ih (f':=f') (by omega) (by omega)]
  ·rw [jch (by omega),jch (by omega)]
theorem info_fld:(Tryz.prog.info? 49).map (fun i=>(i.zero,i.size,i.bytes))=some (some (.agg #[.int .i64 0,.int .i64 0,.int .u64 0,.string ⟨#[]⟩]),4,40):=by kernel_rfl
theorem jgb (n : Nat) (x y : Value) (u : TypeId) (pv : Value) (older : List PanicEntry) (w : World)
    (h0:w.cell? ⟨n,0,none⟩=some x) (h1:w.cell? ⟨n+1,0,none⟩=some y) (f0:w.frozen? ⟨n,0,none⟩=false) (f1:w.frozen? ⟨n+1,0,none⟩=false) :
    CallsD Tryz.prog 131 #[.pointer (some ⟨n,0,none⟩),.pointer (some ⟨n+1,0,none⟩)] (.panicking ({ v:=.iface u pv,recovered:=false }::older)) w fun e u' w' =>
     e=.returned (.tuple #[])∧u'=.panicking ({ v:=.iface u pv,recovered:=true }::older)∧w'=(w.setCell ⟨n,0,none⟩ (.slice none 0 0)).setCell ⟨n+1,0,none⟩ (.int .i64 3):=by
      refine callsD_of_wpS Tryz.func131 rfl fun c₀ cs hu=>?_;apply wpS_seq;apply wpS_region;simp [wpOpsS,go_sem,recoverD,hu,Tryz.ntmps131,Exit.thenS];refine wpS_cond (t:=true) (by simp [Act.eval,Array.replicate]) ?_;simp only [if_true];apply wpS_region;simp [wpOpsS,go_sem,h0,h1,f0,f1,bodyPostS,results,Tryz.results131]
theorem jl1 (p q:Addr) (w:World) :
    CallsD Tryz.prog 131 #[.pointer (some p),.pointer (some q)] .returning w fun e u' w'=>e=.returned (.tuple #[])∧u'=.returning∧w'=w:=by
     refine callsD_of_wpS Tryz.func131 rfl fun c₀ cs hu=>?_;apply wpS_seq;apply wpS_region;simp [wpOpsS,go_sem,recoverD,hu,Tryz.ntmps131,Exit.thenS];refine wpS_cond (t:=false) (by simp [Act.eval,Array.replicate]) ?_;simp only [Bool.false_eq_true,if_false];refine wpS_of_wp (wp_skip ?_)
     cases c₀
     simp_all [bodyPostS,results,Tryz.results131]
def jl2 (s:ByteArray) (w:World) (e:Ending) (w':World):Prop :=
 ∃ v E,e=.returned (.tuple #[v,.int .i64 E])∧w.grownBy w' none∧((∃ xs,all (fd s) s.size=some xs∧E=0∧OwnsL 49 4 fcells w' w.heap.size v xs)∨(all (fd s) s.size=none∧E=3∧v=.slice none 0 0))
def jeg (s:ByteArray) (w wr:World) (p:Nat) (v:Value) (xs:List Fld):Prop :=
 w.grownBy wr none∧w.heap.size+3≤wr.heap.size∧Cur wr (w.heap.size+1+1) s p∧wr.heap[w.heap.size]?=some (.cells #[v] 51 (0,0))∧wr.heap[w.heap.size+1]?=some (.cells #[.int .i64 0] 28 (0,0))∧OwnsL 49 4 fcells wr (w.heap.size+3) v xs ∧
  xs.length≤p∧all (fd s) s.size=(allF (fd s) s.size (s.size - p) p).map (xs++·)
theorem jkK {s:ByteArray} {w wr:World} {p:Nat} {v:Value} {xs:List Fld} (hI:jeg s w wr p v xs) {w3 w4 w5:World} (hg3:wr.grownBy w3 (some (w.heap.size+1+1))) (hg4:w3.grownBy w4 none) (hg5:w4.grownBy w5 v.ownBlock) :
    (∀ b,b<w.heap.size+3→w5.heap[b]?=w3.heap[b]?)∧(∀ b,b<w.heap.size+2→w5.heap[b]?=wr.heap[b]?):=by
     obtain ⟨hg,hsz,-,-,-,hown,-,-⟩:=hI
     have h1:∀ b,b<w.heap.size+3→w5.heap[b]?=w3.heap[b]?:=fun b hb=>by
      have:=hg3.size;have:=hg4.size;exact (hg5.block b (by omega) (fun e=>by have:=World.ownsRow.lt hown b e.symm;omega)).trans (hg4.block b (by omega) (by simp))
     exact ⟨h1,fun b hb=>(h1 b (by omega)).trans (hg3.block b (by omega) (fun e=>by cases e;omega))⟩
theorem jfT {s:ByteArray} {w wr:World} {p:Nat} {v:Value} {xs:List Fld} (hI:jeg s w wr p v xs) {w3 w4 w5:World} (hg3:wr.grownBy w3 (some (w.heap.size+1+1))) (hg4:w3.grownBy w4 none) (hg5:w4.grownBy w5 v.ownBlock) :
    w5.cell? ⟨w.heap.size,0,none⟩=some v∧w5.frozen? ⟨w.heap.size,0,none⟩=false :=
     jkn (((jkK hI hg3 hg4 hg5).2 _ (by omega)).trans hI.2.2.2.1)
theorem jfU {s : ByteArray} {w wr : World} {p : Nat} {v : Value} {xs : List Fld} (hI : jeg s w wr p v xs) {y : Fld} {q : Nat} (hit : fd s p = some (y, q)) (hlt : p < s.size) {w3 w4 w5 : World} (hg3 : wr.grownBy w3 (some (w.heap.size + 1 + 1))) (hc3 : Cur w3 (w.heap.size + 1 + 1) s q)
    (hg4:w3.grownBy w4 none) {v':Value} (hown5:OwnsL 49 4 fcells w5 (w.heap.size+3) v' (xs++[y])) (hg5:w4.grownBy w5 v.ownBlock):jeg s w (w5.setCell ⟨w.heap.size,0,none⟩ v') q v' (xs++[y]):=by
     obtain ⟨f3,fr⟩:=jkK hI hg3 hg4 hg5;obtain ⟨hg,hsz,-,b0,b1,hown,hle,hall⟩:=hI;have hsp:=fd_spec hit;have hg45:w.grownBy w5 none:=jkJ (hown.kept hg3 (fun g e=>by cases e;omega) |>.more hg4) (jaa (jah hg hg3 (fun g e=>by cases e;omega)) hg4) (by omega) hg5;have hz:w.heap.size+3≤w5.heap.size:=by have:=hg3.size;have:=hg4.size;have:=hg5.size;omega
     have hgs:=jce w5 w.heap.size 0 v';refine ⟨jaV hg45 (Nat.le_refl _),by simpa using hz,?_,?_,?_,hown5.kept hgs (fun g e=>by cases e;omega),?_,?_⟩
     ·refine Cur.kept (row:=some w.heap.size) ?_ hgs (by simp <;> omega)
      have h2:=f3 (w.heap.size+1+1) (by omega);exact ⟨(World.cell?_of_block (a:=⟨w.heap.size+1+1,0,none⟩) h2).trans hc3.1,(World.cell?_of_block (a:=⟨w.heap.size+1+1,1,none⟩) h2).trans hc3.2.1,(World.frozen?_of_block (a:=⟨w.heap.size+1+1,1,none⟩) h2).trans hc3.2.2.1,hc3.2.2.2⟩
     ·have:=(fr _ (by omega)).trans b0;exact set1 this v'
     ·exact (hgs.block _ (by omega) (by simp)).trans ((fr _ (by omega)).trans b1)
     ·simp;omega
     ·rw [hall,allF_some hlt (by omega) hit,ji8,jhR (item:=fd s) (fun h=>by have:=fd_spec h;omega) (f':=s.size - q) (by omega) (by omega)]
theorem jiE (s:ByteArray) (w:World) (hs:s.size≤9223372036854775807) (hb:s.size*40≤140737488351232) (hs2:s.size≤16777216) :
    Calls Tryz.prog 105 #[.string s,.func (.func 106) #[] #[]] w fun e w'=>jl2 s w e w':=by
     have hmf:∀ (fn:Fn) (first cap:Array Value) (w:World),(Instr.makeFunc fn first cap).run Tryz.prog w=.ok (.func fn first cap) w:=fun _ _ _ _=>rfl;obtain ⟨i0,hi,hz0,hz1,hz2⟩:=info_parts info_fld;obtain ⟨w0,hw0⟩ : ∃ w0,w0=((w.alloc (.cells #[.slice none 0 0] 51)).alloc (.cells #[.int .i64 0] 28)).alloc (.cells #[.string s,.int .i64 0] 192):=⟨_,rfl⟩
     have I0:jeg s w w0 0 (.slice none 0 0) []:=by
      have hg0:w.grownBy w0 none:=by rw [hw0];exact jaa (jaa (jab _ _) (jab _ _)) (jab _ _)
      have B0:w0.heap[w.heap.size]?=some (.cells #[.slice none 0 0] 51 (0,0)):=by
       rw [hw0,jfr _ _ _ (by simp <;> omega),jfr _ _ _ (by simp)];exact jc0 _ _ _ (by simp)
      have B1:w0.heap[w.heap.size+1]?=some (.cells #[.int .i64 0] 28 (0,0)):=by rw [hw0,jfr _ _ _ (by simp)];exact jc0 _ _ _ (by simp)
      have B2:w0.heap[w.heap.size+1+1]?=some (.cells #[.string s,.int .i64 0] 192 (0,0)):=by rw [hw0];exact jc0 _ _ _ (by simp)
      obtain ⟨c0,c1,cf0,cf1⟩:=box2 B2;refine ⟨hg0,by rw [hw0];simp <;> omega,⟨c0,c1,cf1,hs,Nat.zero_le _⟩,B0,B1,OwnsL.nil _ _ _ _ _,Nat.zero_le _,?_⟩
      simp [all]
     go_enter_defers Tryz.func105,Tryz.ntmps105
     go_wp2;rw [← hw0];clear hw0;go_loopg [10] s.size (fun k _ wr=>∃ p v xs,k=s.size - p∧jeg s w wr p v xs)
     case atStart=>exact ⟨0,_,_,rfl,I0⟩
     case round =>
      obtain ⟨p,v,xs,rfl,hI⟩:=hrel;clear I0;obtain ⟨ao,cap,rfl⟩:=hI.2.2.2.2.2.1.form;have HI:=jac hI;obtain ⟨hg,hsz,hcur,B0,B1,hown,hle,hall⟩:=hI;have HC:=jac hcur;obtain ⟨-,d1,-,-,hp⟩:=hcur;obtain ⟨c0,f0⟩:=jkn B0;obtain ⟨c1,f1⟩:=jkn B1;have IT:=jac (fun wx (hx:wr.grownBy wx none)=>jkI _ s p wx (HC.out.more hx) hs2);clear hg B0 B1 hown hall
      by_cases hlt:p<s.size
      ·cases hit:fd s p with
       | none =>
        have HN:=jac hit;clear hit;go_wp2;refine wp_region_any (by kernel_rfl) ?_;change wpAny _ _ _ _ _ _ _ (World.drew _);refine wpAny_ready (rs:=[0,1]) (by kernel_rfl) (by simp) ?_;refine AllReady.cons rfl (fun K hK=>?_) (AllReady.cons rfl (fun K hK=>?_) AllReady.nil)
        ·go_simp;refine hK _ _ ?_;clear hK K;refine wpAny_ready (rs:=[1]) (by kernel_rfl) (by simp) ?_;refine AllReady.cons rfl (fun K hK=>?_) AllReady.nil;go_simp;refine hK _ _ ?_;clear hK K;refine wpAny_ready (rs:=[2]) (by kernel_rfl) (by simp) ?_;refine AllReady.cons rfl (fun K hK=>?_) AllReady.nil;go_simp;refine (IT.out wr.drew (row_drew (jae _))).mono ?_;rintro e w3 ⟨hg3',⟨x,q,hx,-⟩ | ⟨-,rfl⟩⟩
         ·rw [HN.out] at hx;cases hx
         ·dsimp only;clear hK K;have hg3:=jcv hg3';have k0:=hg3.cell c0 (by simp <;> omega)
          have k1:=hg3.cell c1 (by simp <;> omega)
          have g0:=(World.frozen?_of_block (a:=⟨w.heap.size,0,none⟩) (hg3.block _ (by simp <;> omega) (by simp <;> omega))).trans f0
          have g1:=(World.frozen?_of_block (a:=⟨w.heap.size+1,0,none⟩) (hg3.block _ (by simp <;> omega) (by simp <;> omega))).trans f1
          go_wp2;refine leaves_cons (f:=131) (args:=#[.pointer (some ⟨w.heap.size,0,none⟩),.pointer (some ⟨w.heap.size+1,0,none⟩)]) (by simp) (by simp [go_sem]) ?_;refine (jgb w.heap.size _ _ _ _ [] _ k0 k1 g0 g1).mono ?_;rintro e u' w'' ⟨rfl,rfl,rfl⟩;simp [Leaves,settle,results,Tryz.results105,go_sem,k0,k1];obtain ⟨hg,-,-,-,-,-,-,hall⟩:=HI.out;refine ⟨_,_,rfl,jaV (jaV (jah hg hg3 (fun g e=>by cases e;omega)) (by omega)) (by omega),.inr ⟨?_,rfl,rfl⟩⟩;rw [hall,jdp hlt (by omega) HN.out];rfl
        ·go_simp;refine hK _ _ ?_;clear hK K;refine wpAny_ready (rs:=[0,2]) (by kernel_rfl) (by simp) ?_;refine AllReady.cons rfl (fun K hK=>?_) (AllReady.cons rfl (fun K hK=>?_) AllReady.nil)
         ·go_simp;refine hK _ _ ?_;clear hK K;refine wpAny_ready (rs:=[2]) (by kernel_rfl) (by simp) ?_;refine AllReady.cons rfl (fun K hK=>?_) AllReady.nil;go_simp;refine (IT.out wr.drew (row_drew (jae _))).mono ?_;rintro e w3 ⟨hg3',⟨x,q,hx,-⟩ | ⟨-,rfl⟩⟩
          ·rw [HN.out] at hx;cases hx
          ·dsimp only;clear hK K;have hg3:=jcv hg3';have k0:=hg3.cell c0 (by simp <;> omega)
           have k1:=hg3.cell c1 (by simp <;> omega)
           have g0:=(World.frozen?_of_block (a:=⟨w.heap.size,0,none⟩) (hg3.block _ (by simp <;> omega) (by simp <;> omega))).trans f0
           have g1:=(World.frozen?_of_block (a:=⟨w.heap.size+1,0,none⟩) (hg3.block _ (by simp <;> omega) (by simp <;> omega))).trans f1
           go_wp2;refine leaves_cons (f:=131) (args:=#[.pointer (some ⟨w.heap.size,0,none⟩),.pointer (some ⟨w.heap.size+1,0,none⟩)]) (by simp) (by simp [go_sem]) ?_;refine (jgb w.heap.size _ _ _ _ [] _ k0 k1 g0 g1).mono ?_;rintro e u' w'' ⟨rfl,rfl,rfl⟩;simp [Leaves,settle,results,Tryz.results105,go_sem,k0,k1];obtain ⟨hg,-,-,-,-,-,-,hall⟩:=HI.out;refine ⟨_,_,rfl,jaV (jaV (jah hg hg3 (fun g e=>by cases e;omega)) (by omega)) (by omega),.inr ⟨?_,rfl,rfl⟩⟩;rw [hall,jdp hlt (by omega) HN.out];rfl
         ·go_simp;refine (IT.out wr.drew (row_drew (jae _))).mono ?_;rintro e w3 ⟨hg3',⟨x,q,hx,-⟩ | ⟨-,rfl⟩⟩
          ·rw [HN.out] at hx;cases hx
          ·dsimp only;clear hK K;have hg3:=jcv hg3';have k0:=hg3.cell c0 (by simp <;> omega)
           have k1:=hg3.cell c1 (by simp <;> omega)
           have g0:=(World.frozen?_of_block (a:=⟨w.heap.size,0,none⟩) (hg3.block _ (by simp <;> omega) (by simp <;> omega))).trans f0
           have g1:=(World.frozen?_of_block (a:=⟨w.heap.size+1,0,none⟩) (hg3.block _ (by simp <;> omega) (by simp <;> omega))).trans f1
           go_wp2;refine leaves_cons (f:=131) (args:=#[.pointer (some ⟨w.heap.size,0,none⟩),.pointer (some ⟨w.heap.size+1,0,none⟩)]) (by simp) (by simp [go_sem]) ?_;refine (jgb w.heap.size _ _ _ _ [] _ k0 k1 g0 g1).mono ?_;rintro e u' w'' ⟨rfl,rfl,rfl⟩;simp [Leaves,settle,results,Tryz.results105,go_sem,k0,k1];obtain ⟨hg,-,-,-,-,-,-,hall⟩:=HI.out;refine ⟨_,_,rfl,jaV (jaV (jah hg hg3 (fun g e=>by cases e;omega)) (by omega)) (by omega),.inr ⟨?_,rfl,rfl⟩⟩;rw [hall,jdp hlt (by omega) HN.out];rfl
       | some yr =>
        obtain ⟨y,r⟩:=yr;have HN:=jac hit;have hsp:=fd_spec hit;clear hit;go_wp2;refine wp_region_any (by kernel_rfl) ?_;change wpAny _ _ _ _ _ _ _ (World.drew _);refine wpAny_ready (rs:=[0,1]) (by kernel_rfl) (by simp) ?_;refine AllReady.cons rfl (fun K hK=>?_) (AllReady.cons rfl (fun K hK=>?_) AllReady.nil)
        ·go_simp;refine hK _ _ ?_;clear hK K;refine wpAny_ready (rs:=[1]) (by kernel_rfl) (by simp) ?_;refine AllReady.cons rfl (fun K hK=>?_) AllReady.nil;go_simp;refine hK _ _ ?_;clear hK K;refine wpAny_ready (rs:=[2]) (by kernel_rfl) (by simp) ?_;refine AllReady.cons rfl (fun K hK=>?_) AllReady.nil;go_simp;refine (IT.out wr.drew (row_drew (jae _))).mono ?_;rintro e w3 ⟨hg3',⟨x,q,hx,rfl,hc3⟩ | ⟨hx,-⟩⟩
         ·obtain ⟨rfl,rfl⟩ : x=y∧q=r:=by rw [HN.out] at hx;cases hx;exact ⟨rfl,rfl⟩
          clear hx;have hg3:=jcv hg3';have hne:∀ b,b≠w.heap.size+1+1→some b≠some (w.heap.size+1+1):=fun b h e=>h (by cases e;rfl);have b0:=(hg3.block _ (by omega) (hne _ (by omega))).trans HI.out.2.2.2.1;have b1:=(hg3.block _ (by omega) (hne _ (by omega))).trans HI.out.2.2.2.2.1;have HOW:=jac (HI.out.2.2.2.2.2.1.kept hg3 (fun g e=>by cases e;omega));have HC3:=jac hc3;have H0:=jac b0;have H1:=jac b1;have hz3:=hg3.size;obtain ⟨k0,g0⟩:=jkn b0;have k9:∀ o,(w3.alloc o).cell? ⟨w.heap.size,0,none⟩=some (.slice ao xs.length cap):=fun o=>(jab w3 o).cell k0 (by simp);clear hc3 b0 b1;dsimp only [jcH];refine hK _ _ ?_;clear hK K;refine wpAny_ready (rs:=[3]) (by kernel_rfl) (by simp) ?_;refine AllReady.cons rfl (fun K hK=>?_) AllReady.nil;go_simp;refine hK _ _ ?_;clear hK K;refine wpAny_ready (rs:=[4]) (by kernel_rfl) (by simp) ?_;refine AllReady.cons rfl (fun K hK=>?_) AllReady.nil;rw [if_pos (by simp [Region.wanted])];refine jdG (.tmp 15) (.tmp 18) 51 49 4 40 _ i0 fcells rfl Tryz.underlying51 hi hz0 hz1 hz2 rfl (by decide) (w.heap.size+3) _ xs rfl ?ho w3.heap.size 1 x _ rfl (heap_alloc_new w3 _) rfl rfl ?h1 ?hb ?h63 ?hba ?_
          case ho=>exact HOW.out.more (jab _ _)
          case h1=>intro u hu;simp [fcells] at hu;rcases hu with rfl | rfl | rfl | rfl <;> rfl
          case hb=>omega
          case h63=>simp only [maxLen];omega
          case hba=>simp;omega
          intro v' w5 hown5 hg5;obtain ⟨ao',cap',rfl⟩:=hown5.form;have hS:=jfU HI.out HN.out hlt hg3 HC3.out (jab w3 _) hown5 hg5;rw [List.length_append,List.length_singleton] at hS;have HS:=jac hS;clear hS hown5;have hw:w5.cell? ⟨w.heap.size,0,none⟩=some (.slice ao xs.length cap)∧w5.frozen? ⟨w.heap.size,0,none⟩=false:=jfT HI.out hg3 (jab w3 _) hg5;obtain ⟨m0,m1⟩:=hw;refine hK _ _ ?_;clear hK K;refine wpAny_ready (rs:=[5]) (by kernel_rfl) (by simp) ?_;refine AllReady.cons rfl (fun K hK=>?_) AllReady.nil;go_simp;refine hK _ _ ?_;clear hK K;refine wpAny_done (by kernel_rfl) ?_ _;go_wp2;go_roundg (s.size - q)
          case measure=>omega
          case rel=>exact ⟨q,_,_,rfl,HS.out⟩
         ·rw [HN.out] at hx;cases hx
        ·go_simp;refine hK _ _ ?_;clear hK K;refine wpAny_ready (rs:=[0,2]) (by kernel_rfl) (by simp) ?_;refine AllReady.cons rfl (fun K hK=>?_) (AllReady.cons rfl (fun K hK=>?_) AllReady.nil)
         ·go_simp;refine hK _ _ ?_;clear hK K;refine wpAny_ready (rs:=[2]) (by kernel_rfl) (by simp) ?_;refine AllReady.cons rfl (fun K hK=>?_) AllReady.nil;go_simp;refine (IT.out wr.drew (row_drew (jae _))).mono ?_;rintro e w3 ⟨hg3',⟨x,q,hx,rfl,hc3⟩ | ⟨hx,-⟩⟩
          ·obtain ⟨rfl,rfl⟩ : x=y∧q=r:=by rw [HN.out] at hx;cases hx;exact ⟨rfl,rfl⟩
           clear hx;have hg3:=jcv hg3';have hne:∀ b,b≠w.heap.size+1+1→some b≠some (w.heap.size+1+1):=fun b h e=>h (by cases e;rfl);have b0:=(hg3.block _ (by omega) (hne _ (by omega))).trans HI.out.2.2.2.1;have b1:=(hg3.block _ (by omega) (hne _ (by omega))).trans HI.out.2.2.2.2.1;have HOW:=jac (HI.out.2.2.2.2.2.1.kept hg3 (fun g e=>by cases e;omega));have HC3:=jac hc3;have H0:=jac b0;have H1:=jac b1;have hz3:=hg3.size;obtain ⟨k0,g0⟩:=jkn b0;have k9:∀ o,(w3.alloc o).cell? ⟨w.heap.size,0,none⟩=some (.slice ao xs.length cap):=fun o=>(jab w3 o).cell k0 (by simp);clear hc3 b0 b1;dsimp only [jcH];refine hK _ _ ?_;clear hK K;refine wpAny_ready (rs:=[3]) (by kernel_rfl) (by simp) ?_;refine AllReady.cons rfl (fun K hK=>?_) AllReady.nil;go_simp;refine hK _ _ ?_;clear hK K;refine wpAny_ready (rs:=[4]) (by kernel_rfl) (by simp) ?_;refine AllReady.cons rfl (fun K hK=>?_) AllReady.nil;rw [if_pos (by simp [Region.wanted])];refine jdG (.tmp 15) (.tmp 18) 51 49 4 40 _ i0 fcells rfl Tryz.underlying51 hi hz0 hz1 hz2 rfl (by decide) (w.heap.size+3) _ xs rfl ?ho w3.heap.size 1 x _ rfl (heap_alloc_new w3 _) rfl rfl ?h1 ?hb ?h63 ?hba ?_
           case ho=>exact HOW.out.more (jab _ _)
           case h1=>intro u hu;simp [fcells] at hu;rcases hu with rfl | rfl | rfl | rfl <;> rfl
           case hb=>omega
           case h63=>simp only [maxLen];omega
           case hba=>simp;omega
           intro v' w5 hown5 hg5;obtain ⟨ao',cap',rfl⟩:=hown5.form;have hS:=jfU HI.out HN.out hlt hg3 HC3.out (jab w3 _) hown5 hg5;rw [List.length_append,List.length_singleton] at hS;have HS:=jac hS;clear hS hown5;have hw:w5.cell? ⟨w.heap.size,0,none⟩=some (.slice ao xs.length cap)∧w5.frozen? ⟨w.heap.size,0,none⟩=false:=jfT HI.out hg3 (jab w3 _) hg5;obtain ⟨m0,m1⟩:=hw;refine hK _ _ ?_;clear hK K;refine wpAny_ready (rs:=[5]) (by kernel_rfl) (by simp) ?_;refine AllReady.cons rfl (fun K hK=>?_) AllReady.nil;go_simp;refine hK _ _ ?_;clear hK K;refine wpAny_done (by kernel_rfl) ?_ _;go_wp2;go_roundg (s.size - q)
           case measure=>omega
           case rel=>exact ⟨q,_,_,rfl,HS.out⟩
          ·rw [HN.out] at hx;cases hx
         ·go_simp;refine (IT.out wr.drew (row_drew (jae _))).mono ?_;rintro e w3 ⟨hg3',⟨x,q,hx,rfl,hc3⟩ | ⟨hx,-⟩⟩
          ·obtain ⟨rfl,rfl⟩ : x=y∧q=r:=by rw [HN.out] at hx;cases hx;exact ⟨rfl,rfl⟩
           clear hx;have hg3:=jcv hg3';have hne:∀ b,b≠w.heap.size+1+1→some b≠some (w.heap.size+1+1):=fun b h e=>h (by cases e;rfl);have b0:=(hg3.block _ (by omega) (hne _ (by omega))).trans HI.out.2.2.2.1;have b1:=(hg3.block _ (by omega) (hne _ (by omega))).trans HI.out.2.2.2.2.1;have HOW:=jac (HI.out.2.2.2.2.2.1.kept hg3 (fun g e=>by cases e;omega));have HC3:=jac hc3;have H0:=jac b0;have H1:=jac b1;have hz3:=hg3.size;obtain ⟨k0,g0⟩:=jkn b0;have k9:∀ o,(w3.alloc o).cell? ⟨w.heap.size,0,none⟩=some (.slice ao xs.length cap):=fun o=>(jab w3 o).cell k0 (by simp);clear hc3 b0 b1;dsimp only [jcH];refine hK _ _ ?_;clear hK K;refine wpAny_ready (rs:=[0,3]) (by kernel_rfl) (by simp) ?_;refine AllReady.cons rfl (fun K hK=>?_) (AllReady.cons rfl (fun K hK=>?_) AllReady.nil)
           ·go_simp;refine hK _ _ ?_;clear hK K;refine wpAny_ready (rs:=[3]) (by kernel_rfl) (by simp) ?_;refine AllReady.cons rfl (fun K hK=>?_) AllReady.nil;go_simp;refine hK _ _ ?_;clear hK K;refine wpAny_ready (rs:=[4]) (by kernel_rfl) (by simp) ?_;refine AllReady.cons rfl (fun K hK=>?_) AllReady.nil;rw [if_pos (by simp [Region.wanted])];refine jdG (.tmp 15) (.tmp 18) 51 49 4 40 _ i0 fcells rfl Tryz.underlying51 hi hz0 hz1 hz2 rfl (by decide) (w.heap.size+3) _ xs rfl ?ho w3.heap.size 1 x _ rfl (heap_alloc_new w3 _) rfl rfl ?h1 ?hb ?h63 ?hba ?_
            case ho=>exact HOW.out.more (jab _ _)
            case h1=>intro u hu;simp [fcells] at hu;rcases hu with rfl | rfl | rfl | rfl <;> rfl
            case hb=>omega
            case h63=>simp only [maxLen];omega
            case hba=>simp;omega
            intro v' w5 hown5 hg5;obtain ⟨ao',cap',rfl⟩:=hown5.form;have hS:=jfU HI.out HN.out hlt hg3 HC3.out (jab w3 _) hown5 hg5;rw [List.length_append,List.length_singleton] at hS;have HS:=jac hS;clear hS hown5;have hw:w5.cell? ⟨w.heap.size,0,none⟩=some (.slice ao xs.length cap)∧w5.frozen? ⟨w.heap.size,0,none⟩=false:=jfT HI.out hg3 (jab w3 _) hg5;obtain ⟨m0,m1⟩:=hw;refine hK _ _ ?_;clear hK K;refine wpAny_ready (rs:=[5]) (by kernel_rfl) (by simp) ?_;refine AllReady.cons rfl (fun K hK=>?_) AllReady.nil;go_simp;refine hK _ _ ?_;clear hK K;refine wpAny_done (by kernel_rfl) ?_ _;go_wp2;go_roundg (s.size - q)
            case measure=>omega
            case rel=>exact ⟨q,_,_,rfl,HS.out⟩
           ·go_simp;refine hK _ _ ?_;clear hK K;refine wpAny_ready (rs:=[0]) (by kernel_rfl) (by simp) ?_;refine AllReady.cons rfl (fun K hK=>?_) AllReady.nil;go_simp;refine hK _ _ ?_;clear hK K;refine wpAny_ready (rs:=[4]) (by kernel_rfl) (by simp) ?_;refine AllReady.cons rfl (fun K hK=>?_) AllReady.nil;rw [if_pos (by simp [Region.wanted])];refine jdG (.tmp 15) (.tmp 18) 51 49 4 40 _ i0 fcells rfl Tryz.underlying51 hi hz0 hz1 hz2 rfl (by decide) (w.heap.size+3) _ xs rfl ?ho w3.heap.size 1 x _ rfl (heap_alloc_new w3 _) rfl rfl ?h1 ?hb ?h63 ?hba ?_
            case ho=>exact HOW.out.more (jab _ _)
            case h1=>intro u hu;simp [fcells] at hu;rcases hu with rfl | rfl | rfl | rfl <;> rfl
            case hb=>omega
            case h63=>simp only [maxLen];omega
            case hba=>simp;omega
            intro v' w5 hown5 hg5;obtain ⟨ao',cap',rfl⟩:=hown5.form;have hS:=jfU HI.out HN.out hlt hg3 HC3.out (jab w3 _) hown5 hg5;rw [List.length_append,List.length_singleton] at hS;have HS:=jac hS;clear hS hown5;have hw:w5.cell? ⟨w.heap.size,0,none⟩=some (.slice ao xs.length cap)∧w5.frozen? ⟨w.heap.size,0,none⟩=false:=jfT HI.out hg3 (jab w3 _) hg5;obtain ⟨m0,m1⟩:=hw;refine hK _ _ ?_;clear hK K;refine wpAny_ready (rs:=[5]) (by kernel_rfl) (by simp) ?_;refine AllReady.cons rfl (fun K hK=>?_) AllReady.nil;go_simp;refine hK _ _ ?_;clear hK K;refine wpAny_done (by kernel_rfl) ?_ _;go_wp2;go_roundg (s.size - q)
            case measure=>omega
            case rel=>exact ⟨q,_,_,rfl,HS.out⟩
          ·rw [HN.out] at hx;cases hx
      ·go_wp2;refine leaves_cons (f:=131) (args:=#[.pointer (some ⟨w.heap.size,0,none⟩),.pointer (some ⟨w.heap.size+1,0,none⟩)]) (by simp) (by simp [go_sem]) ?_;refine (jl1 _ _ _).mono ?_;rintro e u' w'' ⟨rfl,rfl,rfl⟩;simp [Leaves,settle,results,Tryz.results105,go_sem,c0,c1];obtain ⟨hg,-,-,-,-,hown,-,hall⟩:=HI.out;refine ⟨_,_,rfl,jaV (jaV hg (by omega)) (by omega),.inl ⟨xs,?_,rfl,?_⟩⟩
       ·rw [hall,jch (by omega)];simp
       ·exact ((hown.kept (jce _ _ _ _) (fun g e=>by cases e;omega)).kept (jce _ _ _ _) (fun g e=>by cases e;omega)).base_le (by omega)
theorem jl3:(Tryz.prog.info? 47).map (fun i=>(i.zero,i.size,i.bytes))=some (some (.int .u64 0),1,8):=by kernel_rfl
theorem jgc (n : Nat) (x y : Value) (u : TypeId) (pv : Value) (older : List PanicEntry) (w : World)
    (h0:w.cell? ⟨n,0,none⟩=some x) (h1:w.cell? ⟨n+1,0,none⟩=some y) (f0:w.frozen? ⟨n,0,none⟩=false) (f1:w.frozen? ⟨n+1,0,none⟩=false) :
    CallsD Tryz.prog 163 #[.pointer (some ⟨n,0,none⟩),.pointer (some ⟨n+1,0,none⟩)] (.panicking ({ v:=.iface u pv,recovered:=false }::older)) w fun e u' w' =>
     e=.returned (.tuple #[])∧u'=.panicking ({ v:=.iface u pv,recovered:=true }::older)∧w'=(w.setCell ⟨n,0,none⟩ (.slice none 0 0)).setCell ⟨n+1,0,none⟩ (.int .i64 3):=by
      refine callsD_of_wpS Tryz.func163 rfl fun c₀ cs hu=>?_;apply wpS_seq;apply wpS_region;simp [wpOpsS,go_sem,recoverD,hu,Tryz.ntmps163,Exit.thenS];refine wpS_cond (t:=true) (by simp [Act.eval,Array.replicate]) ?_;simp only [if_true];apply wpS_region;simp [wpOpsS,go_sem,h0,h1,f0,f1,bodyPostS,results,Tryz.results163]
theorem jl4 (p q:Addr) (w:World) :
    CallsD Tryz.prog 163 #[.pointer (some p),.pointer (some q)] .returning w fun e u' w'=>e=.returned (.tuple #[])∧u'=.returning∧w'=w:=by
     refine callsD_of_wpS Tryz.func163 rfl fun c₀ cs hu=>?_;apply wpS_seq;apply wpS_region;simp [wpOpsS,go_sem,recoverD,hu,Tryz.ntmps163,Exit.thenS];refine wpS_cond (t:=false) (by simp [Act.eval,Array.replicate]) ?_;simp only [Bool.false_eq_true,if_false];refine wpS_of_wp (wp_skip ?_)
     cases c₀
     simp_all [bodyPostS,results,Tryz.results163]
def jjk (s:ByteArray) (w:World) (e:Ending) (w':World):Prop :=
 ∃ v E,e=.returned (.tuple #[v,.int .i64 E])∧w.grownBy w' none∧((∃ xs,all (tk s) s.size=some xs∧E=0∧OwnsL 47 1 ncells w' w.heap.size v xs)∨(all (tk s) s.size=none∧E=3∧v=.slice none 0 0))
def jeh (s:ByteArray) (w wr:World) (p:Nat) (v:Value) (xs:List Nat):Prop :=
 w.grownBy wr none∧w.heap.size+3≤wr.heap.size∧Cur wr (w.heap.size+1+1) s p∧wr.heap[w.heap.size]?=some (.cells #[v] 138 (0,0))∧wr.heap[w.heap.size+1]?=some (.cells #[.int .i64 0] 28 (0,0))∧OwnsL 47 1 ncells wr (w.heap.size+3) v xs ∧
  xs.length≤p∧all (tk s) s.size=(allF (tk s) s.size (s.size - p) p).map (xs++·)
theorem jkL {s:ByteArray} {w wr:World} {p:Nat} {v:Value} {xs:List Nat} (hI:jeh s w wr p v xs) {w3 w4 w5:World} (hg3:wr.grownBy w3 (some (w.heap.size+1+1))) (hg4:w3.grownBy w4 none) (hg5:w4.grownBy w5 v.ownBlock) :
    (∀ b,b<w.heap.size+3→w5.heap[b]?=w3.heap[b]?)∧(∀ b,b<w.heap.size+2→w5.heap[b]?=wr.heap[b]?):=by
     obtain ⟨hg,hsz,-,-,-,hown,-,-⟩:=hI
     have h1:∀ b,b<w.heap.size+3→w5.heap[b]?=w3.heap[b]?:=fun b hb=>by
      have:=hg3.size;have:=hg4.size;exact (hg5.block b (by omega) (fun e=>by have:=World.ownsRow.lt hown b e.symm;omega)).trans (hg4.block b (by omega) (by simp))
     exact ⟨h1,fun b hb=>(h1 b (by omega)).trans (hg3.block b (by omega) (fun e=>by cases e;omega))⟩
theorem jfV {s:ByteArray} {w wr:World} {p:Nat} {v:Value} {xs:List Nat} (hI:jeh s w wr p v xs) {w3 w4 w5:World} (hg3:wr.grownBy w3 (some (w.heap.size+1+1))) (hg4:w3.grownBy w4 none) (hg5:w4.grownBy w5 v.ownBlock) :
    w5.cell? ⟨w.heap.size,0,none⟩=some v∧w5.frozen? ⟨w.heap.size,0,none⟩=false :=
     jkn (((jkL hI hg3 hg4 hg5).2 _ (by omega)).trans hI.2.2.2.1)
theorem jfW {s : ByteArray} {w wr : World} {p : Nat} {v : Value} {xs : List Nat} (hI : jeh s w wr p v xs) {y : Nat} {q : Nat} (hit : tk s p = some (y, q)) (hlt : p < s.size) {w3 w4 w5 : World} (hg3 : wr.grownBy w3 (some (w.heap.size + 1 + 1))) (hc3 : Cur w3 (w.heap.size + 1 + 1) s q)
    (hg4:w3.grownBy w4 none) {v':Value} (hown5:OwnsL 47 1 ncells w5 (w.heap.size+3) v' (xs++[y])) (hg5:w4.grownBy w5 v.ownBlock):jeh s w (w5.setCell ⟨w.heap.size,0,none⟩ v') q v' (xs++[y]):=by
     obtain ⟨f3,fr⟩:=jkL hI hg3 hg4 hg5;obtain ⟨hg,hsz,-,b0,b1,hown,hle,hall⟩:=hI;have hsp:=tk_spec hit;have hg45:w.grownBy w5 none:=jkJ (hown.kept hg3 (fun g e=>by cases e;omega) |>.more hg4) (jaa (jah hg hg3 (fun g e=>by cases e;omega)) hg4) (by omega) hg5;have hz:w.heap.size+3≤w5.heap.size:=by have:=hg3.size;have:=hg4.size;have:=hg5.size;omega
     have hgs:=jce w5 w.heap.size 0 v';refine ⟨jaV hg45 (Nat.le_refl _),by simpa using hz,?_,?_,?_,hown5.kept hgs (fun g e=>by cases e;omega),?_,?_⟩
     ·refine Cur.kept (row:=some w.heap.size) ?_ hgs (by simp <;> omega)
      have h2:=f3 (w.heap.size+1+1) (by omega);exact ⟨(World.cell?_of_block (a:=⟨w.heap.size+1+1,0,none⟩) h2).trans hc3.1,(World.cell?_of_block (a:=⟨w.heap.size+1+1,1,none⟩) h2).trans hc3.2.1,(World.frozen?_of_block (a:=⟨w.heap.size+1+1,1,none⟩) h2).trans hc3.2.2.1,hc3.2.2.2⟩
     ·have:=(fr _ (by omega)).trans b0;exact set1 this v'
     ·exact (hgs.block _ (by omega) (by simp)).trans ((fr _ (by omega)).trans b1)
     ·simp;omega
     ·rw [hall,allF_some hlt (by omega) hit,ji8,jhR (item:=tk s) (fun h=>by have:=tk_spec h;omega) (f':=s.size - q) (by omega) (by omega)]
theorem jiF (s:ByteArray) (w:World) (hs:s.size≤9223372036854775807) (hb:s.size*8≤140737488351232) :
    Calls Tryz.prog 156 #[.string s,.func (.func 132) #[] #[]] w fun e w'=>jjk s w e w':=by
     have hmf:∀ (fn:Fn) (first cap:Array Value) (w:World),(Instr.makeFunc fn first cap).run Tryz.prog w=.ok (.func fn first cap) w:=fun _ _ _ _=>rfl;obtain ⟨i0,hi,hz0,hz1,hz2⟩:=info_parts jl3;obtain ⟨w0,hw0⟩ : ∃ w0,w0=((w.alloc (.cells #[.slice none 0 0] 138)).alloc (.cells #[.int .i64 0] 28)).alloc (.cells #[.string s,.int .i64 0] 192):=⟨_,rfl⟩
     have I0:jeh s w w0 0 (.slice none 0 0) []:=by
      have hg0:w.grownBy w0 none:=by rw [hw0];exact jaa (jaa (jab _ _) (jab _ _)) (jab _ _)
      have B0:w0.heap[w.heap.size]?=some (.cells #[.slice none 0 0] 138 (0,0)):=by
       rw [hw0,jfr _ _ _ (by simp <;> omega),jfr _ _ _ (by simp)];exact jc0 _ _ _ (by simp)
      have B1:w0.heap[w.heap.size+1]?=some (.cells #[.int .i64 0] 28 (0,0)):=by rw [hw0,jfr _ _ _ (by simp)];exact jc0 _ _ _ (by simp)
      have B2:w0.heap[w.heap.size+1+1]?=some (.cells #[.string s,.int .i64 0] 192 (0,0)):=by rw [hw0];exact jc0 _ _ _ (by simp)
      obtain ⟨c0,c1,cf0,cf1⟩:=box2 B2;refine ⟨hg0,by rw [hw0];simp <;> omega,⟨c0,c1,cf1,hs,Nat.zero_le _⟩,B0,B1,OwnsL.nil _ _ _ _ _,Nat.zero_le _,?_⟩
      simp [all]
     go_enter_defers Tryz.func156,Tryz.ntmps156
     go_wp2;rw [← hw0];clear hw0;go_loopg [10] s.size (fun k _ wr=>∃ p v xs,k=s.size - p∧jeh s w wr p v xs)
     case atStart=>exact ⟨0,_,_,rfl,I0⟩
     case round =>
      obtain ⟨p,v,xs,rfl,hI⟩:=hrel;clear I0;obtain ⟨ao,cap,rfl⟩:=hI.2.2.2.2.2.1.form;have HI:=jac hI;obtain ⟨hg,hsz,hcur,B0,B1,hown,hle,hall⟩:=hI;have HC:=jac hcur;obtain ⟨-,d1,-,-,hp⟩:=hcur;obtain ⟨c0,f0⟩:=jkn B0;obtain ⟨c1,f1⟩:=jkn B1;have IT:=jac (fun wx (hx:wr.grownBy wx none)=>jef _ s p wx (HC.out.more hx));clear hg B0 B1 hown hall
      by_cases hlt:p<s.size
      ·cases hit:tk s p with
       | none =>
        have HN:=jac hit;clear hit;go_wp2;refine wp_region_any (by kernel_rfl) ?_;change wpAny _ _ _ _ _ _ _ (World.drew _);refine wpAny_ready (rs:=[0,1]) (by kernel_rfl) (by simp) ?_;refine AllReady.cons rfl (fun K hK=>?_) (AllReady.cons rfl (fun K hK=>?_) AllReady.nil)
        ·go_simp;refine hK _ _ ?_;clear hK K;refine wpAny_ready (rs:=[1]) (by kernel_rfl) (by simp) ?_;refine AllReady.cons rfl (fun K hK=>?_) AllReady.nil;go_simp;refine hK _ _ ?_;clear hK K;refine wpAny_ready (rs:=[2]) (by kernel_rfl) (by simp) ?_;refine AllReady.cons rfl (fun K hK=>?_) AllReady.nil;go_simp;refine (IT.out wr.drew (row_drew (jae _))).mono ?_;rintro e w3 ⟨hg3',⟨x,q,hx,-⟩ | ⟨-,rfl⟩⟩
         ·rw [HN.out] at hx;cases hx
         ·dsimp only;clear hK K;have hg3:=jcv hg3';have k0:=hg3.cell c0 (by simp <;> omega)
          have k1:=hg3.cell c1 (by simp <;> omega)
          have g0:=(World.frozen?_of_block (a:=⟨w.heap.size,0,none⟩) (hg3.block _ (by simp <;> omega) (by simp <;> omega))).trans f0
          have g1:=(World.frozen?_of_block (a:=⟨w.heap.size+1,0,none⟩) (hg3.block _ (by simp <;> omega) (by simp <;> omega))).trans f1
          go_wp2;refine leaves_cons (f:=163) (args:=#[.pointer (some ⟨w.heap.size,0,none⟩),.pointer (some ⟨w.heap.size+1,0,none⟩)]) (by simp) (by simp [go_sem]) ?_;refine (jgc w.heap.size _ _ _ _ [] _ k0 k1 g0 g1).mono ?_;rintro e u' w'' ⟨rfl,rfl,rfl⟩;simp [Leaves,settle,results,Tryz.results156,go_sem,k0,k1];obtain ⟨hg,-,-,-,-,-,-,hall⟩:=HI.out;refine ⟨_,_,rfl,jaV (jaV (jah hg hg3 (fun g e=>by cases e;omega)) (by omega)) (by omega),.inr ⟨?_,rfl,rfl⟩⟩;rw [hall,jdp hlt (by omega) HN.out];rfl
        ·go_simp;refine hK _ _ ?_;clear hK K;refine wpAny_ready (rs:=[0,2]) (by kernel_rfl) (by simp) ?_;refine AllReady.cons rfl (fun K hK=>?_) (AllReady.cons rfl (fun K hK=>?_) AllReady.nil)
         ·go_simp;refine hK _ _ ?_;clear hK K;refine wpAny_ready (rs:=[2]) (by kernel_rfl) (by simp) ?_;refine AllReady.cons rfl (fun K hK=>?_) AllReady.nil;go_simp;refine (IT.out wr.drew (row_drew (jae _))).mono ?_;rintro e w3 ⟨hg3',⟨x,q,hx,-⟩ | ⟨-,rfl⟩⟩
          ·rw [HN.out] at hx;cases hx
          ·dsimp only;clear hK K;have hg3:=jcv hg3';have k0:=hg3.cell c0 (by simp <;> omega)
           have k1:=hg3.cell c1 (by simp <;> omega)
           have g0:=(World.frozen?_of_block (a:=⟨w.heap.size,0,none⟩) (hg3.block _ (by simp <;> omega) (by simp <;> omega))).trans f0
           have g1:=(World.frozen?_of_block (a:=⟨w.heap.size+1,0,none⟩) (hg3.block _ (by simp <;> omega) (by simp <;> omega))).trans f1
           go_wp2;refine leaves_cons (f:=163) (args:=#[.pointer (some ⟨w.heap.size,0,none⟩),.pointer (some ⟨w.heap.size+1,0,none⟩)]) (by simp) (by simp [go_sem]) ?_;refine (jgc w.heap.size _ _ _ _ [] _ k0 k1 g0 g1).mono ?_;rintro e u' w'' ⟨rfl,rfl,rfl⟩;simp [Leaves,settle,results,Tryz.results156,go_sem,k0,k1];obtain ⟨hg,-,-,-,-,-,-,hall⟩:=HI.out;refine ⟨_,_,rfl,jaV (jaV (jah hg hg3 (fun g e=>by cases e;omega)) (by omega)) (by omega),.inr ⟨?_,rfl,rfl⟩⟩;rw [hall,jdp hlt (by omega) HN.out];rfl
         ·go_simp;refine (IT.out wr.drew (row_drew (jae _))).mono ?_;rintro e w3 ⟨hg3',⟨x,q,hx,-⟩ | ⟨-,rfl⟩⟩
          ·rw [HN.out] at hx;cases hx
          ·dsimp only;clear hK K;have hg3:=jcv hg3';have k0:=hg3.cell c0 (by simp <;> omega)
           have k1:=hg3.cell c1 (by simp <;> omega)
           have g0:=(World.frozen?_of_block (a:=⟨w.heap.size,0,none⟩) (hg3.block _ (by simp <;> omega) (by simp <;> omega))).trans f0
           have g1:=(World.frozen?_of_block (a:=⟨w.heap.size+1,0,none⟩) (hg3.block _ (by simp <;> omega) (by simp <;> omega))).trans f1
           go_wp2;refine leaves_cons (f:=163) (args:=#[.pointer (some ⟨w.heap.size,0,none⟩),.pointer (some ⟨w.heap.size+1,0,none⟩)]) (by simp) (by simp [go_sem]) ?_;refine (jgc w.heap.size _ _ _ _ [] _ k0 k1 g0 g1).mono ?_;rintro e u' w'' ⟨rfl,rfl,rfl⟩;simp [Leaves,settle,results,Tryz.results156,go_sem,k0,k1];obtain ⟨hg,-,-,-,-,-,-,hall⟩:=HI.out;refine ⟨_,_,rfl,jaV (jaV (jah hg hg3 (fun g e=>by cases e;omega)) (by omega)) (by omega),.inr ⟨?_,rfl,rfl⟩⟩;rw [hall,jdp hlt (by omega) HN.out];rfl
       | some yr =>
        obtain ⟨y,r⟩:=yr;have HN:=jac hit;have hsp:=tk_spec hit;clear hit;go_wp2;refine wp_region_any (by kernel_rfl) ?_;change wpAny _ _ _ _ _ _ _ (World.drew _);refine wpAny_ready (rs:=[0,1]) (by kernel_rfl) (by simp) ?_;refine AllReady.cons rfl (fun K hK=>?_) (AllReady.cons rfl (fun K hK=>?_) AllReady.nil)
        ·go_simp;refine hK _ _ ?_;clear hK K;refine wpAny_ready (rs:=[1]) (by kernel_rfl) (by simp) ?_;refine AllReady.cons rfl (fun K hK=>?_) AllReady.nil;go_simp;refine hK _ _ ?_;clear hK K;refine wpAny_ready (rs:=[2]) (by kernel_rfl) (by simp) ?_;refine AllReady.cons rfl (fun K hK=>?_) AllReady.nil;go_simp;refine (IT.out wr.drew (row_drew (jae _))).mono ?_;rintro e w3 ⟨hg3',⟨x,q,hx,rfl,hc3⟩ | ⟨hx,-⟩⟩
         ·obtain ⟨rfl,rfl⟩ : x=y∧q=r:=by rw [HN.out] at hx;cases hx;exact ⟨rfl,rfl⟩
          clear hx;have hg3:=jcv hg3';have hne:∀ b,b≠w.heap.size+1+1→some b≠some (w.heap.size+1+1):=fun b h e=>h (by cases e;rfl);have b0:=(hg3.block _ (by omega) (hne _ (by omega))).trans HI.out.2.2.2.1;have b1:=(hg3.block _ (by omega) (hne _ (by omega))).trans HI.out.2.2.2.2.1;have HOW:=jac (HI.out.2.2.2.2.2.1.kept hg3 (fun g e=>by cases e;omega));have HC3:=jac hc3;have H0:=jac b0;have H1:=jac b1;have hz3:=hg3.size;obtain ⟨k0,g0⟩:=jkn b0;have k9:∀ o,(w3.alloc o).cell? ⟨w.heap.size,0,none⟩=some (.slice ao xs.length cap):=fun o=>(jab w3 o).cell k0 (by simp);clear hc3 b0 b1;dsimp only;refine hK _ _ ?_;clear hK K;refine wpAny_ready (rs:=[3]) (by kernel_rfl) (by simp) ?_;refine AllReady.cons rfl (fun K hK=>?_) AllReady.nil;go_simp;refine hK _ _ ?_;clear hK K;refine wpAny_ready (rs:=[4]) (by kernel_rfl) (by simp) ?_;refine AllReady.cons rfl (fun K hK=>?_) AllReady.nil;rw [if_pos (by simp [Region.wanted])];refine jdG (.tmp 15) (.tmp 18) 138 47 1 8 _ i0 ncells rfl Tryz.underlying138 hi hz0 hz1 hz2 rfl (by decide) (w.heap.size+3) _ xs rfl ?ho w3.heap.size 1 x _ rfl (heap_alloc_new w3 _) rfl rfl ?h1 ?hb ?h63 ?hba ?_
          case ho=>exact HOW.out.more (jab _ _)
          case h1=>intro u hu;simp [ncells] at hu;rcases hu with rfl | rfl | rfl | rfl <;> rfl
          case hb=>omega
          case h63=>simp only [maxLen];omega
          case hba=>simp;omega
          intro v' w5 hown5 hg5;obtain ⟨ao',cap',rfl⟩:=hown5.form;have hS:=jfW HI.out HN.out hlt hg3 HC3.out (jab w3 _) hown5 hg5;rw [List.length_append,List.length_singleton] at hS;have HS:=jac hS;clear hS hown5;have hw:w5.cell? ⟨w.heap.size,0,none⟩=some (.slice ao xs.length cap)∧w5.frozen? ⟨w.heap.size,0,none⟩=false:=jfV HI.out hg3 (jab w3 _) hg5;obtain ⟨m0,m1⟩:=hw;refine hK _ _ ?_;clear hK K;refine wpAny_ready (rs:=[5]) (by kernel_rfl) (by simp) ?_;refine AllReady.cons rfl (fun K hK=>?_) AllReady.nil;go_simp;refine hK _ _ ?_;clear hK K;refine wpAny_done (by kernel_rfl) ?_ _;go_wp2;go_roundg (s.size - q)
          case measure=>omega
          case rel=>exact ⟨q,_,_,rfl,HS.out⟩
         ·rw [HN.out] at hx;cases hx
        ·go_simp;refine hK _ _ ?_;clear hK K;refine wpAny_ready (rs:=[0,2]) (by kernel_rfl) (by simp) ?_;refine AllReady.cons rfl (fun K hK=>?_) (AllReady.cons rfl (fun K hK=>?_) AllReady.nil)
         ·go_simp;refine hK _ _ ?_;clear hK K;refine wpAny_ready (rs:=[2]) (by kernel_rfl) (by simp) ?_;refine AllReady.cons rfl (fun K hK=>?_) AllReady.nil;go_simp;refine (IT.out wr.drew (row_drew (jae _))).mono ?_;rintro e w3 ⟨hg3',⟨x,q,hx,rfl,hc3⟩ | ⟨hx,-⟩⟩
          ·obtain ⟨rfl,rfl⟩ : x=y∧q=r:=by rw [HN.out] at hx;cases hx;exact ⟨rfl,rfl⟩
           clear hx;have hg3:=jcv hg3';have hne:∀ b,b≠w.heap.size+1+1→some b≠some (w.heap.size+1+1):=fun b h e=>h (by cases e;rfl);have b0:=(hg3.block _ (by omega) (hne _ (by omega))).trans HI.out.2.2.2.1;have b1:=(hg3.block _ (by omega) (hne _ (by omega))).trans HI.out.2.2.2.2.1;have HOW:=jac (HI.out.2.2.2.2.2.1.kept hg3 (fun g e=>by cases e;omega));have HC3:=jac hc3;have H0:=jac b0;have H1:=jac b1;have hz3:=hg3.size;obtain ⟨k0,g0⟩:=jkn b0;have k9:∀ o,(w3.alloc o).cell? ⟨w.heap.size,0,none⟩=some (.slice ao xs.length cap):=fun o=>(jab w3 o).cell k0 (by simp);clear hc3 b0 b1;dsimp only;refine hK _ _ ?_;clear hK K;refine wpAny_ready (rs:=[3]) (by kernel_rfl) (by simp) ?_;refine AllReady.cons rfl (fun K hK=>?_) AllReady.nil;go_simp;refine hK _ _ ?_;clear hK K;refine wpAny_ready (rs:=[4]) (by kernel_rfl) (by simp) ?_;refine AllReady.cons rfl (fun K hK=>?_) AllReady.nil;rw [if_pos (by simp [Region.wanted])];refine jdG (.tmp 15) (.tmp 18) 138 47 1 8 _ i0 ncells rfl Tryz.underlying138 hi hz0 hz1 hz2 rfl (by decide) (w.heap.size+3) _ xs rfl ?ho w3.heap.size 1 x _ rfl (heap_alloc_new w3 _) rfl rfl ?h1 ?hb ?h63 ?hba ?_
           case ho=>exact HOW.out.more (jab _ _)
           case h1=>intro u hu;simp [ncells] at hu;rcases hu with rfl | rfl | rfl | rfl <;> rfl
           case hb=>omega
           case h63=>simp only [maxLen];omega
           case hba=>simp;omega
           intro v' w5 hown5 hg5;obtain ⟨ao',cap',rfl⟩:=hown5.form;have hS:=jfW HI.out HN.out hlt hg3 HC3.out (jab w3 _) hown5 hg5;rw [List.length_append,List.length_singleton] at hS;have HS:=jac hS;clear hS hown5;have hw:w5.cell? ⟨w.heap.size,0,none⟩=some (.slice ao xs.length cap)∧w5.frozen? ⟨w.heap.size,0,none⟩=false:=jfV HI.out hg3 (jab w3 _) hg5;obtain ⟨m0,m1⟩:=hw;refine hK _ _ ?_;clear hK K;refine wpAny_ready (rs:=[5]) (by kernel_rfl) (by simp) ?_;refine AllReady.cons rfl (fun K hK=>?_) AllReady.nil;go_simp;refine hK _ _ ?_;clear hK K;refine wpAny_done (by kernel_rfl) ?_ _;go_wp2;go_roundg (s.size - q)
           case measure=>omega
           case rel=>exact ⟨q,_,_,rfl,HS.out⟩
          ·rw [HN.out] at hx;cases hx
         ·go_simp;refine (IT.out wr.drew (row_drew (jae _))).mono ?_;rintro e w3 ⟨hg3',⟨x,q,hx,rfl,hc3⟩ | ⟨hx,-⟩⟩
          ·obtain ⟨rfl,rfl⟩ : x=y∧q=r:=by rw [HN.out] at hx;cases hx;exact ⟨rfl,rfl⟩
           clear hx;have hg3:=jcv hg3';have hne:∀ b,b≠w.heap.size+1+1→some b≠some (w.heap.size+1+1):=fun b h e=>h (by cases e;rfl);have b0:=(hg3.block _ (by omega) (hne _ (by omega))).trans HI.out.2.2.2.1;have b1:=(hg3.block _ (by omega) (hne _ (by omega))).trans HI.out.2.2.2.2.1;have HOW:=jac (HI.out.2.2.2.2.2.1.kept hg3 (fun g e=>by cases e;omega));have HC3:=jac hc3;have H0:=jac b0;have H1:=jac b1;have hz3:=hg3.size;obtain ⟨k0,g0⟩:=jkn b0;have k9:∀ o,(w3.alloc o).cell? ⟨w.heap.size,0,none⟩=some (.slice ao xs.length cap):=fun o=>(jab w3 o).cell k0 (by simp);clear hc3 b0 b1;dsimp only;refine hK _ _ ?_;clear hK K;refine wpAny_ready (rs:=[0,3]) (by kernel_rfl) (by simp) ?_;refine AllReady.cons rfl (fun K hK=>?_) (AllReady.cons rfl (fun K hK=>?_) AllReady.nil)
           ·go_simp;refine hK _ _ ?_;clear hK K;refine wpAny_ready (rs:=[3]) (by kernel_rfl) (by simp) ?_;refine AllReady.cons rfl (fun K hK=>?_) AllReady.nil;go_simp;refine hK _ _ ?_;clear hK K;refine wpAny_ready (rs:=[4]) (by kernel_rfl) (by simp) ?_;refine AllReady.cons rfl (fun K hK=>?_) AllReady.nil;rw [if_pos (by simp [Region.wanted])];refine jdG (.tmp 15) (.tmp 18) 138 47 1 8 _ i0 ncells rfl Tryz.underlying138 hi hz0 hz1 hz2 rfl (by decide) (w.heap.size+3) _ xs rfl ?ho w3.heap.size 1 x _ rfl (heap_alloc_new w3 _) rfl rfl ?h1 ?hb ?h63 ?hba ?_
            case ho=>exact HOW.out.more (jab _ _)
            case h1=>intro u hu;simp [ncells] at hu;rcases hu with rfl | rfl | rfl | rfl <;> rfl
            case hb=>omega
            case h63=>simp only [maxLen];omega
            case hba=>simp;omega
            intro v' w5 hown5 hg5;obtain ⟨ao',cap',rfl⟩:=hown5.form;have hS:=jfW HI.out HN.out hlt hg3 HC3.out (jab w3 _) hown5 hg5;rw [List.length_append,List.length_singleton] at hS;have HS:=jac hS;clear hS hown5;have hw:w5.cell? ⟨w.heap.size,0,none⟩=some (.slice ao xs.length cap)∧w5.frozen? ⟨w.heap.size,0,none⟩=false:=jfV HI.out hg3 (jab w3 _) hg5;obtain ⟨m0,m1⟩:=hw;refine hK _ _ ?_;clear hK K;refine wpAny_ready (rs:=[5]) (by kernel_rfl) (by simp) ?_;refine AllReady.cons rfl (fun K hK=>?_) AllReady.nil;go_simp;refine hK _ _ ?_;clear hK K;refine wpAny_done (by kernel_rfl) ?_ _;go_wp2;go_roundg (s.size - q)
            case measure=>omega
            case rel=>exact ⟨q,_,_,rfl,HS.out⟩
           ·go_simp;refine hK _ _ ?_;clear hK K;refine wpAny_ready (rs:=[0]) (by kernel_rfl) (by simp) ?_;refine AllReady.cons rfl (fun K hK=>?_) AllReady.nil;go_simp;refine hK _ _ ?_;clear hK K;refine wpAny_ready (rs:=[4]) (by kernel_rfl) (by simp) ?_;refine AllReady.cons rfl (fun K hK=>?_) AllReady.nil;rw [if_pos (by simp [Region.wanted])];refine jdG (.tmp 15) (.tmp 18) 138 47 1 8 _ i0 ncells rfl Tryz.underlying138 hi hz0 hz1 hz2 rfl (by decide) (w.heap.size+3) _ xs rfl ?ho w3.heap.size 1 x _ rfl (heap_alloc_new w3 _) rfl rfl ?h1 ?hb ?h63 ?hba ?_
            case ho=>exact HOW.out.more (jab _ _)
            case h1=>intro u hu;simp [ncells] at hu;rcases hu with rfl | rfl | rfl | rfl <;> rfl
            case hb=>omega
            case h63=>simp only [maxLen];omega
            case hba=>simp;omega
            intro v' w5 hown5 hg5;obtain ⟨ao',cap',rfl⟩:=hown5.form;have hS:=jfW HI.out HN.out hlt hg3 HC3.out (jab w3 _) hown5 hg5;rw [List.length_append,List.length_singleton] at hS;have HS:=jac hS;clear hS hown5;have hw:w5.cell? ⟨w.heap.size,0,none⟩=some (.slice ao xs.length cap)∧w5.frozen? ⟨w.heap.size,0,none⟩=false:=jfV HI.out hg3 (jab w3 _) hg5;obtain ⟨m0,m1⟩:=hw;refine hK _ _ ?_;clear hK K;refine wpAny_ready (rs:=[5]) (by kernel_rfl) (by simp) ?_;refine AllReady.cons rfl (fun K hK=>?_) AllReady.nil;go_simp;refine hK _ _ ?_;clear hK K;refine wpAny_done (by kernel_rfl) ?_ _;go_wp2;go_roundg (s.size - q)
            case measure=>omega
            case rel=>exact ⟨q,_,_,rfl,HS.out⟩
          ·rw [HN.out] at hx;cases hx
      ·go_wp2;refine leaves_cons (f:=163) (args:=#[.pointer (some ⟨w.heap.size,0,none⟩),.pointer (some ⟨w.heap.size+1,0,none⟩)]) (by simp) (by simp [go_sem]) ?_;refine (jl4 _ _ _).mono ?_;rintro e u' w'' ⟨rfl,rfl,rfl⟩;simp [Leaves,settle,results,Tryz.results156,go_sem,c0,c1];obtain ⟨hg,-,-,-,-,hown,-,hall⟩:=HI.out;refine ⟨_,_,rfl,jaV (jaV hg (by omega)) (by omega),.inl ⟨xs,?_,rfl,?_⟩⟩
       ·rw [hall,jch (by omega)];simp
       ·exact ((hown.kept (jce _ _ _ _) (fun g e=>by cases e;omega)).kept (jce _ _ _ _) (fun g e=>by cases e;omega)).base_le (by omega)
end Go.Proofs.YtbgbpfbjeleooaaGreat.Wr
namespace Go.Proofs.YtbgbpfbjeleooaaGreat.Wr
open Go.RowKit
theorem wpList_push {α : Type} {ops : Array Oper} {rest : List Oper} {o : Oper} {a : Act} {w : World} {Q : Exit → Act → World → Prop} (hgd : o.guard = none) (s x : Operand) (t te : TypeId) (size bytes : Nat) (z : Value) (i0 : TypeInfo) (f : α → List Value)
    (ho:o.op=.call { callee:=.builtin .append,args:=#[s,x],argTypes:=#[t,t] }) (ht:Tryz.prog.underlying t=some (.slice te)) (hi:Tryz.prog.info? te=some i0) (hz:i0.zero=some z)
    (hsize:i0.size=size) (hby:i0.bytes=bytes) (hzs:z.cells.size=size) (hsz:0<size) (base:Nat) (v:Value) (xs:List α) (hs:a.eval s=v) (hown:OwnsL te size f w base v xs)
    (B c:Nat) (y:α) (cs:Array Value) (hx:a.eval x=.slice (some ⟨B,0,none⟩) 1 c) (hB:w.heap[B]?=some (.cells cs te (0,0))) (hcs:cs.toList=f y) (hl:(f y).length=size) (h1:∀ u∈f y,u.oneCell'=true)
    (hbytes:(xs.length+1)*bytes≤140737488355328) (h63:xs.length+1≤maxLen) (hbase:base≤w.heap.size)
    (h:∀ v' w',OwnsL te size f w' base v' (xs++[y])→w.grownBy w' v.ownBlock→wpList Tryz.prog ops Q rest (a.put o.dst v') w'):wpList Tryz.prog ops Q (o::rest) a w :=
     wpList_plain hgd fun _ hK=>jdG s x t te size bytes z i0 f ho ht hi hz hsize hby hzs hsz base v xs hs hown B c y cs hx hB hcs hl h1 hbytes h63 hbase fun v' w' h2 h3=>hK _ _ (h v' w' h2 h3)
theorem fcells_one (x:Fld):∀ u∈fcells x,u.oneCell'=true:=by
 intro u hu;simp [fcells] at hu;rcases hu with rfl | rfl | rfl | rfl <;> rfl
theorem jnW (x:Nat):∀ u∈ncells x,u.oneCell'=true:=by
 intro u hu;simp [ncells] at hu;rcases hu with rfl;rfl
def FieldsT (s:ByteArray) (w:World) (e:Ending) (w':World):Prop :=
 ∃ v E,e=.returned (.tuple #[v,.int .i64 E])∧w.grownBy w' none∧((s.size≤16777216∧∃ xs,all (fd s) s.size=some xs∧E=0∧OwnsL 49 4 fcells w' w.heap.size v xs)∨(s.size≤16777216∧all (fd s) s.size=none∧E=3∧v=.slice none 0 0)∨(16777216<s.size∧E=6∧v=.slice none 0 0))
theorem fields_any (s:ByteArray) (w:World) (hs:s.size≤9223372036854775807) :
    Calls Tryz.prog 78 #[.string s] w fun e w'=>FieldsT s w e w':=by
     by_cases hlt:16777216<s.size
     ·go_enter Tryz.func78,Tryz.ntmps78;go_wp2;go_ret2;exact ⟨_,_,rfl,jae _,.inr (.inr ⟨hlt,rfl,rfl⟩)⟩
     ·have C:=jac (jiE s w hs (by omega) (by omega));go_enter Tryz.func78,Tryz.ntmps78;go_wp2_with fail;refine C.out.mono ?_;rintro e w1 ⟨v,E,rfl,hg,hr⟩;go_wp2;go_ret2;refine ⟨_,_,rfl,hg,?_⟩
      rcases hr with ⟨xs,h1,h2,h3⟩ | ⟨h1,h2,h3⟩
      ·exact .inl ⟨by omega,xs,h1,h2,h3⟩
      ·exact .inr (.inl ⟨by omega,h1,h2,h3⟩)
theorem packed_any (s:ByteArray) (w:World) (hs:s.size≤9223372036854775807) (hb:s.size*8≤140737488351232) :
    Calls Tryz.prog 137 #[.string s] w fun e w'=>jjk s w e w':=by
     have C:=jac (jiF s w hs hb);go_enter Tryz.func137,Tryz.ntmps137;go_wp2_with fail;refine C.out.mono ?_;rintro e w1 ⟨v,E,rfl,hg,hr⟩;go_wp2;go_ret2;exact ⟨_,_,rfl,hg,hr⟩
end Go.Proofs.YtbgbpfbjeleooaaGreat.Wr
