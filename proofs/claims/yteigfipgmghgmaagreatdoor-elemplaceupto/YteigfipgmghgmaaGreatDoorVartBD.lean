/- A part. -/
import Derived.Test.YteigfipgmghgmaaGreatDoorVartAB
import Derived.RangeFuncNested
import Derived.RangeFuncBound
import Derived.RangeFuncCalls
import Derived.RangeFuncLeaves
import Derived.Shelf.Abstract
import Derived.Shelf.RegionOpen
import Derived.OwnWalkIn
import Derived.TacticsInMore
import Derived.LoopNIn
import Derived.LoopIn
import Derived.Deep.RegionWith
set_option maxHeartbeats 2000000
set_option maxRecDepth 100000
namespace Go.Proofs.YteigfipgmghgmaaGreatDoor.Vw
open Go.RowKit Go.Shelf
attribute [local go_sem] Oper.semAt_some
structure Kpv (A B:Nat) (W W':World):Prop where
 size:W.heap.size≤W'.heap.size
 same:∀ (k:Nat) (o:Obj),W.heap[k]?=some o→o.isCells=true→k≠A→k≠B→W'.heap[k]?=some o
theorem Kpv.refl (A B:Nat) (W:World):Kpv A B W W:=⟨Nat.le_refl _,fun _ _ h _ _ _=>h⟩
theorem Kpv.trans {A B:Nat} {X Y Z:World} (h:Kpv A B X Y) (k:Kpv A B Y Z):Kpv A B X Z:=⟨Nat.le_trans h.size k.size,fun i o hi ho ha hb=>k.same i o (h.same i o hi ho ha hb) ho ha hb⟩
theorem Kpv.grown {A B:Nat} {X Y:World} (h:X.grownBy Y none):Kpv A B X Y:=⟨h.size,fun k _ hk _ _ _=>(h.block k (Array.getElem?_eq_some_iff.1 hk).1 (by simp)).trans hk⟩
theorem Kpv.cell {A B:Nat} {X Y:World} (h:Kpv A B X Y) {a:Addr} {v:Value} (hc:X.cell? a=some v) (ha:a.block≠A) (hb:a.block≠B):Y.cell? a=some v:=by
 obtain ⟨o,ho,hi⟩:=cells_of_cell hc;rw [← hc];exact World.cell?_of_block ((h.same _ o ho hi ha hb).trans ho.symm)
theorem jmG {z:Int} (h0:0≤z) (h1:z≤9223372036854775807):IntKind.i64.wrap z=z:=by
 rw [IntKind.wrap_i64];omega
def Went (J Jx:List Int→World→Prop) (A B:Nat) (pre all:List Int) (W:World) (e:Ending) (W':World):Prop :=
 ∃ b,e=.returned (.bool b)∧(b=true→J (pre++all) W'∧Kpv A B W W')∧(b=false→∃ q,q <+: all∧Jx (pre++q) W')
def jrw (A B:Nat) (v:Value) (zs:List Int):Prop:=zs≠[]→∀ b,v.ownBlock=some b→b≠A∧b≠B
theorem _root_.Go.Proofs.YteigfipgmghgmaaGreatDoor.IsInts.kpv {A B:Nat} {X Y:World} {v:Value} {zs:List Int} (h:IsInts X v zs) (hk:Kpv A B X Y) (ha:jrw A B v zs):IsInts Y v zs:=by
 obtain ⟨ao,cap,rfl,h1,h2,h3,h4,h5,h6⟩:=h;refine ⟨ao,cap,rfl,h1,h2,h3,h4,fun hl=>?_,h6⟩;obtain ⟨b,off,rfl,hc⟩:=h5 hl;obtain ⟨hA,hB⟩:=ha (fun e=>by simp [e] at hl) b rfl;exact ⟨b,off,rfl,fun t ht=>hk.cell (hc t ht) hA hB⟩
theorem jie {F:Fence} (hd:F.depth=none) (k:Nat):F.room k:=fun d h=>by rw [hd] at h;cases h
theorem jpg {F:Fence} (hd:F.depth=none) {m:Nat} (m':Nat) {P:Program} {l:Nat} {args:Array Value} {W:World} {R:Ending→World→Prop} (h:YieldAt F m P l args W R):YieldAt F m' P l args W R:=by
 obtain ⟨fn,tmps,assign,body,hy,hR⟩:=h;exact ⟨fn,tmps,assign,body,hy,⟨hR.1,fun c cs _=>hR.2 c cs (jie hd _)⟩⟩
theorem jph (l : Nat) (L : Int) (N A B : Nat) (J Jx : List Int → World → Prop)
    (hJ:∀ s X Y,J s X→X.grownBy Y none→J s Y)
    (hY:∀ m pre x W,J pre W→pre.length<N→0≤x→x<L→YieldAt Fence.wide m Tryz.prog l #[.int .i64 x] W fun e W' =>
     (e=.returned (.bool true)∧J (pre++[x]) W'∧Kpv A B W W')∨(e=.returned (.bool false)∧Jx (pre++[x]) W'))
    (off:Int) (dv sv:Value) (ds:List Int) (p:Int) (pre:List Int) (W:World) (hd:IsInts W dv ds) (hp0:0≤p) (hp1:p<L) (hj:J pre W) (hN:pre.length<N) :
    Calls Tryz.prog 97 #[.agg #[.int .i64 off,dv,sv],.int .i64 (ds.length:Nat),.int .i64 p,.func (.yield l) #[] #[]] W fun e W' =>
     ∃ b,e=.returned (.bool b)∧(b=true→J (pre++[p]) W'∧Kpv A B W W')∧(b=false→Jx (pre++[p]) W'):=by
      have hg:=jab W (.cells #[.int .i64 off,dv,sv] 76);obtain ⟨ao,cap,rfl,h1,h2,h3,-,-,-⟩:=hd;obtain ⟨fn,tmps,assign,body,hy,hR⟩:=hY 2 pre p _ (hJ _ _ _ hj hg) hN hp0 hp1;refine (callsIn_wide (n:=3)).1 ?_;refine callsIn_of_wp Tryz.func97 rfl trivial ?_ rfl;simp only [Tryz.ntmps97,List.size_toArray,List.length_cons,List.length_nil,Nat.reduceAdd,Nat.reduceSub,Array.replicate_succ,Array.replicate_zero,List.push_toArray,List.append_toArray,List.nil_append,List.cons_append]
      gi_wp2
      refine hR.mono ?_;rintro e W3 (⟨rfl,hJ3,hk3⟩ | ⟨rfl,hJx3⟩)
      ·gi_wp2
       go_ret;exact ⟨true,rfl,fun _=>⟨hJ3,(Kpv.grown hg).trans hk3⟩,fun h=>by cases h⟩
      ·gi_wp2
       go_ret;exact ⟨false,rfl,fun h=>(by cases h),fun _=>hJx3⟩
theorem jdB (l : Nat) (L : Int) (hL : L ≤ 1152921504606846976) (N A B : Nat) (J Jx : List Int → World → Prop)
    (hJ:∀ s X Y,J s X→X.grownBy Y none→J s Y)
    (hY:∀ m pre x W,J pre W→pre.length<N→0≤x→x<L→YieldAt Fence.wide m Tryz.prog l #[.int .i64 x] W fun e W' =>
     (e=.returned (.bool true)∧J (pre++[x]) W'∧Kpv A B W W')∨(e=.returned (.bool false)∧Jx (pre++[x]) W'))
    (off:Int) (dv sv:Value) (ds ss:List Int) (hF:Fine ds) (hl:ss.length=ds.length) (hs:∀ s∈ss,0≤s∧s≤65536) (haD:jrw A B dv ds) (haS:jrw A B sv ss) :
    ∀ (m k:Nat),m+k=ds.length→∀ (p:Int) (pre:List Int) (W:World),IsInts W dv ds→IsInts W sv ss→A<W.heap.size→B<W.heap.size →
     0≤p→p+lst (ds.drop k) (ss.drop k)<L→J pre W→pre.length+(plc (ds.drop k) (ss.drop k) p).length≤N →
     Calls Tryz.prog 97 #[.agg #[.int .i64 off,dv,sv],.int .i64 k,.int .i64 p,.func (.yield l) #[] #[]] W (Went J Jx A B pre (plc (ds.drop k) (ss.drop k) p) W)
      | 0,k,hk,p,pre,W,hd,_,_,_,hp0,hp1,hj,hN=>by
       obtain rfl:k=ds.length:=by omega
       rw [jsx (Nat.le_refl _)] at hN ⊢
       have hp2:p<L:=by
        have:=hp1;rw [List.drop_of_length_le (Nat.le_refl _)] at this;simpa [lst] using this
       refine (jph l L N A B J Jx hJ hY off dv sv ds p pre W hd hp0 hp2 hj (by simp at hN;omega)).mono ?_;rintro e W' ⟨b,rfl,h1,h2⟩;exact ⟨b,rfl,h1,fun h=>⟨[p],List.prefix_refl _,h2 h⟩⟩
      | m+1,k,hk,p,pre,W,hd,hsv,hA,hB,hp0,hp1,hj,hN=>by
       have hkl:k<ds.length:=by omega
       have hks:k<ss.length:=by omega
       have IH:=jac (jdB l L hL N A B J Jx hJ hY off dv sv ds ss hF hl hs haD haS m (k+1) (by omega));have hg:=jab W (.cells #[.int .i64 off,dv,sv] 76);have HD0:=jac (hd.more hg);have HS0:=jac (hsv.more hg);obtain ⟨ao,cap,rfl,h1,h2,h3,-,-,-⟩:=hd;obtain ⟨bo,bcap,rfl,hb1,hb2,hb3,-,-,-⟩:=hsv;obtain ⟨b,o,rfl⟩:=jbQ HD0.out (by omega);obtain ⟨b',o',rfl⟩:=jbQ HS0.out (by omega);have hcd:=jbH HD0.out hkl;have hd1:=hF.at k hkl;have hs1:0≤ss.getD k 0∧ss.getD k 0≤65536:=hs _ (by rw [List.getD,List.getElem?_eq_getElem hks];simp)
       have hd2:ds.getD k 0≤65536:=by
        have:=jhj hF.pos (ds.getD k 0) (by rw [List.getD,List.getElem?_eq_getElem hkl];simp);have:=hF.le;omega
       have hpl:=jp0 hl hkl p;have hls:=jkU hl hkl;have hit:=fun (t:Nat) (wr:World) (h:IsInts wr (.slice (some ⟨b',o',none⟩) ss.length bcap) ss)=>jbH h hks;obtain ⟨d,hdd⟩ : ∃ d,d=ds.getD k 0:=⟨_,rfl⟩
       obtain ⟨s,hss⟩ : ∃ s,s=ss.getD k 0:=⟨_,rfl⟩
       rw [← hdd] at hcd hd1 hd2 hpl hls;rw [← hss] at hs1 hpl hls hit;obtain ⟨hs2,hs3⟩:=hs1;have hln:=jeV (ds.drop (k+1)) (ss.drop (k+1)) (jc4 hF.pos _) (fun y hy=>(hs y (List.mem_of_mem_drop hy)).1);rw [hls] at hp1;rw [hpl] at hN ⊢
       have hlen:∀ i,i<d.toNat→(plc (ds.drop (k+1)) (ss.drop (k+1)) (p+i*s)).length=(jaA (ds.drop (k+1))).toNat :=
        fun i _=>plc_length _ _ _ (by simp [hl]) (jc4 hF.pos _)
       have hNN:=jcH (fun (i:Nat)=>plc (ds.drop (k+1)) (ss.drop (k+1)) (p+i*s)) _ d.toNat hlen;rw [hNN] at hN;have HLEN:=jac hlen;have HN:=jac hN;have HP:=jac hp1;have HIT:=jac hit;have HJ:=jac hJ;have HJ0:=jac (hJ _ _ _ hj hg);have HLN:=jac hln;have HL:=jac hl;have hneB:((k:Int)==(ds.length:Int))=false:=by simp;omega
       clear hY hF hs hdd hss hpl hls hln hlen hN hp1 hit hNN hj hJ hl hk;obtain ⟨f,hf⟩ : ∃ f:Nat→List Int,f=fun (i:Nat)=>plc (ds.drop (k+1)) (ss.drop (k+1)) (p+i*s):=⟨_,rfl⟩
       rw [← hf];have HFF:=jac hf;clear hf;have x0:(W.alloc (.cells #[.int .i64 off,.slice (some ⟨b,o,none⟩) ds.length cap,.slice (some ⟨b',o',none⟩) ss.length bcap] 76)).cell? ⟨W.heap.size,0,none⟩=some (.int .i64 off):=(cell_of_row _ W.heap.size 0 _ _ (0,0) (heap_alloc_new W _)).trans rfl;have x1:(W.alloc (.cells #[.int .i64 off,.slice (some ⟨b,o,none⟩) ds.length cap,.slice (some ⟨b',o',none⟩) ss.length bcap] 76)).cell? ⟨W.heap.size,1,none⟩=some (.slice (some ⟨b,o,none⟩) ds.length cap):=(cell_of_row _ W.heap.size 1 _ _ (0,0) (heap_alloc_new W _)).trans rfl;have x2:(W.alloc (.cells #[.int .i64 off,.slice (some ⟨b,o,none⟩) ds.length cap,.slice (some ⟨b',o',none⟩) ss.length bcap] 76)).cell? ⟨W.heap.size,2,none⟩=some (.slice (some ⟨b',o',none⟩) ss.length bcap):=(cell_of_row _ W.heap.size 2 _ _ (0,0) (heap_alloc_new W _)).trans rfl;have X0:=jac x0;have X1:=jac x1;have X2:=jac x2;have HS1:Hid (W.heap.size<(W.alloc (.cells #[.int .i64 off,.slice (some ⟨b,o,none⟩) ds.length cap,.slice (some ⟨b',o',none⟩) ss.length bcap] 76)).heap.size):=by simp [Hid]
       clear x0 x1 x2;go_enter Tryz.func97,Tryz.ntmps97;go_wp2;obtain ⟨W0,hW0⟩ : ∃ W0,W0=W.alloc (.cells #[.int .i64 off,.slice (some ⟨b,o,none⟩) ds.length cap,.slice (some ⟨b',o',none⟩) ss.length bcap] 76):=⟨_,rfl⟩
       rw [← hW0] at hg HD0 HS0 hcd HJ0 X0 X1 X2 HS1;go_loopw [23] (fun i wr=>∃ t:Nat,(t:Int)≤d∧i=.int .i64 t∧J (pre++(List.range t).flatMap f) wr∧Kpv A B W0 wr) (fun i _=>(d - intOf i).toNat)
       case atStart=>exact ⟨0,by omega,rfl,by rw [← hW0];simpa using HJ0.out,by rw [← hW0];exact Kpv.refl _ _ _⟩
       case round =>
        obtain ⟨t,ht,rfl,hJt,hkt⟩:=hrel;clear hW0;have c0:=hkt.cell X0.out (show W.heap.size≠A by omega) (show W.heap.size≠B by omega);have c1:=hkt.cell X1.out (show W.heap.size≠A by omega) (show W.heap.size≠B by omega);have c2:=hkt.cell X2.out (show W.heap.size≠A by omega) (show W.heap.size≠B by omega);have DD:=jac (HD0.out.kpv hkt haD);have SS:=jac (HS0.out.kpv hkt haS);have ci:=HIT.out 0 wr SS.out;have HJT:=jac hJt;have HKT:=jac hkt;clear hJt hkt
        by_cases htd:(t:Int)<d
        ·obtain ⟨hb1',hb2'⟩:=jgL (d:=d) (i:=t) (s:=s) htd hs2;have hbig:(d - 1)*s≤65536*65536:=Int.mul_le_mul (by omega) (by omega) (by omega) (by omega);have hp3:p+t*s+lst (ds.drop (k+1)) (ss.drop (k+1))<L:=by have:=HP.out;omega
         have hp4:p≤1152921504606846976:=by have:=HLN.out;omega
         have FU:Hid (∀ wx,Calls Tryz.prog 95 #[.int .i64 p,.int .i64 t,.int .i64 s] wx fun e w'=>e=.returned (.int .i64 (p+t*s))∧wx=w') :=
          fun wx=>jfz p t s wx (by omega) (by omega) (by omega) (by omega)
         have AL : Hid (∀ wx, wr.grownBy wx none → Calls Tryz.prog 97 #[.agg #[.int .i64 off, .slice (some ⟨b, o, none⟩) ds.length cap, .slice (some ⟨b', o', none⟩) ss.length bcap], .int .i64 ((k : Int) + 1), .int .i64 (p + t * s), .func (.yield l) #[] #[]] wx fun e W' =>
             ∃ bb,e=.returned (.bool bb)∧(bb=true→J (pre++(List.range (t+1)).flatMap f) W'∧Kpv A B W0 W')∧(bb=false→∃ q,q <+: (List.range d.toNat).flatMap f∧Jx (pre++q) W')):=by
              intro wx hx;have hlt:=HLEN.out t (by omega)
              have h:=IH.out (p+t*s) (pre++(List.range t).flatMap f) wx (DD.out.more hx) (SS.out.more hx) (by have:=HKT.out.size;have:=hx.size;have:=HS1.out;omega) (by have:=HKT.out.size;have:=hx.size;have:=HS1.out;omega) (by omega) hp3 (HJ.out _ _ _ HJT.out hx) (by
               have hfl:=jcH f (jaA (ds.drop (k+1))).toNat t (fun i hi=>by rw [HFF.out];exact HLEN.out i (by omega));rw [List.length_append,hfl,hlt];have h2:(t+1)*(jaA (ds.drop (k+1))).toNat≤d.toNat*(jaA (ds.drop (k+1))).toNat:=Nat.mul_le_mul_right _ (by omega);rw [Nat.add_mul,Nat.one_mul] at h2;have:=HN.out;omega)
              rw [show ((k+1:Nat):Int)=(k:Int)+1 from by omega] at h;refine h.mono ?_;rintro e W' ⟨bb,rfl,hT,hFa⟩;have hft:f t=plc (ds.drop (k+1)) (ss.drop (k+1)) (p+t*s):=by rw [HFF.out]
              refine ⟨bb,rfl,fun hb=>⟨?_,(HKT.out.trans (Kpv.grown hx)).trans (hT hb).2⟩,fun hb=>?_⟩
              ·rw [jdy,hft,← List.append_assoc];exact (hT hb).1
              ·obtain ⟨q,hq,hxq⟩:=hFa hb;rw [← hft] at hq;exact ⟨(List.range t).flatMap f++q,jis f (by omega) hq,by rw [← List.append_assoc];exact hxq⟩
         have hgd:=jaf (jad wr);have hwr:IntKind.i64.wrap ((k:Int)+1)=(k:Int)+1:=jmG (by omega) (by omega);go_wp2;go_region_with (first | (go_at_call 95;refine (FU.out _).mono ?_;rintro e w' ⟨rfl,rfl⟩) | (go_at_call 97;(try rw [hwr]);refine (AL.out _ (by exact hgd)).mono ?_;rintro e w4 ⟨bb,rfl,hT,hFa⟩))
         all_goals cases bb
         all_goals first
          | (have hF' := hFa rfl
             clear hT hFa;go_wp2;go_ret;exact ⟨false,rfl,fun h=>(by cases h),fun _=>hF'⟩)
          | (have hT' := hT rfl
             clear hT hFa;go_wp2;go_roundw
             case rel=>exact ⟨t+1,by omega,by go_num,hT'.1,hT'.2⟩
             case measure=>simp [intOf];omega)
        ·have htt:t=d.toNat:=by omega
         have HTT:=jac htt;clear htt;go_wp2;go_ret;refine ⟨true,rfl,fun _=>⟨?_,(Kpv.grown hg).trans HKT.out⟩,fun h=>by cases h⟩;have:=HJT.out;rw [HTT.out] at this;exact this
end Go.Proofs.YteigfipgmghgmaaGreatDoor.Vw
namespace Go.Proofs.YteigfipgmghgmaaGreatDoor.Vw
open Go.RowKit Go.Shelf
attribute [local go_sem] Oper.semAt_some
theorem juS {ds ss:List Int} {off:Int} (h:MayV off ds ss) {k:Nat} (hk:k<ds.length):1≤ds.getD k 0∧ds.getD k 0≤65536∧0≤ss.getD k 0∧ss.getD k 0≤65536:=by
 have h1:=h.fine.at k hk;have h2:=jhj h.fine.pos (ds.getD k 0) (by rw [List.getD,List.getElem?_eq_getElem hk];simp);have h3:=h.fine.le;have h4:=h.str (ss.getD k 0) (by have:=h.len;rw [List.getD,List.getElem?_eq_getElem (by omega)];simp);omega
theorem jrx (v:Value) (off:Int) (ds ss:List Int) (w:World) (h:IsView w v off ds ss) (hm:MayV off ds ss) :
    Calls Tryz.prog 65 #[v] w fun e w'=>e=.returned (.int .i64 (off+lst ds ss))∧w.grownBy w' none:=by
     obtain ⟨dv,sv,rfl,hd,hs,ho1,ho2⟩:=h;have hg:=jab w (.cells #[.int .i64 off,dv,sv] 76);have HM:=jac hm;have HD:=jac (hd.more hg);have HS:=jac (hs.more hg);have hf:=hm.fine.few;have hl:=jac hm.len;have hll:ds.length≤ss.length:=by have:=hm.len;omega
     have hlo:=hm.lo;have hhi:=hm.hi;obtain ⟨ao,cap,rfl,h1,h2,h3,-,-,-⟩:=hd;obtain ⟨bo,bcap,rfl,hb1,hb2,hb3,-,-,-⟩:=hs;clear hm;go_enter Tryz.func65,Tryz.ntmps65;go_wp2;go_loopw [3,11] (fun m i wr=>wr=w.alloc (.cells #[.int .i64 off,.slice ao ds.length cap,.slice bo ss.length bcap] 76)∧∃ (k:Nat) (q:Int),k≤ds.length∧i=.int .i64 k∧m=.int .i64 q∧0≤q∧q≤65535+4294967296*k∧q+lst (ds.drop k) (ss.drop k)=off+lst ds ss) (fun _ i _=>ds.length - (intOf i).toNat)
     case atStart=>exact ⟨rfl,0,off,Nat.zero_le _,rfl,rfl,hlo,by omega,by simp⟩
     case round =>
      obtain ⟨hw,k,q,hk,rfl,rfl,hq0,hq1,hsum⟩:=hrel;subst hw;have HSUM:=jac hsum;clear hsum
      by_cases hkl:k<ds.length
      ·obtain ⟨b,o,rfl⟩:=jbQ HD.out (by omega);obtain ⟨b',o',rfl⟩:=jbQ HS.out (by omega);have hcd:=jbH HD.out hkl;have hcs:=jbH HS.out (k:=k) (by omega);have hat:=juS HM.out hkl;have hls:=jkU hl.out hkl;obtain ⟨d,hdd⟩ : ∃ d,d=ds.getD k 0:=⟨_,rfl⟩
       obtain ⟨s,hss⟩ : ∃ s,s=ss.getD k 0:=⟨_,rfl⟩
       rw [← hdd] at hcd hat hls;rw [← hss] at hcs hat hls;obtain ⟨a1,a2,a3,a4⟩:=hat;have hm0:0≤(d - 1)*s:=Int.mul_nonneg (by omega) a3;have hm1:(d - 1)*s≤65536*65536:=Int.mul_le_mul (by omega) (by omega) (by omega) (by omega);have HLS:=jac hls
       have FU:Hid (∀ wx,Calls Tryz.prog 95 #[.int .i64 q,.int .i64 (d - 1),.int .i64 s] wx fun e w'=>e=.returned (.int .i64 (q+(d - 1)*s))∧wx=w') :=
        fun wx=>jfz q (d - 1) s wx (by omega) (by omega) (by omega) (by omega)
       clear hdd hss hls;go_wp2_with (go_at_call 95;refine (FU.out _).mono ?_;rintro e w' ⟨rfl,rfl⟩);go_roundw
       case rel =>
        refine ⟨by trivial,k+1,q+(d - 1)*s,by omega,by go_num,rfl,by omega,by omega,?_⟩;have h1:=HLS.out;have h2:=HSUM.out;omega
       case measure=>simp [intOf];omega
      ·have HQ : Hid (q = off + lst ds ss) := by
         show q=_;have:=HSUM.out;rw [List.drop_of_length_le (show ds.length≤k by omega)] at this;simpa [lst] using this
       go_wp2;go_ret;exact ⟨by rw [← HQ.out];rfl,hg⟩
end Go.Proofs.YteigfipgmghgmaaGreatDoor.Vw
namespace Go.Proofs.YteigfipgmghgmaaGreatDoor.Vw
open Go.RowKit Go.Shelf
attribute [local go_sem] Oper.semAt_some
theorem jcY (off:Int) (dv sv:Value) (w:World) :
    Calls Tryz.prog 66 #[.agg #[.int .i64 off,dv,sv]] w fun e w'=>e=.returned (.func (.func 96) #[] #[.pointer (some ⟨w.heap.size,0,none⟩)])∧w'=w.alloc (.cells #[.int .i64 off,dv,sv] 76):=by
     go_enter Tryz.func66,Tryz.ntmps66;go_wp2;go_ret;exact ⟨rfl,rfl⟩
def cl (L x:Int):Int:=if 0≤x∧x<L then x else 0
theorem jmH {L:Int} (h:0<L) (x:Int):0≤cl L x∧cl L x<L:=by unfold cl;split <;> omega
theorem jpi {L x:Int} (h0:0≤x) (h1:x<L):cl L x=x:=by simp [cl,h0,h1]
theorem jkC (l : Nat) (L : Int) (hL : L ≤ 1152921504606846976) (N A B : Nat) (J Jx : List Int → World → Prop)
    (hJ:∀ s X Y,J s X→X.grownBy Y none→J s Y)
    (hY:∀ m pre x W,J pre W→pre.length<N→0≤x→x<L→YieldAt Fence.wide m Tryz.prog l #[.int .i64 x] W fun e W' =>
     (e=.returned (.bool true)∧J (pre++[x]) W'∧Kpv A B W W')∨(e=.returned (.bool false)∧Jx (pre++[x]) W'))
    (off:Int) (dv sv:Value) (ds ss:List Int) (hm:MayV off ds ss) (haD:jrw A B dv ds) (haS:jrw A B sv ss) (Bp:Nat) (W:World) (hd:IsInts W dv ds) (hs:IsInts W sv ss) (hA:A<W.heap.size) (hB:B<W.heap.size)
    (hp:off+lst ds ss<L) (hj:J [] W) (hN:(plc ds ss off).length≤N) (c0:W.cell? ⟨Bp,0,none⟩=some (.int .i64 off)) (c1:W.cell? ⟨Bp,1,none⟩=some dv) (c2:W.cell? ⟨Bp,2,none⟩=some sv) :
    Calls Tryz.prog 96 #[.func (.yield l) #[] #[],.pointer (some ⟨Bp,0,none⟩)] W fun e W'=>(∃ v,e=.returned v)∧((∃ xs,xs=plc ds ss off∧J xs W')∨(∃ pre,pre <+: plc ds ss off∧Jx pre W')):=by
     have al:=jdB l L hL N A B J Jx hJ hY off dv sv ds ss hm.fine hm.len hm.str haD haS ds.length 0 (by omega) off [] W hd hs hA hB hm.lo (by simpa using hp) hj (by simpa using hN);rw [List.drop_zero,List.drop_zero] at al;have AL:=jac al;obtain ⟨ao,cap,rfl,-,-,-,-,-,-⟩:=hd;obtain ⟨bo,bcap,rfl,-,-,-,-,-,-⟩:=hs;clear al hY hJ;go_enter Tryz.func96,Tryz.ntmps96;go_wp2_with fail;refine AL.out.mono ?_;rintro e W' ⟨b,rfl,h1,h2⟩;go_wp2
     go_end0
     refine ⟨⟨_,rfl⟩,?_⟩
     cases b with
     | true=>exact .inl ⟨_,rfl,by simpa using (h1 rfl).1⟩
     | false =>
      obtain ⟨q,hq,hx⟩:=h2 rfl;exact .inr ⟨q,hq,by simpa using hx⟩
theorem jgd (n : Nat) (L : Int) (hL : L ≤ 1152921504606846976) (A B : Nat) (off : Int) (dv sv : Value) (ds ss : List Int) (hm : MayV off ds ss) (haD : jrw A B dv ds) (haS : jrw A B sv ss) (Bp : Nat) (w : World)
    (hd:IsInts w dv ds) (hs:IsInts w sv ss) (hA:A<w.heap.size) (hB:B<w.heap.size) (hBp:Bp<w.heap.size)
    (hp:off+lst ds ss<L) (c0:w.cell? ⟨Bp,0,none⟩=some (.int .i64 off)) (c1:w.cell? ⟨Bp,1,none⟩=some dv) (c2:w.cell? ⟨Bp,2,none⟩=some sv) :
    SeqStopsK Fence.wide n Tryz.prog 96 #[.pointer (some ⟨Bp,0,none⟩)] (fun x:Int=>#[Value.int .i64 (cl L x)]) (Kpv A B) (fun ys=>ys=plc ds ss off) (fun pre=>pre <+: plc ds ss off) (plc ds ss off).length w:=by
     intro l J Jx W hW hJ _ hY h0;refine callsIn_wide.2 ?_;have hgr:w.grownBy W none:=⟨hW.os,hW.tape,hW.output,hW.size,fun k hk _=>hW.block k hk⟩
     refine jkC l L hL (plc ds ss off).length A B J Jx (fun s X Y hs hg=>hJ s X Y none hs hg (fun r e=>by cases e)) (fun m pre x W1 hj hlt hx0 hx1=>?_) off dv sv ds ss hm haD haS Bp W (hd.more hgr) (hs.more hgr)
      (Nat.lt_of_lt_of_le hA hW.size) (Nat.lt_of_lt_of_le hB hW.size) hp h0 (Nat.le_refl _) ((hW.cell (p:=⟨Bp,0,none⟩) hBp).trans c0) ((hW.cell (p:=⟨Bp,1,none⟩) hBp).trans c1) ((hW.cell (p:=⟨Bp,2,none⟩) hBp).trans c2)
     have:=hY pre x W1 hj hlt;dsimp only at this;rw [jpi hx0 hx1] at this;exact jpg rfl m this
end Go.Proofs.YteigfipgmghgmaaGreatDoor.Vw
