/- A part. -/
import Derived.Test.YtanpkdkenifmbaaGreatDoorUartAN
import Derived.BigQuiet
import Derived.Deep.RegionWith
set_option maxRecDepth 100000
namespace Go.Proofs.YtanpkdkenifmbaaGreatDoor
open Go.RowKit
structure NodeOk (w:World) (n:Nod) (A:At):Prop where
 op:A.op=n.op
 attrs:jcc w n.av.v A.xs
 has:∀ (j:Nat) (a:Atr),A.xs[j]?=some a→∃ c,A.cs[j]?=some c∧Has w a c
 rng:∀ a∈A.xs,-9223372036854775808≤a.i∧a.i≤9223372036854775807
theorem NodeOk.more {w w':World} {n:Nod} {A:At} (h:NodeOk w n A) (hg:w.grownBy w' none):NodeOk w' n A :=
 ⟨h.op,h.attrs.more hg,fun j a e=>by obtain ⟨c,e1,e2⟩:=h.has j a e;exact ⟨c,e1,e2.more hg⟩,h.rng⟩
theorem NodeOk.int {w:World} {n:Nod} {A:At} (h:NodeOk w n A) (nm:ByteArray) (z:Int) (hz : -9223372036854775808≤z∧z≤9223372036854775807) : -9223372036854775808≤A.int nm z∧A.int nm z≤9223372036854775807:=by
 unfold At.int joP
 cases hf:A.xs.find? (isA nm 2) with
 | none=>exact hz
 | some a=>exact h.rng a (List.mem_of_find?_eq_some hf)
theorem jgd {w:World} {base:Nat} {v:Value} {zs:List Int} {te:TypeId} (h:ja6 te 1 jc8 w base v zs) (hl:zs.length*8≤140737488351232) (hz:∀ z∈zs,-9223372036854775808≤z∧z≤9223372036854775807):IsInts w v zs:=by
 obtain ⟨ao,cap,rfl,h1,h2,h3,h4,h5⟩:=ja6.isL (bytes:=8) jd5 h hl;refine ⟨ao,cap,rfl,h1,h2,hl,h4,fun hp=>?_,hz⟩;obtain ⟨b,off,rfl,hc⟩:=h5 hp;refine ⟨b,off,rfl,fun k hk=>?_⟩;have:=(hc k hk 0 (by omega)).1;rw [Nat.mul_one,Nat.add_zero] at this;rw [this];simp [jc8,List.getD,hk]
theorem jbj (n:Nod) (A:At) (nm:ByteArray) (other:Sl) (zs:List Int) (w:World) (hn:NodeOk w n A) (ho:IsInts w other.v zs) :
    Calls Tryz.prog 39 #[jaA n,.string nm,.slice other.a other.n other.c] w fun e w'=>∃ u:Sl,e=.returned u.v∧IsInts w' u.v (A.ints nm zs)∧w.grownBy w' none:=by
     refine (jhH n A.xs A.cs nm other zs w hn.attrs hn.has ho).mono ?_;rintro e w' ⟨u,rfl,hu,hg⟩;refine ⟨u,rfl,?_,hg⟩
     have hb:∃ v,IsInts w v (A.ints nm zs):=by
      unfold At.ints jfa
      rcases jcY (P:=isA nm 7) hn.has with ⟨e1,e2⟩ | ⟨a,c,e1,e2,e3⟩
      ·rw [e2];exact ⟨_,ho⟩
      ·rw [e2];exact ⟨_,e3.i⟩
     obtain ⟨v,hb⟩:=hb;exact jgd hu hb.le hb.wf
theorem jbK (n:Nod) (A:At) (nm:ByteArray) (z:Int) (w:World) (hn:NodeOk w n A) :
    Calls Tryz.prog 47 #[jaA n,.string nm,.int .i64 z] w fun e w'=>e=.returned (.int .i64 (A.int nm z))∧w.grownBy w' none :=
     joQ n A.xs A.cs nm z w hn.attrs hn.has
def jfK (te:TypeId) (w:World) (base B:Nat) (zs:List Int):Prop:=w.ownsRow base te 1 (.slice (some ⟨B,0,none⟩) zs.length zs.length) zs.length (zs.map (Value.int .i64))
theorem jfK.at {te:TypeId} {w:World} {base B:Nat} {zs:List Int} (h:jfK te w base B zs) {k:Nat} (hk:k<zs.length):w.cell? ⟨B,k,none⟩=some (.int .i64 (zs.getD k 0))∧w.frozen? ⟨B,k,none⟩=false:=by
 refine ⟨?_,World.ownsRow.frozenAt h k⟩;rw [World.ownsRow.cellAt h k (by omega),List.getElem?_map];simp [List.getD,hk]
theorem jfK.set {te:TypeId} {w:World} {base B:Nat} {zs:List Int} (h:jfK te w base B zs) (k:Nat) (x:Int):jfK te (w.setCell ⟨B,k,none⟩ (.int .i64 x)) base B (zs.set k x)∧w.grownBy (w.setCell ⟨B,k,none⟩ (.int .i64 x)) (some B):=by
 have s:=World.ownsRow.stored h k (.int .i64 x);rw [← List.map_set] at s;refine ⟨?_,s.2⟩;unfold jfK;rw [List.length_set];exact s.1
theorem jfK.new {te:TypeId} {w w':World} {base B:Nat} {zs:List Int} (h:jfK te w base B zs) (hg:w.grownBy w' none):jfK te w' base B zs:=World.ownsRow.kept h hg (.inr (by simp [Value.ownBlock]))
theorem jfK.ints {te:TypeId} {w:World} {base B:Nat} {zs:List Int} (h:jfK te w base B zs) (hl:zs.length*8≤140737488351232) (hz:∀ z∈zs,-9223372036854775808≤z∧z≤9223372036854775807):IsInts w (.slice (some ⟨B,0,none⟩) zs.length zs.length) zs:=by
 refine ⟨_,_,rfl,Nat.le_refl _,by omega,hl,(fun h=>by cases h),fun _=>⟨_,_,rfl,fun k hk=>?_⟩,hz⟩;rw [Nat.zero_add];exact (h.at hk).1
theorem jfK.base_le {te:TypeId} {w:World} {base b' B:Nat} {zs:List Int} (h:jfK te w base B zs) (hb:b'≤base):jfK te w b' B zs:=by
 refine ⟨h.1,?_⟩
 rcases h.2 with h0 | ⟨g,cap,cur,e,hg,r⟩
 ·exact .inl h0
 ·exact .inr ⟨g,cap,cur,e,by omega,r⟩
theorem jhI (n:Nat) (hn:n*8≤140737488351232):∃ M:Array Value,(∀ W:World,(Instr.makeSlice 30 (.int .i64 (n:Int)) (.int .i64 (n:Int))).run Tryz.prog W=.ok (.slice (some ⟨W.heap.size,0,none⟩) n n) (W.alloc (.cells M 2))) ∧
    ∀ (W:World) (base:Nat),base≤W.heap.size→jfK 2 (W.alloc (.cells M 2)) base W.heap.size (List.replicate n 0):=by
     obtain ⟨j0,hj,jz0,jz1,jz2⟩:=info_parts jlN;obtain ⟨M1,hM1⟩ : ∃ M,M=madeCells (Value.int .i64 0).cells (((n:Nat):Int).toNat*j0.size):=⟨_,rfl⟩
     have E1:M1.toList=List.replicate n (.int .i64 0):=by rw [hM1,jz1,Nat.mul_one,show (Value.int .i64 0).cells=#[Value.int .i64 0] from rfl,toList_madeCells_one];simp
     refine ⟨M1,fun W=>?_,fun W base hb=>?_⟩
     ·have h:=Go.run_make (P:=Tryz.prog) W 30 2 j0 (.int .i64 0) Tryz.underlying30 hj jz0 .i64 .i64 (n:Int) (n:Int) (by omega) (by omega) (by rw [jz2];omega) (by omega);rw [← hM1] at h;simpa using h
     ·unfold jfK;rw [List.length_replicate,List.map_replicate];refine ⟨by simp,Or.inr ⟨W.heap.size,n,M1,rfl,hb,heap_alloc_new W _,Nat.le_refl _,by simp only [maxLen];omega,?_,?_⟩⟩
      ·rw [← Array.length_toList,E1,List.length_replicate,Nat.mul_one]
      ·rw [E1,List.take_of_length_le (by simp)]
theorem jbq (n:Nat):(jb1 n).length=n:=by simp [jb1]
theorem jd9 {n:Nat} {z:Int} (h:z∈jb1 n):0≤z∧z<n:=by
 unfold jb1 at h;obtain ⟨i,hi,rfl⟩:=List.mem_map.1 h;have:=List.mem_range.1 hi;simp only [Int.ofNat_eq_natCast];omega
def upK (n k:Nat):List Int:=jb1 k++List.replicate (n - k) 0
theorem jqO {n k:Nat} (hk:k<n):(upK n k).set k (k:Int)=upK n (k+1):=by
 unfold upK;rw [List.set_append_right _ _ (by rw [jbq];omega),jbq,Nat.sub_self,show n - k=(n - (k+1))+1 by omega,List.replicate_succ,List.set_cons_zero];unfold jb1;rw [List.range_succ,List.map_append];simp
theorem jqP {n k:Nat} (hk:k≤n):(upK n k).length=n:=by
 unfold upK;rw [List.length_append,jbq,List.length_replicate];omega
theorem jeS (n:Nat) (w:World) (hn:n*8≤140737488351232):Calls Tryz.prog 37 #[.int .i64 n] w fun e w'=>e=.returned (.slice (some ⟨w.heap.size,0,none⟩) n n)∧jfK 2 w' w.heap.size w.heap.size (jb1 n)∧w.grownBy w' none:=by
 obtain ⟨M,mk1,OW⟩:=jhI n hn;have O0:=jac (OW w w.heap.size (Nat.le_refl _));clear OW;go_enter Tryz.func37,Tryz.ntmps37;go_wp2_with fail;clear mk1;go_loopw [9] (fun i wr=>∃ k:Nat,k≤n∧i=.int .i64 k∧jfK 2 wr w.heap.size w.heap.size (upK n k)∧w.grownBy wr none) (fun i _=>n - (intOf i).toNat)
 case atStart=>exact ⟨0,Nat.zero_le _,rfl,O0.out,jab _ _⟩
 case round =>
  obtain ⟨k,hk,rfl,ho,hg⟩:=hrel;have HO:=jac ho;have HG:=jac hg
  by_cases hkl:k<n
  ·obtain ⟨c1,c2⟩:=ho.at (k:=k) (by rw [jqP hk];exact hkl);obtain ⟨so,sg⟩:=ho.set k (k:Int);rw [jqO hkl] at so;have SO:=jac so;have SG:=jac (jao hg sg (fun r e=>by cases e;exact Nat.le_refl _));clear so sg ho hg;go_wp2;go_roundw
   case rel=>exact ⟨k+1,by omega,by go_num,SO.out,SG.out⟩
   case measure=>simp [intOf];omega
  ·have hkk:k=n:=by omega
   subst hkk;have E:upK k k=jb1 k:=by simp [upK]
   rw [E] at HO;clear ho hg hk hkl;go_wp2;go_ret;exact ⟨rfl,HO.out,HG.out⟩
theorem jhJ (n:Nod) (A:At) (w:World) (hn:NodeOk w n A):Calls Tryz.prog 135 #[jaA n] w fun e w'=>∃ u:Sl,e=.returned u.v∧IsInts w' u.v (A.ints ⟨#[115,116,114,105,100,101,115]⟩ [1,1])∧w.grownBy w' none:=by
 have NK:=jac hn;obtain ⟨op,nam,⟨ia,il,ic⟩,out,⟨ao,al,cap⟩⟩:=n;unfold jaA;simp only;obtain ⟨w0,hw0⟩ : ∃ w0,w0=w.alloc (.cells #[.string op,.string nam,.slice ia il ic,.string out,.slice ao al cap] 25):=⟨_,rfl⟩
 have g0:Hid (w.grownBy w0 none):=by show w.grownBy w0 none;rw [hw0];exact jab _ _
 have hb0:=heap_alloc_new w (.cells #[.string op,.string nam,.slice ia il ic,.string out,.slice ao al cap] 25);rw [← hw0] at hb0;have BX:Hid (∀ wx,w0.grownBy wx none→wx.heap[w.heap.size]?=some (.cells #[.string op,.string nam,.slice ia il ic,.string out,.slice ao al cap] 25 (0,0))):=fun wx hg=>jag hb0 hg;clear hb0 hn;obtain ⟨n0,n1,n2,n3,n4⟩:=jai (n:=⟨op,nam,⟨ia,il,ic⟩,out,⟨ao,al,cap⟩⟩) (BX.out w0 (jae _));obtain ⟨w1,hw1⟩ : ∃ w1,w1=w0.alloc (.cells #[.int .i64 1,.int .i64 1] 2):=⟨_,rfl⟩
 have g1:Hid (w.grownBy w1 none):=by show w.grownBy w1 none;rw [hw1];exact jaa g0.out (jab _ _)
 have C:=jac (jbj ⟨op,nam,⟨ia,il,ic⟩,out,⟨ao,al,cap⟩⟩ A ⟨#[115,116,114,105,100,101,115]⟩ ⟨some ⟨w0.heap.size,0,none⟩,2,2⟩ [1,1] w1 (NK.out.more g1.out) (by rw [hw1];exact jbt w0 [1,1] 2 (by decide) (by decide)));unfold jaA at C;simp only at C;rw [show w0.heap.size=w.heap.size+1 by rw [hw0];simp] at C;clear n0 n1 n2 n3 n4;go_enter Tryz.func135,Tryz.ntmps135;go_wp2_with fail;rw [← hw0,← hw1];refine C.out.mono ?_;rintro e w' ⟨u,rfl,hu,hg⟩;go_wp2;go_ret;exact ⟨u,rfl,hu,jaa g1.out hg⟩
theorem jgX (n:Nod) (A:At) (w:World) (hn:NodeOk w n A):Calls Tryz.prog 136 #[jaA n] w fun e w'=>∃ u:Sl,e=.returned u.v∧IsInts w' u.v (A.ints ⟨#[100,105,108,97,116,105,111,110,115]⟩ [1,1])∧w.grownBy w' none:=by
 have NK:=jac hn;obtain ⟨op,nam,⟨ia,il,ic⟩,out,⟨ao,al,cap⟩⟩:=n;unfold jaA;simp only;obtain ⟨w0,hw0⟩ : ∃ w0,w0=w.alloc (.cells #[.string op,.string nam,.slice ia il ic,.string out,.slice ao al cap] 25):=⟨_,rfl⟩
 have g0:Hid (w.grownBy w0 none):=by show w.grownBy w0 none;rw [hw0];exact jab _ _
 have hb0:=heap_alloc_new w (.cells #[.string op,.string nam,.slice ia il ic,.string out,.slice ao al cap] 25);rw [← hw0] at hb0;have BX:Hid (∀ wx,w0.grownBy wx none→wx.heap[w.heap.size]?=some (.cells #[.string op,.string nam,.slice ia il ic,.string out,.slice ao al cap] 25 (0,0))):=fun wx hg=>jag hb0 hg;clear hb0 hn;obtain ⟨n0,n1,n2,n3,n4⟩:=jai (n:=⟨op,nam,⟨ia,il,ic⟩,out,⟨ao,al,cap⟩⟩) (BX.out w0 (jae _));obtain ⟨w1,hw1⟩ : ∃ w1,w1=w0.alloc (.cells #[.int .i64 1,.int .i64 1] 2):=⟨_,rfl⟩
 have g1:Hid (w.grownBy w1 none):=by show w.grownBy w1 none;rw [hw1];exact jaa g0.out (jab _ _)
 have C:=jac (jbj ⟨op,nam,⟨ia,il,ic⟩,out,⟨ao,al,cap⟩⟩ A ⟨#[100,105,108,97,116,105,111,110,115]⟩ ⟨some ⟨w0.heap.size,0,none⟩,2,2⟩ [1,1] w1 (NK.out.more g1.out) (by rw [hw1];exact jbt w0 [1,1] 2 (by decide) (by decide)));unfold jaA at C;simp only at C;rw [show w0.heap.size=w.heap.size+1 by rw [hw0];simp] at C;clear n0 n1 n2 n3 n4;go_enter Tryz.func136,Tryz.ntmps136;go_wp2_with fail;rw [← hw0,← hw1];refine C.out.mono ?_;rintro e w' ⟨u,rfl,hu,hg⟩;go_wp2;go_ret;exact ⟨u,rfl,hu,jaa g1.out hg⟩
theorem joT (n:Nod) (A:At) (w:World) (hn:NodeOk w n A):Calls Tryz.prog 137 #[jaA n] w fun e w'=>∃ u:Sl,e=.returned u.v∧IsInts w' u.v (A.ints ⟨#[112,97,100,115]⟩ [0,0,0,0])∧w.grownBy w' none:=by
 have NK:=jac hn;obtain ⟨op,nam,⟨ia,il,ic⟩,out,⟨ao,al,cap⟩⟩:=n;unfold jaA;simp only;obtain ⟨w0,hw0⟩ : ∃ w0,w0=w.alloc (.cells #[.string op,.string nam,.slice ia il ic,.string out,.slice ao al cap] 25):=⟨_,rfl⟩
 have g0:Hid (w.grownBy w0 none):=by show w.grownBy w0 none;rw [hw0];exact jab _ _
 have hb0:=heap_alloc_new w (.cells #[.string op,.string nam,.slice ia il ic,.string out,.slice ao al cap] 25);rw [← hw0] at hb0;have BX:Hid (∀ wx,w0.grownBy wx none→wx.heap[w.heap.size]?=some (.cells #[.string op,.string nam,.slice ia il ic,.string out,.slice ao al cap] 25 (0,0))):=fun wx hg=>jag hb0 hg;clear hb0 hn;obtain ⟨n0,n1,n2,n3,n4⟩:=jai (n:=⟨op,nam,⟨ia,il,ic⟩,out,⟨ao,al,cap⟩⟩) (BX.out w0 (jae _));obtain ⟨M,mk0,OW⟩:=jhI 4 (by decide);have mk1:∀ W:World,(Instr.makeSlice 30 (.int .i64 4) (.int .i64 4)).run Tryz.prog W=.ok (.slice (some ⟨W.heap.size,0,none⟩) 4 4) (W.alloc (.cells M 2)):=mk0;clear mk0;have C:=jac (fun (wx:World) (B:Nat) (hg:w.grownBy wx none) (hB:IsInts wx (.slice (some ⟨B,0,none⟩) 4 4) [0,0,0,0])=>jbj ⟨op,nam,⟨ia,il,ic⟩,out,⟨ao,al,cap⟩⟩ A ⟨#[112,97,100,115]⟩ ⟨some ⟨B,0,none⟩,4,4⟩ [0,0,0,0] wx (NK.out.more hg) hB);unfold jaA at C;simp only at C;have OI:Hid (∀ W:World,IsInts (W.alloc (.cells M 2)) (.slice (some ⟨W.heap.size,0,none⟩) 4 4) [0,0,0,0]):=fun W=>(OW W 0 (Nat.zero_le _)).ints (by decide) (by decide);clear OW;go_enter Tryz.func137,Tryz.ntmps137;go_wp2_with fail;rw [← hw0];clear hw0;go_region_held3 (fun w'=>w'.cell? ⟨w.heap.size,0,none⟩=some (.string op)∧w'.cell? ⟨w.heap.size,1,none⟩=some (.string nam)∧w'.cell? ⟨w.heap.size,2,none⟩=some (.slice ia il ic)∧w'.cell? ⟨w.heap.size,3,none⟩=some (.string out)∧w'.cell? ⟨w.heap.size,4,none⟩=some (.slice ao al cap)) (go_keep) (first | (go_at_call 39;refine (C.out _ _ (jaf (jaa g0.out (jab _ _))) ((OI.out w0).more (jaf (jae _)))).mono ?_;rintro e w' ⟨u,rfl,hu,hg⟩;have g2:w0.grownBy w' none:=jaa (jaf (jab _ _)) hg;obtain ⟨n0,n1,n2,n3,n4⟩:=jai (n:=⟨op,nam,⟨ia,il,ic⟩,out,⟨ao,al,cap⟩⟩) (BX.out w' (g2))) | fail);go_wp2;go_ret;exact ⟨u,rfl,hu,jaa g0.out g2⟩
theorem jge {l:List Int} {k:Nat} {least z:Int} (hk:k<l.length) (hz:z=l.getD k 0) (h:¬ (least≤z∧z≤100)):l.all (fun x=>decide (least≤x∧x≤100))=false:=by
 rw [List.all_eq_false];refine ⟨z,?_,by simpa using h⟩;rw [hz];simp [List.getD,hk]
theorem jiK {l:List Int} {least:Int} (h:∀ t,t<l.length→least≤l.getD t 0∧l.getD t 0≤100):l.all (fun x=>decide (least≤x∧x≤100))=true:=by
 rw [List.all_eq_true];intro z hz;obtain ⟨t,ht,rfl⟩:=List.mem_iff_getElem.1 hz;have:=h t ht;simpa [List.getD,ht] using this
theorem jdA {l zs:List Int} {many:Nat} {least:Int} (h:jaZ l many least=.ok zs):zs=l∧zs.length=many∧∀ z∈zs,least≤z∧z≤100:=by
 unfold jaZ jal at h
 by_cases h1:l.length=many
 ·by_cases h2:l.all (fun x=>decide (least≤x∧x≤100))=true
  ·rw [if_pos (by simpa using h1),if_pos h2] at h;have e:l=zs:=by simpa [bind,Except.bind,pure,Except.pure] using h
   subst e;exact ⟨rfl,h1,fun z hz=>by simpa using List.all_eq_true.1 h2 z hz⟩
  ·rw [if_pos (by simpa using h1),if_neg h2] at h;simp [bind,Except.bind] at h
 ·rw [if_neg (by simpa using h1)] at h;simp [bind,Except.bind] at h
theorem jdB (u:Sl) (l:List Int) (many:Nat) (least:Int) (w:World) (hv:IsInts w u.v l) (_hm:many≤1000):Calls Tryz.prog 124 #[.slice u.a u.n u.c,.int .i64 many,.int .i64 least] w (jaH w (jaZ l many least) fun zs v w'=>v=u.v∧zs=l∧w=w'):=by
 obtain ⟨a,c,e,c1,c2,c3⟩:=hv.sl;obtain ⟨ua,un,uc⟩:=u;simp only [Sl.v,Value.slice.injEq] at e;obtain ⟨rfl,rfl,rfl⟩:=e;have HV:=jac hv;clear hv
 by_cases hl:l.length=many
 ·have b0:((l.length:Int)==(many:Int))=true:=by simp [hl]
  have E:Hid (jaZ l many least=(do jal (l.all (fun x=>decide (least≤x∧x≤100)));return l)):=by show jaZ l many least=_;unfold jaZ jal;simp [hl];rfl
  clear hl;go_enter Tryz.func124,Tryz.ntmps124;go_wp2_with (go_at_call 67;refine (jaq _).mono ?_;rintro e w' ⟨rfl,rfl⟩);go_loopw [16] (fun i wr=>w=wr∧∃ k:Nat,k≤l.length∧i=.int .i64 k∧∀ t,t<k→least≤l.getD t 0∧l.getD t 0≤100) (fun i _=>l.length - (intOf i).toNat)
  case atStart=>exact ⟨rfl,0,Nat.zero_le _,rfl,fun t h=>absurd h (by omega)⟩
  case round =>
   obtain ⟨hw,k,hk,rfl,hp⟩:=hrel;subst hw;have HP:=jac hp;clear hp b0
   by_cases hkl:k<l.length
   ·obtain ⟨b,off,rfl,hc⟩:=HV.out.get hkl;have hcell:=hc k hkl;obtain ⟨z,hz0⟩ : ∃ z,z=l.getD k 0:=⟨_,rfl⟩
    rw [← hz0] at hcell;have HZ:=jac hz0;clear hc hz0
    by_cases h1:least≤z
    ·by_cases h2:z≤100
     ·go_wp2_with (go_at_call 67;refine (jaq _).mono ?_;rintro e w' ⟨rfl,rfl⟩);go_roundw
      case rel =>
       refine ⟨by trivial,k+1,by omega,by go_num,fun t ht=>?_⟩
       rcases jaL ht with h | rfl
       ·exact HP.out t h
       ·rw [← HZ.out];exact ⟨h1,h2⟩
      case measure=>simp [intOf];omega
     ·have E2:Hid (jaZ l many least=.error 4):=by show jaZ l many least=_;rw [E.out,jge hkl HZ.out (fun h=>h2 h.2)];rfl
      go_wp2_with (go_at_call 67;refine (jav _).mono ?_;rintro e w' ⟨rfl,rfl⟩);exact ⟨rfl,jah E2.out (jae _)⟩
    ·have E2:Hid (jaZ l many least=.error 4):=by show jaZ l many least=_;rw [E.out,jge hkl HZ.out (fun h=>h1 h.1)];rfl
     go_wp2_with (go_at_call 67;refine (jav _).mono ?_;rintro e w' ⟨rfl,rfl⟩);exact ⟨rfl,jah E2.out (jae _)⟩
   ·have E2:Hid (jaZ l many least=.ok l):=by show jaZ l many least=_;rw [E.out,jiK (fun t ht=>HP.out t (by omega))];rfl
    go_wp2;go_ret;exact jap E2.out (jae _) ⟨rfl,rfl,rfl⟩
 ·have b0:((l.length:Int)==(many:Int))=false:=by simpa using (fun h=>hl (by omega):¬ (l.length:Int)=many)
  have E:Hid (jaZ l many least=.error 4):=by show jaZ l many least=_;unfold jaZ jal;simp [hl];rfl
  rw [E.out];clear hl E;go_enter Tryz.func124,Tryz.ntmps124;go_wp2_with (go_at_call 67;refine (jav _).mono ?_;rintro e w' ⟨rfl,rfl⟩);exact ⟨rfl,jae _,rfl⟩
theorem jgf (n:Nod) (A:At) (w:World) (hn:NodeOk w n A):Calls Tryz.prog 125 #[jaA n] w (jaH w (jeu A) fun zs v w'=>∃ u:Sl,v=u.v∧IsInts w' u.v zs∧zs.length=4∧∀ z∈zs,0≤z∧z≤100):=by
 have NK:=jac hn;obtain ⟨op,nam,⟨ia,il,ic⟩,out,⟨ao,al,cap⟩⟩:=n;unfold jaA;simp only;obtain ⟨w0,hw0⟩ : ∃ w0,w0=w.alloc (.cells #[.string op,.string nam,.slice ia il ic,.string out,.slice ao al cap] 25):=⟨_,rfl⟩
 have g0:Hid (w.grownBy w0 none):=by show w.grownBy w0 none;rw [hw0];exact jab _ _
 have hb0:=heap_alloc_new w (.cells #[.string op,.string nam,.slice ia il ic,.string out,.slice ao al cap] 25);rw [← hw0] at hb0;have BX:Hid (∀ wx,w0.grownBy wx none→wx.heap[w.heap.size]?=some (.cells #[.string op,.string nam,.slice ia il ic,.string out,.slice ao al cap] 25 (0,0))):=fun wx hg=>jag hb0 hg;clear hb0 hn;have C:=jac (joT ⟨op,nam,⟨ia,il,ic⟩,out,⟨ao,al,cap⟩⟩ A w0 (NK.out.more g0.out));unfold jaA at C;simp only at C;go_enter Tryz.func125,Tryz.ntmps125;go_wp2_with fail;rw [← hw0];clear hw0;refine C.out.mono ?_;rintro e w1 ⟨u,rfl,hu,hg⟩;have W:=jac (jdB u _ 4 0 w1 hu (by decide));have HU:=jac hu;have HG:=jac (jaa g0.out hg);clear hu hg
 cases hr:jaZ (A.ints ⟨#[112,97,100,115]⟩ [0,0,0,0]) 4 0 with
 | error c =>
  rw [hr] at W;have E:Hid (jeu A=.error c):=hr;clear hr;go_wp2_with (go_at_call 124;refine W.out.mono ?_;rintro e w' ⟨hg,rfl⟩);exact ⟨rfl,jah E.out (jaa HG.out hg)⟩
 | ok zs =>
  rw [hr] at W;have E:Hid (jeu A=.ok zs):=hr;have B:=jac (jdA hr);clear hr;go_wp2_with (go_at_call 124;refine W.out.mono ?_;rintro e w' ⟨hg,v,rfl,rfl,rfl,rfl⟩);go_ret;exact jap E.out HG.out ⟨u,rfl,HU.out,B.out.2.1,fun z hz=>B.out.2.2 z hz⟩
end Go.Proofs.YtanpkdkenifmbaaGreatDoor
namespace Go.Proofs.YtanpkdkenifmbaaGreatDoor
open Go.RowKit
theorem jl7 (x:Int) : -1073741824≤jbA x∧jbA x≤1073741824:=by
 unfold jbA
 split <;> split at*<;> omega
theorem jbm {w0 : World} {ops : Array Oper} {rest : List Oper} {o : Oper} {a : Act} {Q : Exit → Act → World → Prop} (hgd : o.guard = none) (s x : Operand)
    (ho:o.op=.call { callee:=.builtin .append,args:=#[s,x],argTypes:=#[29,29] })
    (base:Nat) (v:Value) (xs:List Int) (hs:a.eval s=v) (hown:Owns w0 base v xs) (z:Int) (hx:a.eval x=.slice (some ⟨w0.heap.size,0,none⟩) 1 1)
    (hz : -9223372036854775808≤z∧z≤9223372036854775807) (hbytes:(xs.length+1)*8≤140737488351232) (hbase:base≤w0.heap.size)
    (h:∀ v' w',Owns w' base v' (xs++[z])→(∀ r:World,r.heap.size≤base→r.grownBy w0 none→r.grownBy w' none)→wpList Tryz.prog ops Q rest (a.put o.dst v') w'):wpList Tryz.prog ops Q (o::rest) a (w0.alloc (.cells #[.int .i64 z] 3)):=by
     have hi:IsInts (w0.alloc (.cells #[.int .i64 z] 3)) (.slice (some ⟨w0.heap.size,0,none⟩) 1 1) [z]:=jbt w0 [z] 3 (by simp) (fun y hy=>by simp at hy;subst hy;exact hz);refine jdu hgd s x ho base v xs hs (hown.new (jab _ _)) _ [z] hx hi (by simpa using hbytes) (by simp;omega) ?_;intro v' w' ho' hg;refine h v' w' ho' (fun r hr hrg=>jao (jaa hrg (jab _ _)) hg (fun b e=>?_));have:=(hown.lt b e).1;omega
theorem jky (v:Value) (l:List Int) (w:World) (hv:IsInts w v l):Calls Tryz.prog 91 #[v] w fun e w'=>∃ u:Sl,e=.returned u.v∧IsInts w' u.v (l.map jbA)∧w.grownBy w' none:=by
 obtain ⟨a,c,rfl,c1,c2,c3⟩:=hv.sl;have HV:=jac hv;clear hv;go_enter Tryz.func91,Tryz.ntmps91;go_wp2;go_loopw [3,8] (fun s i wr=>∃ (k:Nat) (u:Sl),k≤l.length∧i=.int .i64 k∧s=.slice u.a u.n u.c∧Owns wr w.heap.size u.v ((l.take k).map jbA)∧w.grownBy wr none) (fun _ i _=>l.length - (intOf i).toNat)
 case atStart=>exact ⟨0,⟨none,0,0⟩,Nat.zero_le _,rfl,rfl,jbg _ _,jae _⟩
 case round =>
  obtain ⟨k,⟨ua,un,uc⟩,hk,rfl,rfl,ho,hg⟩:=hrel;simp only;have HO:=jac ho;have HG:=jac hg;have hsz:=hg.size
  by_cases hkl:k<l.length
  ·obtain ⟨b,off,rfl,hc⟩:=HV.out.get hkl;have hcell:wr.cell? ⟨b,off+k,none⟩=some (.int .i64 (l.getD k 0)):=jad (hc k hkl) hg;have E:Hid ((l.take (k+1)).map jbA=(l.take k).map jbA++[jbA (l.getD k 0)]):=by show _=_;rw [jcJ l k hkl,List.map_append];rfl
   obtain ⟨z,hz0⟩ : ∃ z,z=l.getD k 0:=⟨_,rfl⟩
   rw [← hz0] at hcell E;clear hc hz0 ho hg;have WH:=jac (whole_any z wr);have hb:=jl7 z;obtain ⟨y,hy⟩ : ∃ y,y=jbA z:=⟨_,rfl⟩
   rw [← hy] at WH hb E;clear hy;go_wp2_with (first | (go_at_call 83;refine WH.out.mono ?_;rintro e w' ⟨rfl,rfl⟩) | (at_builtin;refine jbm rfl (.tmp 12) (.tmp 15) rfl w.heap.size _ _ rfl HO.out y rfl (by omega) (by simp;omega) (by omega) ?_;intro v' w1 hown hgrow));obtain ⟨⟨xa,xn,xc⟩,rfl⟩:=hown.sl;have HO1:=jac hown;have HG1:=jac (hgrow w (Nat.le_refl _) HG.out);clear hown hgrow;go_roundw
   case rel=>exact ⟨k+1,⟨xa,xn,xc⟩,by omega,by go_num,rfl,by rw [E.out];exact HO1.out,HG1.out⟩
   case measure=>simp [intOf];omega
  ·have E:Hid ((l.take k).map jbA=l.map jbA):=by show _=_;rw [List.take_of_length_le (by omega)]
   rw [E.out] at HO;clear ho hg;go_wp2;go_ret;exact ⟨⟨ua,un,uc⟩,rfl,HO.out.ints,HG.out⟩
structure RevK (zs:List Int) (k:Nat) (L:List Int):Prop where
 len:L.length=zs.length
 at':∀ t,t<zs.length→L.getD t 0=if t<k∨zs.length≤t+k then zs.getD (zs.length - 1 - t) 0 else zs.getD t 0
theorem RevK.start (zs:List Int):RevK zs 0 zs:=⟨rfl,fun t ht=>by rw [if_neg (by omega)]⟩
theorem RevK.done {zs L:List Int} {k:Nat} (h:RevK zs k L) (hk:zs.length≤2*k+1):L=zs.reverse:=by
 refine List.ext_getElem (by rw [h.len,List.length_reverse]) fun t h1 h2=>?_;have ht:t<zs.length:=by rw [← h.len];exact h1
 have:=h.at' t ht;rw [List.getElem_reverse];have e1:L.getD t 0=L[t]:=by simp [List.getD,h1]
 rw [← e1,this]
 split
 ·simp [List.getD,show zs.length - 1 - t<zs.length by omega]
 ·have e2:zs.length - 1 - t=t:=by omega
  simp [List.getD,e2,ht]
theorem RevK.step {zs L:List Int} {k:Nat} (h:RevK zs k L) (hk:2*k+1<zs.length):RevK zs (k+1) ((L.set k (L.getD (zs.length - 1 - k) 0)).set (zs.length - 1 - k) (L.getD k 0)):=by
 refine ⟨by rw [List.length_set,List.length_set,h.len],fun t ht=>?_⟩;have hL:=h.len;have h1:=h.at' t ht;have h2:=h.at' k (by omega);have h3:=h.at' (zs.length - 1 - k) (by omega);rw [if_neg (by omega)] at h2 h3
 by_cases e1:t=zs.length - 1 - k
 ·subst e1;rw [if_pos (by omega)]
  have:((L.set k (L.getD (zs.length - 1 - k) 0)).set (zs.length - 1 - k) (L.getD k 0)).getD (zs.length - 1 - k) 0=L.getD k 0:=by
   rw [List.getD,List.getElem?_set_self (by rw [List.length_set];omega)];rfl
  rw [this,h2]
  congr 1
  omega
 ·by_cases e2:t=k
  ·subst e2;rw [if_pos (by omega)]
   have:((L.set t (L.getD (zs.length - 1 - t) 0)).set (zs.length - 1 - t) (L.getD t 0)).getD t 0=L.getD (zs.length - 1 - t) 0:=by
    rw [List.getD,List.getElem?_set_ne (by omega),List.getElem?_set_self (by omega)];rfl
   rw [this,h3]
  ·have : ((L.set k (L.getD (zs.length - 1 - k) 0)).set (zs.length - 1 - k) (L.getD k 0)).getD t 0 = L.getD t 0 := by
     rw [List.getD,List.getElem?_set_ne (by omega),List.getElem?_set_ne (by omega)];rfl
   rw [this,h1]
   by_cases e3:t<k∨zs.length≤t+k
   ·rw [if_pos e3,if_pos (by omega)]
   ·rw [if_neg e3,if_neg (by omega)]
theorem jiL (zs:List Int) (base B:Nat) (w:World) (h:jfK 2 w base B zs) (hl:zs.length≤1000000):Calls Tryz.prog 38 #[.slice (some ⟨B,0,none⟩) zs.length zs.length] w fun e w'=>e=.returned (.tuple #[])∧jfK 2 w' base B zs.reverse∧w.grownBy w' (some B):=by
 have H0:=jac h;clear h;go_enter Tryz.func38,Tryz.ntmps38;go_wp2;go_loopw [2,3] (fun i j wr=>∃ (k:Nat) (L:List Int),k≤zs.length∧i=.int .i64 k∧j=.int .i64 ((zs.length:Int) - 1 - k)∧RevK zs k L∧jfK 2 wr base B L∧w.grownBy wr (some B)) (fun i _ _=>zs.length - (intOf i).toNat)
 case atStart=>exact ⟨0,zs,Nat.zero_le _,rfl,by simp,RevK.start zs,H0.out,World.grownBy.refl _ _⟩
 case round =>
  obtain ⟨k,L,hk,rfl,rfl,hr,ho,hg⟩:=hrel;have HR:=jac hr;have HO:=jac ho;have HG:=jac hg;clear hr ho hg
  by_cases hkl:(k:Int)<(zs.length:Int) - 1 - k
  ·obtain ⟨j,hj⟩ : ∃ j:Nat,j=zs.length - 1 - k:=⟨_,rfl⟩
   have ej:(zs.length:Int) - 1 - k=(j:Int):=by omega
   rw [ej] at hkl ⊢;have hjl:j<zs.length:=by omega
   have hne:k≠j:=by omega
   have st:=HR.out.step (by omega);rw [← hj] at st;have hL:=HR.out.len;obtain ⟨c1,f1⟩:=HO.out.at (k:=k) (by omega);obtain ⟨c2,f2⟩:=HO.out.at (k:=j) (by omega);obtain ⟨x,hx⟩ : ∃ x,x=L.getD k 0:=⟨_,rfl⟩
   obtain ⟨y,hy⟩ : ∃ y,y=L.getD j 0:=⟨_,rfl⟩
   rw [← hx] at c1 st;rw [← hy] at c2 st;obtain ⟨s1,t1⟩:=HO.out.set k y;obtain ⟨s2,t2⟩:=s1.set j x;have ST:=jac st;have S2:=jac s2;have T2:=jac (jbI HG.out (jbI t1 t2));have hej:Hid (j=zs.length - 1 - k):=hj;clear hx hy st s1 s2 t1 t2 hj hL;have hne2:=hne.symm;go_wp2;go_region;go_wp2;go_roundw
   case rel=>exact ⟨k+1,_,by omega,by go_num,by have:=hej.out;congr 1;omega,ST.out,S2.out.new (jaf (jae _)),⟨T2.out.os,T2.out.tape,T2.out.output,T2.out.size,T2.out.block⟩⟩
   case measure=>simp [intOf];omega
  ·have E:L=zs.reverse:=HR.out.done (by omega);rw [E] at HO;go_wp2
   go_end0
   exact ⟨rfl,HO.out,HG.out⟩
theorem jay {a b c:World} {B:Nat} (h:a.grownBy b none) (k:b.grownBy c (some B)) (hb:a.heap.size≤B):a.grownBy c none:=jao h k (fun r e=>by cases e;exact hb)
theorem jjK (n:Nod) (A:At) (rank:Nat) (w:World) (hn:NodeOk w n A) (hr:rank≤1000000):Calls Tryz.prog 18 #[jaA n,.int .i64 rank] w fun e w'=>∃ u:Sl,e=.returned u.v∧IsInts w' u.v (jd7 A rank)∧w.grownBy w' none:=by
 have NK:=jac hn;obtain ⟨op,nam,⟨ia,il,ic⟩,out,⟨ao,al,cap⟩⟩:=n;unfold jaA;simp only;obtain ⟨w0,hw0⟩ : ∃ w0,w0=w.alloc (.cells #[.string op,.string nam,.slice ia il ic,.string out,.slice ao al cap] 25):=⟨_,rfl⟩
 have g0:Hid (w.grownBy w0 none):=by show w.grownBy w0 none;rw [hw0];exact jab _ _
 have hb0:=heap_alloc_new w (.cells #[.string op,.string nam,.slice ia il ic,.string out,.slice ao al cap] 25);rw [← hw0] at hb0;have BX:Hid (∀ wx,w0.grownBy wx none→wx.heap[w.heap.size]?=some (.cells #[.string op,.string nam,.slice ia il ic,.string out,.slice ao al cap] 25 (0,0))):=fun wx hg=>jag hb0 hg;clear hb0 hn;have U:=jac (jeS rank w0 (by omega));have RV:=jac (fun (wx:World) (h:jfK 2 wx w0.heap.size w0.heap.size (jb1 rank))=>jiL (jb1 rank) w0.heap.size w0.heap.size wx h (by rw [jbq];omega));rw [jbq] at RV;have C:=jac (fun (wx:World) (B:Nat) (hg:w.grownBy wx none) (hB:IsInts wx (.slice (some ⟨B,0,none⟩) rank rank) (jb1 rank).reverse)=>jbj ⟨op,nam,⟨ia,il,ic⟩,out,⟨ao,al,cap⟩⟩ A ⟨#[112,101,114,109]⟩ ⟨some ⟨B,0,none⟩,rank,rank⟩ _ wx (NK.out.more hg) hB);unfold jaA at C;simp only at C;have HS:Hid (w0.heap.size=w.heap.size+1):=by show _=_;rw [hw0];simp
 go_enter Tryz.func18,Tryz.ntmps18;go_wp2_with fail;rw [← hw0];clear hw0;refine U.out.mono ?_;rintro e w1 ⟨rfl,ho1,hg1⟩;have HG1:=jac hg1;have R1:=jac (RV.out w1 ho1);clear hg1 ho1 U RV;go_wp2_with fail;refine R1.out.mono ?_;rintro e w2 ⟨rfl,ho2,hg2⟩;have HG2:=jac (jay HG1.out hg2 (Nat.le_refl _))
 have HI:Hid (IsInts w2 (.slice (some ⟨w0.heap.size,0,none⟩) rank rank) (jb1 rank).reverse):=by
  have h:=ho2.ints (by rw [List.length_reverse,jbq];omega) (fun z hz=>by have:=jd9 (List.mem_reverse.1 hz);omega);rw [List.length_reverse,jbq] at h;exact h
 obtain ⟨n0,n1,n2,n3,n4⟩:=jai (n:=⟨op,nam,⟨ia,il,ic⟩,out,⟨ao,al,cap⟩⟩) (BX.out w2 (HG2.out));clear ho2 hg2 R1 HG1;go_wp2_with fail;refine (C.out w2 _ (jaa g0.out HG2.out) HI.out).mono ?_;rintro e w3 ⟨u,rfl,hu,hg3⟩;go_wp2;go_ret;exact ⟨u,rfl,hu,jaa (jaa g0.out HG2.out) hg3⟩
theorem jdk (n:Nod) (A:At) (rank:Nat) (w:World) (hn:NodeOk w n A) (hr:rank≤1000000):Calls Tryz.prog 88 #[jaA n,.int .i64 rank] w fun e w'=>∃ u:Sl,e=.returned u.v∧IsInts w' u.v (jb0 A rank)∧w.grownBy w' none:=by
 have HOP:=jac hn.op;have RG:=jac (fun nm z hz=>hn.int nm z hz);have NK:=jac hn;obtain ⟨op,nam,⟨ia,il,ic⟩,out,⟨ao,al,cap⟩⟩:=n;unfold jaA;simp only;obtain ⟨w0,hw0⟩ : ∃ w0,w0=w.alloc (.cells #[.string op,.string nam,.slice ia il ic,.string out,.slice ao al cap] 25):=⟨_,rfl⟩
 have g0:Hid (w.grownBy w0 none):=by show w.grownBy w0 none;rw [hw0];exact jab _ _
 have hb0:=heap_alloc_new w (.cells #[.string op,.string nam,.slice ia il ic,.string out,.slice ao al cap] 25);rw [← hw0] at hb0;have BX:Hid (∀ wx,w0.grownBy wx none→wx.heap[w.heap.size]?=some (.cells #[.string op,.string nam,.slice ia il ic,.string out,.slice ao al cap] 25 (0,0))):=fun wx hg=>jag hb0 hg;clear hb0 hn;simp only at HOP;have U:=jac (fun (wx:World)=>jeS rank wx (by omega));have C:=jac (fun (wx:World) (B:Nat) (hg:w.grownBy wx none) (hB:IsInts wx (.slice (some ⟨B,0,none⟩) rank rank) (jb1 rank))=>jbj ⟨op,nam,⟨ia,il,ic⟩,out,⟨ao,al,cap⟩⟩ A ⟨#[97,120,101,115]⟩ ⟨some ⟨B,0,none⟩,rank,rank⟩ _ wx (NK.out.more hg) hB);have I0:=jac (jbK ⟨op,nam,⟨ia,il,ic⟩,out,⟨ao,al,cap⟩⟩ A ⟨#[97,120,105,115]⟩ 0 w0 (NK.out.more g0.out));have I1:=jac (jbK ⟨op,nam,⟨ia,il,ic⟩,out,⟨ao,al,cap⟩⟩ A ⟨#[97,120,105,115]⟩ (-1) w0 (NK.out.more g0.out));unfold jaA at C I0 I1;simp only at C I0 I1;have HS:Hid (w0.heap.size=w.heap.size+1):=by show _=_;rw [hw0];simp
 cases h1:(op.toList==[65,114,103,77,97,120]) with
 | true =>
  have E:Hid (jb0 A rank=[A.int ⟨#[97,120,105,115]⟩ 0]):=by show jb0 A rank=_;unfold jb0;rw [HOP.out,if_pos (by simpa using h1)]
  have hb:=RG.out ⟨#[97,120,105,115]⟩ 0 (by omega);obtain ⟨z,hz⟩ : ∃ z,z=A.int ⟨#[97,120,105,115]⟩ 0:=⟨_,rfl⟩
  rw [← hz] at I0 E hb;clear hz;go_enter Tryz.func88,Tryz.ntmps88;go_wp2_with fail;rw [← hw0];clear hw0;refine I0.out.mono ?_;rintro e w1 ⟨rfl,hg1⟩;have HG:=jac (jaa g0.out hg1);clear hg1;go_wp2;go_ret;exact ⟨⟨some ⟨w1.heap.size,0,none⟩,1,1⟩,rfl,by rw [E.out];exact jbt w1 [z] 2 (by simp) (fun y hy=>by simp at hy;subst hy;exact hb),jaa HG.out (jab _ _)⟩
 | false =>
  cases h2:(op.toList==[83,111,102,116,109,97,120]) with
  | true =>
   have E:Hid (jb0 A rank=[A.int ⟨#[97,120,105,115]⟩ (-1)]):=by show jb0 A rank=_;unfold jb0;rw [HOP.out,if_neg (by simpa using h1),if_pos (by simpa using h2)]
   have hb:=RG.out ⟨#[97,120,105,115]⟩ (-1) (by omega);obtain ⟨z,hz⟩ : ∃ z,z=A.int ⟨#[97,120,105,115]⟩ (-1):=⟨_,rfl⟩
   rw [← hz] at I1 E hb;clear hz;go_enter Tryz.func88,Tryz.ntmps88;go_wp2_with fail;rw [← hw0];clear hw0;refine I1.out.mono ?_;rintro e w1 ⟨rfl,hg1⟩;have HG:=jac (jaa g0.out hg1);clear hg1;go_wp2;go_ret;exact ⟨⟨some ⟨w1.heap.size,0,none⟩,1,1⟩,rfl,by rw [E.out];exact jbt w1 [z] 2 (by simp) (fun y hy=>by simp at hy;subst hy;exact hb),jaa HG.out (jab _ _)⟩
  | false =>
   have E:Hid (jb0 A rank=A.ints ⟨#[97,120,101,115]⟩ (jb1 rank)):=by show jb0 A rank=_;unfold jb0;rw [HOP.out,if_neg (by simpa using h1),if_neg (by simpa using h2)]
   obtain ⟨n0,n1,n2,n3,n4⟩:=jai (n:=⟨op,nam,⟨ia,il,ic⟩,out,⟨ao,al,cap⟩⟩) (BX.out w0 (jae _));go_enter Tryz.func88,Tryz.ntmps88;go_wp2_with fail;rw [← hw0];clear hw0;go_region_held3 (fun w'=>w'.cell? ⟨w.heap.size,0,none⟩=some (.string op)∧w'.cell? ⟨w.heap.size,1,none⟩=some (.string nam)∧w'.cell? ⟨w.heap.size,2,none⟩=some (.slice ia il ic)∧w'.cell? ⟨w.heap.size,3,none⟩=some (.string out)∧w'.cell? ⟨w.heap.size,4,none⟩=some (.slice ao al cap)) (go_keep) (first | (go_at_call 37;refine (U.out _).mono ?_;rintro e w1 ⟨rfl,ho1,hg1⟩;have g1:w0.grownBy w1 none:=jaa (jaf (jae _)) hg1;obtain ⟨n0,n1,n2,n3,n4⟩:=jai (n:=⟨op,nam,⟨ia,il,ic⟩,out,⟨ao,al,cap⟩⟩) (BX.out w1 (g1))) | (go_at_call 39;refine (C.out _ _ (jaa g0.out g1) (by have h:=ho1.ints (by rw [jbq];omega) (fun z hz=>by have:=jd9 hz;omega);rw [jbq] at h;exact h)).mono ?_;rintro e w2 ⟨u,rfl,hu,hg2⟩;have g2:w0.grownBy w2 none:=jaa g1 hg2;obtain ⟨n0,n1,n2,n3,n4⟩:=jai (n:=⟨op,nam,⟨ia,il,ic⟩,out,⟨ao,al,cap⟩⟩) (BX.out w2 (g2))) | fail);go_wp2;go_ret;exact ⟨u,rfl,by rw [E.out];exact hu,jaa g0.out g2⟩
end Go.Proofs.YtanpkdkenifmbaaGreatDoor
namespace Go.Proofs.YtanpkdkenifmbaaGreatDoor
open Go.RowKit
def jbf (zs:List Int) (v:Value) (w':World):Prop:=∃ s:Sl,v=s.v∧IsInts w' s.v zs
theorem jco (u:Sl) (l:List Int) (rank:Nat) (w:World) (hv:IsInts w u.v l) (hr:rank≤100000000000000):Calls Tryz.prog 87 #[.slice u.a u.n u.c,.int .i64 rank] w (jaH w (jbT l rank) fun is v w'=>∃ B,v=.slice (some ⟨B,0,none⟩) rank rank∧jdI w' w.heap.size B is∧is.length=rank):=by
 have F:=jac (joS u.v l rank w hv hr);unfold jbT
 cases hx:jdh rank l (List.replicate rank false) with
 | none =>
  rw [hx] at F;clear hx hv;go_enter Tryz.func87,Tryz.ntmps87;go_wp2_with (first | (go_at_call 119;refine F.out.mono ?_;rintro e w' ⟨hg,rfl⟩) | (go_at_call 67;refine (jav _).mono ?_;rintro e w' ⟨rfl,rfl⟩));exact ⟨rfl,hg,rfl⟩
 | some is =>
  rw [hx] at F;clear hx hv;go_enter Tryz.func87,Tryz.ntmps87;go_wp2_with (first | (go_at_call 119;refine F.out.mono ?_;rintro e w' ⟨hg,B,rfl,ho,hl⟩) | (go_at_call 67;refine (jaq _).mono ?_;rintro e w' ⟨rfl,rfl⟩));go_ret;exact ⟨hg,_,rfl,B,rfl,ho,hl⟩
theorem jgg (keep:Bool) (d:Int) (g:Bool):∀ (a:List Int) (gs:List Bool),a.length=gs.length→jda keep (a++[d]) (gs++[g])=jda keep a gs++(if g=false then [d] else if keep=true then [1] else [])
 | [],[],_=>by cases g <;> cases keep <;> simp [jda]
 | [],_::_,h=>by simp at h
 | _::_,[],h=>by simp at h
 | x::a,y::gs,h=>by
  have ih:=jgg keep d g a gs (by simpa using h);simp only [List.cons_append,jda,ih]
  split <;> (try split) <;> simp_all
theorem jhK (keep:Bool):∀ (a:List Int) (gs:List Bool),(jda keep a gs).length≤a.length
 | [],_=>by simp [jda]
 | _::_,[]=>by simp [jda]
 | x::a,y::gs=>by
  have ih:=jhK keep a gs;simp only [jda]
  split
  ·simp;omega
  ·split
   ·simp;omega
   ·simp;omega
theorem jkz (zs:List Bool) (k:Nat) (hk:k<zs.length):zs.take (k+1)=zs.take k++[zs.getD k false]:=by
 rw [List.take_add_one];simp [List.getD,hk]
theorem jiM (n:Nod) (A:At) (u:Sl) (x:List Int) (w:World) (hn:NodeOk w n A) (hx:IsInts w u.v x) (hf:Fine x):Calls Tryz.prog 89 #[jaA n,.slice u.a u.n u.c] w (jaH w (jb5 A x) jbf):=by
 obtain ⟨ux,uc,eu,c1,c2,c3⟩:=hx.sl;obtain ⟨ua,un,uu⟩:=u;simp only [Sl.v,Value.slice.injEq] at eu;obtain ⟨rfl,rfl,rfl⟩:=eu;have HX:=jac hx;have FEW:=hf.few;have POS:=jac hf;clear hx hf;have RG:=hn.int ⟨#[107,101,101,112,100,105,109,115]⟩ 1 (by omega);have NK:=jac hn;obtain ⟨op,nam,⟨ia,il,ic⟩,out,⟨ao,al,cap⟩⟩:=n;unfold jaA;simp only;obtain ⟨w0,hw0⟩ : ∃ w0,w0=w.alloc (.cells #[.string op,.string nam,.slice ia il ic,.string out,.slice ao al cap] 25):=⟨_,rfl⟩
 have g0:Hid (w.grownBy w0 none):=by show w.grownBy w0 none;rw [hw0];exact jab _ _
 have hb0:=heap_alloc_new w (.cells #[.string op,.string nam,.slice ia il ic,.string out,.slice ao al cap] 25);rw [← hw0] at hb0;have BX:Hid (∀ wx,w0.grownBy wx none→wx.heap[w.heap.size]?=some (.cells #[.string op,.string nam,.slice ia il ic,.string out,.slice ao al cap] 25 (0,0))):=fun wx hg=>jag hb0 hg;clear hb0 hn;have I0:=jac (jbK ⟨op,nam,⟨ia,il,ic⟩,out,⟨ao,al,cap⟩⟩ A ⟨#[107,101,101,112,100,105,109,115]⟩ 1 w0 (NK.out.more g0.out));have AL:=jac (fun (wx:World) (hg:w.grownBy wx none)=>jdk ⟨op,nam,⟨ia,il,ic⟩,out,⟨ao,al,cap⟩⟩ A x.length wx (NK.out.more hg) (by omega));unfold jaA at I0 AL;simp only at I0 AL;obtain ⟨z,hz⟩ : ∃ z,z=A.int ⟨#[107,101,101,112,100,105,109,115]⟩ 1:=⟨_,rfl⟩
 rw [← hz] at I0 RG;go_enter Tryz.func89,Tryz.ntmps89;go_wp2_with fail;rw [← hw0];clear hw0;refine I0.out.mono ?_;rintro e w1 ⟨rfl,hg1⟩;have G1:=jac hg1;clear hg1 I0;have ON:=jac (jjI z w1)
 cases hk:jfY z with
 | error c =>
  rw [hk] at ON;have E:Hid (jb5 A x=.error c):=by show _=_;unfold jb5;rw [← hz,hk];rfl
  clear hk hz;go_wp2_with (go_at_call 120;refine ON.out.mono ?_;rintro e w' ⟨hg,rfl⟩);exact ⟨rfl,jah E.out (jaa (jaa g0.out G1.out) hg)⟩
 | ok keep =>
  rw [hk] at ON;have E:Hid (jb5 A x=(jbT (jb0 A x.length) x.length).bind (fun gone=>.ok (jda keep x gone))):=by show _=_;unfold jb5;rw [← hz,hk];rfl
  clear hk hz;obtain ⟨n0,n1,n2,n3,n4⟩:=jai (n:=⟨op,nam,⟨ia,il,ic⟩,out,⟨ao,al,cap⟩⟩) (BX.out w1 (G1.out));go_wp2_with (first | (go_at_call 120;refine ON.out.mono ?_;rintro e w' ⟨hg,v,rfl,rfl,rfl⟩;clear hg) | fail);refine (AL.out w1 (jaa g0.out G1.out)).mono ?_;rintro e w2 ⟨s,rfl,hs,hg2⟩;have AX:=jac (jco s _ x.length w2 hs (by omega));have G2:=jac (jaa (jaa g0.out G1.out) hg2);clear hs hg2 AL
  cases hk:jbT (jb0 A x.length) x.length with
  | error c =>
   rw [hk] at AX;have E2:Hid (jb5 A x=.error c):=by show _=_;rw [E.out,hk];rfl
   clear hk;go_wp2_with (go_at_call 87;refine AX.out.mono ?_;rintro e w' ⟨hg,rfl⟩);exact ⟨rfl,jah E2.out (jaa G2.out hg)⟩
  | ok gone =>
   rw [hk] at AX;have E2:Hid (jb5 A x=.ok (jda keep x gone)):=by show _=_;rw [E.out,hk];rfl
   clear hk;go_wp2_with (go_at_call 87;refine AX.out.mono ?_;rintro e w3 ⟨hg3,v,rfl,B,rfl,ho,hl⟩);have G3:=jac (jaa G2.out hg3);have HO:=jac ho;have HL:=jac hl;clear hg3 ho hl n0 n1 n2 n3 n4;go_loopw [7,22] (fun s i wr=>∃ (k:Nat) (u:Sl),k≤x.length∧i=.int .i64 k∧s=.slice u.a u.n u.c∧Owns wr w3.heap.size u.v (jda keep (x.take k) (gone.take k))∧w3.grownBy wr none) (fun _ i _=>x.length - (intOf i).toNat)
   case atStart=>exact ⟨0,⟨none,0,0⟩,Nat.zero_le _,rfl,rfl,by simp [jda];exact jbg _ _,jae _⟩
   case round =>
    obtain ⟨k,⟨sa,sn,sc⟩,hk,rfl,rfl,ho,hg⟩:=hrel;simp only;have HO1:=jac ho;have HG:=jac hg;have hsz:=hg.size
    by_cases hkl:k<x.length
    ·obtain ⟨b,off,rfl,hc⟩:=HX.out.get hkl;have hcell:wr.cell? ⟨b,off+k,none⟩=some (.int .i64 (x.getD k 0)):=jad (hc k hkl) (jaa G3.out hg);have hwf:=HX.out.wf (x.getD k 0) (by simp [List.getD,hkl]);have hgk:k<gone.length:=by rw [HL.out];exact hkl
     obtain ⟨cb,fb⟩:=(HO.out.new hg).at (k:=k) (v:=gone.getD k false) (by simp [List.getD,hgk]);have ST:=jgg keep (x.getD k 0) (gone.getD k false) (x.take k) (gone.take k) (by simp;omega);rw [← jcJ x k hkl,← jkz gone k hgk] at ST;have hln:=jhK keep (x.take k) (gone.take k);rw [List.length_take] at hln;obtain ⟨d,hd0⟩ : ∃ d,d=x.getD k 0:=⟨_,rfl⟩
     obtain ⟨gb,hgb⟩ : ∃ gb,gb=gone.getD k false:=⟨_,rfl⟩
     rw [← hd0] at hcell ST hwf;rw [← hgb] at cb ST;clear hc hd0 hgb ho hg
     cases gb with
     | false =>
      rw [if_pos rfl] at ST;have HST:=jac ST;clear ST;go_wp2_with (at_builtin;refine jbm rfl (.tmp 33) (.tmp 35) rfl w3.heap.size _ _ rfl HO1.out d rfl hwf (by omega) (by omega) ?_;intro v' w4 hown hgrow);obtain ⟨⟨xa,xn,xc⟩,rfl⟩:=hown.sl;have HO2:=jac hown;have HG2:=jac (hgrow w3 (Nat.le_refl _) HG.out);clear hown hgrow;go_roundw
      case rel=>exact ⟨k+1,⟨xa,xn,xc⟩,by omega,by go_num,rfl,by rw [HST.out];exact HO2.out,HG2.out⟩
      case measure=>simp [intOf];omega
     | true =>
      rw [if_neg (by decide)] at ST
      cases keep with
      | true =>
       rw [if_pos rfl] at ST;have HST:=jac ST;clear ST;go_wp2_with (at_builtin;refine jbm rfl (.tmp 39) (.tmp 40) rfl w3.heap.size _ _ rfl HO1.out 1 rfl (by omega) (by omega) (by omega) ?_;intro v' w4 hown hgrow);obtain ⟨⟨xa,xn,xc⟩,rfl⟩:=hown.sl;have HO2:=jac hown;have HG2:=jac (hgrow w3 (Nat.le_refl _) HG.out);clear hown hgrow;go_roundw
       case rel=>exact ⟨k+1,⟨xa,xn,xc⟩,by omega,by go_num,rfl,by rw [HST.out];exact HO2.out,HG2.out⟩
       case measure=>simp [intOf];omega
      | false =>
       rw [if_neg (by decide),List.append_nil] at ST;have HST:=jac ST;clear ST;go_wp2;go_roundw
       case rel=>exact ⟨k+1,⟨sa,sn,sc⟩,by omega,by go_num,rfl,by rw [HST.out];exact HO1.out,HG.out⟩
       case measure=>simp [intOf];omega
    ·have E3:jda keep (x.take k) (gone.take k)=jda keep x gone:=by rw [List.take_of_length_le (by omega),List.take_of_length_le (by rw [HL.out];omega)]
     rw [E3] at HO1;clear ho hg;go_wp2;go_ret;exact jap E2.out (jaa G3.out HG.out) ⟨⟨sa,sn,sc⟩,rfl,HO1.out.ints⟩
end Go.Proofs.YtanpkdkenifmbaaGreatDoor
namespace Go.Proofs.YtanpkdkenifmbaaGreatDoor
open Go.RowKit
theorem jfd {rank:Nat} : ∀ {l:List Int} {is r:List Bool},jdh rank l is=some r→∀ a∈l,∃ i,ja4 a rank=some i
 | [],_,_,_,a,ha=>by simp at ha
 | b::l,is,r,h,a,ha=>by
  unfold jdh at h
  cases hb:ja4 b rank with
  | none=>rw [hb] at h;cases h
  | some i =>
   rw [hb] at h;simp only at h
   split at h
   ·cases h
   ·rcases List.mem_cons.1 ha with rfl | ha
    ·exact ⟨i,hb⟩
    ·exact jfd h a ha
theorem jhL {l:List Int} {rank:Nat} {is:List Bool} (h:jbT l rank=.ok is):∀ a∈l,∃ i,ja4 a rank=some i:=by
 unfold jbT at h
 cases hx:jdh rank l (List.replicate rank false) with
 | none=>rw [hx] at h;cases h
 | some r=>exact jfd hx
theorem jl8 {a:Int} {rank i:Nat} (h:ja4 a rank=some i) (ha:0≤a):a.toNat<rank:=by
 have e:jaQ a rank=a:=by unfold jaQ;rw [if_neg (by omega)]
 unfold ja4 at h;rw [e] at h
 split at h
 ·cases h
 ·split at h
  ·cases h
  ·omega
def after (acc:List Int) (r:R (List Int)):R (List Int):=match r with
 | .ok l=>.ok (acc++l)
 | .error c=>.error c
theorem jkA {x l:List Int} {k:Nat} (hk:k<l.length) (acc:List Int):after acc (jdi x (l.drop k))=if 0≤l.getD k 0 then after (acc++[x.getD (l.getD k 0).toNat 0]) (jdi x (l.drop (k+1))) else .error 4:=by
 rw [jbc l k hk];simp only [jdi]
 split
 ·cases jdi x (l.drop (k+1)) <;> simp [Except.map,after]
 ·rfl
theorem jfZ (n:Nod) (A:At) (u:Sl) (x:List Int) (w:World) (hn:NodeOk w n A) (hx:IsInts w u.v x) (hf:Fine x):Calls Tryz.prog 92 #[jaA n,.slice u.a u.n u.c] w (jaH w (jaY A x) jbf):=by
 obtain ⟨ux,uc,eu,c1,c2,c3⟩:=hx.sl;obtain ⟨ua,un,uu⟩:=u;simp only [Sl.v,Value.slice.injEq] at eu;obtain ⟨rfl,rfl,rfl⟩:=eu;have HX:=jac hx;have FEW:=hf.few;clear hx hf;have NK:=jac hn;obtain ⟨op,nam,⟨ia,il,ic⟩,out,⟨ao,al,cap⟩⟩:=n;unfold jaA;simp only;obtain ⟨w0,hw0⟩ : ∃ w0,w0=w.alloc (.cells #[.string op,.string nam,.slice ia il ic,.string out,.slice ao al cap] 25):=⟨_,rfl⟩
 have g0:Hid (w.grownBy w0 none):=by show w.grownBy w0 none;rw [hw0];exact jab _ _
 have hb0:=heap_alloc_new w (.cells #[.string op,.string nam,.slice ia il ic,.string out,.slice ao al cap] 25);rw [← hw0] at hb0;have BX:Hid (∀ wx,w0.grownBy wx none→wx.heap[w.heap.size]?=some (.cells #[.string op,.string nam,.slice ia il ic,.string out,.slice ao al cap] 25 (0,0))):=fun wx hg=>jag hb0 hg;clear hb0 hn;have PM:=jac (jjK ⟨op,nam,⟨ia,il,ic⟩,out,⟨ao,al,cap⟩⟩ A x.length w0 (NK.out.more g0.out) (by omega));unfold jaA at PM;simp only at PM;obtain ⟨l,hl⟩ : ∃ l,l=jd7 A x.length:=⟨_,rfl⟩
 rw [← hl] at PM;have E0:Hid (jaY A x=(jal (decide (l.length=x.length))).bind (fun _=>(jbT l x.length).bind (fun _=>jdi x l))):=by show _=_;rw [hl];rfl
 clear hl;go_enter Tryz.func92,Tryz.ntmps92;go_wp2_with fail;rw [← hw0];clear hw0;refine PM.out.mono ?_;rintro e w1 ⟨s,rfl,hs,hg1⟩;have G1:=jac (jaa g0.out hg1);obtain ⟨sa,sc,es,d1,d2,d3⟩:=hs.sl;obtain ⟨s1,s2,s3⟩:=s;simp only [Sl.v,Value.slice.injEq] at es;obtain ⟨rfl,rfl,rfl⟩:=es;simp only [Sl.v] at hs ⊢;have HS:=jac hs;clear hs hg1 PM
 by_cases hlen:l.length=x.length
 ·have b0:((l.length:Int)==(x.length:Int))=true:=by simp [hlen]
  have E1:Hid (jaY A x=(jbT l x.length).bind (fun _=>jdi x l)):=by show _=_;rw [E0.out];simp [jal,hlen];rfl
  have AX:=jac (jco ⟨s1,l.length,s3⟩ l x.length w1 HS.out (by omega))
  cases hk:jbT l x.length with
  | error c =>
   rw [hk] at AX;have E2:Hid (jaY A x=.error c):=by show _=_;rw [E1.out,hk];rfl
   clear hk hlen;go_wp2_with (first | (go_at_call 67;refine (jaq _).mono ?_;rintro e w' ⟨rfl,rfl⟩) | (go_at_call 87;refine AX.out.mono ?_;rintro e w' ⟨hg,rfl⟩));exact ⟨rfl,jah E2.out (jaa G1.out hg)⟩
  | ok gone =>
   rw [hk] at AX;have ALL:=jac (jhL hk);have E2:Hid (jaY A x=jdi x l):=by show _=_;rw [E1.out,hk];rfl
   have HLEN:=jac hlen;clear hk hlen;go_wp2_with (first | (go_at_call 67;refine (jaq _).mono ?_;rintro e w' ⟨rfl,rfl⟩) | (go_at_call 87;refine AX.out.mono ?_;rintro e w3 ⟨hg3,v,rfl,B,rfl,ho,hl⟩));have G3:=jac (jaa G1.out hg3);have G13:=jac hg3;clear hg3 ho hl b0;go_loopw [6,25] (fun s i wr=>∃ (k:Nat) (u:Sl) (acc:List Int),k≤l.length∧i=.int .i64 k∧s=.slice u.a u.n u.c∧Owns wr w3.heap.size u.v acc∧acc.length≤k∧after acc (jdi x (l.drop k))=jdi x l∧w3.grownBy wr none) (fun _ i _=>l.length - (intOf i).toNat)
   case atStart=>exact ⟨0,⟨none,0,0⟩,[],Nat.zero_le _,rfl,rfl,jbg _ _,Nat.le_refl _,by rw [List.drop_zero];cases jdi x l <;> rfl,jae _⟩
   case round =>
    obtain ⟨k,⟨qa,qn,qc⟩,acc,hk,rfl,rfl,ho,hal,hst,hg⟩:=hrel;simp only;have HO1:=jac ho;have HG:=jac hg;have hsz:=hg.size
    by_cases hkl:k<l.length
    ·obtain ⟨b,off,rfl,hc⟩:=HS.out.get hkl;have hcell:wr.cell? ⟨b,off+k,none⟩=some (.int .i64 (l.getD k 0)):=jad (hc k hkl) (jaa G13.out hg);have hmem:l.getD k 0∈l:=by simp [List.getD,hkl]
     obtain ⟨i,hi⟩:=ALL.out _ hmem;rw [jkA hkl] at hst;obtain ⟨p,hp0⟩ : ∃ p,p=l.getD k 0:=⟨_,rfl⟩
     rw [← hp0] at hcell hst hi;clear hc hp0 ho hmem
     by_cases hp:0≤p
     ·rw [if_pos hp] at hst;have hlt:=jl8 hi hp;obtain ⟨q,hq⟩ : ∃ q:Nat,q=p.toNat:=⟨_,rfl⟩
      have hpq:p=(q:Int):=by omega
      rw [← hq] at hst hlt;clear hq;subst hpq;obtain ⟨b',off',e',hcx⟩:=HX.out.get (k:=q) hlt
      cases e'
      have hcell2:wr.cell? ⟨b',off'+q,none⟩=some (.int .i64 (x.getD q 0)):=jad (hcx q hlt) (jaa G3.out hg);have hwf:=HX.out.wf (x.getD q 0) (by simp [List.getD,hlt]);have HST:=jac hst;obtain ⟨d,hd⟩ : ∃ d,d=x.getD q 0:=⟨_,rfl⟩
      rw [← hd] at hcell2 hwf HST;clear hst hd hi hcx hg;go_wp2_with (first | (go_at_call 67;refine (jaq _).mono ?_;rintro e w' ⟨rfl,rfl⟩) | (at_builtin;refine jbm rfl (.tmp 32) (.tmp 37) rfl w3.heap.size _ _ rfl HO1.out d rfl hwf (by omega) (by omega) ?_;intro v' w4 hown hgrow));obtain ⟨⟨xa,xn,xc⟩,rfl⟩:=hown.sl;have HO2:=jac hown;have HG2:=jac (hgrow w3 (Nat.le_refl _) HG.out);clear hown hgrow;go_roundw
      case rel=>exact ⟨k+1,⟨xa,xn,xc⟩,_,by omega,by go_num,rfl,HO2.out,by simp;omega,HST.out,HG2.out⟩
      case measure=>simp [intOf];omega
     ·rw [if_neg hp] at hst;have E3:Hid (jaY A x=.error 4):=by show _=_;rw [E2.out,← hst]
      clear hst hg hi;go_wp2_with (go_at_call 67;refine (jav _).mono ?_;rintro e w' ⟨rfl,rfl⟩);exact ⟨rfl,jah E3.out (jaa G3.out HG.out)⟩
    ·have E3 : Hid (jaY A x = .ok acc) := by
       show _=_;rw [E2.out,← hst,List.drop_of_length_le (by omega)];simp [jdi,after]
     clear ho hg hst;go_wp2;go_ret;exact jap E3.out (jaa G3.out HG.out) ⟨⟨qa,qn,qc⟩,rfl,HO1.out.ints⟩
 ·have b0:((l.length:Int)==(x.length:Int))=false:=by simpa using (fun h=>hlen (by omega):¬ (l.length:Int)=x.length)
  have E1:Hid (jaY A x=.error 4):=by show _=_;rw [E0.out];simp [jal,hlen];rfl
  clear hlen;go_wp2_with (go_at_call 67;refine (jav _).mono ?_;rintro e w' ⟨rfl,rfl⟩);exact ⟨rfl,jah E1.out G1.out⟩
theorem jcM (zs:List Bool) (k:Nat) (hk:k<zs.length):zs.drop k=zs.getD k false::zs.drop (k+1):=by
 rw [List.drop_eq_getElem_cons hk];simp [List.getD,hk]
theorem jgY {x:List Int} {gs:List Bool} {k:Nat} (hk:k<x.length) (hg:k<gs.length) (acc:List Int):after acc (jbi (x.drop k) (gs.drop k))=if gs.getD k false=true then (if x.getD k 0=1 then after acc (jbi (x.drop (k+1)) (gs.drop (k+1))) else .error 4) else after (acc++[x.getD k 0]) (jbi (x.drop (k+1)) (gs.drop (k+1))):=by
 rw [jbc x k hk,jcM gs k hg];simp only [jbi]
 split
 ·split
  ·rfl
  ·rfl
 ·cases jbi (x.drop (k+1)) (gs.drop (k+1)) <;> simp [Except.map,after]
theorem jhM (u v:Sl) (x l:List Int) (w:World) (hx:IsInts w u.v x) (hv:IsInts w v.v l) (hf:Fine x):Calls Tryz.prog 98 #[.slice u.a u.n u.c,.slice v.a v.n v.c] w (jaH w (jbH x l) jbf):=by
 obtain ⟨ux,uc,eu,c1,c2,c3⟩:=hx.sl;obtain ⟨ua,un,uu⟩:=u;simp only [Sl.v,Value.slice.injEq] at eu;obtain ⟨rfl,rfl,rfl⟩:=eu;have HX:=jac hx;have FEW:=hf.few;have AX:=jac (jco v l x.length w hv (by omega));clear hx hf hv
 cases hk:jbT l x.length with
 | error c =>
  rw [hk] at AX;have E2:Hid (jbH x l=.error c):=by show _=_;unfold jbH;rw [hk];rfl
  clear hk;go_enter Tryz.func98,Tryz.ntmps98;go_wp2_with (go_at_call 87;refine AX.out.mono ?_;rintro e w' ⟨hg,rfl⟩);exact ⟨rfl,jah E2.out hg⟩
 | ok gone =>
  rw [hk] at AX;have E2:Hid (jbH x l=jbi x gone):=by show _=_;unfold jbH;rw [hk];rfl
  clear hk;go_enter Tryz.func98,Tryz.ntmps98;go_wp2_with (go_at_call 87;refine AX.out.mono ?_;rintro e w3 ⟨hg3,v,rfl,B,rfl,ho,hl⟩);have G3:=jac hg3;have HO:=jac ho;have HL:=jac hl;clear hg3 ho hl;go_loopw [6,15] (fun s i wr=>∃ (k:Nat) (u:Sl) (acc:List Int),k≤x.length∧i=.int .i64 k∧s=.slice u.a u.n u.c∧Owns wr w3.heap.size u.v acc∧acc.length≤k∧after acc (jbi (x.drop k) (gone.drop k))=jbi x gone∧w3.grownBy wr none) (fun _ i _=>x.length - (intOf i).toNat)
  case atStart=>exact ⟨0,⟨none,0,0⟩,[],Nat.zero_le _,rfl,rfl,jbg _ _,Nat.le_refl _,by rw [List.drop_zero,List.drop_zero];cases jbi x gone <;> rfl,jae _⟩
  case round =>
   obtain ⟨k,⟨qa,qn,qc⟩,acc,hk,rfl,rfl,ho,hal,hst,hg⟩:=hrel;simp only;have HO1:=jac ho;have HG:=jac hg;have hsz:=hg.size
   by_cases hkl:k<x.length
   ·obtain ⟨b,off,rfl,hc⟩:=HX.out.get hkl;have hcell:wr.cell? ⟨b,off+k,none⟩=some (.int .i64 (x.getD k 0)):=jad (hc k hkl) (jaa G3.out hg);have hwf:=HX.out.wf (x.getD k 0) (by simp [List.getD,hkl]);have hgk:k<gone.length:=by rw [HL.out];exact hkl
    obtain ⟨cb,fb⟩:=(HO.out.new hg).at (k:=k) (v:=gone.getD k false) (by simp [List.getD,hgk]);rw [jgY hkl hgk] at hst;obtain ⟨d,hd0⟩ : ∃ d,d=x.getD k 0:=⟨_,rfl⟩
    obtain ⟨gb,hgb⟩ : ∃ gb,gb=gone.getD k false:=⟨_,rfl⟩
    rw [← hd0] at hcell hst hwf;rw [← hgb] at cb hst;clear hc hd0 hgb ho hg
    cases gb with
    | false =>
     rw [if_neg (by decide)] at hst;have HST:=jac hst;clear hst;go_wp2_with (first | (go_at_call 67;refine (jaq _).mono ?_;rintro e w' ⟨rfl,rfl⟩) | (at_builtin;refine jbm rfl (.tmp 35) (.tmp 37) rfl w3.heap.size _ _ rfl HO1.out d rfl hwf (by omega) (by omega) ?_;intro v' w4 hown hgrow));obtain ⟨⟨xa,xn,xc⟩,rfl⟩:=hown.sl;have HO2:=jac hown;have HG2:=jac (hgrow w3 (Nat.le_refl _) HG.out);clear hown hgrow;go_roundw
     case rel=>exact ⟨k+1,⟨xa,xn,xc⟩,_,by omega,by go_num,rfl,HO2.out,by simp;omega,HST.out,HG2.out⟩
     case measure=>simp [intOf];omega
    | true =>
     rw [if_pos rfl] at hst
     by_cases hd:d=1
     ·rw [if_pos hd] at hst;have HST:=jac hst;have b1:(d==1)=true:=by simp [hd]
      clear hst hd;go_wp2_with (go_at_call 67;refine (jaq _).mono ?_;rintro e w' ⟨rfl,rfl⟩);go_roundw
      case rel=>exact ⟨k+1,⟨qa,qn,qc⟩,acc,by omega,by go_num,rfl,HO1.out,by omega,HST.out,HG.out⟩
      case measure=>simp [intOf];omega
     ·rw [if_neg hd] at hst;have b1:(d==1)=false:=by simpa using hd
      have E3:Hid (jbH x l=.error 4):=by show _=_;rw [E2.out,← hst]
      clear hst hd;go_wp2_with (go_at_call 67;refine (jav _).mono ?_;rintro e w' ⟨rfl,rfl⟩);exact ⟨rfl,jah E3.out (jaa G3.out HG.out)⟩
   ·have E3 : Hid (jbH x l = .ok acc) := by
      show _=_;rw [E2.out,← hst,List.drop_of_length_le (by omega)];simp [jbi,after]
    clear ho hg hst;go_wp2;go_ret;exact jap E3.out (jaa G3.out HG.out) ⟨⟨qa,qn,qc⟩,rfl,HO1.out.ints⟩
end Go.Proofs.YtanpkdkenifmbaaGreatDoor
