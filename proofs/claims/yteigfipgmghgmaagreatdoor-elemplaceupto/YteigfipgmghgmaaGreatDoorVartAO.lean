/- A part. -/
import Derived.Test.YteigfipgmghgmaaGreatDoorVartAM
import Derived.BigQuiet
import Derived.Deep.RegionWith
set_option maxHeartbeats 1000000
set_option maxRecDepth 100000
namespace Go.Proofs.YteigfipgmghgmaaGreatDoor
open Go.RowKit
structure NodeOk (w:World) (n:Nod) (A:At):Prop where
 op:A.op=n.op
 attrs:jbR w n.av.v A.xs
 has:∀ (j:Nat) (a:Atr),A.xs[j]?=some a→∃ c,A.cs[j]?=some c∧Has w a c
 rng:∀ a∈A.xs,-9223372036854775808≤a.i∧a.i≤9223372036854775807
theorem NodeOk.more {w w':World} {n:Nod} {A:At} (h:NodeOk w n A) (hg:w.grownBy w' none):NodeOk w' n A :=
 ⟨h.op,h.attrs.more hg,fun j a e=>by obtain ⟨c,e1,e2⟩:=h.has j a e;exact ⟨c,e1,e2.more hg⟩,h.rng⟩
theorem NodeOk.int {w:World} {n:Nod} {A:At} (h:NodeOk w n A) (nm:ByteArray) (z:Int) (hz : -9223372036854775808≤z∧z≤9223372036854775807) : -9223372036854775808≤A.int nm z∧A.int nm z≤9223372036854775807:=by
 unfold At.int jqt
 cases hf:A.xs.find? (isA nm 2) with
 | none=>exact hz
 | some a=>exact h.rng a (List.mem_of_find?_eq_some hf)
theorem jlT {w:World} {base:Nat} {v:Value} {zs:List Int} {te:TypeId} (h:jaW te 1 jdq w base v zs) (hl:zs.length*8≤140737488351232) (hz:∀ z∈zs,-9223372036854775808≤z∧z≤9223372036854775807):IsInts w v zs:=by
 obtain ⟨ao,cap,rfl,h1,h2,h3,h4,h5⟩:=jaW.isL (bytes:=8) jeD h hl;refine ⟨ao,cap,rfl,h1,h2,hl,h4,fun hp=>?_,hz⟩;obtain ⟨b,off,rfl,hc⟩:=h5 hp;refine ⟨b,off,rfl,fun k hk=>?_⟩;have:=(hc k hk 0 (by omega)).1;rw [Nat.mul_one,Nat.add_zero] at this;rw [this];simp [jdq,List.getD,hk]
theorem jbr (n:Nod) (A:At) (nm:ByteArray) (other:Sl) (zs:List Int) (w:World) (hn:NodeOk w n A) (ho:IsInts w other.v zs) :
    Calls Tryz.prog 112 #[jaz n,.string nm,.slice other.a other.n other.c] w fun e w'=>∃ u:Sl,e=.returned u.v∧IsInts w' u.v (A.ints nm zs)∧w.grownBy w' none:=by
     refine (jno n A.xs A.cs nm other zs w hn.attrs hn.has ho).mono ?_;rintro e w' ⟨u,rfl,hu,hg⟩;refine ⟨u,rfl,?_,hg⟩
     have hb:∃ v,IsInts w v (A.ints nm zs):=by
      unfold At.ints jgw
      rcases jdU (P:=isA nm 7) hn.has with ⟨e1,e2⟩ | ⟨a,c,e1,e2,e3⟩
      ·rw [e2];exact ⟨_,ho⟩
      ·rw [e2];exact ⟨_,e3.i⟩
     obtain ⟨v,hb⟩:=hb;exact jlT hu hb.le hb.wf
theorem jb2 (n:Nod) (A:At) (nm:ByteArray) (z:Int) (w:World) (hn:NodeOk w n A) :
    Calls Tryz.prog 104 #[jaz n,.string nm,.int .i64 z] w fun e w'=>e=.returned (.int .i64 (A.int nm z))∧w.grownBy w' none :=
     jqu n A.xs A.cs nm z w hn.attrs hn.has
def jgk (te:TypeId) (w:World) (base B:Nat) (zs:List Int):Prop:=w.ownsRow base te 1 (.slice (some ⟨B,0,none⟩) zs.length zs.length) zs.length (zs.map (Value.int .i64))
theorem jgk.at {te:TypeId} {w:World} {base B:Nat} {zs:List Int} (h:jgk te w base B zs) {k:Nat} (hk:k<zs.length):w.cell? ⟨B,k,none⟩=some (.int .i64 (zs.getD k 0))∧w.frozen? ⟨B,k,none⟩=false:=by
 refine ⟨?_,World.ownsRow.frozenAt h k⟩;rw [World.ownsRow.cellAt h k (by omega),List.getElem?_map];simp [List.getD,hk]
theorem jgk.set {te:TypeId} {w:World} {base B:Nat} {zs:List Int} (h:jgk te w base B zs) (k:Nat) (x:Int):jgk te (w.setCell ⟨B,k,none⟩ (.int .i64 x)) base B (zs.set k x)∧w.grownBy (w.setCell ⟨B,k,none⟩ (.int .i64 x)) (some B):=by
 have s:=World.ownsRow.stored h k (.int .i64 x);rw [← List.map_set] at s;refine ⟨?_,s.2⟩;unfold jgk;rw [List.length_set];exact s.1
theorem jgk.new {te:TypeId} {w w':World} {base B:Nat} {zs:List Int} (h:jgk te w base B zs) (hg:w.grownBy w' none):jgk te w' base B zs:=World.ownsRow.kept h hg (.inr (by simp [Value.ownBlock]))
theorem jgk.ints {te:TypeId} {w:World} {base B:Nat} {zs:List Int} (h:jgk te w base B zs) (hl:zs.length*8≤140737488351232) (hz:∀ z∈zs,-9223372036854775808≤z∧z≤9223372036854775807):IsInts w (.slice (some ⟨B,0,none⟩) zs.length zs.length) zs:=by
 refine ⟨_,_,rfl,Nat.le_refl _,by omega,hl,(fun h=>by cases h),fun _=>⟨_,_,rfl,fun k hk=>?_⟩,hz⟩;rw [Nat.zero_add];exact (h.at hk).1
theorem jgk.base_le {te:TypeId} {w:World} {base b' B:Nat} {zs:List Int} (h:jgk te w base B zs) (hb:b'≤base):jgk te w b' B zs:=by
 refine ⟨h.1,?_⟩
 rcases h.2 with h0 | ⟨g,cap,cur,e,hg,r⟩
 ·exact .inl h0
 ·exact .inr ⟨g,cap,cur,e,by omega,r⟩
theorem jiK (n:Nat) (hn:n*8≤140737488351232):∃ M:Array Value,(∀ W:World,(Instr.makeSlice 30 (.int .i64 (n:Int)) (.int .i64 (n:Int))).run Tryz.prog W=.ok (.slice (some ⟨W.heap.size,0,none⟩) n n) (W.alloc (.cells M 2))) ∧
    ∀ (W:World) (base:Nat),base≤W.heap.size→jgk 2 (W.alloc (.cells M 2)) base W.heap.size (List.replicate n 0):=by
     obtain ⟨j0,hj,jz0,jz1,jz2⟩:=info_parts jm6;obtain ⟨M1,hM1⟩ : ∃ M,M=madeCells (Value.int .i64 0).cells (((n:Nat):Int).toNat*j0.size):=⟨_,rfl⟩
     have E1:M1.toList=List.replicate n (.int .i64 0):=by rw [hM1,jz1,Nat.mul_one,show (Value.int .i64 0).cells=#[Value.int .i64 0] from rfl,toList_madeCells_one];simp
     refine ⟨M1,fun W=>?_,fun W base hb=>?_⟩
     ·have h:=Go.run_make (P:=Tryz.prog) W 30 2 j0 (.int .i64 0) Tryz.underlying30 hj jz0 .i64 .i64 (n:Int) (n:Int) (by omega) (by omega) (by rw [jz2];omega) (by omega);rw [← hM1] at h;simpa using h
     ·unfold jgk;rw [List.length_replicate,List.map_replicate];refine ⟨by simp,Or.inr ⟨W.heap.size,n,M1,rfl,hb,heap_alloc_new W _,Nat.le_refl _,by simp only [maxLen];omega,?_,?_⟩⟩
      ·rw [← Array.length_toList,E1,List.length_replicate,Nat.mul_one]
      ·rw [E1,List.take_of_length_le (by simp)]
theorem jbD (n:Nat):(jdb n).length=n:=by simp [jdb]
theorem jfK {n:Nat} {z:Int} (h:z∈jdb n):0≤z∧z<n:=by
 unfold jdb at h;obtain ⟨i,hi,rfl⟩:=List.mem_map.1 h;have:=List.mem_range.1 hi;simp only [Int.ofNat_eq_natCast];omega
def upK (n k:Nat):List Int:=jdb k++List.replicate (n - k) 0
theorem jsN {n k:Nat} (hk:k<n):(upK n k).set k (k:Int)=upK n (k+1):=by
 unfold upK;rw [List.set_append_right _ _ (by rw [jbD];omega),jbD,Nat.sub_self,show n - k=(n - (k+1))+1 by omega,List.replicate_succ,List.set_cons_zero];unfold jdb;rw [List.range_succ,List.map_append];simp
theorem jsO {n k:Nat} (hk:k≤n):(upK n k).length=n:=by
 unfold upK;rw [List.length_append,jbD,List.length_replicate];omega
theorem jhE (n:Nat) (w:World) (hn:n*8≤140737488351232):Calls Tryz.prog 145 #[.int .i64 n] w fun e w'=>e=.returned (.slice (some ⟨w.heap.size,0,none⟩) n n)∧jgk 2 w' w.heap.size w.heap.size (jdb n)∧w.grownBy w' none:=by
 obtain ⟨M,mk1,OW⟩:=jiK n hn;have O0:=jac (OW w w.heap.size (Nat.le_refl _));clear OW;go_enter Tryz.func145,Tryz.ntmps145;go_wp2_with fail;clear mk1;go_loopw [9] (fun i wr=>∃ k:Nat,k≤n∧i=.int .i64 k∧jgk 2 wr w.heap.size w.heap.size (upK n k)∧w.grownBy wr none) (fun i _=>n - (intOf i).toNat)
 case atStart=>exact ⟨0,Nat.zero_le _,rfl,O0.out,jab _ _⟩
 case round =>
  obtain ⟨k,hk,rfl,ho,hg⟩:=hrel;have HO:=jac ho;have HG:=jac hg
  by_cases hkl:k<n
  ·obtain ⟨c1,c2⟩:=ho.at (k:=k) (by rw [jsO hk];exact hkl);obtain ⟨so,sg⟩:=ho.set k (k:Int);rw [jsN hkl] at so;have SO:=jac so;have SG:=jac (jan hg sg (fun r e=>by cases e;exact Nat.le_refl _));clear so sg ho hg;go_wp2;go_roundw
   case rel=>exact ⟨k+1,by omega,by go_num,SO.out,SG.out⟩
   case measure=>simp [intOf];omega
  ·have hkk:k=n:=by omega
   subst hkk;have E:upK k k=jdb k:=by simp [upK]
   rw [E] at HO;clear ho hg hk hkl;go_wp2;go_ret;exact ⟨rfl,HO.out,HG.out⟩
theorem jiL (n:Nod) (A:At) (w:World) (hn:NodeOk w n A):Calls Tryz.prog 165 #[jaz n] w fun e w'=>∃ u:Sl,e=.returned u.v∧IsInts w' u.v (A.ints ⟨#[115,116,114,105,100,101,115]⟩ [1,1])∧w.grownBy w' none:=by
 have NK:=jac hn;obtain ⟨op,nam,⟨ia,il,ic⟩,out,⟨ao,al,cap⟩⟩:=n;unfold jaz;simp only;obtain ⟨w0,hw0⟩ : ∃ w0,w0=w.alloc (.cells #[.string op,.string nam,.slice ia il ic,.string out,.slice ao al cap] 25):=⟨_,rfl⟩
 have g0:Hid (w.grownBy w0 none):=by show w.grownBy w0 none;rw [hw0];exact jab _ _
 have hb0:=heap_alloc_new w (.cells #[.string op,.string nam,.slice ia il ic,.string out,.slice ao al cap] 25);rw [← hw0] at hb0;have BX:Hid (∀ wx,w0.grownBy wx none→wx.heap[w.heap.size]?=some (.cells #[.string op,.string nam,.slice ia il ic,.string out,.slice ao al cap] 25 (0,0))):=fun wx hg=>jag hb0 hg;clear hb0 hn;obtain ⟨n0,n1,n2,n3,n4⟩:=jak (n:=⟨op,nam,⟨ia,il,ic⟩,out,⟨ao,al,cap⟩⟩) (BX.out w0 (jad _));obtain ⟨w1,hw1⟩ : ∃ w1,w1=w0.alloc (.cells #[.int .i64 1,.int .i64 1] 2):=⟨_,rfl⟩
 have g1:Hid (w.grownBy w1 none):=by show w.grownBy w1 none;rw [hw1];exact jaa g0.out (jab _ _)
 have C:=jac (jbr ⟨op,nam,⟨ia,il,ic⟩,out,⟨ao,al,cap⟩⟩ A ⟨#[115,116,114,105,100,101,115]⟩ ⟨some ⟨w0.heap.size,0,none⟩,2,2⟩ [1,1] w1 (NK.out.more g1.out) (by rw [hw1];exact jbu w0 [1,1] 2 (by decide) (by decide)));unfold jaz at C;simp only at C;rw [show w0.heap.size=w.heap.size+1 by rw [hw0];simp] at C;clear n0 n1 n2 n3 n4;go_enter Tryz.func165,Tryz.ntmps165;go_wp2_with fail;rw [← hw0,← hw1];refine C.out.mono ?_;rintro e w' ⟨u,rfl,hu,hg⟩;go_wp2;go_ret;exact ⟨u,rfl,hu,jaa g1.out hg⟩
theorem jhF (n:Nod) (A:At) (w:World) (hn:NodeOk w n A):Calls Tryz.prog 166 #[jaz n] w fun e w'=>∃ u:Sl,e=.returned u.v∧IsInts w' u.v (A.ints ⟨#[100,105,108,97,116,105,111,110,115]⟩ [1,1])∧w.grownBy w' none:=by
 have NK:=jac hn;obtain ⟨op,nam,⟨ia,il,ic⟩,out,⟨ao,al,cap⟩⟩:=n;unfold jaz;simp only;obtain ⟨w0,hw0⟩ : ∃ w0,w0=w.alloc (.cells #[.string op,.string nam,.slice ia il ic,.string out,.slice ao al cap] 25):=⟨_,rfl⟩
 have g0:Hid (w.grownBy w0 none):=by show w.grownBy w0 none;rw [hw0];exact jab _ _
 have hb0:=heap_alloc_new w (.cells #[.string op,.string nam,.slice ia il ic,.string out,.slice ao al cap] 25);rw [← hw0] at hb0;have BX:Hid (∀ wx,w0.grownBy wx none→wx.heap[w.heap.size]?=some (.cells #[.string op,.string nam,.slice ia il ic,.string out,.slice ao al cap] 25 (0,0))):=fun wx hg=>jag hb0 hg;clear hb0 hn;obtain ⟨n0,n1,n2,n3,n4⟩:=jak (n:=⟨op,nam,⟨ia,il,ic⟩,out,⟨ao,al,cap⟩⟩) (BX.out w0 (jad _));obtain ⟨w1,hw1⟩ : ∃ w1,w1=w0.alloc (.cells #[.int .i64 1,.int .i64 1] 2):=⟨_,rfl⟩
 have g1:Hid (w.grownBy w1 none):=by show w.grownBy w1 none;rw [hw1];exact jaa g0.out (jab _ _)
 have C:=jac (jbr ⟨op,nam,⟨ia,il,ic⟩,out,⟨ao,al,cap⟩⟩ A ⟨#[100,105,108,97,116,105,111,110,115]⟩ ⟨some ⟨w0.heap.size,0,none⟩,2,2⟩ [1,1] w1 (NK.out.more g1.out) (by rw [hw1];exact jbu w0 [1,1] 2 (by decide) (by decide)));unfold jaz at C;simp only at C;rw [show w0.heap.size=w.heap.size+1 by rw [hw0];simp] at C;clear n0 n1 n2 n3 n4;go_enter Tryz.func166,Tryz.ntmps166;go_wp2_with fail;rw [← hw0,← hw1];refine C.out.mono ?_;rintro e w' ⟨u,rfl,hu,hg⟩;go_wp2;go_ret;exact ⟨u,rfl,hu,jaa g1.out hg⟩
theorem jqx (n:Nod) (A:At) (w:World) (hn:NodeOk w n A):Calls Tryz.prog 167 #[jaz n] w fun e w'=>∃ u:Sl,e=.returned u.v∧IsInts w' u.v (A.ints ⟨#[112,97,100,115]⟩ [0,0,0,0])∧w.grownBy w' none:=by
 have NK:=jac hn;obtain ⟨op,nam,⟨ia,il,ic⟩,out,⟨ao,al,cap⟩⟩:=n;unfold jaz;simp only;obtain ⟨w0,hw0⟩ : ∃ w0,w0=w.alloc (.cells #[.string op,.string nam,.slice ia il ic,.string out,.slice ao al cap] 25):=⟨_,rfl⟩
 have g0:Hid (w.grownBy w0 none):=by show w.grownBy w0 none;rw [hw0];exact jab _ _
 have hb0:=heap_alloc_new w (.cells #[.string op,.string nam,.slice ia il ic,.string out,.slice ao al cap] 25);rw [← hw0] at hb0;have BX:Hid (∀ wx,w0.grownBy wx none→wx.heap[w.heap.size]?=some (.cells #[.string op,.string nam,.slice ia il ic,.string out,.slice ao al cap] 25 (0,0))):=fun wx hg=>jag hb0 hg;clear hb0 hn;obtain ⟨n0,n1,n2,n3,n4⟩:=jak (n:=⟨op,nam,⟨ia,il,ic⟩,out,⟨ao,al,cap⟩⟩) (BX.out w0 (jad _));obtain ⟨M,mk0,OW⟩:=jiK 4 (by decide);have mk1:∀ W:World,(Instr.makeSlice 30 (.int .i64 4) (.int .i64 4)).run Tryz.prog W=.ok (.slice (some ⟨W.heap.size,0,none⟩) 4 4) (W.alloc (.cells M 2)):=mk0;clear mk0;have C:=jac (fun (wx:World) (B:Nat) (hg:w.grownBy wx none) (hB:IsInts wx (.slice (some ⟨B,0,none⟩) 4 4) [0,0,0,0])=>jbr ⟨op,nam,⟨ia,il,ic⟩,out,⟨ao,al,cap⟩⟩ A ⟨#[112,97,100,115]⟩ ⟨some ⟨B,0,none⟩,4,4⟩ [0,0,0,0] wx (NK.out.more hg) hB);unfold jaz at C;simp only at C;have OI:Hid (∀ W:World,IsInts (W.alloc (.cells M 2)) (.slice (some ⟨W.heap.size,0,none⟩) 4 4) [0,0,0,0]):=fun W=>(OW W 0 (Nat.zero_le _)).ints (by decide) (by decide);clear OW;go_enter Tryz.func167,Tryz.ntmps167;go_wp2_with fail;rw [← hw0];clear hw0;go_region_held3 (fun w'=>w'.cell? ⟨w.heap.size,0,none⟩=some (.string op)∧w'.cell? ⟨w.heap.size,1,none⟩=some (.string nam)∧w'.cell? ⟨w.heap.size,2,none⟩=some (.slice ia il ic)∧w'.cell? ⟨w.heap.size,3,none⟩=some (.string out)∧w'.cell? ⟨w.heap.size,4,none⟩=some (.slice ao al cap)) (go_keep) (first | (go_at_call 112;refine (C.out _ _ (jaf (jaa g0.out (jab _ _))) ((OI.out w0).more (jaf (jad _)))).mono ?_;rintro e w' ⟨u,rfl,hu,hg⟩;have g2:w0.grownBy w' none:=jaa (jaf (jab _ _)) hg;obtain ⟨n0,n1,n2,n3,n4⟩:=jak (n:=⟨op,nam,⟨ia,il,ic⟩,out,⟨ao,al,cap⟩⟩) (BX.out w' (g2))) | fail);go_wp2;go_ret;exact ⟨u,rfl,hu,jaa g0.out g2⟩
theorem jgP {l:List Int} {k:Nat} {least z:Int} (hk:k<l.length) (hz:z=l.getD k 0) (h:¬ (least≤z∧z≤100)):l.all (fun x=>decide (least≤x∧x≤100))=false:=by
 rw [List.all_eq_false];refine ⟨z,?_,by simpa using h⟩;rw [hz];simp [List.getD,hk]
theorem jjT {l:List Int} {least:Int} (h:∀ t,t<l.length→least≤l.getD t 0∧l.getD t 0≤100):l.all (fun x=>decide (least≤x∧x≤100))=true:=by
 rw [List.all_eq_true];intro z hz;obtain ⟨t,ht,rfl⟩:=List.mem_iff_getElem.1 hz;have:=h t ht;simpa [List.getD,ht] using this
theorem jdV {l zs:List Int} {many:Nat} {least:Int} (h:jaY l many least=.ok zs):zs=l∧zs.length=many∧∀ z∈zs,least≤z∧z≤100:=by
 unfold jaY jal at h
 by_cases h1:l.length=many
 ·by_cases h2:l.all (fun x=>decide (least≤x∧x≤100))=true
  ·rw [if_pos (by simpa using h1),if_pos h2] at h;have e:l=zs:=by simpa [bind,Except.bind,pure,Except.pure] using h
   subst e;exact ⟨rfl,h1,fun z hz=>by simpa using List.all_eq_true.1 h2 z hz⟩
  ·rw [if_pos (by simpa using h1),if_neg h2] at h;simp [bind,Except.bind] at h
 ·rw [if_neg (by simpa using h1)] at h;simp [bind,Except.bind] at h
theorem jdW (u:Sl) (l:List Int) (many:Nat) (least:Int) (w:World) (hv:IsInts w u.v l) (_hm:many≤1000):Calls Tryz.prog 155 #[.slice u.a u.n u.c,.int .i64 many,.int .i64 least] w (jaJ w (jaY l many least) fun zs v w'=>v=u.v∧zs=l∧w=w'):=by
 obtain ⟨a,c,e,c1,c2,c3⟩:=hv.sl;obtain ⟨ua,un,uc⟩:=u;simp only [Sl.v,Value.slice.injEq] at e;obtain ⟨rfl,rfl,rfl⟩:=e;have HV:=jac hv;clear hv
 by_cases hl:l.length=many
 ·have b0:((l.length:Int)==(many:Int))=true:=by simp [hl]
  have E:Hid (jaY l many least=(do jal (l.all (fun x=>decide (least≤x∧x≤100)));return l)):=by show jaY l many least=_;unfold jaY jal;simp [hl];rfl
  clear hl;go_enter Tryz.func155,Tryz.ntmps155;go_wp2_with (go_at_call 71;refine (jaq _).mono ?_;rintro e w' ⟨rfl,rfl⟩);go_loopw [16] (fun i wr=>w=wr∧∃ k:Nat,k≤l.length∧i=.int .i64 k∧∀ t,t<k→least≤l.getD t 0∧l.getD t 0≤100) (fun i _=>l.length - (intOf i).toNat)
  case atStart=>exact ⟨rfl,0,Nat.zero_le _,rfl,fun t h=>absurd h (by omega)⟩
  case round =>
   obtain ⟨hw,k,hk,rfl,hp⟩:=hrel;subst hw;have HP:=jac hp;clear hp b0
   by_cases hkl:k<l.length
   ·obtain ⟨b,off,rfl,hc⟩:=HV.out.get hkl;have hcell:=hc k hkl;obtain ⟨z,hz0⟩ : ∃ z,z=l.getD k 0:=⟨_,rfl⟩
    rw [← hz0] at hcell;have HZ:=jac hz0;clear hc hz0
    by_cases h1:least≤z
    ·by_cases h2:z≤100
     ·go_wp2_with (go_at_call 71;refine (jaq _).mono ?_;rintro e w' ⟨rfl,rfl⟩);go_roundw
      case rel =>
       refine ⟨by trivial,k+1,by omega,by go_num,fun t ht=>?_⟩
       rcases jaK ht with h | rfl
       ·exact HP.out t h
       ·rw [← HZ.out];exact ⟨h1,h2⟩
      case measure=>simp [intOf];omega
     ·have E2:Hid (jaY l many least=.error 4):=by show jaY l many least=_;rw [E.out,jgP hkl HZ.out (fun h=>h2 h.2)];rfl
      go_wp2_with (go_at_call 71;refine (jav _).mono ?_;rintro e w' ⟨rfl,rfl⟩);exact ⟨rfl,jai E2.out (jad _)⟩
    ·have E2:Hid (jaY l many least=.error 4):=by show jaY l many least=_;rw [E.out,jgP hkl HZ.out (fun h=>h1 h.1)];rfl
     go_wp2_with (go_at_call 71;refine (jav _).mono ?_;rintro e w' ⟨rfl,rfl⟩);exact ⟨rfl,jai E2.out (jad _)⟩
   ·have E2:Hid (jaY l many least=.ok l):=by show jaY l many least=_;rw [E.out,jjT (fun t ht=>HP.out t (by omega))];rfl
    go_wp2;go_ret;exact jap E2.out (jad _) ⟨rfl,rfl,rfl⟩
 ·have b0:((l.length:Int)==(many:Int))=false:=by simpa using (fun h=>hl (by omega):¬ (l.length:Int)=many)
  have E:Hid (jaY l many least=.error 4):=by show jaY l many least=_;unfold jaY jal;simp [hl];rfl
  rw [E.out];clear hl E;go_enter Tryz.func155,Tryz.ntmps155;go_wp2_with (go_at_call 71;refine (jav _).mono ?_;rintro e w' ⟨rfl,rfl⟩);exact ⟨rfl,jad _,rfl⟩
theorem jgQ (n:Nod) (A:At) (w:World) (hn:NodeOk w n A):Calls Tryz.prog 156 #[jaz n] w (jaJ w (je1 A) fun zs v w'=>∃ u:Sl,v=u.v∧IsInts w' u.v zs∧zs.length=4∧∀ z∈zs,0≤z∧z≤100):=by
 have NK:=jac hn;obtain ⟨op,nam,⟨ia,il,ic⟩,out,⟨ao,al,cap⟩⟩:=n;unfold jaz;simp only;obtain ⟨w0,hw0⟩ : ∃ w0,w0=w.alloc (.cells #[.string op,.string nam,.slice ia il ic,.string out,.slice ao al cap] 25):=⟨_,rfl⟩
 have g0:Hid (w.grownBy w0 none):=by show w.grownBy w0 none;rw [hw0];exact jab _ _
 have hb0:=heap_alloc_new w (.cells #[.string op,.string nam,.slice ia il ic,.string out,.slice ao al cap] 25);rw [← hw0] at hb0;have BX:Hid (∀ wx,w0.grownBy wx none→wx.heap[w.heap.size]?=some (.cells #[.string op,.string nam,.slice ia il ic,.string out,.slice ao al cap] 25 (0,0))):=fun wx hg=>jag hb0 hg;clear hb0 hn;have C:=jac (jqx ⟨op,nam,⟨ia,il,ic⟩,out,⟨ao,al,cap⟩⟩ A w0 (NK.out.more g0.out));unfold jaz at C;simp only at C;go_enter Tryz.func156,Tryz.ntmps156;go_wp2_with fail;rw [← hw0];clear hw0;refine C.out.mono ?_;rintro e w1 ⟨u,rfl,hu,hg⟩;have W:=jac (jdW u _ 4 0 w1 hu (by decide));have HU:=jac hu;have HG:=jac (jaa g0.out hg);clear hu hg
 cases hr:jaY (A.ints ⟨#[112,97,100,115]⟩ [0,0,0,0]) 4 0 with
 | error c =>
  rw [hr] at W;have E:Hid (je1 A=.error c):=hr;clear hr;go_wp2_with (go_at_call 155;refine W.out.mono ?_;rintro e w' ⟨hg,rfl⟩);exact ⟨rfl,jai E.out (jaa HG.out hg)⟩
 | ok zs =>
  rw [hr] at W;have E:Hid (je1 A=.ok zs):=hr;have B:=jac (jdV hr);clear hr;go_wp2_with (go_at_call 155;refine W.out.mono ?_;rintro e w' ⟨hg,v,rfl,rfl,rfl,rfl⟩);go_ret;exact jap E.out HG.out ⟨u,rfl,HU.out,B.out.2.1,fun z hz=>B.out.2.2 z hz⟩
end Go.Proofs.YteigfipgmghgmaaGreatDoor
namespace Go.Proofs.YteigfipgmghgmaaGreatDoor
open Go.RowKit
theorem jnt (x:Int) : -1073741824≤jbA x∧jbA x≤1073741824:=by
 unfold jbA
 split <;> split at*<;> omega
theorem jbm {w0 : World} {ops : Array Oper} {rest : List Oper} {o : Oper} {a : Act} {Q : Exit → Act → World → Prop} (hgd : o.guard = none) (s x : Operand)
    (ho:o.op=.call { callee:=.builtin .append,args:=#[s,x],argTypes:=#[29,29] })
    (base:Nat) (v:Value) (xs:List Int) (hs:a.eval s=v) (hown:Owns w0 base v xs) (z:Int) (hx:a.eval x=.slice (some ⟨w0.heap.size,0,none⟩) 1 1)
    (hz : -9223372036854775808≤z∧z≤9223372036854775807) (hbytes:(xs.length+1)*8≤140737488351232) (hbase:base≤w0.heap.size)
    (h:∀ v' w',Owns w' base v' (xs++[z])→(∀ r:World,r.heap.size≤base→r.grownBy w0 none→r.grownBy w' none)→wpList Tryz.prog ops Q rest (a.put o.dst v') w'):wpList Tryz.prog ops Q (o::rest) a (w0.alloc (.cells #[.int .i64 z] 3)):=by
     have hi:IsInts (w0.alloc (.cells #[.int .i64 z] 3)) (.slice (some ⟨w0.heap.size,0,none⟩) 1 1) [z]:=jbu w0 [z] 3 (by simp) (fun y hy=>by simp at hy;subst hy;exact hz);refine jdS hgd s x ho base v xs hs (hown.new (jab _ _)) _ [z] hx hi (by simpa using hbytes) (by simp;omega) ?_;intro v' w' ho' hg;refine h v' w' ho' (fun r hr hrg=>jan (jaa hrg (jab _ _)) hg (fun b e=>?_));have:=(hown.lt b e).1;omega
theorem jlU (v:Value) (l:List Int) (w:World) (hv:IsInts w v l):Calls Tryz.prog 113 #[v] w fun e w'=>∃ u:Sl,e=.returned u.v∧IsInts w' u.v (l.map jbA)∧w.grownBy w' none:=by
 obtain ⟨a,c,rfl,c1,c2,c3⟩:=hv.sl;have HV:=jac hv;clear hv;go_enter Tryz.func113,Tryz.ntmps113;go_wp2;go_loopw [3,8] (fun s i wr=>∃ (k:Nat) (u:Sl),k≤l.length∧i=.int .i64 k∧s=.slice u.a u.n u.c∧Owns wr w.heap.size u.v ((l.take k).map jbA)∧w.grownBy wr none) (fun _ i _=>l.length - (intOf i).toNat)
 case atStart=>exact ⟨0,⟨none,0,0⟩,Nat.zero_le _,rfl,rfl,jbp _ _,jad _⟩
 case round =>
  obtain ⟨k,⟨ua,un,uc⟩,hk,rfl,rfl,ho,hg⟩:=hrel;simp only;have HO:=jac ho;have HG:=jac hg;have hsz:=hg.size
  by_cases hkl:k<l.length
  ·obtain ⟨b,off,rfl,hc⟩:=HV.out.get hkl;have hcell:wr.cell? ⟨b,off+k,none⟩=some (.int .i64 (l.getD k 0)):=jae (hc k hkl) hg;have E:Hid ((l.take (k+1)).map jbA=(l.take k).map jbA++[jbA (l.getD k 0)]):=by show _=_;rw [jcE l k hkl,List.map_append];rfl
   obtain ⟨z,hz0⟩ : ∃ z,z=l.getD k 0:=⟨_,rfl⟩
   rw [← hz0] at hcell E;clear hc hz0 ho hg;have WH:=jac (whole_any z wr);have hb:=jnt z;obtain ⟨y,hy⟩ : ∃ y,y=jbA z:=⟨_,rfl⟩
   rw [← hy] at WH hb E;clear hy;go_wp2_with (first | (go_at_call 103;refine WH.out.mono ?_;rintro e w' ⟨rfl,rfl⟩) | (at_builtin;refine jbm rfl (.tmp 12) (.tmp 15) rfl w.heap.size _ _ rfl HO.out y rfl (by omega) (by simp;omega) (by omega) ?_;intro v' w1 hown hgrow));obtain ⟨⟨xa,xn,xc⟩,rfl⟩:=hown.sl;have HO1:=jac hown;have HG1:=jac (hgrow w (Nat.le_refl _) HG.out);clear hown hgrow;go_roundw
   case rel=>exact ⟨k+1,⟨xa,xn,xc⟩,by omega,by go_num,rfl,by rw [E.out];exact HO1.out,HG1.out⟩
   case measure=>simp [intOf];omega
  ·have E:Hid ((l.take k).map jbA=l.map jbA):=by show _=_;rw [List.take_of_length_le (by omega)]
   rw [E.out] at HO;clear ho hg;go_wp2;go_ret;exact ⟨⟨ua,un,uc⟩,rfl,HO.out.ints,HG.out⟩
structure RevK (zs:List Int) (k:Nat) (L:List Int):Prop where
 len:L.length=zs.length
 at':∀ t,t<zs.length→L.getD t 0=if t<k∨zs.length≤t+k then zs.getD (zs.length - 1 - t) 0 else zs.getD t 0
theorem RevK.start (zs:List Int):RevK zs 0 zs:=⟨rfl,fun t ht=>by rw [if_neg (by omega)]⟩
theorem RevK.done {zs L:List Int} {k:Nat} (h:RevK zs k L) (hk:zs.length≤2*k+1):L=zs.reverse:=by
 refine List.ext_getElem (by rw [h.len,List.length_reverse]) fun t h1 h2=>?_;have ht:t<zs.length:=by rw [← h.len];exact h1
 have:=h.at' t ht;rw [List.getElem_reverse];have e1:L.getD t 0=L[t]:=by simp [List.getD,h1]
 rw [← e1,this]
 split
 ·simp [List.getD,show zs.length - 1 - t<zs.length by omega]
 ·have e2:zs.length - 1 - t=t:=by omega
  simp [List.getD,e2,ht]
theorem RevK.step {zs L:List Int} {k:Nat} (h:RevK zs k L) (hk:2*k+1<zs.length):RevK zs (k+1) ((L.set k (L.getD (zs.length - 1 - k) 0)).set (zs.length - 1 - k) (L.getD k 0)):=by
 refine ⟨by rw [List.length_set,List.length_set,h.len],fun t ht=>?_⟩;have hL:=h.len;have h1:=h.at' t ht;have h2:=h.at' k (by omega);have h3:=h.at' (zs.length - 1 - k) (by omega);rw [if_neg (by omega)] at h2 h3
 by_cases e1:t=zs.length - 1 - k
 ·subst e1;rw [if_pos (by omega)]
  have:((L.set k (L.getD (zs.length - 1 - k) 0)).set (zs.length - 1 - k) (L.getD k 0)).getD (zs.length - 1 - k) 0=L.getD k 0:=by
   rw [List.getD,List.getElem?_set_self (by rw [List.length_set];omega)];rfl
  rw [this,h2]
  congr 1
  omega
 ·by_cases e2:t=k
  ·subst e2;rw [if_pos (by omega)]
   have:((L.set t (L.getD (zs.length - 1 - t) 0)).set (zs.length - 1 - t) (L.getD t 0)).getD t 0=L.getD (zs.length - 1 - t) 0:=by
    rw [List.getD,List.getElem?_set_ne (by omega),List.getElem?_set_self (by omega)];rfl
   rw [this,h3]
  ·have : ((L.set k (L.getD (zs.length - 1 - k) 0)).set (zs.length - 1 - k) (L.getD k 0)).getD t 0 = L.getD t 0 := by
     rw [List.getD,List.getElem?_set_ne (by omega),List.getElem?_set_ne (by omega)];rfl
   rw [this,h1]
   by_cases e3:t<k∨zs.length≤t+k
   ·rw [if_pos e3,if_pos (by omega)]
   ·rw [if_neg e3,if_neg (by omega)]
theorem jjU (zs:List Int) (base B:Nat) (w:World) (h:jgk 2 w base B zs) (hl:zs.length≤1000000):Calls Tryz.prog 164 #[.slice (some ⟨B,0,none⟩) zs.length zs.length] w fun e w'=>e=.returned (.tuple #[])∧jgk 2 w' base B zs.reverse∧w.grownBy w' (some B):=by
 have H0:=jac h;clear h;go_enter Tryz.func164,Tryz.ntmps164;go_wp2;go_loopw [2,3] (fun i j wr=>∃ (k:Nat) (L:List Int),k≤zs.length∧i=.int .i64 k∧j=.int .i64 ((zs.length:Int) - 1 - k)∧RevK zs k L∧jgk 2 wr base B L∧w.grownBy wr (some B)) (fun i _ _=>zs.length - (intOf i).toNat)
 case atStart=>exact ⟨0,zs,Nat.zero_le _,rfl,by simp,RevK.start zs,H0.out,World.grownBy.refl _ _⟩
 case round =>
  obtain ⟨k,L,hk,rfl,rfl,hr,ho,hg⟩:=hrel;have HR:=jac hr;have HO:=jac ho;have HG:=jac hg;clear hr ho hg
  by_cases hkl:(k:Int)<(zs.length:Int) - 1 - k
  ·obtain ⟨j,hj⟩ : ∃ j:Nat,j=zs.length - 1 - k:=⟨_,rfl⟩
   have ej:(zs.length:Int) - 1 - k=(j:Int):=by omega
   rw [ej] at hkl ⊢;have hjl:j<zs.length:=by omega
   have hne:k≠j:=by omega
   have st:=HR.out.step (by omega);rw [← hj] at st;have hL:=HR.out.len;obtain ⟨c1,f1⟩:=HO.out.at (k:=k) (by omega);obtain ⟨c2,f2⟩:=HO.out.at (k:=j) (by omega);obtain ⟨x,hx⟩ : ∃ x,x=L.getD k 0:=⟨_,rfl⟩
   obtain ⟨y,hy⟩ : ∃ y,y=L.getD j 0:=⟨_,rfl⟩
   rw [← hx] at c1 st;rw [← hy] at c2 st;obtain ⟨s1,t1⟩:=HO.out.set k y;obtain ⟨s2,t2⟩:=s1.set j x;have ST:=jac st;have S2:=jac s2;have T2:=jac (jbN HG.out (jbN t1 t2));have hej:Hid (j=zs.length - 1 - k):=hj;clear hx hy st s1 s2 t1 t2 hj hL;have hne2:=hne.symm;go_wp2;go_region;go_wp2;go_roundw
   case rel=>exact ⟨k+1,_,by omega,by go_num,by have:=hej.out;congr 1;omega,ST.out,S2.out.new (jaf (jad _)),⟨T2.out.os,T2.out.tape,T2.out.output,T2.out.size,T2.out.block⟩⟩
   case measure=>simp [intOf];omega
  ·have E:L=zs.reverse:=HR.out.done (by omega);rw [E] at HO;go_wp2
   go_end0
   exact ⟨rfl,HO.out,HG.out⟩
theorem jaG {a b c:World} {B:Nat} (h:a.grownBy b none) (k:b.grownBy c (some B)) (hb:a.heap.size≤B):a.grownBy c none:=jan h k (fun r e=>by cases e;exact hb)
theorem jqy (n:Nod) (A:At) (jaL:Nat) (w:World) (hn:NodeOk w n A) (hr:jaL≤1000000):Calls Tryz.prog 148 #[jaz n,.int .i64 jaL] w fun e w'=>∃ u:Sl,e=.returned u.v∧IsInts w' u.v (jnq A jaL)∧w.grownBy w' none:=by
 have NK:=jac hn;obtain ⟨op,nam,⟨ia,il,ic⟩,out,⟨ao,al,cap⟩⟩:=n;unfold jaz;simp only;obtain ⟨w0,hw0⟩ : ∃ w0,w0=w.alloc (.cells #[.string op,.string nam,.slice ia il ic,.string out,.slice ao al cap] 25):=⟨_,rfl⟩
 have g0:Hid (w.grownBy w0 none):=by show w.grownBy w0 none;rw [hw0];exact jab _ _
 have hb0:=heap_alloc_new w (.cells #[.string op,.string nam,.slice ia il ic,.string out,.slice ao al cap] 25);rw [← hw0] at hb0;have BX:Hid (∀ wx,w0.grownBy wx none→wx.heap[w.heap.size]?=some (.cells #[.string op,.string nam,.slice ia il ic,.string out,.slice ao al cap] 25 (0,0))):=fun wx hg=>jag hb0 hg;clear hb0 hn;have U:=jac (jhE jaL w0 (by omega));have RV:=jac (fun (wx:World) (h:jgk 2 wx w0.heap.size w0.heap.size (jdb jaL))=>jjU (jdb jaL) w0.heap.size w0.heap.size wx h (by rw [jbD];omega));rw [jbD] at RV;have C:=jac (fun (wx:World) (B:Nat) (hg:w.grownBy wx none) (hB:IsInts wx (.slice (some ⟨B,0,none⟩) jaL jaL) (jdb jaL).reverse)=>jbr ⟨op,nam,⟨ia,il,ic⟩,out,⟨ao,al,cap⟩⟩ A ⟨#[112,101,114,109]⟩ ⟨some ⟨B,0,none⟩,jaL,jaL⟩ _ wx (NK.out.more hg) hB);unfold jaz at C;simp only at C;have HS:Hid (w0.heap.size=w.heap.size+1):=by show _=_;rw [hw0];simp
 go_enter Tryz.func148,Tryz.ntmps148;go_wp2_with fail;rw [← hw0];clear hw0;refine U.out.mono ?_;rintro e w1 ⟨rfl,ho1,hg1⟩;have HG1:=jac hg1;have R1:=jac (RV.out w1 ho1);clear hg1 ho1 U RV;go_wp2_with fail;refine R1.out.mono ?_;rintro e w2 ⟨rfl,ho2,hg2⟩;have HG2:=jac (jaG HG1.out hg2 (Nat.le_refl _))
 have HI:Hid (IsInts w2 (.slice (some ⟨w0.heap.size,0,none⟩) jaL jaL) (jdb jaL).reverse):=by
  have h:=ho2.ints (by rw [List.length_reverse,jbD];omega) (fun z hz=>by have:=jfK (List.mem_reverse.1 hz);omega);rw [List.length_reverse,jbD] at h;exact h
 obtain ⟨n0,n1,n2,n3,n4⟩:=jak (n:=⟨op,nam,⟨ia,il,ic⟩,out,⟨ao,al,cap⟩⟩) (BX.out w2 (HG2.out));clear ho2 hg2 R1 HG1;go_wp2_with fail;refine (C.out w2 _ (jaa g0.out HG2.out) HI.out).mono ?_;rintro e w3 ⟨u,rfl,hu,hg3⟩;go_wp2;go_ret;exact ⟨u,rfl,hu,jaa (jaa g0.out HG2.out) hg3⟩
theorem jdB (n:Nod) (A:At) (jaL:Nat) (w:World) (hn:NodeOk w n A) (hr:jaL≤1000000):Calls Tryz.prog 109 #[jaz n,.int .i64 jaL] w fun e w'=>∃ u:Sl,e=.returned u.v∧IsInts w' u.v (jca A jaL)∧w.grownBy w' none:=by
 have HOP:=jac hn.op;have RG:=jac (fun nm z hz=>hn.int nm z hz);have NK:=jac hn;obtain ⟨op,nam,⟨ia,il,ic⟩,out,⟨ao,al,cap⟩⟩:=n;unfold jaz;simp only;obtain ⟨w0,hw0⟩ : ∃ w0,w0=w.alloc (.cells #[.string op,.string nam,.slice ia il ic,.string out,.slice ao al cap] 25):=⟨_,rfl⟩
 have g0:Hid (w.grownBy w0 none):=by show w.grownBy w0 none;rw [hw0];exact jab _ _
 have hb0:=heap_alloc_new w (.cells #[.string op,.string nam,.slice ia il ic,.string out,.slice ao al cap] 25);rw [← hw0] at hb0;have BX:Hid (∀ wx,w0.grownBy wx none→wx.heap[w.heap.size]?=some (.cells #[.string op,.string nam,.slice ia il ic,.string out,.slice ao al cap] 25 (0,0))):=fun wx hg=>jag hb0 hg;clear hb0 hn;simp only at HOP;have U:=jac (fun (wx:World)=>jhE jaL wx (by omega));have C:=jac (fun (wx:World) (B:Nat) (hg:w.grownBy wx none) (hB:IsInts wx (.slice (some ⟨B,0,none⟩) jaL jaL) (jdb jaL))=>jbr ⟨op,nam,⟨ia,il,ic⟩,out,⟨ao,al,cap⟩⟩ A ⟨#[97,120,101,115]⟩ ⟨some ⟨B,0,none⟩,jaL,jaL⟩ _ wx (NK.out.more hg) hB);have I0:=jac (jb2 ⟨op,nam,⟨ia,il,ic⟩,out,⟨ao,al,cap⟩⟩ A ⟨#[97,120,105,115]⟩ 0 w0 (NK.out.more g0.out));have I1:=jac (jb2 ⟨op,nam,⟨ia,il,ic⟩,out,⟨ao,al,cap⟩⟩ A ⟨#[97,120,105,115]⟩ (-1) w0 (NK.out.more g0.out));unfold jaz at C I0 I1;simp only at C I0 I1;have HS:Hid (w0.heap.size=w.heap.size+1):=by show _=_;rw [hw0];simp
 cases h1:(op.toList==[65,114,103,77,97,120]) with
 | true =>
  have E:Hid (jca A jaL=[A.int ⟨#[97,120,105,115]⟩ 0]):=by show jca A jaL=_;unfold jca;rw [HOP.out,if_pos (by simpa using h1)]
  have hb:=RG.out ⟨#[97,120,105,115]⟩ 0 (by omega);obtain ⟨z,hz⟩ : ∃ z,z=A.int ⟨#[97,120,105,115]⟩ 0:=⟨_,rfl⟩
  rw [← hz] at I0 E hb;clear hz;go_enter Tryz.func109,Tryz.ntmps109;go_wp2_with fail;rw [← hw0];clear hw0;refine I0.out.mono ?_;rintro e w1 ⟨rfl,hg1⟩;have HG:=jac (jaa g0.out hg1);clear hg1;go_wp2;go_ret;exact ⟨⟨some ⟨w1.heap.size,0,none⟩,1,1⟩,rfl,by rw [E.out];exact jbu w1 [z] 2 (by simp) (fun y hy=>by simp at hy;subst hy;exact hb),jaa HG.out (jab _ _)⟩
 | false =>
  cases h2:(op.toList==[83,111,102,116,109,97,120]) with
  | true =>
   have E:Hid (jca A jaL=[A.int ⟨#[97,120,105,115]⟩ (-1)]):=by show jca A jaL=_;unfold jca;rw [HOP.out,if_neg (by simpa using h1),if_pos (by simpa using h2)]
   have hb:=RG.out ⟨#[97,120,105,115]⟩ (-1) (by omega);obtain ⟨z,hz⟩ : ∃ z,z=A.int ⟨#[97,120,105,115]⟩ (-1):=⟨_,rfl⟩
   rw [← hz] at I1 E hb;clear hz;go_enter Tryz.func109,Tryz.ntmps109;go_wp2_with fail;rw [← hw0];clear hw0;refine I1.out.mono ?_;rintro e w1 ⟨rfl,hg1⟩;have HG:=jac (jaa g0.out hg1);clear hg1;go_wp2;go_ret;exact ⟨⟨some ⟨w1.heap.size,0,none⟩,1,1⟩,rfl,by rw [E.out];exact jbu w1 [z] 2 (by simp) (fun y hy=>by simp at hy;subst hy;exact hb),jaa HG.out (jab _ _)⟩
  | false =>
   have E:Hid (jca A jaL=A.ints ⟨#[97,120,101,115]⟩ (jdb jaL)):=by show jca A jaL=_;unfold jca;rw [HOP.out,if_neg (by simpa using h1),if_neg (by simpa using h2)]
   obtain ⟨n0,n1,n2,n3,n4⟩:=jak (n:=⟨op,nam,⟨ia,il,ic⟩,out,⟨ao,al,cap⟩⟩) (BX.out w0 (jad _));go_enter Tryz.func109,Tryz.ntmps109;go_wp2_with fail;rw [← hw0];clear hw0;go_region_held3 (fun w'=>w'.cell? ⟨w.heap.size,0,none⟩=some (.string op)∧w'.cell? ⟨w.heap.size,1,none⟩=some (.string nam)∧w'.cell? ⟨w.heap.size,2,none⟩=some (.slice ia il ic)∧w'.cell? ⟨w.heap.size,3,none⟩=some (.string out)∧w'.cell? ⟨w.heap.size,4,none⟩=some (.slice ao al cap)) (go_keep) (first | (go_at_call 145;refine (U.out _).mono ?_;rintro e w1 ⟨rfl,ho1,hg1⟩;have g1:w0.grownBy w1 none:=jaa (jaf (jad _)) hg1;obtain ⟨n0,n1,n2,n3,n4⟩:=jak (n:=⟨op,nam,⟨ia,il,ic⟩,out,⟨ao,al,cap⟩⟩) (BX.out w1 (g1))) | (go_at_call 112;refine (C.out _ _ (jaa g0.out g1) (by have h:=ho1.ints (by rw [jbD];omega) (fun z hz=>by have:=jfK hz;omega);rw [jbD] at h;exact h)).mono ?_;rintro e w2 ⟨u,rfl,hu,hg2⟩;have g2:w0.grownBy w2 none:=jaa g1 hg2;obtain ⟨n0,n1,n2,n3,n4⟩:=jak (n:=⟨op,nam,⟨ia,il,ic⟩,out,⟨ao,al,cap⟩⟩) (BX.out w2 (g2))) | fail);go_wp2;go_ret;exact ⟨u,rfl,by rw [E.out];exact hu,jaa g0.out g2⟩
end Go.Proofs.YteigfipgmghgmaaGreatDoor
namespace Go.Proofs.YteigfipgmghgmaaGreatDoor
open Go.RowKit
def jbd (zs:List Int) (v:Value) (w':World):Prop:=∃ s:Sl,v=s.v∧IsInts w' s.v zs
theorem jcC (u:Sl) (l:List Int) (jaL:Nat) (w:World) (hv:IsInts w u.v l) (hr:jaL≤100000000000000):Calls Tryz.prog 108 #[.slice u.a u.n u.c,.int .i64 jaL] w (jaJ w (jb7 l jaL) fun is v w'=>∃ B,v=.slice (some ⟨B,0,none⟩) jaL jaL∧jd8 w' w.heap.size B is∧is.length=jaL):=by
 have F:=jac (jqw u.v l jaL w hv hr);unfold jb7
 cases hx:jeq jaL l (List.replicate jaL false) with
 | none =>
  rw [hx] at F;clear hx hv;go_enter Tryz.func108,Tryz.ntmps108;go_wp2_with (first | (go_at_call 144;refine F.out.mono ?_;rintro e w' ⟨hg,rfl⟩) | (go_at_call 71;refine (jav _).mono ?_;rintro e w' ⟨rfl,rfl⟩));exact ⟨rfl,hg,rfl⟩
 | some is =>
  rw [hx] at F;clear hx hv;go_enter Tryz.func108,Tryz.ntmps108;go_wp2_with (first | (go_at_call 144;refine F.out.mono ?_;rintro e w' ⟨hg,B,rfl,ho,hl⟩) | (go_at_call 71;refine (jaq _).mono ?_;rintro e w' ⟨rfl,rfl⟩));go_ret;exact ⟨hg,_,rfl,B,rfl,ho,hl⟩
theorem jgR (keep:Bool) (d:Int) (g:Bool):∀ (a:List Int) (gs:List Bool),a.length=gs.length→jds keep (a++[d]) (gs++[g])=jds keep a gs++(if g=false then [d] else if keep=true then [1] else [])
 | [],[],_=>by cases g <;> cases keep <;> simp [jds]
 | [],_::_,h=>by simp at h
 | _::_,[],h=>by simp at h
 | x::a,y::gs,h=>by
  have ih:=jgR keep d g a gs (by simpa using h);simp only [List.cons_append,jds,ih]
  split <;> (try split) <;> simp_all
theorem jiM (keep:Bool):∀ (a:List Int) (gs:List Bool),(jds keep a gs).length≤a.length
 | [],_=>by simp [jds]
 | _::_,[]=>by simp [jds]
 | x::a,y::gs=>by
  have ih:=jiM keep a gs;simp only [jds]
  split
  ·simp;omega
  ·split
   ·simp;omega
   ·simp;omega
theorem jlV (zs:List Bool) (k:Nat) (hk:k<zs.length):zs.take (k+1)=zs.take k++[zs.getD k false]:=by
 rw [List.take_add_one];simp [List.getD,hk]
theorem jjV (n:Nod) (A:At) (u:Sl) (x:List Int) (w:World) (hn:NodeOk w n A) (hx:IsInts w u.v x) (hf:Fine x):Calls Tryz.prog 110 #[jaz n,.slice u.a u.n u.c] w (jaJ w (jcl A x) jbd):=by
 obtain ⟨ux,uc,eu,c1,c2,c3⟩:=hx.sl;obtain ⟨ua,un,uu⟩:=u;simp only [Sl.v,Value.slice.injEq] at eu;obtain ⟨rfl,rfl,rfl⟩:=eu;have HX:=jac hx;have FEW:=hf.few;have POS:=jac hf;clear hx hf;have RG:=hn.int ⟨#[107,101,101,112,100,105,109,115]⟩ 1 (by omega);have NK:=jac hn;obtain ⟨op,nam,⟨ia,il,ic⟩,out,⟨ao,al,cap⟩⟩:=n;unfold jaz;simp only;obtain ⟨w0,hw0⟩ : ∃ w0,w0=w.alloc (.cells #[.string op,.string nam,.slice ia il ic,.string out,.slice ao al cap] 25):=⟨_,rfl⟩
 have g0:Hid (w.grownBy w0 none):=by show w.grownBy w0 none;rw [hw0];exact jab _ _
 have hb0:=heap_alloc_new w (.cells #[.string op,.string nam,.slice ia il ic,.string out,.slice ao al cap] 25);rw [← hw0] at hb0;have BX:Hid (∀ wx,w0.grownBy wx none→wx.heap[w.heap.size]?=some (.cells #[.string op,.string nam,.slice ia il ic,.string out,.slice ao al cap] 25 (0,0))):=fun wx hg=>jag hb0 hg;clear hb0 hn;have I0:=jac (jb2 ⟨op,nam,⟨ia,il,ic⟩,out,⟨ao,al,cap⟩⟩ A ⟨#[107,101,101,112,100,105,109,115]⟩ 1 w0 (NK.out.more g0.out));have AL:=jac (fun (wx:World) (hg:w.grownBy wx none)=>jdB ⟨op,nam,⟨ia,il,ic⟩,out,⟨ao,al,cap⟩⟩ A x.length wx (NK.out.more hg) (by omega));unfold jaz at I0 AL;simp only at I0 AL;obtain ⟨z,hz⟩ : ∃ z,z=A.int ⟨#[107,101,101,112,100,105,109,115]⟩ 1:=⟨_,rfl⟩
 rw [← hz] at I0 RG;go_enter Tryz.func110,Tryz.ntmps110;go_wp2_with fail;rw [← hw0];clear hw0;refine I0.out.mono ?_;rintro e w1 ⟨rfl,hg1⟩;have G1:=jac hg1;clear hg1 I0;have ON:=jac (jk8 z w1)
 cases hk:jgx z with
 | error c =>
  rw [hk] at ON;have E:Hid (jcl A x=.error c):=by show _=_;unfold jcl;rw [← hz,hk];rfl
  clear hk hz;go_wp2_with (go_at_call 146;refine ON.out.mono ?_;rintro e w' ⟨hg,rfl⟩);exact ⟨rfl,jai E.out (jaa (jaa g0.out G1.out) hg)⟩
 | ok keep =>
  rw [hk] at ON;have E:Hid (jcl A x=(jb7 (jca A x.length) x.length).bind (fun gone=>.ok (jds keep x gone))):=by show _=_;unfold jcl;rw [← hz,hk];rfl
  clear hk hz;obtain ⟨n0,n1,n2,n3,n4⟩:=jak (n:=⟨op,nam,⟨ia,il,ic⟩,out,⟨ao,al,cap⟩⟩) (BX.out w1 (G1.out));go_wp2_with (first | (go_at_call 146;refine ON.out.mono ?_;rintro e w' ⟨hg,v,rfl,rfl,rfl⟩;clear hg) | fail);refine (AL.out w1 (jaa g0.out G1.out)).mono ?_;rintro e w2 ⟨s,rfl,hs,hg2⟩;have AX:=jac (jcC s _ x.length w2 hs (by omega));have G2:=jac (jaa (jaa g0.out G1.out) hg2);clear hs hg2 AL
  cases hk:jb7 (jca A x.length) x.length with
  | error c =>
   rw [hk] at AX;have E2:Hid (jcl A x=.error c):=by show _=_;rw [E.out,hk];rfl
   clear hk;go_wp2_with (go_at_call 108;refine AX.out.mono ?_;rintro e w' ⟨hg,rfl⟩);exact ⟨rfl,jai E2.out (jaa G2.out hg)⟩
  | ok gone =>
   rw [hk] at AX;have E2:Hid (jcl A x=.ok (jds keep x gone)):=by show _=_;rw [E.out,hk];rfl
   clear hk;go_wp2_with (go_at_call 108;refine AX.out.mono ?_;rintro e w3 ⟨hg3,v,rfl,B,rfl,ho,hl⟩);have G3:=jac (jaa G2.out hg3);have HO:=jac ho;have HL:=jac hl;clear hg3 ho hl n0 n1 n2 n3 n4;go_loopw [7,22] (fun s i wr=>∃ (k:Nat) (u:Sl),k≤x.length∧i=.int .i64 k∧s=.slice u.a u.n u.c∧Owns wr w3.heap.size u.v (jds keep (x.take k) (gone.take k))∧w3.grownBy wr none) (fun _ i _=>x.length - (intOf i).toNat)
   case atStart=>exact ⟨0,⟨none,0,0⟩,Nat.zero_le _,rfl,rfl,by simp [jds];exact jbp _ _,jad _⟩
   case round =>
    obtain ⟨k,⟨sa,sn,sc⟩,hk,rfl,rfl,ho,hg⟩:=hrel;simp only;have HO1:=jac ho;have HG:=jac hg;have hsz:=hg.size
    by_cases hkl:k<x.length
    ·obtain ⟨b,off,rfl,hc⟩:=HX.out.get hkl;have hcell:wr.cell? ⟨b,off+k,none⟩=some (.int .i64 (x.getD k 0)):=jae (hc k hkl) (jaa G3.out hg);have hwf:=HX.out.wf (x.getD k 0) (by simp [List.getD,hkl]);have hgk:k<gone.length:=by rw [HL.out];exact hkl
     obtain ⟨cb,fb⟩:=(HO.out.new hg).at (k:=k) (v:=gone.getD k false) (by simp [List.getD,hgk]);have ST:=jgR keep (x.getD k 0) (gone.getD k false) (x.take k) (gone.take k) (by simp;omega);rw [← jcE x k hkl,← jlV gone k hgk] at ST;have hln:=jiM keep (x.take k) (gone.take k);rw [List.length_take] at hln;obtain ⟨d,hd0⟩ : ∃ d,d=x.getD k 0:=⟨_,rfl⟩
     obtain ⟨gb,hgb⟩ : ∃ gb,gb=gone.getD k false:=⟨_,rfl⟩
     rw [← hd0] at hcell ST hwf;rw [← hgb] at cb ST;clear hc hd0 hgb ho hg
     cases gb with
     | false =>
      rw [if_pos rfl] at ST;have HST:=jac ST;clear ST;go_wp2_with (at_builtin;refine jbm rfl (.tmp 33) (.tmp 35) rfl w3.heap.size _ _ rfl HO1.out d rfl hwf (by omega) (by omega) ?_;intro v' w4 hown hgrow);obtain ⟨⟨xa,xn,xc⟩,rfl⟩:=hown.sl;have HO2:=jac hown;have HG2:=jac (hgrow w3 (Nat.le_refl _) HG.out);clear hown hgrow;go_roundw
      case rel=>exact ⟨k+1,⟨xa,xn,xc⟩,by omega,by go_num,rfl,by rw [HST.out];exact HO2.out,HG2.out⟩
      case measure=>simp [intOf];omega
     | true =>
      rw [if_neg (by decide)] at ST
      cases keep with
      | true =>
       rw [if_pos rfl] at ST;have HST:=jac ST;clear ST;go_wp2_with (at_builtin;refine jbm rfl (.tmp 39) (.tmp 40) rfl w3.heap.size _ _ rfl HO1.out 1 rfl (by omega) (by omega) (by omega) ?_;intro v' w4 hown hgrow);obtain ⟨⟨xa,xn,xc⟩,rfl⟩:=hown.sl;have HO2:=jac hown;have HG2:=jac (hgrow w3 (Nat.le_refl _) HG.out);clear hown hgrow;go_roundw
       case rel=>exact ⟨k+1,⟨xa,xn,xc⟩,by omega,by go_num,rfl,by rw [HST.out];exact HO2.out,HG2.out⟩
       case measure=>simp [intOf];omega
      | false =>
       rw [if_neg (by decide),List.append_nil] at ST;have HST:=jac ST;clear ST;go_wp2;go_roundw
       case rel=>exact ⟨k+1,⟨sa,sn,sc⟩,by omega,by go_num,rfl,by rw [HST.out];exact HO1.out,HG.out⟩
       case measure=>simp [intOf];omega
    ·have E3:jds keep (x.take k) (gone.take k)=jds keep x gone:=by rw [List.take_of_length_le (by omega),List.take_of_length_le (by rw [HL.out];omega)]
     rw [E3] at HO1;clear ho hg;go_wp2;go_ret;exact jap E2.out (jaa G3.out HG.out) ⟨⟨sa,sn,sc⟩,rfl,HO1.out.ints⟩
end Go.Proofs.YteigfipgmghgmaaGreatDoor
namespace Go.Proofs.YteigfipgmghgmaaGreatDoor
open Go.RowKit
theorem jiN {jaL:Nat} : ∀ {l:List Int} {is r:List Bool},jeq jaL l is=some r→∀ a∈l,∃ i,jcs a jaL=some i
 | [],_,_,_,a,ha=>by simp at ha
 | b::l,is,r,h,a,ha=>by
  unfold jeq at h
  cases hb:jcs b jaL with
  | none=>rw [hb] at h;cases h
  | some i =>
   rw [hb] at h;simp only at h
   split at h
   ·cases h
   ·rcases List.mem_cons.1 ha with rfl | ha
    ·exact ⟨i,hb⟩
    ·exact jiN h a ha
theorem jiO {l:List Int} {jaL:Nat} {is:List Bool} (h:jb7 l jaL=.ok is):∀ a∈l,∃ i,jcs a jaL=some i:=by
 unfold jb7 at h
 cases hx:jeq jaL l (List.replicate jaL false) with
 | none=>rw [hx] at h;cases h
 | some r=>exact jiN hx
theorem jnu {a:Int} {jaL i:Nat} (h:jcs a jaL=some i) (ha:0≤a):a.toNat<jaL:=by
 have e:jaT a jaL=a:=by unfold jaT;rw [if_neg (by omega)]
 unfold jcs at h;rw [e] at h
 split at h
 ·cases h
 ·split at h
  ·cases h
  ·omega
def after (acc:List Int) (r:R (List Int)):R (List Int):=match r with
 | .ok l=>.ok (acc++l)
 | .error c=>.error c
theorem jlW {x l:List Int} {k:Nat} (hk:k<l.length) (acc:List Int):after acc (jer x (l.drop k))=if 0≤l.getD k 0 then after (acc++[x.getD (l.getD k 0).toNat 0]) (jer x (l.drop (k+1))) else .error 4:=by
 rw [jba l k hk];simp only [jer]
 split
 ·cases jer x (l.drop (k+1)) <;> simp [Except.map,after]
 ·rfl
theorem jgy (n:Nod) (A:At) (u:Sl) (x:List Int) (w:World) (hn:NodeOk w n A) (hx:IsInts w u.v x) (hf:Fine x):Calls Tryz.prog 114 #[jaz n,.slice u.a u.n u.c] w (jaJ w (jbc A x) jbd):=by
 obtain ⟨ux,uc,eu,c1,c2,c3⟩:=hx.sl;obtain ⟨ua,un,uu⟩:=u;simp only [Sl.v,Value.slice.injEq] at eu;obtain ⟨rfl,rfl,rfl⟩:=eu;have HX:=jac hx;have FEW:=hf.few;clear hx hf;have NK:=jac hn;obtain ⟨op,nam,⟨ia,il,ic⟩,out,⟨ao,al,cap⟩⟩:=n;unfold jaz;simp only;obtain ⟨w0,hw0⟩ : ∃ w0,w0=w.alloc (.cells #[.string op,.string nam,.slice ia il ic,.string out,.slice ao al cap] 25):=⟨_,rfl⟩
 have g0:Hid (w.grownBy w0 none):=by show w.grownBy w0 none;rw [hw0];exact jab _ _
 have hb0:=heap_alloc_new w (.cells #[.string op,.string nam,.slice ia il ic,.string out,.slice ao al cap] 25);rw [← hw0] at hb0;have BX:Hid (∀ wx,w0.grownBy wx none→wx.heap[w.heap.size]?=some (.cells #[.string op,.string nam,.slice ia il ic,.string out,.slice ao al cap] 25 (0,0))):=fun wx hg=>jag hb0 hg;clear hb0 hn;have PM:=jac (jqy ⟨op,nam,⟨ia,il,ic⟩,out,⟨ao,al,cap⟩⟩ A x.length w0 (NK.out.more g0.out) (by omega));unfold jaz at PM;simp only at PM;obtain ⟨l,hl⟩ : ∃ l,l=jnq A x.length:=⟨_,rfl⟩
 rw [← hl] at PM;have E0:Hid (jbc A x=(jal (decide (l.length=x.length))).bind (fun _=>(jb7 l x.length).bind (fun _=>jer x l))):=by show _=_;rw [hl];rfl
 clear hl;go_enter Tryz.func114,Tryz.ntmps114;go_wp2_with fail;rw [← hw0];clear hw0;refine PM.out.mono ?_;rintro e w1 ⟨s,rfl,hs,hg1⟩;have G1:=jac (jaa g0.out hg1);obtain ⟨sa,sc,es,d1,d2,d3⟩:=hs.sl;obtain ⟨s1,s2,s3⟩:=s;simp only [Sl.v,Value.slice.injEq] at es;obtain ⟨rfl,rfl,rfl⟩:=es;simp only [Sl.v] at hs ⊢;have HS:=jac hs;clear hs hg1 PM
 by_cases hlen:l.length=x.length
 ·have b0:((l.length:Int)==(x.length:Int))=true:=by simp [hlen]
  have E1:Hid (jbc A x=(jb7 l x.length).bind (fun _=>jer x l)):=by show _=_;rw [E0.out];simp [jal,hlen];rfl
  have AX:=jac (jcC ⟨s1,l.length,s3⟩ l x.length w1 HS.out (by omega))
  cases hk:jb7 l x.length with
  | error c =>
   rw [hk] at AX;have E2:Hid (jbc A x=.error c):=by show _=_;rw [E1.out,hk];rfl
   clear hk hlen;go_wp2_with (first | (go_at_call 71;refine (jaq _).mono ?_;rintro e w' ⟨rfl,rfl⟩) | (go_at_call 108;refine AX.out.mono ?_;rintro e w' ⟨hg,rfl⟩));exact ⟨rfl,jai E2.out (jaa G1.out hg)⟩
  | ok gone =>
   rw [hk] at AX;have ALL:=jac (jiO hk);have E2:Hid (jbc A x=jer x l):=by show _=_;rw [E1.out,hk];rfl
   have HLEN:=jac hlen;clear hk hlen;go_wp2_with (first | (go_at_call 71;refine (jaq _).mono ?_;rintro e w' ⟨rfl,rfl⟩) | (go_at_call 108;refine AX.out.mono ?_;rintro e w3 ⟨hg3,v,rfl,B,rfl,ho,hl⟩));have G3:=jac (jaa G1.out hg3);have G13:=jac hg3;clear hg3 ho hl b0;go_loopw [6,25] (fun s i wr=>∃ (k:Nat) (u:Sl) (acc:List Int),k≤l.length∧i=.int .i64 k∧s=.slice u.a u.n u.c∧Owns wr w3.heap.size u.v acc∧acc.length≤k∧after acc (jer x (l.drop k))=jer x l∧w3.grownBy wr none) (fun _ i _=>l.length - (intOf i).toNat)
   case atStart=>exact ⟨0,⟨none,0,0⟩,[],Nat.zero_le _,rfl,rfl,jbp _ _,Nat.le_refl _,by rw [List.drop_zero];cases jer x l <;> rfl,jad _⟩
   case round =>
    obtain ⟨k,⟨qa,qn,qc⟩,acc,hk,rfl,rfl,ho,hal,hst,hg⟩:=hrel;simp only;have HO1:=jac ho;have HG:=jac hg;have hsz:=hg.size
    by_cases hkl:k<l.length
    ·obtain ⟨b,off,rfl,hc⟩:=HS.out.get hkl;have hcell:wr.cell? ⟨b,off+k,none⟩=some (.int .i64 (l.getD k 0)):=jae (hc k hkl) (jaa G13.out hg);have hmem:l.getD k 0∈l:=by simp [List.getD,hkl]
     obtain ⟨i,hi⟩:=ALL.out _ hmem;rw [jlW hkl] at hst;obtain ⟨p,hp0⟩ : ∃ p,p=l.getD k 0:=⟨_,rfl⟩
     rw [← hp0] at hcell hst hi;clear hc hp0 ho hmem
     by_cases hp:0≤p
     ·rw [if_pos hp] at hst;have hlt:=jnu hi hp;obtain ⟨q,hq⟩ : ∃ q:Nat,q=p.toNat:=⟨_,rfl⟩
      have hpq:p=(q:Int):=by omega
      rw [← hq] at hst hlt;clear hq;subst hpq;obtain ⟨b',off',e',hcx⟩:=HX.out.get (k:=q) hlt
      cases e'
      have hcell2:wr.cell? ⟨b',off'+q,none⟩=some (.int .i64 (x.getD q 0)):=jae (hcx q hlt) (jaa G3.out hg);have hwf:=HX.out.wf (x.getD q 0) (by simp [List.getD,hlt]);have HST:=jac hst;obtain ⟨d,hd⟩ : ∃ d,d=x.getD q 0:=⟨_,rfl⟩
      rw [← hd] at hcell2 hwf HST;clear hst hd hi hcx hg;go_wp2_with (first | (go_at_call 71;refine (jaq _).mono ?_;rintro e w' ⟨rfl,rfl⟩) | (at_builtin;refine jbm rfl (.tmp 32) (.tmp 37) rfl w3.heap.size _ _ rfl HO1.out d rfl hwf (by omega) (by omega) ?_;intro v' w4 hown hgrow));obtain ⟨⟨xa,xn,xc⟩,rfl⟩:=hown.sl;have HO2:=jac hown;have HG2:=jac (hgrow w3 (Nat.le_refl _) HG.out);clear hown hgrow;go_roundw
      case rel=>exact ⟨k+1,⟨xa,xn,xc⟩,_,by omega,by go_num,rfl,HO2.out,by simp;omega,HST.out,HG2.out⟩
      case measure=>simp [intOf];omega
     ·rw [if_neg hp] at hst;have E3:Hid (jbc A x=.error 4):=by show _=_;rw [E2.out,← hst]
      clear hst hg hi;go_wp2_with (go_at_call 71;refine (jav _).mono ?_;rintro e w' ⟨rfl,rfl⟩);exact ⟨rfl,jai E3.out (jaa G3.out HG.out)⟩
    ·have E3 : Hid (jbc A x = .ok acc) := by
       show _=_;rw [E2.out,← hst,List.drop_of_length_le (by omega)];simp [jer,after]
     clear ho hg hst;go_wp2;go_ret;exact jap E3.out (jaa G3.out HG.out) ⟨⟨qa,qn,qc⟩,rfl,HO1.out.ints⟩
 ·have b0:((l.length:Int)==(x.length:Int))=false:=by simpa using (fun h=>hlen (by omega):¬ (l.length:Int)=x.length)
  have E1:Hid (jbc A x=.error 4):=by show _=_;rw [E0.out];simp [jal,hlen];rfl
  clear hlen;go_wp2_with (go_at_call 71;refine (jav _).mono ?_;rintro e w' ⟨rfl,rfl⟩);exact ⟨rfl,jai E1.out G1.out⟩
theorem jcX (zs:List Bool) (k:Nat) (hk:k<zs.length):zs.drop k=zs.getD k false::zs.drop (k+1):=by
 rw [List.drop_eq_getElem_cons hk];simp [List.getD,hk]
theorem jhG {x:List Int} {gs:List Bool} {k:Nat} (hk:k<x.length) (hg:k<gs.length) (acc:List Int):after acc (jbj (x.drop k) (gs.drop k))=if gs.getD k false=true then (if x.getD k 0=1 then after acc (jbj (x.drop (k+1)) (gs.drop (k+1))) else .error 4) else after (acc++[x.getD k 0]) (jbj (x.drop (k+1)) (gs.drop (k+1))):=by
 rw [jba x k hk,jcX gs k hg];simp only [jbj]
 split
 ·split
  ·rfl
  ·rfl
 ·cases jbj (x.drop (k+1)) (gs.drop (k+1)) <;> simp [Except.map,after]
theorem jiP (u v:Sl) (x l:List Int) (w:World) (hx:IsInts w u.v x) (hv:IsInts w v.v l) (hf:Fine x):Calls Tryz.prog 120 #[.slice u.a u.n u.c,.slice v.a v.n v.c] w (jaJ w (jbL x l) jbd):=by
 obtain ⟨ux,uc,eu,c1,c2,c3⟩:=hx.sl;obtain ⟨ua,un,uu⟩:=u;simp only [Sl.v,Value.slice.injEq] at eu;obtain ⟨rfl,rfl,rfl⟩:=eu;have HX:=jac hx;have FEW:=hf.few;have AX:=jac (jcC v l x.length w hv (by omega));clear hx hf hv
 cases hk:jb7 l x.length with
 | error c =>
  rw [hk] at AX;have E2:Hid (jbL x l=.error c):=by show _=_;unfold jbL;rw [hk];rfl
  clear hk;go_enter Tryz.func120,Tryz.ntmps120;go_wp2_with (go_at_call 108;refine AX.out.mono ?_;rintro e w' ⟨hg,rfl⟩);exact ⟨rfl,jai E2.out hg⟩
 | ok gone =>
  rw [hk] at AX;have E2:Hid (jbL x l=jbj x gone):=by show _=_;unfold jbL;rw [hk];rfl
  clear hk;go_enter Tryz.func120,Tryz.ntmps120;go_wp2_with (go_at_call 108;refine AX.out.mono ?_;rintro e w3 ⟨hg3,v,rfl,B,rfl,ho,hl⟩);have G3:=jac hg3;have HO:=jac ho;have HL:=jac hl;clear hg3 ho hl;go_loopw [6,15] (fun s i wr=>∃ (k:Nat) (u:Sl) (acc:List Int),k≤x.length∧i=.int .i64 k∧s=.slice u.a u.n u.c∧Owns wr w3.heap.size u.v acc∧acc.length≤k∧after acc (jbj (x.drop k) (gone.drop k))=jbj x gone∧w3.grownBy wr none) (fun _ i _=>x.length - (intOf i).toNat)
  case atStart=>exact ⟨0,⟨none,0,0⟩,[],Nat.zero_le _,rfl,rfl,jbp _ _,Nat.le_refl _,by rw [List.drop_zero,List.drop_zero];cases jbj x gone <;> rfl,jad _⟩
  case round =>
   obtain ⟨k,⟨qa,qn,qc⟩,acc,hk,rfl,rfl,ho,hal,hst,hg⟩:=hrel;simp only;have HO1:=jac ho;have HG:=jac hg;have hsz:=hg.size
   by_cases hkl:k<x.length
   ·obtain ⟨b,off,rfl,hc⟩:=HX.out.get hkl;have hcell:wr.cell? ⟨b,off+k,none⟩=some (.int .i64 (x.getD k 0)):=jae (hc k hkl) (jaa G3.out hg);have hwf:=HX.out.wf (x.getD k 0) (by simp [List.getD,hkl]);have hgk:k<gone.length:=by rw [HL.out];exact hkl
    obtain ⟨cb,fb⟩:=(HO.out.new hg).at (k:=k) (v:=gone.getD k false) (by simp [List.getD,hgk]);rw [jhG hkl hgk] at hst;obtain ⟨d,hd0⟩ : ∃ d,d=x.getD k 0:=⟨_,rfl⟩
    obtain ⟨gb,hgb⟩ : ∃ gb,gb=gone.getD k false:=⟨_,rfl⟩
    rw [← hd0] at hcell hst hwf;rw [← hgb] at cb hst;clear hc hd0 hgb ho hg
    cases gb with
    | false =>
     rw [if_neg (by decide)] at hst;have HST:=jac hst;clear hst;go_wp2_with (first | (go_at_call 71;refine (jaq _).mono ?_;rintro e w' ⟨rfl,rfl⟩) | (at_builtin;refine jbm rfl (.tmp 35) (.tmp 37) rfl w3.heap.size _ _ rfl HO1.out d rfl hwf (by omega) (by omega) ?_;intro v' w4 hown hgrow));obtain ⟨⟨xa,xn,xc⟩,rfl⟩:=hown.sl;have HO2:=jac hown;have HG2:=jac (hgrow w3 (Nat.le_refl _) HG.out);clear hown hgrow;go_roundw
     case rel=>exact ⟨k+1,⟨xa,xn,xc⟩,_,by omega,by go_num,rfl,HO2.out,by simp;omega,HST.out,HG2.out⟩
     case measure=>simp [intOf];omega
    | true =>
     rw [if_pos rfl] at hst
     by_cases hd:d=1
     ·rw [if_pos hd] at hst;have HST:=jac hst;have b1:(d==1)=true:=by simp [hd]
      clear hst hd;go_wp2_with (go_at_call 71;refine (jaq _).mono ?_;rintro e w' ⟨rfl,rfl⟩);go_roundw
      case rel=>exact ⟨k+1,⟨qa,qn,qc⟩,acc,by omega,by go_num,rfl,HO1.out,by omega,HST.out,HG.out⟩
      case measure=>simp [intOf];omega
     ·rw [if_neg hd] at hst;have b1:(d==1)=false:=by simpa using hd
      have E3:Hid (jbL x l=.error 4):=by show _=_;rw [E2.out,← hst]
      clear hst hd;go_wp2_with (go_at_call 71;refine (jav _).mono ?_;rintro e w' ⟨rfl,rfl⟩);exact ⟨rfl,jai E3.out (jaa G3.out HG.out)⟩
   ·have E3 : Hid (jbL x l = .ok acc) := by
      show _=_;rw [E2.out,← hst,List.drop_of_length_le (by omega)];simp [jbj,after]
    clear ho hg hst;go_wp2;go_ret;exact jap E3.out (jaa G3.out HG.out) ⟨⟨qa,qn,qc⟩,rfl,HO1.out.ints⟩
end Go.Proofs.YteigfipgmghgmaaGreatDoor
namespace Go.Proofs.YteigfipgmghgmaaGreatDoor
open Go.RowKit
theorem IsInts.tail {w:World} {b off n c:Nat} {zs:List Int} (h:IsInts w (.slice (some ⟨b,off,none⟩) n c) zs) (hp:0<zs.length):IsInts w (.slice (if c=1 then some ⟨b,off,none⟩ else some ⟨b,off+1,none⟩) (n - 1) (c - 1)) zs.tail:=by
 obtain ⟨ao,cap,e,h1,h2,h3,h4,h5,h6⟩:=h
 cases e
 have hl:zs.tail.length=zs.length - 1:=by simp
 have hm:∀ z∈zs.tail,-9223372036854775808≤z∧z≤9223372036854775807:=fun z hz=>h6 z (List.mem_of_mem_tail hz)
 by_cases hc:c=1
 ·rw [if_pos hc];have:zs.length=1:=by omega
  exact ⟨_,_,by rw [hl],by rw [hl];omega,by omega,by rw [hl];omega,(fun h=>by cases h),fun h=>(by rw [hl] at h;omega),hm⟩
 ·rw [if_neg hc];refine ⟨_,_,by rw [hl],by rw [hl];omega,by omega,by rw [hl];omega,(fun h=>by cases h),fun _=>⟨b,off+1,rfl,fun k hk=>?_⟩,hm⟩;rw [hl] at hk;obtain ⟨b',off',e',hcx⟩:=h5 hp
  cases e'
  rw [Nat.add_assoc,Nat.add_comm 1 k,hcx (k+1) (by omega),← List.drop_one];simp [List.getD]
theorem Fine.le_each {x:List Int} (h:Fine x) {z:Int} (hz:z∈x):z≤65536:=by
 obtain ⟨k,hk,rfl⟩:=List.mem_iff_getElem.1 hz;have h1:=jdw h.pos k;have h2:=jea x k hk;have h3:=Go.Proofs.YteigfipgmghgmaaGreatDoor.prod_pos _ (jc4 h.pos (k+1));have h4:x.getD k 0=x[k]:=by simp [List.getD,hk]
 rw [h4] at h2;have h5:=h.pos _ hz;have h6:=jcP h3 (show 0≤x[k] by omega);have:=h.le;omega
theorem jnv {is:List Bool} {i:Nat} (hi:i<is.length) (h:is.getD i false=false):(is.set i true).count false+1=is.count false:=by
 induction is generalizing i with
 | nil=>simp at hi
 | cons b l ih =>
  cases i with
  | zero =>
   have e:b=false:=by simpa [List.getD] using h
   subst e;simp
  | succ i =>
   have:=ih (i:=i) (by simpa using hi) (by simpa [List.getD] using h);simp only [List.set_cons_succ,List.count_cons];omega
theorem jfL {jaL:Nat} : ∀ {l:List Int} {is r:List Bool},is.length=jaL→jeq jaL l is=some r→r.count false+l.length=is.count false∧r.length=jaL
 | [],is,r,hl,h=>by
  unfold jeq at h
  cases h
  exact ⟨by simp,hl⟩
 | b::l,is,r,hl,h=>by
  unfold jeq at h
  cases hb:jcs b jaL with
  | none=>rw [hb] at h;cases h
  | some i =>
   rw [hb] at h;simp only at h
   split at h
   ·cases h
   ·rename_i hne;have hi:i<is.length:=by rw [hl];exact jeF hb
    have h1:=jfL (by rw [List.length_set];exact hl) h;have h2:=jnv hi (by simpa using hne);refine ⟨?_,h1.2⟩;simp only [List.length_cons];omega
theorem jjW {l:List Int} {jaL:Nat} {is:List Bool} (h:jb7 l jaL=.ok is):is.count false+l.length=jaL∧is.length=jaL:=by
 unfold jb7 at h
 cases hx:jeq jaL l (List.replicate jaL false) with
 | none=>rw [hx] at h;cases h
 | some r =>
  rw [hx] at h
  cases h
  have:=jfL (by simp) hx;rw [List.count_replicate_self] at this;exact this
theorem jnw {l:List Bool} {k:Nat} (hk:k<l.length) (h:l.getD k false=true) (x:List Int):jfJ (l.drop k) x=1::jfJ (l.drop (k+1)) x:=by
 rw [jcX l k hk,h]
 rfl
theorem jlX {l:List Bool} {k:Nat} (hk:k<l.length) (h:l.getD k false=false) (x:List Int):jfJ (l.drop k) x=x.getD 0 0::jfJ (l.drop (k+1)) x.tail:=by
 rw [jcX l k hk,h]
 rfl
theorem jgz (u v:Sl) (x l:List Int) (w:World) (hx:IsInts w u.v x) (hv:IsInts w v.v l) (hf:Fine x) (hll:l.length≤100000000):Calls Tryz.prog 121 #[.slice u.a u.n u.c,.slice v.a v.n v.c] w (jaJ w (jbw x l) jbd):=by
 obtain ⟨ux,uc,eu,c1,c2,c3⟩:=hx.sl;obtain ⟨ua,un,uu⟩:=u;simp only [Sl.v,Value.slice.injEq] at eu;obtain ⟨rfl,rfl,rfl⟩:=eu;obtain ⟨vx,vc,ev,d1,d2,d3⟩:=hv.sl;obtain ⟨va,vn,vv⟩:=v;simp only [Sl.v,Value.slice.injEq] at ev;obtain ⟨rfl,rfl,rfl⟩:=ev;have HX:=jac hx;have FEW:=hf.few;have AX:=jac (jcC ⟨va,l.length,vv⟩ l (x.length+l.length) w hv (by omega));rw [Int.natCast_add] at AX;clear hx hf hv
 cases hk:jb7 l (x.length+l.length) with
 | error c =>
  rw [hk] at AX;have E2:Hid (jbw x l=.error c):=by show _=_;unfold jbw;rw [hk];rfl
  clear hk;go_enter Tryz.func121,Tryz.ntmps121;go_wp2_with (go_at_call 108;refine AX.out.mono ?_;rintro e w' ⟨hg,rfl⟩);exact ⟨rfl,jai E2.out hg⟩
 | ok isn =>
  rw [hk] at AX;have E2:Hid (jbw x l=.ok (jfJ isn x)):=by show _=_;unfold jbw;rw [hk];rfl
  have CN:=jac (jjW hk);clear hk;go_enter Tryz.func121,Tryz.ntmps121;go_wp2_with (go_at_call 108;refine AX.out.mono ?_;rintro e w3 ⟨hg3,v,rfl,B,rfl,ho,hl⟩);have G3:=jac hg3;have HO:=jac ho;have HL:=jac hl;clear hg3 ho hl;go_loopw [0,6,18] (fun xv s i wr=>∃ (k m:Nat) (u:Sl) (ta:Option Addr) (tc:Nat) (acc:List Int),k≤x.length+l.length∧i=.int .i64 k∧s=.slice u.a u.n u.c∧xv=.slice ta (x.length - m) tc∧Owns wr w3.heap.size u.v acc∧IsInts w (.slice ta (x.length - m) tc) (x.drop m)∧acc.length≤k∧acc++jfJ (isn.drop k) (x.drop m)=jfJ isn x∧(isn.drop k).count false=(x.drop m).length∧w3.grownBy wr none) (fun _ _ i _=>x.length+l.length - (intOf i).toNat)
  case atStart=>exact ⟨0,0,⟨none,0,0⟩,ua,uu,[],Nat.zero_le _,rfl,rfl,rfl,jbp _ _,by rw [List.drop_zero];exact HX.out,Nat.le_refl _,by simp,by have:=CN.out.1;simp;omega,jad _⟩
  case round =>
   obtain ⟨k,m,⟨qa,qn,qc⟩,ta,tc,acc,hk,rfl,rfl,rfl,ho,ht,hal,hst,hct,hg⟩:=hrel;simp only;have HO1:=jac ho;have HG:=jac hg;have HT:=jac ht;have hsz:=hg.size;obtain ⟨xx,cc,ee,f1,f2,f3⟩:=ht.sl;rw [List.length_drop] at ee f1 f3;simp only [Value.slice.injEq] at ee;obtain ⟨rfl,-,rfl⟩:=ee
   by_cases hkl:k<x.length+l.length
   ·have hgk:k<isn.length:=by rw [HL.out];exact hkl
    obtain ⟨cb,fb⟩:=(HO.out.new hg).at (k:=k) (v:=isn.getD k false) (by simp [List.getD,hgk])
    cases hb:isn.getD k false with
    | true =>
     rw [jnw hgk hb] at hst;have hct2:(isn.drop (k+1)).count false=(x.drop m).length:=by rw [jcX isn k hgk,hb] at hct;simpa using hct
     rw [hb] at cb;have HST:=jac hst;have HCT:=jac hct2;clear hst hct hct2 hb ho ht hg;go_wp2_with (at_builtin;refine jbm rfl (.tmp 23) (.tmp 24) rfl w3.heap.size _ _ rfl HO1.out 1 rfl (by omega) (by omega) (by omega) ?_;intro v' w4 hown hgrow);obtain ⟨⟨xa,xn,xc⟩,rfl⟩:=hown.sl;have HO2:=jac hown;have HG2:=jac (hgrow w3 (Nat.le_refl _) HG.out);clear hown hgrow;go_roundw
     case rel=>exact ⟨k+1,m,⟨xa,xn,xc⟩,ta,tc,_,by omega,by go_num,rfl,rfl,HO2.out,HT.out,by simp;omega,by rw [← HST.out];simp,HCT.out,HG2.out⟩
     case measure=>simp [intOf];omega
    | false =>
     rw [jlX hgk hb] at hst;have hct2:(isn.drop (k+1)).count false+1=(x.drop m).length:=by rw [jcX isn k hgk,hb] at hct;simpa using hct
     have hm:m<x.length:=by simp at hct2;omega
     have hpos:0<(x.drop m).length:=by omega
     obtain ⟨b,off,rfl,hc⟩:=ht.get hpos;have hcell:wr.cell? ⟨b,off+0,none⟩=some (.int .i64 ((x.drop m).getD 0 0)):=jae (hc 0 hpos) (jaa G3.out hg);rw [Nat.add_zero] at hcell;have hwf:=ht.wf ((x.drop m).getD 0 0) (by rw [List.getD,List.getElem?_eq_getElem hpos];exact List.getElem_mem hpos);have pt:=ht.tail hpos;have et:(x.drop m).tail=x.drop (m+1):=by rw [← List.drop_one,List.drop_drop]
     rw [et] at hst pt;rw [Nat.sub_sub] at pt;rw [hb] at cb;have HST:=jac hst;have HPT:=jac pt;have HCT:Hid ((isn.drop (k+1)).count false=(x.drop (m+1)).length):=by show _=_;rw [List.length_drop] at hct2 ⊢;omega
     obtain ⟨d,hd⟩ : ∃ d,d=(x.drop m).getD 0 0:=⟨_,rfl⟩
     rw [← hd] at hcell hwf HST;clear hst hct hct2 hb ho ht hg hc pt et hd;go_wp2_with (at_builtin;refine jbm rfl (.tmp 26) (.tmp 30) rfl w3.heap.size _ _ rfl HO1.out d rfl hwf (by omega) (by omega) ?_;intro v' w4 hown hgrow);obtain ⟨⟨xa,xn,xc⟩,rfl⟩:=hown.sl;have HO2:=jac hown;have HG2:=jac (hgrow w3 (Nat.le_refl _) HG.out);clear hown hgrow;go_roundw
     case rel=>rw [Nat.sub_sub];exact ⟨k+1,m+1,⟨xa,xn,xc⟩,_,_,_,by omega,by go_num,rfl,rfl,HO2.out,HPT.out,by simp;omega,by rw [← HST.out];simp,HCT.out,HG2.out⟩
     case measure=>simp [intOf];omega
   ·have E3 : Hid (jbw x l = .ok acc) := by
      show _=_;rw [E2.out,← hst,List.drop_of_length_le (l:=isn) (by rw [HL.out];omega)];simp [jfJ]
    clear ho hg hst ht hct;go_wp2;go_ret;exact jap E3.out (jaa G3.out HG.out) ⟨⟨qa,qn,qc⟩,rfl,HO1.out.ints⟩
theorem jqz (w:World) (a:Option Addr) (l c:Nat):(binOp .eql 29 (.slice a l c) (.slice none 0 0)).run Tryz.prog w=.ok (.bool a.isNone) w:=by
 cases a <;> kernel_rfl
theorem jjX (w:World):Owns (w.alloc (.cells #[] 3)) w.heap.size (.slice (some ⟨w.heap.size,0,none⟩) 0 0) [] :=
 ⟨⟨rfl,.inr ⟨w.heap.size,0,#[],rfl,Nat.le_refl _,heap_alloc_new w _,Nat.le_refl _,by simp [maxLen],rfl,rfl⟩⟩,by simp,fun z hz=>by simp at hz⟩
theorem jdX (u:Sl) (zs:List Int) (w:World) (h:IsInts w u.v zs) :
    Calls Tryz.prog 94 #[.slice u.a u.n u.c] w fun e w'=>∃ u:Sl,e=.returned (.slice u.a u.n u.c)∧Owns w' w.heap.size u.v zs∧w.grownBy w' none:=by
     have H:=jac h;obtain ⟨ua,un,uc⟩:=u;obtain ⟨ux,cc,eu,c1,c2,c3⟩:=h.sl;simp only [Sl.v,Value.slice.injEq] at eu;obtain ⟨rfl,rfl,rfl⟩:=eu;simp only;have q:=jqz w ua zs.length uc
     cases ua with
     | none =>
      obtain ⟨ao,cap,e,h1,h2,h3,h4,h5,h6⟩:=h
      cases e
      obtain ⟨rfl,rfl⟩:=h4 rfl;clear h4 h5 h6;simp only [List.length_nil] at q ⊢;go_enter Tryz.func94,Tryz.ntmps94;go_wp2;go_ret;exact ⟨⟨none,0,0⟩,rfl,jbp _ _,jad _⟩
     | some ad =>
      clear h;go_enter Tryz.func94,Tryz.ntmps94;have OE:=jac (jjX w);have HM:Hid (∀ o,IsInts (w.alloc o) (.slice (some ad) zs.length uc) zs):=fun o=>H.out.more (jab _ _);clear H;go_wp2_with (at_builtin;refine jdS rfl (.tmp 5) (.tmp 6) rfl w.heap.size (.slice (some ⟨w.heap.size,0,none⟩) 0 0) [] rfl OE.out (.slice (some ad) zs.length uc) zs rfl (HM.out _) ?_ ?_ ?_;(simpa using c3);simp;intro v' w1 hown hgrow);go_ret;obtain ⟨s,rfl⟩:=hown.sl;exact ⟨s,rfl,by simpa using hown,jan (jab w (.cells #[] 3)) hgrow (fun r e=>by cases e;exact Nat.le_refl _)⟩
theorem Owns.shape {w:World} {base:Nat} {v:Value} {zs:List Int} (h:Owns w base v zs) (hl:0<zs.length):∃ g cap,v=.slice (some ⟨g,0,none⟩) zs.length cap∧base≤g∧g<w.heap.size∧zs.length≤cap∧cap≤9223372036854775807:=by
 rcases h.1.2 with ⟨-,h0⟩ | ⟨g,cap,cur,e,hg,hh,h1,h2,-⟩
 ·omega
 ·exact ⟨g,cap,e,hg,by have:=(Array.getElem?_eq_some_iff.1 hh).1;exact this,h1,by simpa [maxLen] using h2⟩
theorem Owns.cells {w:World} {base g cap:Nat} {zs:List Int} (h:Owns w base (.slice (some ⟨g,0,none⟩) zs.length cap) zs) {k:Nat} (hk:k<zs.length):w.cell? ⟨g,k,none⟩=some (.int .i64 (zs.getD k 0))∧w.frozen? ⟨g,k,none⟩=false:=by
 refine ⟨?_,World.ownsRow.frozenAt h.1 k⟩;obtain ⟨b,off,e,hc⟩:=h.ints.get hk
 cases e
 have:=hc k hk
 rwa [Nat.zero_add] at this
theorem Owns.put {w:World} {base g cap:Nat} {zs:List Int} (h:Owns w base (.slice (some ⟨g,0,none⟩) zs.length cap) zs) (k:Nat) (z:Int) (hz : -9223372036854775808≤z∧z≤9223372036854775807):Owns (w.setCell ⟨g,k,none⟩ (.int .i64 z)) base (.slice (some ⟨g,0,none⟩) zs.length cap) (zs.set k z)∧w.grownBy (w.setCell ⟨g,k,none⟩ (.int .i64 z)) (some g):=by
 have s:=World.ownsRow.stored h.1 k (.int .i64 z);rw [← List.map_set] at s;refine ⟨⟨?_,by rw [List.length_set];exact h.2.1,fun y hy=>?_⟩,s.2⟩
 ·rw [List.length_set];exact s.1
 ·rcases List.mem_or_eq_of_mem_set hy with h1 | rfl
  ·exact h.2.2 y h1
  ·exact hz
theorem jnx {r:Nat} {l:List Int} {k:Nat} (hk:k<l.length) (dims:List Int):jqv r (l.drop k) k dims=if 0≤l.getD k 0∧l.getD k 0≤65536 then jqv r (l.drop (k+1)) (k+1) (dims.set (k % r) (dims.getD (k % r) 0+l.getD k 0)) else .error 4:=by
 rw [jba l k hk];simp only [jqv,jal]
 by_cases h:0≤l.getD k 0∧l.getD k 0≤65536
 ·rw [if_pos (by simpa using h),if_pos h]
  rfl
 ·rw [if_neg (by simpa using h),if_neg h]
  rfl
theorem jlY (u v:Sl) (x l:List Int) (w:World) (hx:IsInts w u.v x) (hv:IsInts w v.v l) (hf:Fine x):Calls Tryz.prog 119 #[.slice u.a u.n u.c,.slice v.a v.n v.c] w (jaJ w (jcU x l) jbd):=by
 obtain ⟨ux,uc,eu,c1,c2,c3⟩:=hx.sl;obtain ⟨ua,un,uu⟩:=u;simp only [Sl.v,Value.slice.injEq] at eu;obtain ⟨rfl,rfl,rfl⟩:=eu;obtain ⟨vx,vc,ev,d1,d2,d3⟩:=hv.sl;obtain ⟨va,vn,vv⟩:=v;simp only [Sl.v,Value.slice.injEq] at ev;obtain ⟨rfl,rfl,rfl⟩:=ev;have HV:=jac hv;have FEW:=hf.few;have CL:=jac (jdX ⟨ua,x.length,uu⟩ x w hx)
 have PB:Hid (∀ z∈x,1≤z∧z≤65536):=fun z hz=>⟨hf.pos z hz,by
  have:=Fine.le_each hf hz;exact this⟩
 clear hx hf hv;simp only at CL ⊢
 by_cases hlen:l.length=2*x.length
 ·have b0:((l.length:Int)==2*(x.length:Int))=true:=by simp;omega
  have E1:Hid (jcU x l=jqv x.length l 0 x):=by show _=_;unfold jcU jal;simp [hlen];rfl
  have HLEN:=jac hlen;clear hlen;go_enter Tryz.func119,Tryz.ntmps119;go_wp2_with (first | (go_at_call 71;refine (jaq _).mono ?_;rintro e w' ⟨rfl,rfl⟩) | (go_at_call 94;refine CL.out.mono ?_;rintro e w3 ⟨⟨qa,qn,qc⟩,rfl,ho,hg3⟩;simp only));have HO:=jac ho;have G3:=jac hg3;clear ho hg3 b0 CL;go_loopw [19] (fun i wr=>∃ (k:Nat) (L:List Int),k≤l.length∧i=.int .i64 k∧Owns wr w.heap.size (.slice qa qn qc) L∧L.length=x.length∧jqv x.length (l.drop k) k L=jqv x.length l 0 x∧(∀ z∈L,0≤z∧z≤65536+65536*k)∧w.grownBy wr none) (fun i _=>l.length - (intOf i).toNat)
  case atStart=>exact ⟨0,x,Nat.zero_le _,rfl,HO.out,rfl,by rw [List.drop_zero],fun z hz=>by have:=PB.out z hz;omega,G3.out⟩
  case round =>
   obtain ⟨k,L,hk,rfl,ho,hL,hst,hbd,hg⟩:=hrel;have HG:=jac hg;have HO1:=jac ho
   by_cases hkl:k<l.length
   ·have hxp:0<x.length:=by have:=HLEN.out;omega
    obtain ⟨b,off,rfl,hc⟩:=HV.out.get hkl;have hcell:wr.cell? ⟨b,off+k,none⟩=some (.int .i64 (l.getD k 0)):=jae (hc k hkl) hg;rw [jnx hkl] at hst;obtain ⟨p,hp0⟩ : ∃ p,p=l.getD k 0:=⟨_,rfl⟩
    rw [← hp0] at hcell hst;clear hc hp0
    by_cases hp:0≤p∧p≤65536
    ·rw [if_pos hp] at hst;obtain ⟨hp1,hp2⟩:=hp;obtain ⟨g,cap,eo,hbg,hgl,hlc,hcm⟩:=ho.shape (by rw [hL];exact hxp);simp only [Value.slice.injEq] at eo;obtain ⟨rfl,rfl,rfl⟩:=eo;obtain ⟨m,hm⟩ : ∃ m:Nat,m=k % x.length:=⟨_,rfl⟩
     have hml:m<x.length:=by rw [hm];exact Nat.mod_lt _ hxp
     obtain ⟨cc,fc⟩:=ho.cells (k:=m) (by rw [hL];exact hml);have hbm:=hbd (L.getD m 0) (by rw [List.getD,List.getElem?_eq_getElem (by rw [hL];exact hml)];exact List.getElem_mem _);rw [← hm] at hst;obtain ⟨q,hq⟩ : ∃ q,q=L.getD m 0:=⟨_,rfl⟩
     rw [← hq] at cc hbm hst;have hkk:(k:Int)≤12:=by have:=HLEN.out;omega
     obtain ⟨so,sg⟩:=ho.put m (q+p) (by omega);have SO:=jac so;have SG:=jac (jaG hg sg hbg);have HST:=jac hst
     have HB:Hid (∀ z∈L.set m (q+p),0≤z∧z≤65536+65536*((k+1:Nat):Int)):=fun z hz=>by
      rcases List.mem_or_eq_of_mem_set hz with h1 | rfl
      ·have:=hbd z h1;omega
      ·omega
     have hmod:(k:Int).tmod (x.length:Int)=(m:Int):=by rw [hm,Int.tmod_eq_emod_of_nonneg (by omega)];omega
     have hx0:¬ (x.length:Int)=0:=by omega
     have HLL:=jac hL;rw [hL];rw [hL] at hlc;clear hst hbd ho hg so sg hq hm hL;go_wp2_with (first | (go_at_call 71;refine (jaq _).mono ?_;rintro e w' ⟨rfl,rfl⟩) | fail);go_roundw
     case rel=>exact ⟨k+1,_,by omega,by go_num,by have h:=SO.out;rw [HLL.out] at h;exact h,by rw [List.length_set];exact HLL.out,HST.out,HB.out,SG.out⟩
     case measure=>simp [intOf];omega
    ·rw [if_neg hp] at hst;have E3:Hid (jcU x l=.error 4):=by show _=_;rw [E1.out,← hst]
     clear hst hbd ho hg
     by_cases h0:0≤p
     ·have h1:¬ p≤65536:=fun h=>hp ⟨h0,h⟩;clear hp;go_wp2_with (first | (go_at_call 71;refine (jav _).mono ?_;rintro e w' ⟨rfl,rfl⟩) | fail);exact ⟨rfl,jai E3.out HG.out⟩
     ·clear hp;go_wp2_with (first | (go_at_call 71;refine (jav _).mono ?_;rintro e w' ⟨rfl,rfl⟩) | fail);exact ⟨rfl,jai E3.out HG.out⟩
   ·have E3 : Hid (jcU x l = .ok L) := by
      show _=_;rw [E1.out,← hst,List.drop_of_length_le (by omega)]
      rfl
    clear hst hbd ho hg;go_wp2;go_ret;exact jap E3.out HG.out ⟨⟨qa,qn,qc⟩,rfl,HO1.out.ints⟩
 ·have b0:((l.length:Int)==2*(x.length:Int))=false:=by simpa using (fun h=>hlen (by omega):¬ (l.length:Int)=2*x.length)
  have E1:Hid (jcU x l=.error 4):=by show _=_;unfold jcU jal;simp [hlen];rfl
  clear hlen;go_enter Tryz.func119,Tryz.ntmps119;go_wp2_with (go_at_call 71;refine (jav _).mono ?_;rintro e w' ⟨rfl,rfl⟩);exact ⟨rfl,jai E1.out (jad _)⟩
end Go.Proofs.YteigfipgmghgmaaGreatDoor
namespace Go.Proofs.YteigfipgmghgmaaGreatDoor
open Go.RowKit
theorem Fine.take {zs:List Int} (h:Fine zs) (k:Nat):Fine (zs.take k) :=
 ⟨jfo h.pos k,by have:=h.few;simp;omega,Int.le_trans (jcQ h.pos k) h.le⟩
theorem IsInts.front {w:World} {a:Option Addr} {n c:Nat} {zs:List Int} (h:IsInts w (.slice a n c) zs) {k:Nat} (hk:k≤zs.length):IsInts w (.slice a k c) (zs.take k):=by
 obtain ⟨ao,cap,e,h1,h2,h3,h4,h5,h6⟩:=h
 cases e
 have hl:(zs.take k).length=k:=by simp;omega
 refine ⟨a,c,by rw [hl],by rw [hl];omega,h2,by rw [hl];omega,fun h=>?_,fun hp=>?_,fun z hz=>h6 z (List.mem_of_mem_take hz)⟩
 ·obtain ⟨rfl,rfl⟩:=h4 h;exact ⟨by simp,rfl⟩
 ·rw [hl] at hp;obtain ⟨b,off,rfl,hc⟩:=h5 (by omega);refine ⟨b,off,rfl,fun t ht=>?_⟩;rw [hl] at ht;rw [hc t (by omega)];simp [List.getD,ht]
theorem IsInts.back {w:World} {ad:Addr} {n c:Nat} {zs:List Int} (h:IsInts w (.slice (some ad) n c) zs) {k:Nat} (hk:k≤zs.length):IsInts w (.slice (if c=k then some ad else some (ad.add k)) (n - k) (c - k)) (zs.drop k):=by
 obtain ⟨ao,cap,e,h1,h2,h3,h4,h5,h6⟩:=h
 cases e
 have hl:(zs.drop k).length=zs.length - k:=by simp
 have hm:∀ z∈zs.drop k,-9223372036854775808≤z∧z≤9223372036854775807:=fun z hz=>h6 z (List.mem_of_mem_drop hz)
 by_cases hc:c=k
 ·rw [if_pos hc];exact ⟨_,_,by rw [hl],by rw [hl];omega,by omega,by rw [hl];omega,(fun h=>by cases h),fun h=>(by rw [hl] at h;omega),hm⟩
 ·rw [if_neg hc];refine ⟨_,_,by rw [hl],by rw [hl];omega,by omega,by rw [hl];omega,(fun h=>by cases h),fun hp=>?_,hm⟩;rw [hl] at hp;obtain ⟨b',off',e',hcx⟩:=h5 (by omega)
  cases e'
  refine ⟨b',off'+k,by rw [Addr.add_lit],fun t ht=>?_⟩;rw [hl] at ht;rw [Nat.add_assoc,hcx (k+t) (by omega)];simp [List.getD]
theorem jhH (n:Nod) (A:At) (u:Sl) (x:List Int) (w:World) (hn:NodeOk w n A) (hx:IsInts w u.v x) (hf:Fine x):Calls Tryz.prog 122 #[jaz n,.slice u.a u.n u.c] w (jaJ w (jbG A x) jbd):=by
 obtain ⟨ux,uc,eu,c1,c2,c3⟩:=hx.sl;obtain ⟨ua,un,uu⟩:=u;simp only [Sl.v,Value.slice.injEq] at eu;obtain ⟨rfl,rfl,rfl⟩:=eu;have HX:=jac hx;have FEW:=hf.few;have FN:=jac hf;clear hx hf;have RG:=hn.int ⟨#[97,120,105,115]⟩ 1 (by omega);have NK:=jac hn;obtain ⟨op,nam,⟨ia,il,ic⟩,out,⟨ao,al,cap⟩⟩:=n;unfold jaz;simp only;obtain ⟨w0,hw0⟩ : ∃ w0,w0=w.alloc (.cells #[.string op,.string nam,.slice ia il ic,.string out,.slice ao al cap] 25):=⟨_,rfl⟩
 have g0:Hid (w.grownBy w0 none):=by show w.grownBy w0 none;rw [hw0];exact jab _ _
 have hb0:=heap_alloc_new w (.cells #[.string op,.string nam,.slice ia il ic,.string out,.slice ao al cap] 25);rw [← hw0] at hb0;have BX:Hid (∀ wx,w0.grownBy wx none→wx.heap[w.heap.size]?=some (.cells #[.string op,.string nam,.slice ia il ic,.string out,.slice ao al cap] 25 (0,0))):=fun wx hg=>jag hb0 hg;clear hb0 hn;have I0:=jac (jb2 ⟨op,nam,⟨ia,il,ic⟩,out,⟨ao,al,cap⟩⟩ A ⟨#[97,120,105,115]⟩ 1 w0 (NK.out.more g0.out));unfold jaz at I0;simp only at I0;obtain ⟨z,hz⟩ : ∃ z,z=A.int ⟨#[97,120,105,115]⟩ 1:=⟨_,rfl⟩
 rw [← hz] at I0 RG;obtain ⟨y,hy⟩ : ∃ y,y=jaT z x.length:=⟨_,rfl⟩
 have FE:=jac (fun wx=>jes z x.length wx (by omega) RG.1);rw [← hy] at FE;have E0:Hid (jbG A x=(jal (decide (0≤y∧y≤x.length))).bind (fun _=>(jaX (x.take y.toNat)).bind (fun a=>(jaX (x.drop y.toNat)).bind (fun b=>.ok [a,b])))):=by show _=_;unfold jbG;rw [← hz,← hy];rfl
 clear hy hz;go_enter Tryz.func122,Tryz.ntmps122;go_wp2_with fail;rw [← hw0];clear hw0;refine I0.out.mono ?_;rintro e w1 ⟨rfl,hg1⟩;have G1:=jac (jaa g0.out hg1);clear hg1 I0
 by_cases h0:0≤y
 ·by_cases h1:y≤x.length
  ·obtain ⟨k,rfl⟩:=Int.eq_ofNat_of_zero_le h0;have hk:k≤x.length:=by omega
   have P1:Hid (jaX (x.take k)=.ok (jaA (x.take k))):=by show _=_;unfold jaX;rw [if_pos (FN.out.take k).ok]
   have P2:Hid (jaX (x.drop k)=.ok (jaA (x.drop k))):=by show _=_;unfold jaX;rw [if_pos (FN.out.drop k).ok]
   have E1:Hid (jbG A x=.ok [jaA (x.take k),jaA (x.drop k)]):=by show _=_;rw [E0.out,Int.toNat_natCast,P1.out,P2.out];simp [jal,h0,h1];rfl
   have B1:=(FN.out.take k).le;have B1':=(FN.out.take k).prod_pos;have B2:=(FN.out.drop k).le;have B2':=(FN.out.drop k).prod_pos;have X1:=jac (HX.out.more G1.out);have CF:=jac (fun (wx:World) (hg:w.grownBy wx none)=>jce _ _ wx ((HX.out.front hk).more hg));rw [P1.out] at CF;obtain ⟨p1,hp1⟩ : ∃ p,p=jaA (x.take k):=⟨_,rfl⟩
   obtain ⟨p2,hp2⟩ : ∃ p,p=jaA (x.drop k):=⟨_,rfl⟩
   rw [← hp1] at CF E1 B1 B1';rw [← hp2] at E1 B2 B2';go_wp2_with (first | (go_at_call 152;refine (FE.out _).mono ?_;rintro e w' ⟨rfl,rfl⟩) | (go_at_call 71;refine (jaq _).mono ?_;rintro e w' ⟨rfl,rfl⟩) | fail);have hku:k≤uu:=by omega
   have q1:(0:Int)≤(k:Int):=by omega
   have q2:(k:Int)≤(uu:Int):=by omega
   have q3:(k:Int)≤(x.length:Int):=by omega
   cases ua with
   | none =>
    obtain ⟨ao',cap',e,h1',h2',h3',h4',h5',h6'⟩:=HX.out
    cases e
    obtain ⟨hx0,rfl⟩:=h4' rfl;subst hx0;have hk0:k=0:=by simpa using hk
    subst hk0;have CN:=jac (fun (wx:World)=>jce (.slice none 0 0) [] wx ⟨none,0,rfl,Nat.le_refl _,by decide,by simp,fun _=>⟨rfl,rfl⟩,fun h=>(by simp at h),fun z hz=>(by simp at hz)⟩);rw [show jaX []=.ok 1 from rfl] at CN;have e1:p1=1:=hp1;have e2:p2=1:=hp2;subst e1 e2;clear h4' h5' h6' hp1 hp2;simp only [List.length_nil] at *;go_region_held3 (fun _=>True) (trivial) (first | (go_at_call 73;refine (CN.out _).mono ?_;rintro e w' ⟨-,v,rfl,rfl,rfl⟩) | fail);go_wp2;go_ret;exact jap E1.out (jaa (jaf G1.out) (jab _ _)) ⟨⟨_,2,2⟩,rfl,jbu _ [1,1] 3 (by decide) (by decide)⟩
   | some ad =>
    have CB:=jac (fun (wx:World) (hg:w.grownBy wx none)=>jce _ _ wx ((HX.out.back hk).more hg));rw [P2.out,← hp2] at CB;simp only at CF CB;clear hp1 hp2
    by_cases huk:uu=k
    ·rw [if_pos huk] at CB;have e1:x.length - k=0:=by omega
     have e2:uu - k=0:=by omega
     have e3:k=x.length:=by omega
     have e4:uu=x.length:=by omega
     rw [e1,e2] at CB;clear e1 e2 huk;subst e3 e4;go_region_held3 (fun _=>True) (trivial) (first | (go_at_call 73;have hh:=done1;refine (CB.out _ (jaf G1.out)).mono ?_;rintro e w' ⟨-,v,rfl,rfl,rfl⟩) | (go_at_call 73;refine (CF.out _ (jaf G1.out)).mono ?_;rintro e w' ⟨-,v,rfl,rfl,rfl⟩;have done1:True:=trivial) | fail);go_wp2;go_ret;exact jap E1.out (jaa (jaf G1.out) (jab _ _)) ⟨⟨_,2,2⟩,rfl,jbu _ [p1,p2] 3 (by simp) (fun y hy=>by simp at hy;omega)⟩
    ·rw [if_neg huk] at CB;go_region_held3 (fun _=>True) (trivial) (first | (go_at_call 73;have hh:=done1;refine (CB.out _ (jaf G1.out)).mono ?_;rintro e w' ⟨-,v,rfl,rfl,rfl⟩) | (go_at_call 73;refine (CF.out _ (jaf G1.out)).mono ?_;rintro e w' ⟨-,v,rfl,rfl,rfl⟩;have done1:True:=trivial) | fail);go_wp2;go_ret;exact jap E1.out (jaa (jaf G1.out) (jab _ _)) ⟨⟨_,2,2⟩,rfl,jbu _ [p1,p2] 3 (by simp) (fun y hy=>by simp at hy;omega)⟩
  ·have E1:Hid (jbG A x=.error 4):=by show _=_;rw [E0.out];simp [jal,h0,h1];rfl
   have b1:decide (y≤(x.length:Int))=false:=by simpa using h1
   go_wp2_with (first | (go_at_call 152;refine (FE.out _).mono ?_;rintro e w' ⟨rfl,rfl⟩) | (go_at_call 71;refine (jav _).mono ?_;rintro e w' ⟨rfl,rfl⟩));exact ⟨rfl,jai E1.out G1.out⟩
 ·have E1:Hid (jbG A x=.error 4):=by show _=_;rw [E0.out];simp [jal,h0];rfl
  go_wp2_with (first | (go_at_call 152;refine (FE.out _).mono ?_;rintro e w' ⟨rfl,rfl⟩) | (go_at_call 71;refine (jav _).mono ?_;rintro e w' ⟨rfl,rfl⟩));exact ⟨rfl,jai E1.out G1.out⟩
end Go.Proofs.YteigfipgmghgmaaGreatDoor
namespace Go.Proofs.YteigfipgmghgmaaGreatDoor
open Go.RowKit
theorem ja7 {a b:World} (h:a.grownBy b none) (n:Nat):a.grownBy (b.drewN n) none:=⟨h.os,h.tape,h.output,h.size,h.block⟩
theorem jjY {x al ss es:List Int} {k:Nat} (h1:k<al.length) (h2:k<ss.length) (h3:k<es.length) (dims:List Int):jcb x (al.drop k) (ss.drop k) (es.drop k) dims=(jd9 (al.getD k 0) x.length).bind (fun axis=>(jal (decide (ja9 (ss.getD k 0) (x.getD axis 0).toNat<ja9 (es.getD k 0) (x.getD axis 0).toNat))).bind (fun _=>jcb x (al.drop (k+1)) (ss.drop (k+1)) (es.drop (k+1)) (dims.set axis (ja9 (es.getD k 0) (x.getD axis 0).toNat - ja9 (ss.getD k 0) (x.getD axis 0).toNat)))):=by
 rw [jba al k h1,jba ss k h2,jba es k h3]
 rfl
theorem jfM (x:Int) (d:Nat):0≤ja9 x d∧ja9 x d≤d:=by
 unfold ja9
 split <;> split at*<;> omega
theorem jlZ (n:Nod) (A:At) (u:Sl) (x:List Int) (w:World) (hn:NodeOk w n A) (hx:IsInts w u.v x) (hf:Fine x):Calls Tryz.prog 116 #[jaz n,.slice u.a u.n u.c] w (jaJ w (jct A x) jbd):=by
 obtain ⟨ux,uc,eu,c1,c2,c3⟩:=hx.sl;obtain ⟨ua,un,uu⟩:=u;simp only [Sl.v,Value.slice.injEq] at eu;obtain ⟨rfl,rfl,rfl⟩:=eu;have HX:=jac hx;have FEW:=hf.few;have PB:Hid (∀ z∈x,1≤z∧z≤65536):=fun z hz=>⟨hf.pos z hz,hf.le_each hz⟩
 clear hx hf;have NK:=jac hn;obtain ⟨op,nam,⟨ia,il,ic⟩,out,⟨ao,al,cap⟩⟩:=n;unfold jaz;simp only;obtain ⟨w0,hw0⟩ : ∃ w0,w0=w.alloc (.cells #[.string op,.string nam,.slice ia il ic,.string out,.slice ao al cap] 25):=⟨_,rfl⟩
 have g0:Hid (w.grownBy w0 none):=by show w.grownBy w0 none;rw [hw0];exact jab _ _
 have hb0:=heap_alloc_new w (.cells #[.string op,.string nam,.slice ia il ic,.string out,.slice ao al cap] 25);rw [← hw0] at hb0;have BX:Hid (∀ wx,w0.grownBy wx none→wx.heap[w.heap.size]?=some (.cells #[.string op,.string nam,.slice ia il ic,.string out,.slice ao al cap] 25 (0,0))):=fun wx hg=>jag hb0 hg;clear hb0 hn;have NI:=jac (fun (wx:World) (nm:ByteArray) (hg:w.grownBy wx none)=>jbr ⟨op,nam,⟨ia,il,ic⟩,out,⟨ao,al,cap⟩⟩ A nm ⟨none,0,0⟩ [] wx (NK.out.more hg) ⟨none,0,rfl,Nat.le_refl _,by decide,by simp,fun _=>⟨rfl,rfl⟩,fun h=>(by simp at h),fun z hz=>(by simp at hz)⟩);have NU:=jac (fun (wx:World) (B r:Nat) (hg:w.grownBy wx none) (hB:IsInts wx (.slice (some ⟨B,0,none⟩) r r) (jdb r))=>jbr ⟨op,nam,⟨ia,il,ic⟩,out,⟨ao,al,cap⟩⟩ A ⟨#[97,120,101,115]⟩ ⟨some ⟨B,0,none⟩,r,r⟩ _ wx (NK.out.more hg) hB);have CL:=jac (fun (wx:World) (hg:w.grownBy wx none)=>jdX ⟨ua,x.length,uu⟩ x wx (HX.out.more hg));unfold jaz at NI NU;simp only at NI NU CL;obtain ⟨n0,n1,n2,n3,n4⟩:=jak (n:=⟨op,nam,⟨ia,il,ic⟩,out,⟨ao,al,cap⟩⟩) (BX.out w0 (jad _));go_enter Tryz.func116,Tryz.ntmps116;go_wp2_with fail;rw [← hw0];clear hw0;go_region_held3 (fun w'=>w'.cell? ⟨w.heap.size,0,none⟩=some (.string op)∧w'.cell? ⟨w.heap.size,1,none⟩=some (.string nam)∧w'.cell? ⟨w.heap.size,2,none⟩=some (.slice ia il ic)∧w'.cell? ⟨w.heap.size,3,none⟩=some (.string out)∧w'.cell? ⟨w.heap.size,4,none⟩=some (.slice ao al cap)) (go_keep) (first | (go_at_call 112;have hh:=done1;refine (NI.out _ _ (jaa g0.out g1)).mono ?_;rintro e w2 ⟨es,rfl,hes,hg2⟩;have g2:w0.grownBy w2 none:=jaa g1 hg2;obtain ⟨n0,n1,n2,n3,n4⟩:=jak (n:=⟨op,nam,⟨ia,il,ic⟩,out,⟨ao,al,cap⟩⟩) (BX.out w2 (g2))) | (go_at_call 112;refine (NI.out _ _ (jaa g0.out (jaf (jad _)))).mono ?_;rintro e w1 ⟨ss,rfl,hss,hg1⟩;have g1:w0.grownBy w1 none:=jaa (jaf (jad _)) hg1;obtain ⟨n0,n1,n2,n3,n4⟩:=jak (n:=⟨op,nam,⟨ia,il,ic⟩,out,⟨ao,al,cap⟩⟩) (BX.out w1 (g1));have done1:True:=trivial) | fail);obtain ⟨S,hS⟩ : ∃ S,S=A.ints ⟨#[115,116,97,114,116,115]⟩ []:=⟨_,rfl⟩
 obtain ⟨E,hE⟩ : ∃ E,E=A.ints ⟨#[101,110,100,115]⟩ []:=⟨_,rfl⟩
 rw [← hS] at hss;rw [← hE] at hes;have HSx:=jac hS;have HEx:=jac hE;clear hS hE;obtain ⟨sx,sc,es1,s1,s2,s3⟩:=hss.sl;obtain ⟨sa,sn,sv⟩:=ss;simp only [Sl.v,Value.slice.injEq] at es1;obtain ⟨rfl,rfl,rfl⟩:=es1;obtain ⟨ex,ec,ee1,e1,e2,e3⟩:=hes.sl;obtain ⟨ea,en,ev⟩:=es;simp only [Sl.v,Value.slice.injEq] at ee1;obtain ⟨rfl,rfl,rfl⟩:=ee1;simp only [Sl.v] at hss hes ⊢;have HSS:=jac (hss.more hg2);have HES:=jac hes;have G2:=jac g2;clear hss hes hg1 hg2 g1 g2 NI done1;go_wp2_with fail;go_region_held3 (fun w'=>w'.cell? ⟨w.heap.size,0,none⟩=some (.string op)∧w'.cell? ⟨w.heap.size,1,none⟩=some (.string nam)∧w'.cell? ⟨w.heap.size,2,none⟩=some (.slice ia il ic)∧w'.cell? ⟨w.heap.size,3,none⟩=some (.string out)∧w'.cell? ⟨w.heap.size,4,none⟩=some (.slice ao al cap)) (go_keep) (first | (go_at_call 145;refine (jhE S.length _ s3).mono ?_;rintro e w3 ⟨rfl,ho3,hg3⟩;have g3:w0.grownBy w3 none:=jaa (jaf G2.out) hg3;obtain ⟨n0,n1,n2,n3,n4⟩:=jak (n:=⟨op,nam,⟨ia,il,ic⟩,out,⟨ao,al,cap⟩⟩) (BX.out w3 (g3))) | (go_at_call 112;refine (NU.out _ _ S.length (jaa g0.out g3) (by have h:=ho3.ints (by rw [jbD];omega) (fun z hz=>by have:=jfK hz;omega);rw [jbD] at h;exact h)).mono ?_;rintro e w4 ⟨axl,rfl,hax,hg4⟩;have g4:w0.grownBy w4 none:=jaa g3 hg4;obtain ⟨n0,n1,n2,n3,n4⟩:=jak (n:=⟨op,nam,⟨ia,il,ic⟩,out,⟨ao,al,cap⟩⟩) (BX.out w4 (g4))) | fail);obtain ⟨L,hL⟩ : ∃ L,L=A.ints ⟨#[97,120,101,115]⟩ (jdb S.length):=⟨_,rfl⟩
 rw [← hL] at hax;obtain ⟨ax,ac,ae1,a1,a2,a3⟩:=hax.sl;obtain ⟨aa,an,av⟩:=axl;simp only [Sl.v,Value.slice.injEq] at ae1;obtain ⟨rfl,rfl,rfl⟩:=ae1;simp only [Sl.v] at hax ⊢;have HAX:=jac hax;have G4:=jac (jaa g0.out g4);have G24:Hid (w2.grownBy w4 none):=jaa (jaf (jad _)) (jaa hg3 hg4);have AX:=jac (jcC ⟨aa,L.length,av⟩ L x.length w4 hax (by omega));simp only at AX;have E0:Hid (jct A x=(jal (decide (S.length=E.length∧S.length=L.length))).bind (fun _=>(jb7 L x.length).bind (fun _=>jcb x L S E x))):=by show _=_;rw [hL,HSx.out,HEx.out];rfl
 clear hax ho3 hg3 hg4 g3 g4 n0 n1 n2 n3 n4 NU HSx HEx hL
 by_cases l1:S.length=E.length
 ·have b1:((S.length:Int)==(E.length:Int))=true:=by simp [l1]
  by_cases l2:S.length=L.length
  ·have b2:((S.length:Int)==(L.length:Int))=true:=by simp [l2]
   have E1:Hid (jct A x=(jb7 L x.length).bind (fun _=>jcb x L S E x)):=by show _=_;rw [E0.out];simp [jal,l1,l2.symm.trans l1];rfl
   have L1:=jac l1;have L2:=jac l2;clear l1 l2
   cases hk:jb7 L x.length with
   | error c =>
    rw [hk] at AX;have E2:Hid (jct A x=.error c):=by show _=_;rw [E1.out,hk];rfl
    clear hk;go_wp2_with (first | (go_at_call 71;refine (jaq _).mono ?_;rintro e w' ⟨rfl,rfl⟩) | (go_at_call 108;refine AX.out.mono ?_;rintro e w' ⟨hg,rfl⟩) | fail);exact ⟨rfl,jai E2.out (jaa G4.out hg)⟩
   | ok gone =>
    rw [hk] at AX;have ALL:=jac (jiO hk);have E2:Hid (jct A x=jcb x L S E x):=by show _=_;rw [E1.out,hk];rfl
    clear hk;go_wp2_with (first | (go_at_call 71;refine (jaq _).mono ?_;rintro e w' ⟨rfl,rfl⟩) | (go_at_call 108;refine AX.out.mono ?_;rintro e w5 ⟨hg5,v,rfl,B,rfl,-,-⟩) | (go_at_call 94;refine (CL.out w5 (jaa G4.out hg5)).mono ?_;rintro e w6 ⟨⟨qa,qn,qc⟩,rfl,ho,hg6⟩;simp only) | fail);have G5:=jac (jaa G4.out hg5);have G6:=jac (jaa (jaa G4.out hg5) hg6);have G46:=jac (jaa hg5 hg6);have HO:=jac (ho.base_le hg5.size);clear ho hg5 hg6 b1 b2 CL AX;go_loopw [44] (fun i wr=>∃ (k:Nat) (D:List Int),k≤L.length∧i=.int .i64 k∧Owns wr w4.heap.size (.slice qa qn qc) D∧D.length=x.length∧jcb x (L.drop k) (S.drop k) (E.drop k) D=jcb x L S E x∧(∀ z∈D,0≤z∧z≤65536)∧w4.grownBy wr none) (fun i _=>L.length - (intOf i).toNat)
    case atStart=>exact ⟨0,x,Nat.zero_le _,rfl,HO.out,rfl,by simp,fun z hz=>by have:=PB.out z hz;omega,G46.out⟩
    case round =>
     obtain ⟨k,D,hk,rfl,ho,hD,hst,hbd,hg⟩:=hrel;have HG:=jac hg;have HO1:=jac ho
     by_cases hkl:k<L.length
     ·obtain ⟨b,off,rfl,hc⟩:=HAX.out.get hkl;have hcell:wr.cell? ⟨b,off+k,none⟩=some (.int .i64 (L.getD k 0)):=jae (hc k hkl) hg;have hwfa:=HAX.out.wf (L.getD k 0) (by simp [List.getD,hkl]);have hsl:k<S.length:=by have:=L2.out;omega
      have hel:k<E.length:=by have:=L1.out;have:=L2.out;omega
      obtain ⟨b',off',rfl,hcs⟩:=HSS.out.get hsl;have hcs2:wr.cell? ⟨b',off'+k,none⟩=some (.int .i64 (S.getD k 0)):=jae (hcs k hsl) (jaa G24.out hg);have hwfs:=HSS.out.wf (S.getD k 0) (by simp [List.getD,hsl]);obtain ⟨b'',off'',rfl,hce⟩:=HES.out.get hel;have hce2:wr.cell? ⟨b'',off''+k,none⟩=some (.int .i64 (E.getD k 0)):=jae (hce k hel) (jaa G24.out hg);have hwfe:=HES.out.wf (E.getD k 0) (by simp [List.getD,hel]);obtain ⟨i,hi⟩:=ALL.out (L.getD k 0) (by simp [List.getD,hkl]);have hil:=jeF hi;obtain ⟨b3,off3,rfl,hcx⟩:=HX.out.get hil;have hcx2:wr.cell? ⟨b3,off3+i,none⟩=some (.int .i64 (x.getD i 0)):=jae (hcx i hil) (jaa G4.out hg);have hbx:=PB.out (x.getD i 0) (by simp [List.getD,hil]);rw [jjY hkl hsl hel] at hst;obtain ⟨a,ha0⟩ : ∃ a,a=L.getD k 0:=⟨_,rfl⟩
      obtain ⟨s,hs0⟩ : ∃ s,s=S.getD k 0:=⟨_,rfl⟩
      obtain ⟨t,ht0⟩ : ∃ t,t=E.getD k 0:=⟨_,rfl⟩
      obtain ⟨d,hd0⟩:=Int.eq_ofNat_of_zero_le (show 0≤x.getD i 0 by omega);have hax:jd9 a x.length=.ok i:=by unfold jd9;rw [ha0,hi]
      rw [← ha0] at hcell hwfa hst;rw [← hs0] at hcs2 hwfs hst;rw [← ht0] at hce2 hwfe hst;rw [hax] at hst;rw [hd0] at hcx2 hbx
      have hst2:(jal (decide (ja9 s d<ja9 t d))).bind (fun _=>jcb x (L.drop (k+1)) (S.drop (k+1)) (E.drop (k+1)) (D.set i (ja9 t d - ja9 s d)))=jcb x L S E x:=by
       rw [← hst];show _=(jal _).bind _;rw [hd0,Int.toNat_natCast]
      have AO:=jac (fun wx=>je2 a x.length wx (by omega) hwfa.1);rw [hax] at AO;have l1:=jfM s d;have l2:=jfM t d;obtain ⟨g,gcap,eo,hbg,hgl,hlc,hcm⟩:=ho.shape (by rw [hD];omega);simp only [Value.slice.injEq] at eo;obtain ⟨rfl,rfl,rfl⟩:=eo;have HDD:=jac hD;rw [hD] at hlc ⊢;clear hD;clear hc hcs hce hcx ha0 hs0 ht0 hd0 hst hi hax;go_wp2_with (first | (go_at_call 117;refine (AO.out _).mono ?_;rintro e w' ⟨-,v,rfl,rfl,rfl⟩) | fail)
      go_quiet (first | (go_at_call 149;refine (jjS _ _ _ (by omega) (by omega)).mono ?_;rintro e w' ⟨rfl,rfl⟩;exact ⟨rfl,_,rfl⟩) | fail)
      have gq:=ja7 (jad wr) nq;have hoq:=ho.new gq;obtain ⟨cc,fc⟩:=hoq.cells (k:=i) (by rw [HDD.out];exact hil);have hq:=jaa hg gq;obtain ⟨wq,hwq⟩ : ∃ wq,wq=wr.drewN nq:=⟨_,rfl⟩
      rw [← hwq] at hoq cc fc hq ⊢;clear hwq gq hcell hcs2 hce2 hcx2;obtain ⟨p,hp0⟩ : ∃ p,p=ja9 s d:=⟨_,rfl⟩
      obtain ⟨q,hq0⟩ : ∃ q,q=ja9 t d:=⟨_,rfl⟩
      rw [← hp0] at hst2 l1 ⊢;rw [← hq0] at hst2 l2 ⊢;clear hp0 hq0
      by_cases hpq:p<q
      ·obtain ⟨so,sg⟩:=hoq.put i (q - p) (by omega);have SO:=jac so;have SG:=jac (jaG hq sg hbg);have HST:Hid (jcb x (L.drop (k+1)) (S.drop (k+1)) (E.drop (k+1)) (D.set i (q - p))=jcb x L S E x):=by show _=_;rw [← hst2];simp [jal,hpq];rfl
       have HB:Hid (∀ z∈D.set i (q - p),0≤z∧z≤65536):=fun z hz=>by
        rcases List.mem_or_eq_of_mem_set hz with h1 | rfl
        ·exact hbd z h1
        ·omega
       clear hst2 hbd ho hoq hg hq so sg;go_wp2_with (first | (go_at_call 71;refine (jaq _).mono ?_;rintro e w' ⟨rfl,rfl⟩) | fail);go_roundw
       case rel=>exact ⟨k+1,_,by omega,by go_num,by have h:=SO.out;rw [HDD.out] at h;exact h,by rw [List.length_set];exact HDD.out,HST.out,HB.out,SG.out⟩
       case measure=>simp [intOf];omega
      ·have E3:Hid (jct A x=.error 4):=by show _=_;rw [E2.out,← hst2];simp [jal,hpq];rfl
       have HQ:=jac hq;clear hst2 hbd ho hoq hg hq;go_wp2_with (first | (go_at_call 71;refine (jav _).mono ?_;rintro e w' ⟨rfl,rfl⟩) | fail);exact ⟨rfl,jai E3.out (jaa G4.out HQ.out)⟩
     ·have E3 : Hid (jct A x = .ok D) := by
        show _=_;rw [E2.out,← hst,List.drop_of_length_le (l:=L) (by omega)];simp [jcb]
      clear hst hbd ho hg;go_wp2;go_ret;exact jap E3.out (jaa G4.out HG.out) ⟨⟨qa,qn,qc⟩,rfl,HO1.out.ints⟩
  ·have b2:((S.length:Int)==(L.length:Int))=false:=by simpa using (fun h=>l2 (by omega):¬ (S.length:Int)=L.length)
   have E1:Hid (jct A x=.error 4):=by show _=_;rw [E0.out];simp [jal,l2];rfl
   clear l1 l2;go_wp2_with (first | (go_at_call 71;refine (jav _).mono ?_;rintro e w' ⟨rfl,rfl⟩) | fail);exact ⟨rfl,jai E1.out G4.out⟩
 ·have b1:((S.length:Int)==(E.length:Int))=false:=by simpa using (fun h=>l1 (by omega):¬ (S.length:Int)=E.length)
  have E1:Hid (jct A x=.error 4):=by show _=_;rw [E0.out];simp [jal,l1];rfl
  clear l1;go_wp2_with (first | (go_at_call 71;refine (jav _).mono ?_;rintro e w' ⟨rfl,rfl⟩) | fail);exact ⟨rfl,jai E1.out G4.out⟩
end Go.Proofs.YteigfipgmghgmaaGreatDoor
