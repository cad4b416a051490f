/- A part. -/
import Derived.Test.YtekocmdfaaoggaaGreatDoorTartAN
import Derived.BigQuiet
import Derived.Deep.RegionWith
set_option maxRecDepth 100000
namespace Go.Proofs.YtekocmdfaaoggaaGreatDoor
open Go.RowKit
structure NodeOk (w:World) (n:Nod) (A:At):Prop where
 op:A.op=n.op
 attrs:jbu w n.av.v A.xs
 has:∀ (j:Nat) (a:Atr),A.xs[j]?=some a→∃ c,A.cs[j]?=some c∧Has w a c
 rng:∀ a∈A.xs,-9223372036854775808≤a.i∧a.i≤9223372036854775807
theorem NodeOk.more {w w':World} {n:Nod} {A:At} (h:NodeOk w n A) (hg:w.grownBy w' none):NodeOk w' n A :=
 ⟨h.op,h.attrs.more hg,fun j a e=>by obtain ⟨c,e1,e2⟩:=h.has j a e;exact ⟨c,e1,e2.more hg⟩,h.rng⟩
theorem NodeOk.int {w:World} {n:Nod} {A:At} (h:NodeOk w n A) (nm:ByteArray) (z:Int) (hz : -9223372036854775808≤z∧z≤9223372036854775807) : -9223372036854775808≤A.int nm z∧A.int nm z≤9223372036854775807:=by
 unfold At.int jn2
 cases hf:A.xs.find? (isA nm 2) with
 | none=>exact hz
 | some a=>exact h.rng a (List.mem_of_find?_eq_some hf)
theorem jj2 {w:World} {base:Nat} {v:Value} {zs:List Int} {te:TypeId} (h:ja5 te 1 jcX w base v zs) (hl:zs.length*8≤140737488351232) (hz:∀ z∈zs,-9223372036854775808≤z∧z≤9223372036854775807):jak w v zs:=by
 obtain ⟨ao,cap,rfl,h1,h2,h3,h4,h5⟩:=ja5.isL (bytes:=8) jdL h hl;refine ⟨ao,cap,rfl,h1,h2,hl,h4,fun hp=>?_,hz⟩;obtain ⟨b,off,rfl,hc⟩:=h5 hp;refine ⟨b,off,rfl,fun k hk=>?_⟩;have:=(hc k hk 0 (by omega)).1;rw [Nat.mul_one,Nat.add_zero] at this;rw [this];simp [jcX,List.getD,hk]
theorem jbp (n:Nod) (A:At) (nm:ByteArray) (other:Sl) (zs:List Int) (w:World) (hn:NodeOk w n A) (ho:jak w other.v zs) :
    Calls Tryz.prog 75 #[jax n,.string nm,.slice other.a other.n other.c] w fun e w'=>∃ u:Sl,e=.returned u.v∧jak w' u.v (A.ints nm zs)∧w.grownBy w' none:=by
     refine (jlt n A.xs A.cs nm other zs w hn.attrs hn.has ho).mono ?_;rintro e w' ⟨u,rfl,hu,hg⟩;refine ⟨u,rfl,?_,hg⟩
     have hb:∃ v,jak w v (A.ints nm zs):=by
      unfold At.ints jfI
      rcases jde (P:=isA nm 7) hn.has with ⟨e1,e2⟩ | ⟨a,c,e1,e2,e3⟩
      ·rw [e2];exact ⟨_,ho⟩
      ·rw [e2];exact ⟨_,e3.i⟩
     obtain ⟨v,hb⟩:=hb;exact jj2 hu hb.le hb.wf
theorem jbP (n:Nod) (A:At) (nm:ByteArray) (z:Int) (w:World) (hn:NodeOk w n A) :
    Calls Tryz.prog 74 #[jax n,.string nm,.int .i64 z] w fun e w'=>e=.returned (.int .i64 (A.int nm z))∧w.grownBy w' none :=
     jn3 n A.xs A.cs nm z w hn.attrs hn.has
def jfy (te:TypeId) (w:World) (base B:Nat) (zs:List Int):Prop:=w.ownsRow base te 1 (.slice (some ⟨B,0,none⟩) zs.length zs.length) zs.length (zs.map (Value.int .i64))
theorem jfy.at {te:TypeId} {w:World} {base B:Nat} {zs:List Int} (h:jfy te w base B zs) {k:Nat} (hk:k<zs.length):w.cell? ⟨B,k,none⟩=some (.int .i64 (zs.getD k 0))∧w.frozen? ⟨B,k,none⟩=false:=by
 refine ⟨?_,World.ownsRow.frozenAt h k⟩;rw [World.ownsRow.cellAt h k (by omega),List.getElem?_map];simp [List.getD,hk]
theorem jfy.set {te:TypeId} {w:World} {base B:Nat} {zs:List Int} (h:jfy te w base B zs) (k:Nat) (x:Int):jfy te (w.setCell ⟨B,k,none⟩ (.int .i64 x)) base B (zs.set k x)∧w.grownBy (w.setCell ⟨B,k,none⟩ (.int .i64 x)) (some B):=by
 have s:=World.ownsRow.stored h k (.int .i64 x);rw [← List.map_set] at s;refine ⟨?_,s.2⟩;unfold jfy;rw [List.length_set];exact s.1
theorem jfy.new {te:TypeId} {w w':World} {base B:Nat} {zs:List Int} (h:jfy te w base B zs) (hg:w.grownBy w' none):jfy te w' base B zs:=World.ownsRow.kept h hg (.inr (by simp [Value.ownBlock]))
theorem jfy.ints {te:TypeId} {w:World} {base B:Nat} {zs:List Int} (h:jfy te w base B zs) (hl:zs.length*8≤140737488351232) (hz:∀ z∈zs,-9223372036854775808≤z∧z≤9223372036854775807):jak w (.slice (some ⟨B,0,none⟩) zs.length zs.length) zs:=by
 refine ⟨_,_,rfl,Nat.le_refl _,by omega,hl,(fun h=>by cases h),fun _=>⟨_,_,rfl,fun k hk=>?_⟩,hz⟩;rw [Nat.zero_add];exact (h.at hk).1
theorem jfy.base_le {te:TypeId} {w:World} {base b' B:Nat} {zs:List Int} (h:jfy te w base B zs) (hb:b'≤base):jfy te w b' B zs:=by
 refine ⟨h.1,?_⟩
 rcases h.2 with h0 | ⟨g,cap,cur,e,hg,r⟩
 ·exact .inl h0
 ·exact .inr ⟨g,cap,cur,e,by omega,r⟩
theorem jhp (n:Nat) (hn:n*8≤140737488351232):∃ M:Array Value,(∀ W:World,(Instr.makeSlice 30 (.int .i64 (n:Int)) (.int .i64 (n:Int))).run Tryz.prog W=.ok (.slice (some ⟨W.heap.size,0,none⟩) n n) (W.alloc (.cells M 2))) ∧
    ∀ (W:World) (base:Nat),base≤W.heap.size→jfy 2 (W.alloc (.cells M 2)) base W.heap.size (List.replicate n 0):=by
     obtain ⟨j0,hj,jz0,jz1,jz2⟩:=info_parts jlc;obtain ⟨M1,hM1⟩ : ∃ M,M=madeCells (Value.int .i64 0).cells (((n:Nat):Int).toNat*j0.size):=⟨_,rfl⟩
     have E1:M1.toList=List.replicate n (.int .i64 0):=by rw [hM1,jz1,Nat.mul_one,show (Value.int .i64 0).cells=#[Value.int .i64 0] from rfl,toList_madeCells_one];simp
     refine ⟨M1,fun W=>?_,fun W base hb=>?_⟩
     ·have h:=Go.run_make (P:=Tryz.prog) W 30 2 j0 (.int .i64 0) Tryz.underlying30 hj jz0 .i64 .i64 (n:Int) (n:Int) (by omega) (by omega) (by rw [jz2];omega) (by omega);rw [← hM1] at h;simpa using h
     ·unfold jfy;rw [List.length_replicate,List.map_replicate];refine ⟨by simp,Or.inr ⟨W.heap.size,n,M1,rfl,hb,heap_alloc_new W _,Nat.le_refl _,by simp only [maxLen];omega,?_,?_⟩⟩
      ·rw [← Array.length_toList,E1,List.length_replicate,Nat.mul_one]
      ·rw [E1,List.take_of_length_le (by simp)]
theorem jbz (n:Nat):(jcM n).length=n:=by simp [jcM]
theorem jeZ {n:Nat} {z:Int} (h:z∈jcM n):0≤z∧z<n:=by
 unfold jcM at h;obtain ⟨i,hi,rfl⟩:=List.mem_map.1 h;have:=List.mem_range.1 hi;simp only [Int.ofNat_eq_natCast];omega
def upK (n k:Nat):List Int:=jcM k++List.replicate (n - k) 0
theorem jp3 {n k:Nat} (hk:k<n):(upK n k).set k (k:Int)=upK n (k+1):=by
 unfold upK;rw [List.set_append_right _ _ (by rw [jbz];omega),jbz,Nat.sub_self,show n - k=(n - (k+1))+1 by omega,List.replicate_succ,List.set_cons_zero];unfold jcM;rw [List.range_succ,List.map_append];simp
theorem jp4 {n k:Nat} (hk:k≤n):(upK n k).length=n:=by
 unfold upK;rw [List.length_append,jbz,List.length_replicate];omega
theorem jgE (n:Nat) (w:World) (hn:n*8≤140737488351232):Calls Tryz.prog 76 #[.int .i64 n] w fun e w'=>e=.returned (.slice (some ⟨w.heap.size,0,none⟩) n n)∧jfy 2 w' w.heap.size w.heap.size (jcM n)∧w.grownBy w' none:=by
 obtain ⟨M,mk1,OW⟩:=jhp n hn;have O0:=jac (OW w w.heap.size (Nat.le_refl _));clear OW;go_enter Tryz.func76,Tryz.ntmps76;go_wp2_with fail;clear mk1;go_loopw [9] (fun i wr=>∃ k:Nat,k≤n∧i=.int .i64 k∧jfy 2 wr w.heap.size w.heap.size (upK n k)∧w.grownBy wr none) (fun i _=>n - (intOf i).toNat)
 case atStart=>exact ⟨0,Nat.zero_le _,rfl,O0.out,jab _ _⟩
 case round =>
  obtain ⟨k,hk,rfl,ho,hg⟩:=hrel;have HO:=jac ho;have HG:=jac hg
  by_cases hkl:k<n
  ·obtain ⟨c1,c2⟩:=ho.at (k:=k) (by rw [jp4 hk];exact hkl);obtain ⟨so,sg⟩:=ho.set k (k:Int);rw [jp3 hkl] at so;have SO:=jac so;have SG:=jac (jav hg sg (fun r e=>by cases e;exact Nat.le_refl _));clear so sg ho hg;go_wp2;go_roundw
   case rel=>exact ⟨k+1,by omega,by go_num,SO.out,SG.out⟩
   case measure=>simp [intOf];omega
  ·have hkk:k=n:=by omega
   subst hkk;have E:upK k k=jcM k:=by simp [upK]
   rw [E] at HO;clear ho hg hk hkl;go_wp2;go_ret;exact ⟨rfl,HO.out,HG.out⟩
theorem jhq (n:Nod) (A:At) (w:World) (hn:NodeOk w n A):Calls Tryz.prog 156 #[jax n] w fun e w'=>∃ u:Sl,e=.returned u.v∧jak w' u.v (A.ints ⟨#[115,116,114,105,100,101,115]⟩ [1,1])∧w.grownBy w' none:=by
 have NK:=jac hn;obtain ⟨op,nam,⟨ia,il,ic⟩,out,⟨ao,al,cap⟩⟩:=n;unfold jax;simp only;obtain ⟨w0,hw0⟩ : ∃ w0,w0=w.alloc (.cells #[.string op,.string nam,.slice ia il ic,.string out,.slice ao al cap] 25):=⟨_,rfl⟩
 have g0:Hid (w.grownBy w0 none):=by show w.grownBy w0 none;rw [hw0];exact jab _ _
 have hb0:=heap_alloc_new w (.cells #[.string op,.string nam,.slice ia il ic,.string out,.slice ao al cap] 25);rw [← hw0] at hb0;have BX:Hid (∀ wx,w0.grownBy wx none→wx.heap[w.heap.size]?=some (.cells #[.string op,.string nam,.slice ia il ic,.string out,.slice ao al cap] 25 (0,0))):=fun wx hg=>jaf hb0 hg;clear hb0 hn;obtain ⟨n0,n1,n2,n3,n4⟩:=jai (n:=⟨op,nam,⟨ia,il,ic⟩,out,⟨ao,al,cap⟩⟩) (BX.out w0 (jae _));obtain ⟨w1,hw1⟩ : ∃ w1,w1=w0.alloc (.cells #[.int .i64 1,.int .i64 1] 2):=⟨_,rfl⟩
 have g1:Hid (w.grownBy w1 none):=by show w.grownBy w1 none;rw [hw1];exact jaa g0.out (jab _ _)
 have C:=jac (jbp ⟨op,nam,⟨ia,il,ic⟩,out,⟨ao,al,cap⟩⟩ A ⟨#[115,116,114,105,100,101,115]⟩ ⟨some ⟨w0.heap.size,0,none⟩,2,2⟩ [1,1] w1 (NK.out.more g1.out) (by rw [hw1];exact jbo w0 [1,1] 2 (by decide) (by decide)));unfold jax at C;simp only at C;rw [show w0.heap.size=w.heap.size+1 by rw [hw0];simp] at C;clear n0 n1 n2 n3 n4;go_enter Tryz.func156,Tryz.ntmps156;go_wp2_with fail;rw [← hw0,← hw1];refine C.out.mono ?_;rintro e w' ⟨u,rfl,hu,hg⟩;go_wp2;go_ret;exact ⟨u,rfl,hu,jaa g1.out hg⟩
theorem jgF (n:Nod) (A:At) (w:World) (hn:NodeOk w n A):Calls Tryz.prog 157 #[jax n] w fun e w'=>∃ u:Sl,e=.returned u.v∧jak w' u.v (A.ints ⟨#[100,105,108,97,116,105,111,110,115]⟩ [1,1])∧w.grownBy w' none:=by
 have NK:=jac hn;obtain ⟨op,nam,⟨ia,il,ic⟩,out,⟨ao,al,cap⟩⟩:=n;unfold jax;simp only;obtain ⟨w0,hw0⟩ : ∃ w0,w0=w.alloc (.cells #[.string op,.string nam,.slice ia il ic,.string out,.slice ao al cap] 25):=⟨_,rfl⟩
 have g0:Hid (w.grownBy w0 none):=by show w.grownBy w0 none;rw [hw0];exact jab _ _
 have hb0:=heap_alloc_new w (.cells #[.string op,.string nam,.slice ia il ic,.string out,.slice ao al cap] 25);rw [← hw0] at hb0;have BX:Hid (∀ wx,w0.grownBy wx none→wx.heap[w.heap.size]?=some (.cells #[.string op,.string nam,.slice ia il ic,.string out,.slice ao al cap] 25 (0,0))):=fun wx hg=>jaf hb0 hg;clear hb0 hn;obtain ⟨n0,n1,n2,n3,n4⟩:=jai (n:=⟨op,nam,⟨ia,il,ic⟩,out,⟨ao,al,cap⟩⟩) (BX.out w0 (jae _));obtain ⟨w1,hw1⟩ : ∃ w1,w1=w0.alloc (.cells #[.int .i64 1,.int .i64 1] 2):=⟨_,rfl⟩
 have g1:Hid (w.grownBy w1 none):=by show w.grownBy w1 none;rw [hw1];exact jaa g0.out (jab _ _)
 have C:=jac (jbp ⟨op,nam,⟨ia,il,ic⟩,out,⟨ao,al,cap⟩⟩ A ⟨#[100,105,108,97,116,105,111,110,115]⟩ ⟨some ⟨w0.heap.size,0,none⟩,2,2⟩ [1,1] w1 (NK.out.more g1.out) (by rw [hw1];exact jbo w0 [1,1] 2 (by decide) (by decide)));unfold jax at C;simp only at C;rw [show w0.heap.size=w.heap.size+1 by rw [hw0];simp] at C;clear n0 n1 n2 n3 n4;go_enter Tryz.func157,Tryz.ntmps157;go_wp2_with fail;rw [← hw0,← hw1];refine C.out.mono ?_;rintro e w' ⟨u,rfl,hu,hg⟩;go_wp2;go_ret;exact ⟨u,rfl,hu,jaa g1.out hg⟩
theorem jn5 (n:Nod) (A:At) (w:World) (hn:NodeOk w n A):Calls Tryz.prog 158 #[jax n] w fun e w'=>∃ u:Sl,e=.returned u.v∧jak w' u.v (A.ints ⟨#[112,97,100,115]⟩ [0,0,0,0])∧w.grownBy w' none:=by
 have NK:=jac hn;obtain ⟨op,nam,⟨ia,il,ic⟩,out,⟨ao,al,cap⟩⟩:=n;unfold jax;simp only;obtain ⟨w0,hw0⟩ : ∃ w0,w0=w.alloc (.cells #[.string op,.string nam,.slice ia il ic,.string out,.slice ao al cap] 25):=⟨_,rfl⟩
 have g0:Hid (w.grownBy w0 none):=by show w.grownBy w0 none;rw [hw0];exact jab _ _
 have hb0:=heap_alloc_new w (.cells #[.string op,.string nam,.slice ia il ic,.string out,.slice ao al cap] 25);rw [← hw0] at hb0;have BX:Hid (∀ wx,w0.grownBy wx none→wx.heap[w.heap.size]?=some (.cells #[.string op,.string nam,.slice ia il ic,.string out,.slice ao al cap] 25 (0,0))):=fun wx hg=>jaf hb0 hg;clear hb0 hn;obtain ⟨n0,n1,n2,n3,n4⟩:=jai (n:=⟨op,nam,⟨ia,il,ic⟩,out,⟨ao,al,cap⟩⟩) (BX.out w0 (jae _));obtain ⟨M,mk0,OW⟩:=jhp 4 (by decide);have mk1:∀ W:World,(Instr.makeSlice 30 (.int .i64 4) (.int .i64 4)).run Tryz.prog W=.ok (.slice (some ⟨W.heap.size,0,none⟩) 4 4) (W.alloc (.cells M 2)):=mk0;clear mk0;have C:=jac (fun (wx:World) (B:Nat) (hg:w.grownBy wx none) (hB:jak wx (.slice (some ⟨B,0,none⟩) 4 4) [0,0,0,0])=>jbp ⟨op,nam,⟨ia,il,ic⟩,out,⟨ao,al,cap⟩⟩ A ⟨#[112,97,100,115]⟩ ⟨some ⟨B,0,none⟩,4,4⟩ [0,0,0,0] wx (NK.out.more hg) hB);unfold jax at C;simp only at C;have OI:Hid (∀ W:World,jak (W.alloc (.cells M 2)) (.slice (some ⟨W.heap.size,0,none⟩) 4 4) [0,0,0,0]):=fun W=>(OW W 0 (Nat.zero_le _)).ints (by decide) (by decide);clear OW;go_enter Tryz.func158,Tryz.ntmps158;go_wp2_with fail;rw [← hw0];clear hw0;go_region_held3 (fun w'=>w'.cell? ⟨w.heap.size,0,none⟩=some (.string op)∧w'.cell? ⟨w.heap.size,1,none⟩=some (.string nam)∧w'.cell? ⟨w.heap.size,2,none⟩=some (.slice ia il ic)∧w'.cell? ⟨w.heap.size,3,none⟩=some (.string out)∧w'.cell? ⟨w.heap.size,4,none⟩=some (.slice ao al cap)) (go_keep) (first | (go_at_call 75;refine (C.out _ _ (jag (jaa g0.out (jab _ _))) ((OI.out w0).more (jag (jae _)))).mono ?_;rintro e w' ⟨u,rfl,hu,hg⟩;have g2:w0.grownBy w' none:=jaa (jag (jab _ _)) hg;obtain ⟨n0,n1,n2,n3,n4⟩:=jai (n:=⟨op,nam,⟨ia,il,ic⟩,out,⟨ao,al,cap⟩⟩) (BX.out w' (g2))) | fail);go_wp2;go_ret;exact ⟨u,rfl,hu,jaa g0.out g2⟩
theorem jfY {l:List Int} {k:Nat} {least z:Int} (hk:k<l.length) (hz:z=l.getD k 0) (h:¬ (least≤z∧z≤100)):l.all (fun x=>decide (least≤x∧x≤100))=false:=by
 rw [List.all_eq_false];refine ⟨z,?_,by simpa using h⟩;rw [hz];simp [List.getD,hk]
theorem jio {l:List Int} {least:Int} (h:∀ t,t<l.length→least≤l.getD t 0∧l.getD t 0≤100):l.all (fun x=>decide (least≤x∧x≤100))=true:=by
 rw [List.all_eq_true];intro z hz;obtain ⟨t,ht,rfl⟩:=List.mem_iff_getElem.1 hz;have:=h t ht;simpa [List.getD,ht] using this
theorem jdf {l zs:List Int} {many:Nat} {least:Int} (h:ja1 l many least=.ok zs):zs=l∧zs.length=many∧∀ z∈zs,least≤z∧z≤100:=by
 unfold ja1 jal at h
 by_cases h1:l.length=many
 ·by_cases h2:l.all (fun x=>decide (least≤x∧x≤100))=true
  ·rw [if_pos (by simpa using h1),if_pos h2] at h;have e:l=zs:=by simpa [bind,Except.bind,pure,Except.pure] using h
   subst e;exact ⟨rfl,h1,fun z hz=>by simpa using List.all_eq_true.1 h2 z hz⟩
  ·rw [if_pos (by simpa using h1),if_neg h2] at h;simp [bind,Except.bind] at h
 ·rw [if_neg (by simpa using h1)] at h;simp [bind,Except.bind] at h
theorem jdg (u:Sl) (l:List Int) (many:Nat) (least:Int) (w:World) (hv:jak w u.v l) (_hm:many≤1000):Calls Tryz.prog 146 #[.slice u.a u.n u.c,.int .i64 many,.int .i64 least] w (jaF w (ja1 l many least) fun zs v w'=>v=u.v∧zs=l∧w=w'):=by
 obtain ⟨a,c,e,c1,c2,c3⟩:=hv.sl;obtain ⟨ua,un,uc⟩:=u;simp only [Sl.v,Value.slice.injEq] at e;obtain ⟨rfl,rfl,rfl⟩:=e;have HV:=jac hv;clear hv
 by_cases hl:l.length=many
 ·have b0:((l.length:Int)==(many:Int))=true:=by simp [hl]
  have E:Hid (ja1 l many least=(do jal (l.all (fun x=>decide (least≤x∧x≤100)));return l)):=by show ja1 l many least=_;unfold ja1 jal;simp [hl];rfl
  clear hl;go_enter Tryz.func146,Tryz.ntmps146;go_wp2_with (go_at_call 65;refine (jap _).mono ?_;rintro e w' ⟨rfl,rfl⟩);go_loopw [16] (fun i wr=>w=wr∧∃ k:Nat,k≤l.length∧i=.int .i64 k∧∀ t,t<k→least≤l.getD t 0∧l.getD t 0≤100) (fun i _=>l.length - (intOf i).toNat)
  case atStart=>exact ⟨rfl,0,Nat.zero_le _,rfl,fun t h=>absurd h (by omega)⟩
  case round =>
   obtain ⟨hw,k,hk,rfl,hp⟩:=hrel;subst hw;have HP:=jac hp;clear hp b0
   by_cases hkl:k<l.length
   ·obtain ⟨b,off,rfl,hc⟩:=HV.out.get hkl;have hcell:=hc k hkl;obtain ⟨z,hz0⟩ : ∃ z,z=l.getD k 0:=⟨_,rfl⟩
    rw [← hz0] at hcell;have HZ:=jac hz0;clear hc hz0
    by_cases h1:least≤z
    ·by_cases h2:z≤100
     ·go_wp2_with (go_at_call 65;refine (jap _).mono ?_;rintro e w' ⟨rfl,rfl⟩);go_roundw
      case rel =>
       refine ⟨by trivial,k+1,by omega,by go_num,fun t ht=>?_⟩
       rcases jaP ht with h | rfl
       ·exact HP.out t h
       ·rw [← HZ.out];exact ⟨h1,h2⟩
      case measure=>simp [intOf];omega
     ·have E2:Hid (ja1 l many least=.error 4):=by show ja1 l many least=_;rw [E.out,jfY hkl HZ.out (fun h=>h2 h.2)];rfl
      go_wp2_with (go_at_call 65;refine (jaw _).mono ?_;rintro e w' ⟨rfl,rfl⟩);exact ⟨rfl,jah E2.out (jae _)⟩
    ·have E2:Hid (ja1 l many least=.error 4):=by show ja1 l many least=_;rw [E.out,jfY hkl HZ.out (fun h=>h1 h.1)];rfl
     go_wp2_with (go_at_call 65;refine (jaw _).mono ?_;rintro e w' ⟨rfl,rfl⟩);exact ⟨rfl,jah E2.out (jae _)⟩
   ·have E2:Hid (ja1 l many least=.ok l):=by show ja1 l many least=_;rw [E.out,jio (fun t ht=>HP.out t (by omega))];rfl
    go_wp2;go_ret;exact jao E2.out (jae _) ⟨rfl,rfl,rfl⟩
 ·have b0:((l.length:Int)==(many:Int))=false:=by simpa using (fun h=>hl (by omega):¬ (l.length:Int)=many)
  have E:Hid (ja1 l many least=.error 4):=by show ja1 l many least=_;unfold ja1 jal;simp [hl];rfl
  rw [E.out];clear hl E;go_enter Tryz.func146,Tryz.ntmps146;go_wp2_with (go_at_call 65;refine (jaw _).mono ?_;rintro e w' ⟨rfl,rfl⟩);exact ⟨rfl,jae _,rfl⟩
theorem jfZ (n:Nod) (A:At) (w:World) (hn:NodeOk w n A):Calls Tryz.prog 147 #[jax n] w (jaF w (jeb A) fun zs v w'=>∃ u:Sl,v=u.v∧jak w' u.v zs∧zs.length=4∧∀ z∈zs,0≤z∧z≤100):=by
 have NK:=jac hn;obtain ⟨op,nam,⟨ia,il,ic⟩,out,⟨ao,al,cap⟩⟩:=n;unfold jax;simp only;obtain ⟨w0,hw0⟩ : ∃ w0,w0=w.alloc (.cells #[.string op,.string nam,.slice ia il ic,.string out,.slice ao al cap] 25):=⟨_,rfl⟩
 have g0:Hid (w.grownBy w0 none):=by show w.grownBy w0 none;rw [hw0];exact jab _ _
 have hb0:=heap_alloc_new w (.cells #[.string op,.string nam,.slice ia il ic,.string out,.slice ao al cap] 25);rw [← hw0] at hb0;have BX:Hid (∀ wx,w0.grownBy wx none→wx.heap[w.heap.size]?=some (.cells #[.string op,.string nam,.slice ia il ic,.string out,.slice ao al cap] 25 (0,0))):=fun wx hg=>jaf hb0 hg;clear hb0 hn;have C:=jac (jn5 ⟨op,nam,⟨ia,il,ic⟩,out,⟨ao,al,cap⟩⟩ A w0 (NK.out.more g0.out));unfold jax at C;simp only at C;go_enter Tryz.func147,Tryz.ntmps147;go_wp2_with fail;rw [← hw0];clear hw0;refine C.out.mono ?_;rintro e w1 ⟨u,rfl,hu,hg⟩;have W:=jac (jdg u _ 4 0 w1 hu (by decide));have HU:=jac hu;have HG:=jac (jaa g0.out hg);clear hu hg
 cases hr:ja1 (A.ints ⟨#[112,97,100,115]⟩ [0,0,0,0]) 4 0 with
 | error c =>
  rw [hr] at W;have E:Hid (jeb A=.error c):=hr;clear hr;go_wp2_with (go_at_call 146;refine W.out.mono ?_;rintro e w' ⟨hg,rfl⟩);exact ⟨rfl,jah E.out (jaa HG.out hg)⟩
 | ok zs =>
  rw [hr] at W;have E:Hid (jeb A=.ok zs):=hr;have B:=jac (jdf hr);clear hr;go_wp2_with (go_at_call 146;refine W.out.mono ?_;rintro e w' ⟨hg,v,rfl,rfl,rfl,rfl⟩);go_ret;exact jao E.out HG.out ⟨u,rfl,HU.out,B.out.2.1,fun z hz=>B.out.2.2 z hz⟩
end Go.Proofs.YtekocmdfaaoggaaGreatDoor
namespace Go.Proofs.YtekocmdfaaoggaaGreatDoor
open Go.RowKit
theorem jly (x:Int) : -1073741824≤jbx x∧jbx x≤1073741824:=by
 unfold jbx
 split <;> split at*<;> omega
theorem jba {w0 : World} {ops : Array Oper} {rest : List Oper} {o : Oper} {a : Act} {Q : Exit → Act → World → Prop} (hgd : o.guard = none) (s x : Operand)
    (ho:o.op=.call { callee:=.builtin .append,args:=#[s,x],argTypes:=#[29,29] })
    (base:Nat) (v:Value) (xs:List Int) (hs:a.eval s=v) (hown:Owns w0 base v xs) (z:Int) (hx:a.eval x=.slice (some ⟨w0.heap.size,0,none⟩) 1 1)
    (hz : -9223372036854775808≤z∧z≤9223372036854775807) (hbytes:(xs.length+1)*8≤140737488351232) (hbase:base≤w0.heap.size)
    (h:∀ v' w',Owns w' base v' (xs++[z])→(∀ r:World,r.heap.size≤base→r.grownBy w0 none→r.grownBy w' none)→wpList Tryz.prog ops Q rest (a.put o.dst v') w'):wpList Tryz.prog ops Q (o::rest) a (w0.alloc (.cells #[.int .i64 z] 3)):=by
     have hi:jak (w0.alloc (.cells #[.int .i64 z] 3)) (.slice (some ⟨w0.heap.size,0,none⟩) 1 1) [z]:=jbo w0 [z] 3 (by simp) (fun y hy=>by simp at hy;subst hy;exact hz);refine jdc hgd s x ho base v xs hs (hown.new (jab _ _)) _ [z] hx hi (by simpa using hbytes) (by simp;omega) ?_;intro v' w' ho' hg;refine h v' w' ho' (fun r hr hrg=>jav (jaa hrg (jab _ _)) hg (fun b e=>?_));have:=(hown.lt b e).1;omega
theorem jj3 (v:Value) (l:List Int) (w:World) (hv:jak w v l):Calls Tryz.prog 98 #[v] w fun e w'=>∃ u:Sl,e=.returned u.v∧jak w' u.v (l.map jbx)∧w.grownBy w' none:=by
 obtain ⟨a,c,rfl,c1,c2,c3⟩:=hv.sl;have HV:=jac hv;clear hv;go_enter Tryz.func98,Tryz.ntmps98;go_wp2;go_loopw [3,8] (fun s i wr=>∃ (k:Nat) (u:Sl),k≤l.length∧i=.int .i64 k∧s=.slice u.a u.n u.c∧Owns wr w.heap.size u.v ((l.take k).map jbx)∧w.grownBy wr none) (fun _ i _=>l.length - (intOf i).toNat)
 case atStart=>exact ⟨0,⟨none,0,0⟩,Nat.zero_le _,rfl,rfl,jbj _ _,jae _⟩
 case round =>
  obtain ⟨k,⟨ua,un,uc⟩,hk,rfl,rfl,ho,hg⟩:=hrel;simp only;have HO:=jac ho;have HG:=jac hg;have hsz:=hg.size
  by_cases hkl:k<l.length
  ·obtain ⟨b,off,rfl,hc⟩:=HV.out.get hkl;have hcell:wr.cell? ⟨b,off+k,none⟩=some (.int .i64 (l.getD k 0)):=jad (hc k hkl) hg;have E:Hid ((l.take (k+1)).map jbx=(l.take k).map jbx++[jbx (l.getD k 0)]):=by show _=_;rw [jb3 l k hkl,List.map_append];rfl
   obtain ⟨z,hz0⟩ : ∃ z,z=l.getD k 0:=⟨_,rfl⟩
   rw [← hz0] at hcell E;clear hc hz0 ho hg;have WH:=jac (jho z wr);have hb:=jly z;obtain ⟨y,hy⟩ : ∃ y,y=jbx z:=⟨_,rfl⟩
   rw [← hy] at WH hb E;clear hy;go_wp2_with (first | (go_at_call 91;refine WH.out.mono ?_;rintro e w' ⟨rfl,rfl⟩) | (at_builtin;refine jba rfl (.tmp 12) (.tmp 15) rfl w.heap.size _ _ rfl HO.out y rfl (by omega) (by simp;omega) (by omega) ?_;intro v' w1 hown hgrow));obtain ⟨⟨xa,xn,xc⟩,rfl⟩:=hown.sl;have HO1:=jac hown;have HG1:=jac (hgrow w (Nat.le_refl _) HG.out);clear hown hgrow;go_roundw
   case rel=>exact ⟨k+1,⟨xa,xn,xc⟩,by omega,by go_num,rfl,by rw [E.out];exact HO1.out,HG1.out⟩
   case measure=>simp [intOf];omega
  ·have E:Hid ((l.take k).map jbx=l.map jbx):=by show _=_;rw [List.take_of_length_le (by omega)]
   rw [E.out] at HO;clear ho hg;go_wp2;go_ret;exact ⟨⟨ua,un,uc⟩,rfl,HO.out.ints,HG.out⟩
structure RevK (zs:List Int) (k:Nat) (L:List Int):Prop where
 len:L.length=zs.length
 at':∀ t,t<zs.length→L.getD t 0=if t<k∨zs.length≤t+k then zs.getD (zs.length - 1 - t) 0 else zs.getD t 0
theorem RevK.start (zs:List Int):RevK zs 0 zs:=⟨rfl,fun t ht=>by rw [if_neg (by omega)]⟩
theorem RevK.done {zs L:List Int} {k:Nat} (h:RevK zs k L) (hk:zs.length≤2*k+1):L=zs.reverse:=by
 refine List.ext_getElem (by rw [h.len,List.length_reverse]) fun t h1 h2=>?_;have ht:t<zs.length:=by rw [← h.len];exact h1
 have:=h.at' t ht;rw [List.getElem_reverse];have e1:L.getD t 0=L[t]:=by simp [List.getD,h1]
 rw [← e1,this]
 split
 ·simp [List.getD,show zs.length - 1 - t<zs.length by omega]
 ·have e2:zs.length - 1 - t=t:=by omega
  simp [List.getD,e2,ht]
theorem RevK.step {zs L:List Int} {k:Nat} (h:RevK zs k L) (hk:2*k+1<zs.length):RevK zs (k+1) ((L.set k (L.getD (zs.length - 1 - k) 0)).set (zs.length - 1 - k) (L.getD k 0)):=by
 refine ⟨by rw [List.length_set,List.length_set,h.len],fun t ht=>?_⟩;have hL:=h.len;have h1:=h.at' t ht;have h2:=h.at' k (by omega);have h3:=h.at' (zs.length - 1 - k) (by omega);rw [if_neg (by omega)] at h2 h3
 by_cases e1:t=zs.length - 1 - k
 ·subst e1;rw [if_pos (by omega)]
  have:((L.set k (L.getD (zs.length - 1 - k) 0)).set (zs.length - 1 - k) (L.getD k 0)).getD (zs.length - 1 - k) 0=L.getD k 0:=by
   rw [List.getD,List.getElem?_set_self (by rw [List.length_set];omega)];rfl
  rw [this,h2]
  congr 1
  omega
 ·by_cases e2:t=k
  ·subst e2;rw [if_pos (by omega)]
   have:((L.set t (L.getD (zs.length - 1 - t) 0)).set (zs.length - 1 - t) (L.getD t 0)).getD t 0=L.getD (zs.length - 1 - t) 0:=by
    rw [List.getD,List.getElem?_set_ne (by omega),List.getElem?_set_self (by omega)];rfl
   rw [this,h3]
  ·have : ((L.set k (L.getD (zs.length - 1 - k) 0)).set (zs.length - 1 - k) (L.getD k 0)).getD t 0 = L.getD t 0 := by
     rw [List.getD,List.getElem?_set_ne (by omega),List.getElem?_set_ne (by omega)];rfl
   rw [this,h1]
   by_cases e3:t<k∨zs.length≤t+k
   ·rw [if_pos e3,if_pos (by omega)]
   ·rw [if_neg e3,if_neg (by omega)]
theorem jip (zs:List Int) (base B:Nat) (w:World) (h:jfy 2 w base B zs) (hl:zs.length≤1000000):Calls Tryz.prog 155 #[.slice (some ⟨B,0,none⟩) zs.length zs.length] w fun e w'=>e=.returned (.tuple #[])∧jfy 2 w' base B zs.reverse∧w.grownBy w' (some B):=by
 have H0:=jac h;clear h;go_enter Tryz.func155,Tryz.ntmps155;go_wp2;go_loopw [2,3] (fun i j wr=>∃ (k:Nat) (L:List Int),k≤zs.length∧i=.int .i64 k∧j=.int .i64 ((zs.length:Int) - 1 - k)∧RevK zs k L∧jfy 2 wr base B L∧w.grownBy wr (some B)) (fun i _ _=>zs.length - (intOf i).toNat)
 case atStart=>exact ⟨0,zs,Nat.zero_le _,rfl,by simp,RevK.start zs,H0.out,World.grownBy.refl _ _⟩
 case round =>
  obtain ⟨k,L,hk,rfl,rfl,hr,ho,hg⟩:=hrel;have HR:=jac hr;have HO:=jac ho;have HG:=jac hg;clear hr ho hg
  by_cases hkl:(k:Int)<(zs.length:Int) - 1 - k
  ·obtain ⟨j,hj⟩ : ∃ j:Nat,j=zs.length - 1 - k:=⟨_,rfl⟩
   have ej:(zs.length:Int) - 1 - k=(j:Int):=by omega
   rw [ej] at hkl ⊢;have hjl:j<zs.length:=by omega
   have hne:k≠j:=by omega
   have st:=HR.out.step (by omega);rw [← hj] at st;have hL:=HR.out.len;obtain ⟨c1,f1⟩:=HO.out.at (k:=k) (by omega);obtain ⟨c2,f2⟩:=HO.out.at (k:=j) (by omega);obtain ⟨x,hx⟩ : ∃ x,x=L.getD k 0:=⟨_,rfl⟩
   obtain ⟨y,hy⟩ : ∃ y,y=L.getD j 0:=⟨_,rfl⟩
   rw [← hx] at c1 st;rw [← hy] at c2 st;obtain ⟨s1,t1⟩:=HO.out.set k y;obtain ⟨s2,t2⟩:=s1.set j x;have ST:=jac st;have S2:=jac s2;have T2:=jac (jcV HG.out (jcV t1 t2));have hej:Hid (j=zs.length - 1 - k):=hj;clear hx hy st s1 s2 t1 t2 hj hL;have hne2:=hne.symm;go_wp2;go_region;go_wp2;go_roundw
   case rel=>exact ⟨k+1,_,by omega,by go_num,by have:=hej.out;congr 1;omega,ST.out,S2.out.new (jag (jae _)),⟨T2.out.os,T2.out.tape,T2.out.output,T2.out.size,T2.out.block⟩⟩
   case measure=>simp [intOf];omega
  ·have E:L=zs.reverse:=HR.out.done (by omega);rw [E] at HO;go_wp2
   go_end0
   exact ⟨rfl,HO.out,HG.out⟩
theorem jaq {a b c:World} {B:Nat} (h:a.grownBy b none) (k:b.grownBy c (some B)) (hb:a.heap.size≤B):a.grownBy c none:=jav h k (fun r e=>by cases e;exact hb)
theorem jn6 (n:Nod) (A:At) (jaO:Nat) (w:World) (hn:NodeOk w n A) (hr:jaO≤1000000):Calls Tryz.prog 140 #[jax n,.int .i64 jaO] w fun e w'=>∃ u:Sl,e=.returned u.v∧jak w' u.v (jlv A jaO)∧w.grownBy w' none:=by
 have NK:=jac hn;obtain ⟨op,nam,⟨ia,il,ic⟩,out,⟨ao,al,cap⟩⟩:=n;unfold jax;simp only;obtain ⟨w0,hw0⟩ : ∃ w0,w0=w.alloc (.cells #[.string op,.string nam,.slice ia il ic,.string out,.slice ao al cap] 25):=⟨_,rfl⟩
 have g0:Hid (w.grownBy w0 none):=by show w.grownBy w0 none;rw [hw0];exact jab _ _
 have hb0:=heap_alloc_new w (.cells #[.string op,.string nam,.slice ia il ic,.string out,.slice ao al cap] 25);rw [← hw0] at hb0;have BX:Hid (∀ wx,w0.grownBy wx none→wx.heap[w.heap.size]?=some (.cells #[.string op,.string nam,.slice ia il ic,.string out,.slice ao al cap] 25 (0,0))):=fun wx hg=>jaf hb0 hg;clear hb0 hn;have U:=jac (jgE jaO w0 (by omega));have RV:=jac (fun (wx:World) (h:jfy 2 wx w0.heap.size w0.heap.size (jcM jaO))=>jip (jcM jaO) w0.heap.size w0.heap.size wx h (by rw [jbz];omega));rw [jbz] at RV;have C:=jac (fun (wx:World) (B:Nat) (hg:w.grownBy wx none) (hB:jak wx (.slice (some ⟨B,0,none⟩) jaO jaO) (jcM jaO).reverse)=>jbp ⟨op,nam,⟨ia,il,ic⟩,out,⟨ao,al,cap⟩⟩ A ⟨#[112,101,114,109]⟩ ⟨some ⟨B,0,none⟩,jaO,jaO⟩ _ wx (NK.out.more hg) hB);unfold jax at C;simp only at C;have HS:Hid (w0.heap.size=w.heap.size+1):=by show _=_;rw [hw0];simp
 go_enter Tryz.func140,Tryz.ntmps140;go_wp2_with fail;rw [← hw0];clear hw0;refine U.out.mono ?_;rintro e w1 ⟨rfl,ho1,hg1⟩;have HG1:=jac hg1;have R1:=jac (RV.out w1 ho1);clear hg1 ho1 U RV;go_wp2_with fail;refine R1.out.mono ?_;rintro e w2 ⟨rfl,ho2,hg2⟩;have HG2:=jac (jaq HG1.out hg2 (Nat.le_refl _))
 have HI:Hid (jak w2 (.slice (some ⟨w0.heap.size,0,none⟩) jaO jaO) (jcM jaO).reverse):=by
  have h:=ho2.ints (by rw [List.length_reverse,jbz];omega) (fun z hz=>by have:=jeZ (List.mem_reverse.1 hz);omega);rw [List.length_reverse,jbz] at h;exact h
 obtain ⟨n0,n1,n2,n3,n4⟩:=jai (n:=⟨op,nam,⟨ia,il,ic⟩,out,⟨ao,al,cap⟩⟩) (BX.out w2 (HG2.out));clear ho2 hg2 R1 HG1;go_wp2_with fail;refine (C.out w2 _ (jaa g0.out HG2.out) HI.out).mono ?_;rintro e w3 ⟨u,rfl,hu,hg3⟩;go_wp2;go_ret;exact ⟨u,rfl,hu,jaa (jaa g0.out HG2.out) hg3⟩
theorem je0 (n:Nod) (A:At) (jaO:Nat) (w:World) (hn:NodeOk w n A) (hr:jaO≤1000000):Calls Tryz.prog 47 #[jax n,.int .i64 jaO] w fun e w'=>∃ u:Sl,e=.returned u.v∧jak w' u.v (jaQ A jaO)∧w.grownBy w' none:=by
 have HOP:=jac hn.op;have RG:=jac (fun nm z hz=>hn.int nm z hz);have NK:=jac hn;obtain ⟨op,nam,⟨ia,il,ic⟩,out,⟨ao,al,cap⟩⟩:=n;unfold jax;simp only;obtain ⟨w0,hw0⟩ : ∃ w0,w0=w.alloc (.cells #[.string op,.string nam,.slice ia il ic,.string out,.slice ao al cap] 25):=⟨_,rfl⟩
 have g0:Hid (w.grownBy w0 none):=by show w.grownBy w0 none;rw [hw0];exact jab _ _
 have hb0:=heap_alloc_new w (.cells #[.string op,.string nam,.slice ia il ic,.string out,.slice ao al cap] 25);rw [← hw0] at hb0;have BX:Hid (∀ wx,w0.grownBy wx none→wx.heap[w.heap.size]?=some (.cells #[.string op,.string nam,.slice ia il ic,.string out,.slice ao al cap] 25 (0,0))):=fun wx hg=>jaf hb0 hg;clear hb0 hn;simp only at HOP;have U:=jac (fun (wx:World)=>jgE jaO wx (by omega));have C:=jac (fun (wx:World) (B:Nat) (hg:w.grownBy wx none) (hB:jak wx (.slice (some ⟨B,0,none⟩) jaO jaO) (jcM jaO))=>jbp ⟨op,nam,⟨ia,il,ic⟩,out,⟨ao,al,cap⟩⟩ A ⟨#[97,120,101,115]⟩ ⟨some ⟨B,0,none⟩,jaO,jaO⟩ _ wx (NK.out.more hg) hB);have I0:=jac (jbP ⟨op,nam,⟨ia,il,ic⟩,out,⟨ao,al,cap⟩⟩ A ⟨#[97,120,105,115]⟩ 0 w0 (NK.out.more g0.out));have I1:=jac (jbP ⟨op,nam,⟨ia,il,ic⟩,out,⟨ao,al,cap⟩⟩ A ⟨#[97,120,105,115]⟩ (-1) w0 (NK.out.more g0.out));unfold jax at C I0 I1;simp only at C I0 I1;have HS:Hid (w0.heap.size=w.heap.size+1):=by show _=_;rw [hw0];simp
 cases h1:(op.toList==[65,114,103,77,97,120]) with
 | true =>
  have E:Hid (jaQ A jaO=[A.int ⟨#[97,120,105,115]⟩ 0]):=by show jaQ A jaO=_;unfold jaQ;rw [HOP.out,if_pos (by simpa using h1)]
  have hb:=RG.out ⟨#[97,120,105,115]⟩ 0 (by omega);obtain ⟨z,hz⟩ : ∃ z,z=A.int ⟨#[97,120,105,115]⟩ 0:=⟨_,rfl⟩
  rw [← hz] at I0 E hb;clear hz;go_enter Tryz.func47,Tryz.ntmps47;go_wp2_with fail;rw [← hw0];clear hw0;refine I0.out.mono ?_;rintro e w1 ⟨rfl,hg1⟩;have HG:=jac (jaa g0.out hg1);clear hg1;go_wp2;go_ret;exact ⟨⟨some ⟨w1.heap.size,0,none⟩,1,1⟩,rfl,by rw [E.out];exact jbo w1 [z] 2 (by simp) (fun y hy=>by simp at hy;subst hy;exact hb),jaa HG.out (jab _ _)⟩
 | false =>
  cases h2:(op.toList==[83,111,102,116,109,97,120]) with
  | true =>
   have E:Hid (jaQ A jaO=[A.int ⟨#[97,120,105,115]⟩ (-1)]):=by show jaQ A jaO=_;unfold jaQ;rw [HOP.out,if_neg (by simpa using h1),if_pos (by simpa using h2)]
   have hb:=RG.out ⟨#[97,120,105,115]⟩ (-1) (by omega);obtain ⟨z,hz⟩ : ∃ z,z=A.int ⟨#[97,120,105,115]⟩ (-1):=⟨_,rfl⟩
   rw [← hz] at I1 E hb;clear hz;go_enter Tryz.func47,Tryz.ntmps47;go_wp2_with fail;rw [← hw0];clear hw0;refine I1.out.mono ?_;rintro e w1 ⟨rfl,hg1⟩;have HG:=jac (jaa g0.out hg1);clear hg1;go_wp2;go_ret;exact ⟨⟨some ⟨w1.heap.size,0,none⟩,1,1⟩,rfl,by rw [E.out];exact jbo w1 [z] 2 (by simp) (fun y hy=>by simp at hy;subst hy;exact hb),jaa HG.out (jab _ _)⟩
  | false =>
   have E:Hid (jaQ A jaO=A.ints ⟨#[97,120,101,115]⟩ (jcM jaO)):=by show jaQ A jaO=_;unfold jaQ;rw [HOP.out,if_neg (by simpa using h1),if_neg (by simpa using h2)]
   obtain ⟨n0,n1,n2,n3,n4⟩:=jai (n:=⟨op,nam,⟨ia,il,ic⟩,out,⟨ao,al,cap⟩⟩) (BX.out w0 (jae _));go_enter Tryz.func47,Tryz.ntmps47;go_wp2_with fail;rw [← hw0];clear hw0;go_region_held3 (fun w'=>w'.cell? ⟨w.heap.size,0,none⟩=some (.string op)∧w'.cell? ⟨w.heap.size,1,none⟩=some (.string nam)∧w'.cell? ⟨w.heap.size,2,none⟩=some (.slice ia il ic)∧w'.cell? ⟨w.heap.size,3,none⟩=some (.string out)∧w'.cell? ⟨w.heap.size,4,none⟩=some (.slice ao al cap)) (go_keep) (first | (go_at_call 76;refine (U.out _).mono ?_;rintro e w1 ⟨rfl,ho1,hg1⟩;have g1:w0.grownBy w1 none:=jaa (jag (jae _)) hg1;obtain ⟨n0,n1,n2,n3,n4⟩:=jai (n:=⟨op,nam,⟨ia,il,ic⟩,out,⟨ao,al,cap⟩⟩) (BX.out w1 (g1))) | (go_at_call 75;refine (C.out _ _ (jaa g0.out g1) (by have h:=ho1.ints (by rw [jbz];omega) (fun z hz=>by have:=jeZ hz;omega);rw [jbz] at h;exact h)).mono ?_;rintro e w2 ⟨u,rfl,hu,hg2⟩;have g2:w0.grownBy w2 none:=jaa g1 hg2;obtain ⟨n0,n1,n2,n3,n4⟩:=jai (n:=⟨op,nam,⟨ia,il,ic⟩,out,⟨ao,al,cap⟩⟩) (BX.out w2 (g2))) | fail);go_wp2;go_ret;exact ⟨u,rfl,by rw [E.out];exact hu,jaa g0.out g2⟩
end Go.Proofs.YtekocmdfaaoggaaGreatDoor
namespace Go.Proofs.YtekocmdfaaoggaaGreatDoor
open Go.RowKit
def jbi (zs:List Int) (v:Value) (w':World):Prop:=∃ s:Sl,v=s.v∧jak w' s.v zs
theorem jch (u:Sl) (l:List Int) (jaO:Nat) (w:World) (hv:jak w u.v l) (hr:jaO≤100000000000000):Calls Tryz.prog 95 #[.slice u.a u.n u.c,.int .i64 jaO] w (jaF w (jbv l jaO) fun is v w'=>∃ B,v=.slice (some ⟨B,0,none⟩) jaO jaO∧jdo w' w.heap.size B is∧is.length=jaO):=by
 have F:=jac (jjm u.v l jaO w hv hr);unfold jbv
 cases hx:jbD jaO l (List.replicate jaO false) with
 | none =>
  rw [hx] at F;clear hx hv;go_enter Tryz.func95,Tryz.ntmps95;go_wp2_with (first | (go_at_call 46;refine F.out.mono ?_;rintro e w' ⟨hg,rfl⟩) | (go_at_call 65;refine (jaw _).mono ?_;rintro e w' ⟨rfl,rfl⟩));exact ⟨rfl,hg,rfl⟩
 | some is =>
  rw [hx] at F;clear hx hv;go_enter Tryz.func95,Tryz.ntmps95;go_wp2_with (first | (go_at_call 46;refine F.out.mono ?_;rintro e w' ⟨hg,B,rfl,ho,hl⟩) | (go_at_call 65;refine (jap _).mono ?_;rintro e w' ⟨rfl,rfl⟩));go_ret;exact ⟨hg,_,rfl,B,rfl,ho,hl⟩
theorem jf0 (keep:Bool) (d:Int) (g:Bool):∀ (a:List Int) (gs:List Bool),a.length=gs.length→jcp keep (a++[d]) (gs++[g])=jcp keep a gs++(if g=false then [d] else if keep=true then [1] else [])
 | [],[],_=>by cases g <;> cases keep <;> simp [jcp]
 | [],_::_,h=>by simp at h
 | _::_,[],h=>by simp at h
 | x::a,y::gs,h=>by
  have ih:=jf0 keep d g a gs (by simpa using h);simp only [List.cons_append,jcp,ih]
  split <;> (try split) <;> simp_all
theorem jhr (keep:Bool):∀ (a:List Int) (gs:List Bool),(jcp keep a gs).length≤a.length
 | [],_=>by simp [jcp]
 | _::_,[]=>by simp [jcp]
 | x::a,y::gs=>by
  have ih:=jhr keep a gs;simp only [jcp]
  split
  ·simp;omega
  ·split
   ·simp;omega
   ·simp;omega
theorem jf1 (zs:List Bool) (k:Nat) (hk:k<zs.length):zs.take (k+1)=zs.take k++[zs.getD k false]:=by
 rw [List.take_add_one];simp [List.getD,hk]
theorem jiq (n:Nod) (A:At) (u:Sl) (x:List Int) (w:World) (hn:NodeOk w n A) (hx:jak w u.v x) (hf:Fine x):Calls Tryz.prog 96 #[jax n,.slice u.a u.n u.c] w (jaF w (ja7 A x) jbi):=by
 obtain ⟨ux,uc,eu,c1,c2,c3⟩:=hx.sl;obtain ⟨ua,un,uu⟩:=u;simp only [Sl.v,Value.slice.injEq] at eu;obtain ⟨rfl,rfl,rfl⟩:=eu;have HX:=jac hx;have FEW:=hf.few;have POS:=jac hf;clear hx hf;have RG:=hn.int ⟨#[107,101,101,112,100,105,109,115]⟩ 1 (by omega);have NK:=jac hn;obtain ⟨op,nam,⟨ia,il,ic⟩,out,⟨ao,al,cap⟩⟩:=n;unfold jax;simp only;obtain ⟨w0,hw0⟩ : ∃ w0,w0=w.alloc (.cells #[.string op,.string nam,.slice ia il ic,.string out,.slice ao al cap] 25):=⟨_,rfl⟩
 have g0:Hid (w.grownBy w0 none):=by show w.grownBy w0 none;rw [hw0];exact jab _ _
 have hb0:=heap_alloc_new w (.cells #[.string op,.string nam,.slice ia il ic,.string out,.slice ao al cap] 25);rw [← hw0] at hb0;have BX:Hid (∀ wx,w0.grownBy wx none→wx.heap[w.heap.size]?=some (.cells #[.string op,.string nam,.slice ia il ic,.string out,.slice ao al cap] 25 (0,0))):=fun wx hg=>jaf hb0 hg;clear hb0 hn;have I0:=jac (jbP ⟨op,nam,⟨ia,il,ic⟩,out,⟨ao,al,cap⟩⟩ A ⟨#[107,101,101,112,100,105,109,115]⟩ 1 w0 (NK.out.more g0.out));have AL:=jac (fun (wx:World) (hg:w.grownBy wx none)=>je0 ⟨op,nam,⟨ia,il,ic⟩,out,⟨ao,al,cap⟩⟩ A x.length wx (NK.out.more hg) (by omega));unfold jax at I0 AL;simp only at I0 AL;obtain ⟨z,hz⟩ : ∃ z,z=A.int ⟨#[107,101,101,112,100,105,109,115]⟩ 1:=⟨_,rfl⟩
 rw [← hz] at I0 RG;go_enter Tryz.func96,Tryz.ntmps96;go_wp2_with fail;rw [← hw0];clear hw0;refine I0.out.mono ?_;rintro e w1 ⟨rfl,hg1⟩;have G1:=jac hg1;clear hg1 I0;have ON:=jac (jjl z w1)
 cases hk:jd9 z with
 | error c =>
  rw [hk] at ON;have E:Hid (ja7 A x=.error c):=by show _=_;unfold ja7;rw [← hz,hk];rfl
  clear hk hz;go_wp2_with (go_at_call 139;refine ON.out.mono ?_;rintro e w' ⟨hg,rfl⟩);exact ⟨rfl,jah E.out (jaa (jaa g0.out G1.out) hg)⟩
 | ok keep =>
  rw [hk] at ON;have E:Hid (ja7 A x=(jbv (jaQ A x.length) x.length).bind (fun gone=>.ok (jcp keep x gone))):=by show _=_;unfold ja7;rw [← hz,hk];rfl
  clear hk hz;obtain ⟨n0,n1,n2,n3,n4⟩:=jai (n:=⟨op,nam,⟨ia,il,ic⟩,out,⟨ao,al,cap⟩⟩) (BX.out w1 (G1.out));go_wp2_with (first | (go_at_call 139;refine ON.out.mono ?_;rintro e w' ⟨hg,v,rfl,rfl,rfl⟩;clear hg) | fail);refine (AL.out w1 (jaa g0.out G1.out)).mono ?_;rintro e w2 ⟨s,rfl,hs,hg2⟩;have AX:=jac (jch s _ x.length w2 hs (by omega));have G2:=jac (jaa (jaa g0.out G1.out) hg2);clear hs hg2 AL
  cases hk:jbv (jaQ A x.length) x.length with
  | error c =>
   rw [hk] at AX;have E2:Hid (ja7 A x=.error c):=by show _=_;rw [E.out,hk];rfl
   clear hk;go_wp2_with (go_at_call 95;refine AX.out.mono ?_;rintro e w' ⟨hg,rfl⟩);exact ⟨rfl,jah E2.out (jaa G2.out hg)⟩
  | ok gone =>
   rw [hk] at AX;have E2:Hid (ja7 A x=.ok (jcp keep x gone)):=by show _=_;rw [E.out,hk];rfl
   clear hk;go_wp2_with (go_at_call 95;refine AX.out.mono ?_;rintro e w3 ⟨hg3,v,rfl,B,rfl,ho,hl⟩);have G3:=jac (jaa G2.out hg3);have HO:=jac ho;have HL:=jac hl;clear hg3 ho hl n0 n1 n2 n3 n4;go_loopw [7,22] (fun s i wr=>∃ (k:Nat) (u:Sl),k≤x.length∧i=.int .i64 k∧s=.slice u.a u.n u.c∧Owns wr w3.heap.size u.v (jcp keep (x.take k) (gone.take k))∧w3.grownBy wr none) (fun _ i _=>x.length - (intOf i).toNat)
   case atStart=>exact ⟨0,⟨none,0,0⟩,Nat.zero_le _,rfl,rfl,by simp [jcp];exact jbj _ _,jae _⟩
   case round =>
    obtain ⟨k,⟨sa,sn,sc⟩,hk,rfl,rfl,ho,hg⟩:=hrel;simp only;have HO1:=jac ho;have HG:=jac hg;have hsz:=hg.size
    by_cases hkl:k<x.length
    ·obtain ⟨b,off,rfl,hc⟩:=HX.out.get hkl;have hcell:wr.cell? ⟨b,off+k,none⟩=some (.int .i64 (x.getD k 0)):=jad (hc k hkl) (jaa G3.out hg);have hwf:=HX.out.wf (x.getD k 0) (by simp [List.getD,hkl]);have hgk:k<gone.length:=by rw [HL.out];exact hkl
     obtain ⟨cb,fb⟩:=(HO.out.new hg).at (k:=k) (v:=gone.getD k false) (by simp [List.getD,hgk]);have ST:=jf0 keep (x.getD k 0) (gone.getD k false) (x.take k) (gone.take k) (by simp;omega);rw [← jb3 x k hkl,← jf1 gone k hgk] at ST;have hln:=jhr keep (x.take k) (gone.take k);rw [List.length_take] at hln;obtain ⟨d,hd0⟩ : ∃ d,d=x.getD k 0:=⟨_,rfl⟩
     obtain ⟨gb,hgb⟩ : ∃ gb,gb=gone.getD k false:=⟨_,rfl⟩
     rw [← hd0] at hcell ST hwf;rw [← hgb] at cb ST;clear hc hd0 hgb ho hg
     cases gb with
     | false =>
      rw [if_pos rfl] at ST;have HST:=jac ST;clear ST;go_wp2_with (at_builtin;refine jba rfl (.tmp 33) (.tmp 35) rfl w3.heap.size _ _ rfl HO1.out d rfl hwf (by omega) (by omega) ?_;intro v' w4 hown hgrow);obtain ⟨⟨xa,xn,xc⟩,rfl⟩:=hown.sl;have HO2:=jac hown;have HG2:=jac (hgrow w3 (Nat.le_refl _) HG.out);clear hown hgrow;go_roundw
      case rel=>exact ⟨k+1,⟨xa,xn,xc⟩,by omega,by go_num,rfl,by rw [HST.out];exact HO2.out,HG2.out⟩
      case measure=>simp [intOf];omega
     | true =>
      rw [if_neg (by decide)] at ST
      cases keep with
      | true =>
       rw [if_pos rfl] at ST;have HST:=jac ST;clear ST;go_wp2_with (at_builtin;refine jba rfl (.tmp 39) (.tmp 40) rfl w3.heap.size _ _ rfl HO1.out 1 rfl (by omega) (by omega) (by omega) ?_;intro v' w4 hown hgrow);obtain ⟨⟨xa,xn,xc⟩,rfl⟩:=hown.sl;have HO2:=jac hown;have HG2:=jac (hgrow w3 (Nat.le_refl _) HG.out);clear hown hgrow;go_roundw
       case rel=>exact ⟨k+1,⟨xa,xn,xc⟩,by omega,by go_num,rfl,by rw [HST.out];exact HO2.out,HG2.out⟩
       case measure=>simp [intOf];omega
      | false =>
       rw [if_neg (by decide),List.append_nil] at ST;have HST:=jac ST;clear ST;go_wp2;go_roundw
       case rel=>exact ⟨k+1,⟨sa,sn,sc⟩,by omega,by go_num,rfl,by rw [HST.out];exact HO1.out,HG.out⟩
       case measure=>simp [intOf];omega
    ·have E3:jcp keep (x.take k) (gone.take k)=jcp keep x gone:=by rw [List.take_of_length_le (by omega),List.take_of_length_le (by rw [HL.out];omega)]
     rw [E3] at HO1;clear ho hg;go_wp2;go_ret;exact jao E2.out (jaa G3.out HG.out) ⟨⟨sa,sn,sc⟩,rfl,HO1.out.ints⟩
end Go.Proofs.YtekocmdfaaoggaaGreatDoor
namespace Go.Proofs.YtekocmdfaaoggaaGreatDoor
open Go.RowKit
theorem jhs {jaO:Nat} : ∀ {l:List Int} {is r:List Bool},jbD jaO l is=some r→∀ a∈l,∃ i,jb8 a jaO=some i
 | [],_,_,_,a,ha=>by simp at ha
 | b::l,is,r,h,a,ha=>by
  unfold jbD at h
  cases hb:jb8 b jaO with
  | none=>rw [hb] at h;cases h
  | some i =>
   rw [hb] at h;simp only at h
   split at h
   ·cases h
   ·rcases List.mem_cons.1 ha with rfl | ha
    ·exact ⟨i,hb⟩
    ·exact jhs h a ha
theorem jht {l:List Int} {jaO:Nat} {is:List Bool} (h:jbv l jaO=.ok is):∀ a∈l,∃ i,jb8 a jaO=some i:=by
 unfold jbv at h
 cases hx:jbD jaO l (List.replicate jaO false) with
 | none=>rw [hx] at h;cases h
 | some r=>exact jhs hx
theorem jlz {a:Int} {jaO i:Nat} (h:jb8 a jaO=some i) (ha:0≤a):a.toNat<jaO:=by
 have e:jaW a jaO=a:=by unfold jaW;rw [if_neg (by omega)]
 unfold jb8 at h;rw [e] at h
 split at h
 ·cases h
 ·split at h
  ·cases h
  ·omega
def after (acc:List Int) (r:R (List Int)):R (List Int):=match r with
 | .ok l=>.ok (acc++l)
 | .error c=>.error c
theorem jj4 {x l:List Int} {k:Nat} (hk:k<l.length) (acc:List Int):after acc (jdA x (l.drop k))=if 0≤l.getD k 0 then after (acc++[x.getD (l.getD k 0).toNat 0]) (jdA x (l.drop (k+1))) else .error 4:=by
 rw [jbL l k hk];simp only [jdA]
 split
 ·cases jdA x (l.drop (k+1)) <;> simp [Except.map,after]
 ·rfl
theorem jfK (n:Nod) (A:At) (u:Sl) (x:List Int) (w:World) (hn:NodeOk w n A) (hx:jak w u.v x) (hf:Fine x):Calls Tryz.prog 99 #[jax n,.slice u.a u.n u.c] w (jaF w (jbh A x) jbi):=by
 obtain ⟨ux,uc,eu,c1,c2,c3⟩:=hx.sl;obtain ⟨ua,un,uu⟩:=u;simp only [Sl.v,Value.slice.injEq] at eu;obtain ⟨rfl,rfl,rfl⟩:=eu;have HX:=jac hx;have FEW:=hf.few;clear hx hf;have NK:=jac hn;obtain ⟨op,nam,⟨ia,il,ic⟩,out,⟨ao,al,cap⟩⟩:=n;unfold jax;simp only;obtain ⟨w0,hw0⟩ : ∃ w0,w0=w.alloc (.cells #[.string op,.string nam,.slice ia il ic,.string out,.slice ao al cap] 25):=⟨_,rfl⟩
 have g0:Hid (w.grownBy w0 none):=by show w.grownBy w0 none;rw [hw0];exact jab _ _
 have hb0:=heap_alloc_new w (.cells #[.string op,.string nam,.slice ia il ic,.string out,.slice ao al cap] 25);rw [← hw0] at hb0;have BX:Hid (∀ wx,w0.grownBy wx none→wx.heap[w.heap.size]?=some (.cells #[.string op,.string nam,.slice ia il ic,.string out,.slice ao al cap] 25 (0,0))):=fun wx hg=>jaf hb0 hg;clear hb0 hn;have PM:=jac (jn6 ⟨op,nam,⟨ia,il,ic⟩,out,⟨ao,al,cap⟩⟩ A x.length w0 (NK.out.more g0.out) (by omega));unfold jax at PM;simp only at PM;obtain ⟨l,hl⟩ : ∃ l,l=jlv A x.length:=⟨_,rfl⟩
 rw [← hl] at PM;have E0:Hid (jbh A x=(jal (decide (l.length=x.length))).bind (fun _=>(jbv l x.length).bind (fun _=>jdA x l))):=by show _=_;rw [hl];rfl
 clear hl;go_enter Tryz.func99,Tryz.ntmps99;go_wp2_with fail;rw [← hw0];clear hw0;refine PM.out.mono ?_;rintro e w1 ⟨s,rfl,hs,hg1⟩;have G1:=jac (jaa g0.out hg1);obtain ⟨sa,sc,es,d1,d2,d3⟩:=hs.sl;obtain ⟨s1,s2,s3⟩:=s;simp only [Sl.v,Value.slice.injEq] at es;obtain ⟨rfl,rfl,rfl⟩:=es;simp only [Sl.v] at hs ⊢;have HS:=jac hs;clear hs hg1 PM
 by_cases hlen:l.length=x.length
 ·have b0:((l.length:Int)==(x.length:Int))=true:=by simp [hlen]
  have E1:Hid (jbh A x=(jbv l x.length).bind (fun _=>jdA x l)):=by show _=_;rw [E0.out];simp [jal,hlen];rfl
  have AX:=jac (jch ⟨s1,l.length,s3⟩ l x.length w1 HS.out (by omega))
  cases hk:jbv l x.length with
  | error c =>
   rw [hk] at AX;have E2:Hid (jbh A x=.error c):=by show _=_;rw [E1.out,hk];rfl
   clear hk hlen;go_wp2_with (first | (go_at_call 65;refine (jap _).mono ?_;rintro e w' ⟨rfl,rfl⟩) | (go_at_call 95;refine AX.out.mono ?_;rintro e w' ⟨hg,rfl⟩));exact ⟨rfl,jah E2.out (jaa G1.out hg)⟩
  | ok gone =>
   rw [hk] at AX;have ALL:=jac (jht hk);have E2:Hid (jbh A x=jdA x l):=by show _=_;rw [E1.out,hk];rfl
   have HLEN:=jac hlen;clear hk hlen;go_wp2_with (first | (go_at_call 65;refine (jap _).mono ?_;rintro e w' ⟨rfl,rfl⟩) | (go_at_call 95;refine AX.out.mono ?_;rintro e w3 ⟨hg3,v,rfl,B,rfl,ho,hl⟩));have G3:=jac (jaa G1.out hg3);have G13:=jac hg3;clear hg3 ho hl b0;go_loopw [6,25] (fun s i wr=>∃ (k:Nat) (u:Sl) (acc:List Int),k≤l.length∧i=.int .i64 k∧s=.slice u.a u.n u.c∧Owns wr w3.heap.size u.v acc∧acc.length≤k∧after acc (jdA x (l.drop k))=jdA x l∧w3.grownBy wr none) (fun _ i _=>l.length - (intOf i).toNat)
   case atStart=>exact ⟨0,⟨none,0,0⟩,[],Nat.zero_le _,rfl,rfl,jbj _ _,Nat.le_refl _,by rw [List.drop_zero];cases jdA x l <;> rfl,jae _⟩
   case round =>
    obtain ⟨k,⟨qa,qn,qc⟩,acc,hk,rfl,rfl,ho,hal,hst,hg⟩:=hrel;simp only;have HO1:=jac ho;have HG:=jac hg;have hsz:=hg.size
    by_cases hkl:k<l.length
    ·obtain ⟨b,off,rfl,hc⟩:=HS.out.get hkl;have hcell:wr.cell? ⟨b,off+k,none⟩=some (.int .i64 (l.getD k 0)):=jad (hc k hkl) (jaa G13.out hg);have hmem:l.getD k 0∈l:=by simp [List.getD,hkl]
     obtain ⟨i,hi⟩:=ALL.out _ hmem;rw [jj4 hkl] at hst;obtain ⟨p,hp0⟩ : ∃ p,p=l.getD k 0:=⟨_,rfl⟩
     rw [← hp0] at hcell hst hi;clear hc hp0 ho hmem
     by_cases hp:0≤p
     ·rw [if_pos hp] at hst;have hlt:=jlz hi hp;obtain ⟨q,hq⟩ : ∃ q:Nat,q=p.toNat:=⟨_,rfl⟩
      have hpq:p=(q:Int):=by omega
      rw [← hq] at hst hlt;clear hq;subst hpq;obtain ⟨b',off',e',hcx⟩:=HX.out.get (k:=q) hlt
      cases e'
      have hcell2:wr.cell? ⟨b',off'+q,none⟩=some (.int .i64 (x.getD q 0)):=jad (hcx q hlt) (jaa G3.out hg);have hwf:=HX.out.wf (x.getD q 0) (by simp [List.getD,hlt]);have HST:=jac hst;obtain ⟨d,hd⟩ : ∃ d,d=x.getD q 0:=⟨_,rfl⟩
      rw [← hd] at hcell2 hwf HST;clear hst hd hi hcx hg;go_wp2_with (first | (go_at_call 65;refine (jap _).mono ?_;rintro e w' ⟨rfl,rfl⟩) | (at_builtin;refine jba rfl (.tmp 32) (.tmp 37) rfl w3.heap.size _ _ rfl HO1.out d rfl hwf (by omega) (by omega) ?_;intro v' w4 hown hgrow));obtain ⟨⟨xa,xn,xc⟩,rfl⟩:=hown.sl;have HO2:=jac hown;have HG2:=jac (hgrow w3 (Nat.le_refl _) HG.out);clear hown hgrow;go_roundw
      case rel=>exact ⟨k+1,⟨xa,xn,xc⟩,_,by omega,by go_num,rfl,HO2.out,by simp;omega,HST.out,HG2.out⟩
      case measure=>simp [intOf];omega
     ·rw [if_neg hp] at hst;have E3:Hid (jbh A x=.error 4):=by show _=_;rw [E2.out,← hst]
      clear hst hg hi;go_wp2_with (go_at_call 65;refine (jaw _).mono ?_;rintro e w' ⟨rfl,rfl⟩);exact ⟨rfl,jah E3.out (jaa G3.out HG.out)⟩
    ·have E3 : Hid (jbh A x = .ok acc) := by
       show _=_;rw [E2.out,← hst,List.drop_of_length_le (by omega)];simp [jdA,after]
     clear ho hg hst;go_wp2;go_ret;exact jao E3.out (jaa G3.out HG.out) ⟨⟨qa,qn,qc⟩,rfl,HO1.out.ints⟩
 ·have b0:((l.length:Int)==(x.length:Int))=false:=by simpa using (fun h=>hlen (by omega):¬ (l.length:Int)=x.length)
  have E1:Hid (jbh A x=.error 4):=by show _=_;rw [E0.out];simp [jal,hlen];rfl
  clear hlen;go_wp2_with (go_at_call 65;refine (jaw _).mono ?_;rintro e w' ⟨rfl,rfl⟩);exact ⟨rfl,jah E1.out G1.out⟩
theorem jcB (zs:List Bool) (k:Nat) (hk:k<zs.length):zs.drop k=zs.getD k false::zs.drop (k+1):=by
 rw [List.drop_eq_getElem_cons hk];simp [List.getD,hk]
theorem jgG {x:List Int} {gs:List Bool} {k:Nat} (hk:k<x.length) (hg:k<gs.length) (acc:List Int):after acc (jbk (x.drop k) (gs.drop k))=if gs.getD k false=true then (if x.getD k 0=1 then after acc (jbk (x.drop (k+1)) (gs.drop (k+1))) else .error 4) else after (acc++[x.getD k 0]) (jbk (x.drop (k+1)) (gs.drop (k+1))):=by
 rw [jbL x k hk,jcB gs k hg];simp only [jbk]
 split
 ·split
  ·rfl
  ·rfl
 ·cases jbk (x.drop (k+1)) (gs.drop (k+1)) <;> simp [Except.map,after]
theorem jhu (u v:Sl) (x l:List Int) (w:World) (hx:jak w u.v x) (hv:jak w v.v l) (hf:Fine x):Calls Tryz.prog 105 #[.slice u.a u.n u.c,.slice v.a v.n v.c] w (jaF w (jbH x l) jbi):=by
 obtain ⟨ux,uc,eu,c1,c2,c3⟩:=hx.sl;obtain ⟨ua,un,uu⟩:=u;simp only [Sl.v,Value.slice.injEq] at eu;obtain ⟨rfl,rfl,rfl⟩:=eu;have HX:=jac hx;have FEW:=hf.few;have AX:=jac (jch v l x.length w hv (by omega));clear hx hf hv
 cases hk:jbv l x.length with
 | error c =>
  rw [hk] at AX;have E2:Hid (jbH x l=.error c):=by show _=_;unfold jbH;rw [hk];rfl
  clear hk;go_enter Tryz.func105,Tryz.ntmps105;go_wp2_with (go_at_call 95;refine AX.out.mono ?_;rintro e w' ⟨hg,rfl⟩);exact ⟨rfl,jah E2.out hg⟩
 | ok gone =>
  rw [hk] at AX;have E2:Hid (jbH x l=jbk x gone):=by show _=_;unfold jbH;rw [hk];rfl
  clear hk;go_enter Tryz.func105,Tryz.ntmps105;go_wp2_with (go_at_call 95;refine AX.out.mono ?_;rintro e w3 ⟨hg3,v,rfl,B,rfl,ho,hl⟩);have G3:=jac hg3;have HO:=jac ho;have HL:=jac hl;clear hg3 ho hl;go_loopw [6,15] (fun s i wr=>∃ (k:Nat) (u:Sl) (acc:List Int),k≤x.length∧i=.int .i64 k∧s=.slice u.a u.n u.c∧Owns wr w3.heap.size u.v acc∧acc.length≤k∧after acc (jbk (x.drop k) (gone.drop k))=jbk x gone∧w3.grownBy wr none) (fun _ i _=>x.length - (intOf i).toNat)
  case atStart=>exact ⟨0,⟨none,0,0⟩,[],Nat.zero_le _,rfl,rfl,jbj _ _,Nat.le_refl _,by rw [List.drop_zero,List.drop_zero];cases jbk x gone <;> rfl,jae _⟩
  case round =>
   obtain ⟨k,⟨qa,qn,qc⟩,acc,hk,rfl,rfl,ho,hal,hst,hg⟩:=hrel;simp only;have HO1:=jac ho;have HG:=jac hg;have hsz:=hg.size
   by_cases hkl:k<x.length
   ·obtain ⟨b,off,rfl,hc⟩:=HX.out.get hkl;have hcell:wr.cell? ⟨b,off+k,none⟩=some (.int .i64 (x.getD k 0)):=jad (hc k hkl) (jaa G3.out hg);have hwf:=HX.out.wf (x.getD k 0) (by simp [List.getD,hkl]);have hgk:k<gone.length:=by rw [HL.out];exact hkl
    obtain ⟨cb,fb⟩:=(HO.out.new hg).at (k:=k) (v:=gone.getD k false) (by simp [List.getD,hgk]);rw [jgG hkl hgk] at hst;obtain ⟨d,hd0⟩ : ∃ d,d=x.getD k 0:=⟨_,rfl⟩
    obtain ⟨gb,hgb⟩ : ∃ gb,gb=gone.getD k false:=⟨_,rfl⟩
    rw [← hd0] at hcell hst hwf;rw [← hgb] at cb hst;clear hc hd0 hgb ho hg
    cases gb with
    | false =>
     rw [if_neg (by decide)] at hst;have HST:=jac hst;clear hst;go_wp2_with (first | (go_at_call 65;refine (jap _).mono ?_;rintro e w' ⟨rfl,rfl⟩) | (at_builtin;refine jba rfl (.tmp 35) (.tmp 37) rfl w3.heap.size _ _ rfl HO1.out d rfl hwf (by omega) (by omega) ?_;intro v' w4 hown hgrow));obtain ⟨⟨xa,xn,xc⟩,rfl⟩:=hown.sl;have HO2:=jac hown;have HG2:=jac (hgrow w3 (Nat.le_refl _) HG.out);clear hown hgrow;go_roundw
     case rel=>exact ⟨k+1,⟨xa,xn,xc⟩,_,by omega,by go_num,rfl,HO2.out,by simp;omega,HST.out,HG2.out⟩
     case measure=>simp [intOf];omega
    | true =>
     rw [if_pos rfl] at hst
     by_cases hd:d=1
     ·rw [if_pos hd] at hst;have HST:=jac hst;have b1:(d==1)=true:=by simp [hd]
      clear hst hd;go_wp2_with (go_at_call 65;refine (jap _).mono ?_;rintro e w' ⟨rfl,rfl⟩);go_roundw
      case rel=>exact ⟨k+1,⟨qa,qn,qc⟩,acc,by omega,by go_num,rfl,HO1.out,by omega,HST.out,HG.out⟩
      case measure=>simp [intOf];omega
     ·rw [if_neg hd] at hst;have b1:(d==1)=false:=by simpa using hd
      have E3:Hid (jbH x l=.error 4):=by show _=_;rw [E2.out,← hst]
      clear hst hd;go_wp2_with (go_at_call 65;refine (jaw _).mono ?_;rintro e w' ⟨rfl,rfl⟩);exact ⟨rfl,jah E3.out (jaa G3.out HG.out)⟩
   ·have E3 : Hid (jbH x l = .ok acc) := by
      show _=_;rw [E2.out,← hst,List.drop_of_length_le (by omega)];simp [jbk,after]
    clear ho hg hst;go_wp2;go_ret;exact jao E3.out (jaa G3.out HG.out) ⟨⟨qa,qn,qc⟩,rfl,HO1.out.ints⟩
end Go.Proofs.YtekocmdfaaoggaaGreatDoor
