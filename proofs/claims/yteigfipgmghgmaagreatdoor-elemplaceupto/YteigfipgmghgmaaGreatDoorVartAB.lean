/- A part. -/
import Derived.Test.YteigfipgmghgmaaGreatDoorVartAA
import Derived.Test.YteigfipgmghgmaaGreatDoorRows
import Derived.WalkKit
import Derived.WalkSpells
import Derived.Laws.AppendOwnNone
set_option maxHeartbeats 1600000
set_option maxRecDepth 100000
namespace Go.Proofs.YteigfipgmghgmaaGreatDoor
open Go.RowKit
theorem jac {p:Prop} (h:p):Hid p:=h
def IsInts (w:World) (v:Value) (zs:List Int):Prop :=
 ∃ ao cap,v=.slice ao zs.length cap∧zs.length≤cap∧cap≤9223372036854775807∧zs.length*8≤140737488351232∧(ao=none→zs=[]∧cap=0) ∧
  (0<zs.length→∃ b off,ao=some ⟨b,off,none⟩∧∀ t,t<zs.length→w.cell? ⟨b,off+t,none⟩=some (.int .i64 (zs.getD t 0))) ∧
  (∀ z∈zs,-9223372036854775808≤z∧z≤9223372036854775807)
theorem IsInts.le {w:World} {v:Value} {zs:List Int} (h:IsInts w v zs):zs.length*8≤140737488351232:=by
 obtain ⟨_,_,_,_,_,h,_⟩:=h;exact h
theorem IsInts.wf {w:World} {v:Value} {zs:List Int} (h:IsInts w v zs):∀ z∈zs,-9223372036854775808≤z∧z≤9223372036854775807:=by
 obtain ⟨_,_,_,_,_,_,_,_,h⟩:=h;exact h
theorem IsInts.kept {w w':World} {v:Value} {zs:List Int} (h:IsInts w v zs) (hk:∀ b,b<w.heap.size→v.ownBlock=some b→w'.heap[b]?=w.heap[b]?):IsInts w' v zs:=by
 obtain ⟨ao,cap,rfl,h1,h2,h3,h4,h5,h6⟩:=h;refine ⟨ao,cap,rfl,h1,h2,h3,h4,fun hl=>?_,h6⟩;obtain ⟨b,off,rfl,hc⟩:=h5 hl;refine ⟨b,off,rfl,fun t ht=>?_⟩;have hb:b<w.heap.size:=World.block_lt_of_cell? w _ (hc t ht);rw [← hc t ht];exact World.cell?_of_block (hk b hb rfl)
theorem IsInts.grown {w w':World} {v:Value} {zs:List Int} (h:IsInts w v zs) {row:Option Nat} (hg:w.grownBy w' row) (hne:v.ownBlock=none∨v.ownBlock≠row):IsInts w' v zs :=
 h.kept fun b hb hv=>hg.block b hb (by rcases hne with h0 | h0 <;> simp_all)
theorem IsInts.more {w w':World} {v:Value} {zs:List Int} (h:IsInts w v zs) (hg:w.grownBy w' none):IsInts w' v zs :=
 h.kept fun b hb _=>hg.block b hb (by simp)
def Owns (w:World) (base:Nat) (v:Value) (zs:List Int):Prop :=
 w.ownsRow base 3 1 v zs.length (zs.map (Value.int .i64))∧zs.length*8≤140737488351232∧(∀ z∈zs,-9223372036854775808≤z∧z≤9223372036854775807)
theorem Owns.ints {w:World} {base:Nat} {v:Value} {zs:List Int} (h:Owns w base v zs):IsInts w v zs:=by
 obtain ⟨hr,hle,hwf⟩:=h;have hr0:=hr
 rcases hr.2 with ⟨rfl,h0⟩ | ⟨g,cap,cur,rfl,_,_,hnc,hcm,_,_⟩
 ·obtain rfl:zs=[]:=List.length_eq_zero_iff.1 h0;exact ⟨none,0,rfl,by simp,by simp,by simp,fun _=>⟨rfl,rfl⟩,fun h=>by simp at h,fun z hz=>by simp at hz⟩
 ·refine ⟨_,cap,rfl,hnc,by simpa [maxLen] using hcm,hle,(fun h=>by cases h),fun _=>⟨g,0,rfl,fun t ht=>?_⟩,hwf⟩;rw [Nat.zero_add,hr0.cellAt t (by omega)];simp [List.getD,ht]
theorem Owns.more {w w':World} {base:Nat} {v:Value} {zs:List Int} (h:Owns w base v zs) {row:Option Nat} (hg:w.grownBy w' row) (hne:v.ownBlock=none∨v.ownBlock≠row):Owns w' base v zs :=
 ⟨h.1.kept hg hne,h.2⟩
theorem Owns.new {w w':World} {base:Nat} {v:Value} {zs:List Int} (h:Owns w base v zs) (hg:w.grownBy w' none):Owns w' base v zs :=
 h.more hg (by cases v.ownBlock <;> simp)
theorem Owns.base_le {w:World} {base b':Nat} {v:Value} {zs:List Int} (h:Owns w base v zs) (hb:b'≤base):Owns w b' v zs:=by
 refine ⟨⟨h.1.1,?_⟩,h.2⟩
 rcases h.1.2 with h0 | ⟨g,cap,cur,e,hg,r⟩
 ·exact .inl h0
 ·exact .inr ⟨g,cap,cur,e,by omega,r⟩
theorem jaa {a b c:World} (h:a.grownBy b none) (k:b.grownBy c none):a.grownBy c none :=
 ⟨k.os.trans h.os,k.tape.trans h.tape,k.output.trans h.output,Nat.le_trans h.size k.size,fun i hi _=>(k.block i (Nat.lt_of_lt_of_le hi h.size) (by simp)).trans (h.block i hi (by simp))⟩
theorem jan {a b c:World} (h:a.grownBy b none) {row:Option Nat} (k:b.grownBy c row) (hr:∀ g,row=some g→a.heap.size≤g):a.grownBy c none :=
 ⟨k.os.trans h.os,k.tape.trans h.tape,k.output.trans h.output,Nat.le_trans h.size k.size,fun i hi _=>(k.block i (Nat.lt_of_lt_of_le hi h.size) (fun e=>by have:=hr i e.symm;omega)).trans (h.block i hi (by simp))⟩
theorem jaf {a b:World} (h:a.grownBy b none):a.grownBy b.drew none:=⟨h.os,h.tape,h.output,h.size,h.block⟩
theorem jad (a:World):a.grownBy a none:=World.grownBy.refl a none
theorem jab (a:World) (o:Obj):a.grownBy (a.alloc o) none:=World.grownBy_alloc a o none
theorem jel {W w:World} (h:W.grownBy w none):Below W.heap.size W w:=⟨h.os,h.tape,h.output,h.size,fun k hk=>h.block k hk (by simp)⟩
theorem Owns.lt {w:World} {base:Nat} {v:Value} {zs:List Int} (h:Owns w base v zs):∀ k,v.ownBlock=some k→base≤k∧k<w.heap.size:=h.1.lt
theorem jkQ {v v':Value} {a b:Nat} (h:∀ k,v.ownBlock=some k→k<a) (h':∀ k,v'.ownBlock=some k→b≤k) (hab:a≤b):v.ownBlock=none∨v.ownBlock≠v'.ownBlock:=by
 cases hv:v.ownBlock with
 | none=>exact .inl rfl
 | some k =>
  refine .inr fun e=>?_;have h1:=h k hv;have h2:=h' k e.symm;omega
theorem jsv {w:World} {v:Value} {zs:List Int} (h:IsInts w v zs) (hz:zs≠[]):∀ k,v.ownBlock=some k→k<w.heap.size:=by
 obtain ⟨ao,cap,rfl,_,_,_,_,h5,_⟩:=h;have hl:0<zs.length:=by cases zs <;> simp_all
 obtain ⟨b,off,rfl,hc⟩:=h5 hl;intro k hk;simp only [Value.ownBlock,Option.some.injEq] at hk;subst hk;exact World.block_lt_of_cell? w _ (hc 0 hl)
end Go.Proofs.YteigfipgmghgmaaGreatDoor
namespace Go.Proofs.YteigfipgmghgmaaGreatDoor
open Go.RowKit
def bh (zs:List Int) (i:Nat):Int:=if zs.length≤i then 1 else zs.getD (zs.length - 1 - i) 0
theorem jcW (v:Value) (zs:List Int) (i:Nat) (w:World) (h:IsInts w v zs) (hi:i≤1000000000000) :
    Calls Tryz.prog 67 #[v,.int .i64 i] w fun e w'=>e=.returned (.int .i64 (bh zs i))∧w=w':=by
     obtain ⟨ao,cap,rfl,h1,h2,h3,h4,h5,h6⟩:=h
     by_cases hl:zs.length≤i
     ·have hb:bh zs i=1:=by simp [bh,hl]
      rw [hb];clear h4 h5 h6 hb;go_enter Tryz.func67,Tryz.ntmps67;go_wp2;go_ret;exact ⟨rfl,rfl⟩
     ·obtain ⟨b,off,rfl,hc⟩:=h5 (by omega);have hb:bh zs i=zs.getD (zs.length - 1 - i) 0:=by simp [bh,hl]
      have hcell:w.cell? ⟨b,off+(zs.length - 1 - i),none⟩=some (.int .i64 (bh zs i)):=by rw [hb];exact hc _ (by omega)
      clear h4 h5 h6 hb hc;go_enter Tryz.func67,Tryz.ntmps67;go_wp2;go_ret;exact ⟨rfl,rfl⟩
theorem jgI {zs:List Int} {k:Nat} (hk:k<zs.length) {z:Int} (hz:z=zs.getD k 0) (h:z<1):∃ z∈zs,z<1 :=
 ⟨zs.getD k 0,by simp [List.getD,hk],by omega⟩
theorem jmQ {zs:List Int} {p:Int→Prop} (h:∀ t,t<zs.length→p (zs.getD t 0)):∀ z∈zs,p z:=by
 intro z hz;obtain ⟨t,ht,rfl⟩:=List.mem_iff_getElem.1 hz;have:=h t ht;simpa [List.getD,ht] using this
theorem jec {E:Int} (h:¬ E=0):(E==0)=false:=by simpa using h
theorem jaK {k t:Nat} (h:t<k+1):t<k∨t=k:=by omega
theorem jem {zs:List Int} {e:Int} (h:ja2 zs=e) (he:e≠0):Ending.returned (.tuple #[.int .i64 0,.int .i64 e])=Ending.returned (.tuple #[.int .i64 (cnt zs),.int .i64 (ja2 zs)]):=by
 rw [h,jsu (by rw [h];exact he)]
theorem jui {zs:List Int} {k:Nat} (hk:k<zs.length):bh zs k=zs.getD (zs.length - 1 - k) 0:=by
 unfold bh;rw [if_neg (by omega)]
theorem jio {zs:List Int} {k:Nat} (hk:k<zs.length):jaA (zs.drop (zs.length - (k+1)))=jaA (zs.drop (zs.length - k))*bh zs k:=by
 rw [jea zs (zs.length - (k+1)) (by omega),jui hk,Int.mul_comm,show zs.length - (k+1)+1=zs.length - k by omega,show zs.length - (k+1)=zs.length - 1 - k by omega]
theorem jip {zs:List Int} {k:Nat} (h:∀ z∈zs,1≤z):1≤bh zs k:=by
 unfold bh
 split
 ·omega
 ·exact h _ (by rw [List.getD,List.getElem?_eq_getElem (by omega)];simp)
theorem jkR {p d:Int} (hp:1≤p):65536 / p<d↔65536<p*d:=by
 rw [Int.ediv_lt_iff_lt_mul (by omega),Int.mul_comm]
theorem jbX (v:Value) (zs:List Int) (w:World) (h:IsInts w v zs) :
    Calls Tryz.prog 44 #[v] w fun e w'=>e=.returned (.tuple #[.int .i64 (cnt zs),.int .i64 (ja2 zs)])∧w=w':=by
     have h0:=h;obtain ⟨ao,cap,rfl,h1,h2,h3,h4,h5,h6⟩:=h;go_enter Tryz.func44,Tryz.ntmps44;go_wp2;go_loopw [11] (fun i wr=>wr=w∧∃ k:Nat,k≤zs.length∧i=.int .i64 k∧∀ t,t<k→1≤zs.getD t 0) (fun i _=>zs.length - (intOf i).toNat)
     case atStart=>exact ⟨rfl,0,Nat.zero_le _,rfl,fun t h=>absurd h (by omega)⟩
     case round =>
      obtain ⟨hw,k,hk,rfl,hp⟩:=hrel;subst hw;have HP:Hid (∀ t,t<k→1≤zs.getD t 0):=hp;clear hp
      by_cases hkl:k<zs.length
      ·obtain ⟨b,off,rfl,hc⟩:=h5 (by omega);obtain ⟨z,hz⟩ : ∃ z,z=zs.getD k 0:=⟨_,rfl⟩
       have hcell:=hc k hkl;rw [← hz] at hcell;have HZ:Hid (z=zs.getD k 0):=hz;clear hz hc
       by_cases hz1:z<1
       ·have HE:Hid (ja2 zs=4):=jkP (jgI hkl HZ.out hz1);go_wp2;go_ret2;exact ⟨jem HE.out (by decide),rfl⟩
       ·go_wp2;go_roundw
        case rel =>
         refine ⟨by trivial,k+1,by omega,by go_num,fun t ht=>?_⟩
         rcases jaK ht with h | rfl
         ·exact HP.out t h
         ·have:=HZ.out;omega
        case measure=>simp [intOf];omega
      ·have hp:∀ z∈zs,1≤z:=jmQ (fun t ht=>HP.out t (by omega));have hP:Hid (∀ z∈zs,1≤z):=hp;clear HP hp
       by_cases h7:6<zs.length
       ·have HE:Hid (ja2 zs=6):=jin hP.out h7;go_wp2;go_ret2;exact ⟨jem HE.out (by decide),rfl⟩
       ·go_wp2;go_loopw [6,23] (fun n i w'=>w'=wr∧∃ k:Nat,k≤zs.length∧i=.int .i64 k∧n=.int .i64 (jaA (zs.drop (zs.length - k)))∧jaA (zs.drop (zs.length - k))≤65536) (fun _ i _=>zs.length - (intOf i).toNat)
        case atStart=>exact ⟨rfl,0,Nat.zero_le _,rfl,by simp [jaA],by simp [jaA]⟩
        case round =>
         obtain ⟨hw,j,hj,rfl,hn,hle⟩:=hrel;subst hw;have hp1:=prod_pos _ (jc4 hP.out (zs.length - j));obtain ⟨p,hpd⟩ : ∃ p,p=jaA (zs.drop (zs.length - j)):=⟨_,rfl⟩
         rw [← hpd] at hn hle hp1;subst hn;have HPD:Hid (p=jaA (zs.drop (zs.length - j))):=hpd;clear hpd
         by_cases hjl:j<zs.length
         ·have hb:=jcW _ zs j _ h0 (by omega);have hd1:=jip (k:=j) hP.out;have hst:=jio hjl;rw [← HPD.out] at hst;obtain ⟨d,hd⟩ : ∃ d,d=bh zs j:=⟨_,rfl⟩
          rw [← hd] at hb hd1 hst;have HST:Hid (jaA (zs.drop (zs.length - (j+1)))=p*d):=hst;have HB:=jac hb;clear hst hb hd
          by_cases ht:65536 / p<d
          ·have HE : Hid (ja2 zs = 6) := jgH hP.out (by
             have h1:=(jkR hp1).1 ht;have h2:=jdw hP.out (zs.length - (j+1));rw [HST.out] at h2;omega)
           go_wp2_with (go_at_call 67;refine (HB.out).mono ?_;rintro e w' ⟨rfl,rfl⟩);go_ret2;exact ⟨jem HE.out (by decide),rfl⟩
          ·have hle2 : p * d ≤ 65536 := by
             have h1:=mt (jkR hp1).2 ht;omega
           have hge2:0≤p*d:=Int.mul_nonneg (by omega) (by omega);go_wp2_with (go_at_call 67;refine (HB.out).mono ?_;rintro e w' ⟨rfl,rfl⟩);go_roundw
           case rel=>exact ⟨by trivial,j+1,by omega,by go_num,by rw [HST.out],by rw [HST.out];exact hle2⟩
           case measure=>simp [intOf];omega
         ·have HE:Hid (Fine zs):=⟨hP.out,by omega,by have:=HPD.out;rw [show zs.length - j=0 by omega] at this;simp at this;omega⟩
          have HN:Hid (p=cnt zs):=by show p=cnt zs;rw [HE.out.cnt];have:=HPD.out;rw [show zs.length - j=0 by omega] at this;simpa using this
          go_wp2;go_ret2;exact ⟨by rw [HE.out.ok,← HN.out];rfl,rfl⟩
end Go.Proofs.YteigfipgmghgmaaGreatDoor
namespace Go.Proofs.YteigfipgmghgmaaGreatDoor
open Go.RowKit
theorem jfd (v:Value) (zs:List Int) (w:World) (h:IsInts w v zs) :
    Calls Tryz.prog 17 #[v] w fun e w'=>e=.returned (.tuple #[.int .i64 (cnt zs),.int .i64 (ja2 zs)])∧w=w':=by
     obtain ⟨ao,cap,rfl,h1,h2,h3,h4,h5,h6⟩:=h;go_enter Tryz.func17,Tryz.ntmps17;go_wp2;go_loopw [4] (fun i wr=>wr=w∧∃ k:Nat,k≤zs.length∧i=.int .i64 k∧∀ t,t<k→1≤zs.getD t 0) (fun i _=>zs.length - (intOf i).toNat)
     case atStart=>exact ⟨rfl,0,Nat.zero_le _,rfl,fun t h=>absurd h (by omega)⟩
     case round =>
      obtain ⟨hw,k,hk,rfl,hp⟩:=hrel;subst hw;have HP:Hid (∀ t,t<k→1≤zs.getD t 0):=hp;clear hp
      by_cases hkl:k<zs.length
      ·obtain ⟨b,off,rfl,hc⟩:=h5 (by omega);obtain ⟨z,hz⟩ : ∃ z,z=zs.getD k 0:=⟨_,rfl⟩
       have hcell:=hc k hkl;rw [← hz] at hcell;have HZ:Hid (z=zs.getD k 0):=hz;clear hz hc
       by_cases hz1:z<1
       ·have HE:Hid (ja2 zs=4):=jkP (jgI hkl HZ.out hz1);go_wp2;go_ret2;exact ⟨jem HE.out (by decide),rfl⟩
       ·go_wp2;go_roundw
        case rel =>
         refine ⟨by trivial,k+1,by omega,by go_num,fun t ht=>?_⟩
         rcases jaK ht with h | rfl
         ·exact HP.out t h
         ·have:=HZ.out;omega
        case measure=>simp [intOf];omega
      ·have hp:∀ z∈zs,1≤z:=jmQ (fun t ht=>HP.out t (by omega));have hP:Hid (∀ z∈zs,1≤z):=hp;clear HP hp
       by_cases h7:6<zs.length
       ·have HE:Hid (ja2 zs=6):=jin hP.out h7;go_wp2;go_ret2;exact ⟨jem HE.out (by decide),rfl⟩
       ·go_wp2;go_loopw [5,6] (fun n i w'=>w'=wr∧∃ k:Nat,k≤zs.length∧i=.int .i64 k∧n=.int .i64 (jaA (zs.take k))∧jaA (zs.take k)≤65536) (fun _ i _=>zs.length - (intOf i).toNat)
        case atStart=>exact ⟨rfl,0,Nat.zero_le _,rfl,by simp [jaA],by simp [jaA]⟩
        case round =>
         obtain ⟨hw,j,hj,rfl,hn,hle⟩:=hrel;subst hw;have hp1:=prod_pos _ (jfo hP.out j);obtain ⟨p,hpd⟩ : ∃ p,p=jaA (zs.take j):=⟨_,rfl⟩
         rw [← hpd] at hn hle hp1;subst hn;have HPD:Hid (p=jaA (zs.take j)):=hpd;clear hpd
         by_cases hjl:j<zs.length
         ·obtain ⟨b,off,rfl,hc⟩:=h5 (by omega);have hst:=jeb zs j hjl;have hd1:1≤zs.getD j 0:=hP.out _ (by rw [List.getD,List.getElem?_eq_getElem (by omega)];simp);have hcell:=hc j hjl;rw [← HPD.out] at hst;obtain ⟨d,hd⟩ : ∃ d,d=zs.getD j 0:=⟨_,rfl⟩
          rw [← hd] at hcell hd1 hst;have HST:Hid (jaA (zs.take (j+1))=p*d):=hst;clear hst hd hc
          have hall : Hid (65536 < p * d → ja2 zs = 6) := fun ht => jgH hP.out (by
              have h2:=jcQ hP.out (j+1);rw [HST.out] at h2;omega)
          have hpd:d≤p*d:=jcD hp1 (by omega)
          by_cases ht:65536<d
          ·go_wp2;go_ret2;exact ⟨jem (hall.out (by omega)) (by decide),rfl⟩
          ·have hsm:p*d≤65536*65536:=Int.mul_le_mul (by omega) (by omega) (by omega) (by omega)
           by_cases ht2:65536<p*d
           ·go_wp2;go_ret2;exact ⟨jem (hall.out ht2) (by decide),rfl⟩
           ·go_wp2;go_roundw
            case rel=>exact ⟨by trivial,j+1,by omega,by go_num,by rw [HST.out],by rw [HST.out];omega⟩
            case measure=>simp [intOf];omega
         ·have HT:Hid (p=jaA zs):=by show p=jaA zs;have:=HPD.out;rw [List.take_of_length_le (by omega)] at this;exact this
          have HE:Hid (Fine zs):=⟨hP.out,by omega,by have:=HT.out;omega⟩
          have HN:Hid (p=cnt zs):=by show p=cnt zs;rw [HE.out.cnt];exact HT.out
          go_wp2;go_ret2;exact ⟨by rw [HE.out.ok,← HN.out];rfl,rfl⟩
theorem jdR {a b:List Int} (hl:a.length=b.length) (h:∀ t,t<a.length→a.getD t 0=b.getD t 0):a=b:=by
 apply List.ext_getElem hl;intro t h1 h2;have:=h t h1;simpa [List.getD,h1,h2] using this
end Go.Proofs.YteigfipgmghgmaaGreatDoor
namespace Go.Proofs.YteigfipgmghgmaaGreatDoor
open Go.RowKit
theorem jdx:(Tryz.prog.info? 3).map (fun i=>(i.zero,i.size,i.bytes))=some (some (.int .i64 0),1,8):=by kernel_rfl
theorem jlA {w:World} {b off:Nat} {ys:List Int} (hc:∀ t,t<ys.length→w.cell? ⟨b,off+t,none⟩=some (.int .i64 (ys.getD t 0))) :
    ∀ j u,(ys.map (Value.int .i64))[j]?=some u→w.cell? ((⟨b,off,none⟩ : Addr).add j)=some u:=by
     intro j u hu;obtain ⟨hj,hv⟩:=List.getElem?_eq_some_iff.1 hu;have hj':j<ys.length:=by simpa using hj
     rw [Addr.add_lit,hc j hj',← hv];simp [List.getD,hj']
theorem jdS {w : World} {ops : Array Oper} {rest : List Oper} {o : Oper} {a : Act} {Q : Exit → Act → World → Prop} (hgd : o.guard = none) (s x : Operand)
    (ho:o.op=.call { callee:=.builtin .append,args:=#[s,x],argTypes:=#[29,29] })
    (base:Nat) (v:Value) (xs:List Int) (hs:a.eval s=v) (hown:Owns w base v xs) (xv:Value) (ys:List Int) (hx:a.eval x=xv) (hys:IsInts w xv ys)
    (hbytes:(xs.length+ys.length)*8≤140737488351232) (hbase:base≤w.heap.size)
    (h:∀ v' w',Owns w' base v' (xs++ys)→w.grownBy w' v.ownBlock→wpList Tryz.prog ops Q rest (a.put o.dst v') w'):wpList Tryz.prog ops Q (o::rest) a w:=by
     obtain ⟨i0,hi,hz0,hz1,hz2⟩:=info_parts jdx;obtain ⟨ao,cap,rfl,h1,h2,h3,h4,h5,h6⟩:=hys
     cases ao with
     | none =>
      obtain ⟨rfl,rfl⟩:=h4 rfl;refine wpList_append_own_none hgd s x 29 ho base 3 i0 1 Tryz.underlying29 hi v _ _ hs hown.1 hx ?_;exact h v w (by simpa using hown) (World.grownBy.refl _ _)
     | some ad =>
      refine wpList_append_own w hgd s x 29 ho base 3 i0 (.int .i64 0) 1 8 Tryz.underlying29 hi hz0 hz1 hz2 rfl (by decide) v _ _ hs hown.1 ad ys.length cap (ys.map (Value.int .i64)) hx (by simp) ?_ (ints_oneCell _ _) (by simp only [maxLen];omega) (by omega) hbase ?_
      ·by_cases hl:0<ys.length
       ·obtain ⟨b,off,hao,hc⟩:=h5 hl;obtain rfl:=Option.some.inj hao;exact jlA hc
       ·obtain rfl:ys=[]:=List.length_eq_zero_iff.1 (by omega);intro j u hu;simp at hu
      ·intro v' w' ho' hg _;refine h v' w' ⟨by simpa using ho',by simpa using hbytes,fun z hz=>?_⟩ hg
       rcases List.mem_append.1 hz with h | h
       ·exact hown.2.2 z h
       ·exact h6 z h
theorem jbp (w:World) (base:Nat):Owns w base (.slice none 0 0) []:=⟨World.ownsRow_nil _ _ _ _,by simp,fun z hz=>by simp at hz⟩
theorem jbN {a b c:World} {row:Option Nat} (h:a.grownBy b row) (k:b.grownBy c row):a.grownBy c row :=
 ⟨k.os.trans h.os,k.tape.trans h.tape,k.output.trans h.output,Nat.le_trans h.size k.size,fun i hi hn=>(k.block i (Nat.lt_of_lt_of_le hi h.size) hn).trans (h.block i hi hn)⟩
end Go.Proofs.YteigfipgmghgmaaGreatDoor
namespace Go.Proofs.YteigfipgmghgmaaGreatDoor
open Go.RowKit
def ja1 (n k:Nat) (l:List Int):List Int:=List.replicate (n - k) 0++l
theorem jhg {n k:Nat} (hk:k<n) (l:List Int) (z:Int):(ja1 n k l).set (n - 1 - k) z=ja1 n (k+1) (z::l):=by
 unfold ja1
 have e:List.replicate (n - k) (0:Int)=List.replicate (n - (k+1)) 0++[0]:=by
  rw [show n - k=(n - (k+1))+1 by omega,List.replicate_succ']
 rw [e,show n - 1 - k=n - (k+1) by omega,List.append_assoc,List.set_append_right _ _ (by simp)];simp
theorem jmR {zs:List Int} {k:Nat} (hk:k<zs.length):jcj (zs.drop (zs.length - (k+1)))=jaA (zs.drop (zs.length - k))::jcj (zs.drop (zs.length - k)):=by
 rw [jba zs (zs.length - (k+1)) (by omega),show zs.length - (k+1)+1=zs.length - k by omega]
 rfl
theorem jkS {zs:List Int} {k:Nat} (hk:k<zs.length):jaA (zs.drop (zs.length - (k+1)))=jaA (zs.drop (zs.length - k))*zs.getD (zs.length - 1 - k) 0:=by
 rw [jio hk,jui hk]
theorem jfx (l:List Int) (i:Nat) (z:Int):(l.map (Value.int .i64)).set i (.int .i64 z)=(l.set i z).map (Value.int .i64):=by
 rw [List.map_set]
theorem jcA (n:Nat):(madeCells (Value.int .i64 0).cells (n*1)).toList=(List.replicate n (0:Int)).map (Value.int .i64):=by
 rw [Nat.mul_one,show (Value.int .i64 0).cells=#[Value.int .i64 0] from rfl,toList_madeCells_one];simp
theorem jmS {zs:List Int} (h:Fine zs):∀ s∈jcj zs,1≤s∧s≤65536:=by
 induction zs with
 | nil=>intro s hs;simp [jcj] at hs
 | cons z zs ih =>
  intro s hs;have hd:Fine zs:=by have:=h.drop 1;simpa using this
  rcases List.mem_cons.1 hs with rfl | hs
  ·exact ⟨hd.prod_pos,hd.le⟩
  ·exact ih hd s hs
theorem jco {w wr : World} {n k : Nat} {l : List Int} {z : Int} (hk : k < n) (hw : w.grownBy wr none)
    (hown:wr.ownsRow w.heap.size 3 1 (.slice (some ⟨w.heap.size,0,none⟩) n n) n ((ja1 n k l).map (Value.int .i64))) :
    (∃ c,wr.cell? ⟨w.heap.size,n - 1 - k,none⟩=some c)∧wr.frozen? ⟨w.heap.size,n - 1 - k,none⟩=false ∧
    (wr.setCell ⟨w.heap.size,n - 1 - k,none⟩ (.int .i64 z)).ownsRow w.heap.size 3 1 (.slice (some ⟨w.heap.size,0,none⟩) n n) n ((ja1 n (k+1) (z::l)).map (Value.int .i64)) ∧
    w.grownBy (wr.setCell ⟨w.heap.size,n - 1 - k,none⟩ (.int .i64 z)) none:=by
     have hl:=hown.1;refine ⟨⟨_,by rw [hown.cellAt (n - 1 - k) (by omega),List.getElem?_eq_getElem (by omega)]⟩,hown.frozenAt _,?_,jan hw (hown.stored (n - 1 - k) (.int .i64 z)).2 (fun g hg=>by injection hg with hg;omega)⟩;have:=(hown.stored (n - 1 - k) (.int .i64 z)).1;rw [jfx,jhg hk] at this;exact this
theorem jbH {w:World} {b off cap len:Nat} {zs:List Int} (h:IsInts w (.slice (some ⟨b,off,none⟩) len cap) zs) {k:Nat} (hk:k<zs.length) :
    w.cell? ⟨b,off+k,none⟩=some (.int .i64 (zs.getD k 0)):=by
     obtain ⟨_,_,he,-,-,-,-,h5,-⟩:=h;obtain ⟨b',off',ho,hc⟩:=h5 (by omega);simp only [Value.slice.injEq] at he;rw [ho] at he;simp only [Option.some.injEq,Addr.mk.injEq] at he;obtain ⟨⟨rfl,rfl,-⟩,-⟩:=he;exact hc k hk
theorem jbQ {w:World} {ao:Option Addr} {cap len:Nat} {zs:List Int} (h:IsInts w (.slice ao len cap) zs) (hk:0<zs.length):∃ b off,ao=some ⟨b,off,none⟩:=by
 obtain ⟨_,_,he,-,-,-,-,h5,-⟩:=h;obtain ⟨b',off',ho,-⟩:=h5 hk;simp only [Value.slice.injEq] at he;exact ⟨b',off',by rw [he.1,ho]⟩
theorem jkT {w:World} {b off cap len:Nat} {zs:List Int} (h:IsInts w (.slice (some ⟨b,off,none⟩) len cap) zs) (hk:0<zs.length):b<w.heap.size :=
 World.block_lt_of_cell? w _ (jbH h hk)
def jez (zs:List Int):List Int:=if ja2 zs=0 then jcj zs else []
theorem jjC (v:Value) (zs:List Int) (w:World) (h:IsInts w v zs) :
    Calls Tryz.prog 93 #[v] w fun e w'=>∃ u,e=.returned (.tuple #[u,.int .i64 (ja2 zs)])∧Owns w' w.heap.size u (jez zs)∧w.grownBy w' none:=by
     obtain ⟨i0,hi,hz0,hz1,hz2⟩:=info_parts jdx;have hcount:=jac (jbX v zs w h);have h0:=jac h;obtain ⟨ao,cap,rfl,h1,h2,h3,-,-,-⟩:=h
     rcases jlz zs with hE | hE | hE
     ·have HF:=jac (jbb hE);have HE:=jac hE;rw [hE] at hcount;rw [show jez zs=jcj zs by simp [jez,hE],hE];clear hE;have hb2:i0.bytes*zs.length≤281474976710656:=by rw [hz2];omega
      have hb3:zs.length≤maxLen:=by simp only [maxLen];omega
      go_enter Tryz.func93,Tryz.ntmps93;go_wp2_with (first | (go_at_call 44;refine hcount.out.mono ?_;rintro e w' ⟨rfl,rfl⟩) | (refine wpList_make_full _ rfl (.tmp 19) (.tmp 19) 29 rfl w.heap.size 3 i0 (.int .i64 0) 1 Tryz.underlying29 hi hz0 hz1 .i64 .i64 _ _ zs.length rfl rfl rfl rfl hb2 hb3 (Nat.le_refl _) ?_;intro w1 hown hgrow));rw [jcA] at hown
      go_loopw [7,23] (fun n i wr=>w.grownBy wr none∧∃ k:Nat,k≤zs.length∧i=.int .i64 k∧n=.int .i64 (jaA (zs.drop (zs.length - k))) ∧
       wr.ownsRow w.heap.size 3 1 (.slice (some ⟨w.heap.size,0,none⟩) zs.length zs.length) zs.length ((ja1 zs.length k (jcj (zs.drop (zs.length - k)))).map (Value.int .i64))) (fun _ i _=>zs.length - (intOf i).toNat)
      case atStart=>exact ⟨hgrow,0,Nat.zero_le _,rfl,by simp [jaA],by simpa [ja1,jcj] using hown⟩
      case round =>
       clear hown hgrow;obtain ⟨hw,k,hk,rfl,hn,hown⟩:=hrel;have hd:=HF.out.drop (zs.length - k);have hp1:=hd.prod_pos;have hp2:=hd.le;obtain ⟨p,hpd⟩ : ∃ p,p=jaA (zs.drop (zs.length - k)):=⟨_,rfl⟩
       rw [← hpd] at hn hp1 hp2;subst hn;have HPD:=jac hpd;clear hpd hd
       by_cases hkl:k<zs.length
       ·obtain ⟨b,off,rfl⟩:=jbQ h0.out (by omega);have hb:=jkT h0.out (by omega);have hcell:=jbH (h0.out.more hw) (k:=zs.length - 1 - k) (by omega);obtain ⟨⟨c,hc⟩,hf,hown2,hw2⟩:=jco (z:=p) hkl hw hown;have hmul:=jkS hkl;rw [← HPD.out] at hmul;have hdl:=(HF.out.drop (zs.length - (k+1))).le;rw [hmul] at hdl;have hd1:=HF.out.at (zs.length - 1 - k) (by omega);obtain ⟨d,hd⟩ : ∃ d,d=zs.getD (zs.length - 1 - k) 0:=⟨_,rfl⟩
        rw [← hd] at hcell hmul hdl hd1;have hpd0:0≤p*d:=Int.mul_nonneg (by omega) (by omega);have HM:=jac hmul;have HO:=jac hown2;have HW:=jac hw2;clear hd hmul hown hown2 hw2 hw;go_wp2;go_roundw
        case rel =>
         refine ⟨HW.out,k+1,by omega,by go_num,by rw [HM.out],?_⟩;rw [jmR hkl,← HPD.out];exact HO.out
        case measure=>simp [intOf];omega
       ·have HO:=jac hown;clear hown;go_wp2;go_ret2;refine ⟨_,rfl,⟨?_,?_,?_⟩,hw⟩
        ·have:=HO.out;rw [show zs.length - k=0 by omega,show ja1 zs.length k (jcj (zs.drop 0))=jcj zs by simp [ja1,show zs.length - k=0 by omega]] at this;rw [jcF];exact this
        ·rw [jcF];omega
        ·intro s hs;have:=jmS HF.out s hs;omega
     all_goals
      have HE:=jac hE;rw [hE] at hcount;rw [show jez zs=[] by simp [jez,hE],hE];clear hE;go_enter Tryz.func93,Tryz.ntmps93;go_wp2_with (go_at_call 44;refine hcount.out.mono ?_;rintro e w' ⟨rfl,rfl⟩);go_ret2;exact ⟨_,rfl,jbp _ _,jad _⟩
end Go.Proofs.YteigfipgmghgmaaGreatDoor
namespace Go.Proofs.YteigfipgmghgmaaGreatDoor
open Go.RowKit
def jbC (p q:Int):Bool:=!(p==q)&&(!(p==1)&&!(q==1))
def bcL (a b:List Int):Nat→List Int
 | 0=>[]
 | k+1=>max (bh a k) (bh b k)::bcL a b k
def jcG (a b:List Int):Nat→Bool
 | 0=>false
 | k+1=>jbC (bh a k) (bh b k)||jcG a b k
def jaL (a b:List Int):Nat:=max a.length b.length
def bcE (a b:List Int):Int:=if ja2 a≠0 then ja2 a else if ja2 b≠0 then ja2 b else if jcG a b (jaL a b)=true then 4 else ja2 (bcL a b (jaL a b))
def bcR (a b:List Int):List Int:=if bcE a b=0 then bcL a b (jaL a b) else []
theorem jcB (a b:List Int) (k:Nat):(bcL a b k).length=k:=by
 induction k with
 | zero=>rfl
 | succ k ih=>simp [bcL,ih]
theorem jhh {a b:List Int} {k n:Nat} (hk:k<n) (h:jbC (bh a k) (bh b k)=true):jcG a b n=true:=by
 induction n with
 | zero=>omega
 | succ n ih =>
  rcases jaK hk with h1 | rfl
  ·simp [jcG,ih h1]
  ·simp [jcG,h]
theorem juj {zs:List Int} (h:∀ z∈zs,-9223372036854775808≤z∧z≤9223372036854775807) (i:Nat) : -9223372036854775808≤bh zs i∧bh zs i≤9223372036854775807:=by
 unfold bh
 split
 ·omega
 ·exact h _ (by rw [List.getD,List.getElem?_eq_getElem (by omega)];simp)
theorem jrY {a b:List Int} (ha:∀ z∈a,-9223372036854775808≤z∧z≤9223372036854775807) (hb:∀ z∈b,-9223372036854775808≤z∧z≤9223372036854775807) (k:Nat):∀ z∈bcL a b k,-9223372036854775808≤z∧z≤9223372036854775807:=by
 induction k with
 | zero=>intro z hz;simp [bcL] at hz
 | succ k ih =>
  intro z hz
  rcases List.mem_cons.1 hz with rfl | hz
  ·have h1:=juj ha k;have h2:=juj hb k;omega
  ·exact ih z hz
theorem jfy (p q:Int) (h:jbC p q=true):(p==q)=false∧(p==1)=false∧(q==1)=false:=by
 simp only [jbC,Bool.and_eq_true,Bool.not_eq_true'] at h;exact h
theorem jgJ {E:Int} {a b:List Int} {w w':World} (h:bcE a b=E) (h0:E≠0) (hg:w.grownBy w' none) :
    ∃ u,Ending.returned (.tuple #[.slice none 0 0,.int .i64 E])=.returned (.tuple #[u,.int .i64 (bcE a b)])∧Owns w' w.heap.size u (bcR a b)∧w.grownBy w' none :=
     ⟨_,by rw [h],by rw [show bcR a b=[] by simp [bcR,h,h0]];exact jbp _ _,hg⟩
theorem jfp {zs:List Int} (h:ja2 zs≠0):(ja2 zs==0)=false:=by simpa using h
theorem jrZ (v u:Value) (a b:List Int) (w:World) (h:IsInts w v a) (hu:IsInts w u b) :
    Calls Tryz.prog 40 #[v,u] w fun e w'=>∃ r,e=.returned (.tuple #[r,.int .i64 (bcE a b)])∧Owns w' w.heap.size r (bcR a b)∧w.grownBy w' none:=by
     obtain ⟨i0,hi,hz0,hz1,hz2⟩:=info_parts jdx;have hca:=jac (jbX v a w h);have hcb:=jac (jbX u b w hu);have h0:=jac h;have hu0:=jac hu;obtain ⟨ao,cap,rfl,h1,h2,h3,-,-,-⟩:=h;obtain ⟨bo,bcap,rfl,hb1,hb2,hb3,-,-,-⟩:=hu
     by_cases hE:ja2 a=0
     ·by_cases hF:ja2 b=0
      ·have HA:=jac (jbb hE);have HB:=jac (jbb hF);have HEF:Hid (bcE a b=if jcG a b (jaL a b)=true then 4 else ja2 (bcL a b (jaL a b))):=by simp [Hid,bcE,hE,hF]
       rw [hE] at hca;rw [hF] at hcb;clear hE hF;have hl1:=HA.out.few;have hl2:=HB.out.few
       by_cases hlt:a.length<b.length
       ·skip
        have HR:Hid (b.length=jaL a b):=by simp only [Hid,jaL];omega
        rw [← HR.out] at HEF;have hb4:i0.bytes*b.length≤281474976710656:=by rw [hz2];omega
        have hb5:b.length≤maxLen:=by simp only [maxLen];omega
        go_enter Tryz.func40,Tryz.ntmps40;go_wp2_with fail;refine hca.out.mono ?_;rintro e w' ⟨rfl,rfl⟩;go_wp2_with fail;refine hcb.out.mono ?_;rintro e w' ⟨rfl,rfl⟩;go_wp2_with (refine wpList_make_full _ rfl (.tmp 38) (.tmp 38) 29 rfl w.heap.size 3 i0 (.int .i64 0) 1 Tryz.underlying29 hi hz0 hz1 .i64 .i64 _ _ b.length rfl rfl rfl rfl hb4 hb5 (Nat.le_refl _) ?_;intro w1 hown hgrow);rw [jcA] at hown
        go_loopw [41] (fun i wr=>w.grownBy wr none∧∃ k:Nat,k≤b.length∧i=.int .i64 k∧jcG a b k=false ∧
         wr.ownsRow w.heap.size 3 1 (.slice (some ⟨w.heap.size,0,none⟩) b.length b.length) b.length ((ja1 b.length k (bcL a b k)).map (Value.int .i64))) (fun i _=>b.length - (intOf i).toNat)
        case atStart=>exact ⟨hgrow,0,Nat.zero_le _,rfl,rfl,by simpa [ja1,bcL] using hown⟩
        case round =>
         clear hown hgrow;obtain ⟨hw,k,hk,rfl,hbad,hown⟩:=hrel;have HBAD:=jac hbad;clear hbad
         by_cases hkl:k<b.length
         ·have hpa:=jcW _ a k _ (h0.out.more hw) (by omega);have hpb:=jcW _ b k _ (hu0.out.more hw) (by omega);have hp1:=jip (k:=k) HA.out.pos;have hq1:=jip (k:=k) HB.out.pos;have hbo:=@jhh a b k b.length hkl;obtain ⟨p,hp⟩ : ∃ p,p=bh a k:=⟨_,rfl⟩
          obtain ⟨q,hq⟩ : ∃ q,q=bh b k:=⟨_,rfl⟩
          rw [← hp] at hpa hp1 hbo;rw [← hq] at hpb hq1 hbo;have HPA:=jac hpa;have HPB:=jac hpb;have HP:=jac hp;have HQ:=jac hq;have HBO:=jac hbo;clear hpa hpb hp hq hbo
          by_cases hap:jbC p q=true
          ·obtain ⟨t1,t2,t3⟩:=jfy p q hap;have HE4:Hid (bcE a b=4):=by simp only [Hid];rw [HEF.out,if_pos (HBO.out hap)]
           have n1:(p != q)=true:=by simp [bne,t1]
           have n2:(p != 1)=true:=by simp [bne,t2]
           have n3:(q != 1)=true:=by simp [bne,t3]
           clear hap t1 t2 t3;go_wp2_with fail;refine HPA.out.mono ?_;rintro e w' ⟨rfl,rfl⟩;go_wp2_with fail;refine HPB.out.mono ?_;rintro e w' ⟨rfl,rfl⟩;go_wp2;go_ret2;exact jgJ HE4.out (by decide) hw
          ·have HNB:Hid (jbC p q=false):=by simp only [Hid];simpa using hap
           rcases (show p=q∨(p≠q∧p=1)∨(p≠q∧p≠1∧q=1) by
            simp only [jbC,Bool.and_eq_true,Bool.not_eq_true',beq_eq_false_iff_ne,ne_eq] at hap;omega) with hc1 | ⟨hc1,hc2⟩ | ⟨hc1,hc2,hc3⟩
           ·subst hc1;obtain ⟨⟨c,hc⟩,hf,hown2,hw2⟩:=jco (z:=p) hkl hw hown;have HM:Hid (p=max p p):=by simp only [Hid];omega
            have HO:=jac hown2;have HW:=jac hw2;clear hap;clear hown hown2 hw2 hw;go_wp2_with fail;refine HPA.out.mono ?_;rintro e w' ⟨rfl,rfl⟩;go_wp2_with fail;refine HPB.out.mono ?_;rintro e w' ⟨rfl,rfl⟩;go_wp2;go_roundw
            case rel =>
             refine ⟨HW.out,k+1,by omega,by go_num,?_,?_⟩
             ·simp only [jcG];rw [← HP.out,← HQ.out,HNB.out,HBAD.out]
              rfl
             ·simp only [bcL];rw [← HP.out,← HQ.out,← HM.out];exact HO.out
            case measure=>simp [intOf];omega
           ·subst hc2;obtain ⟨⟨c,hc⟩,hf,hown2,hw2⟩:=jco (z:=q) hkl hw hown;have HM:Hid (q=max 1 q):=by simp only [Hid];omega
            have HO:=jac hown2;have HW:=jac hw2;have n1:1<q:=by omega
            have n2:((1:Int) != q)=true:=by simp;omega
            clear hap hc1;clear hown hown2 hw2 hw;go_wp2_with fail;refine HPA.out.mono ?_;rintro e w' ⟨rfl,rfl⟩;go_wp2_with fail;refine HPB.out.mono ?_;rintro e w' ⟨rfl,rfl⟩;go_wp2;go_roundw
            case rel =>
             refine ⟨HW.out,k+1,by omega,by go_num,?_,?_⟩
             ·simp only [jcG];rw [← HP.out,← HQ.out,HNB.out,HBAD.out]
              rfl
             ·simp only [bcL];rw [← HP.out,← HQ.out,← HM.out];exact HO.out
            case measure=>simp [intOf];omega
           ·subst hc3;obtain ⟨⟨c,hc⟩,hf,hown2,hw2⟩:=jco (z:=p) hkl hw hown;have HM:Hid (p=max p 1):=by simp only [Hid];omega
            have HO:=jac hown2;have HW:=jac hw2;have n1:1<p:=by omega
            have n2:(p != 1)=true:=by simp;omega
            clear hap hc1 hc2;clear hown hown2 hw2 hw;go_wp2_with fail;refine HPA.out.mono ?_;rintro e w' ⟨rfl,rfl⟩;go_wp2_with fail;refine HPB.out.mono ?_;rintro e w' ⟨rfl,rfl⟩;go_wp2;go_roundw
            case rel =>
             refine ⟨HW.out,k+1,by omega,by go_num,?_,?_⟩
             ·simp only [jcG];rw [← HP.out,← HQ.out,HNB.out,HBAD.out]
              rfl
             ·simp only [bcL];rw [← HP.out,← HQ.out,← HM.out];exact HO.out
            case measure=>simp [intOf];omega
         ·have HOW : Hid (Owns wr w.heap.size (.slice (some ⟨w.heap.size, 0, none⟩) b.length b.length) (bcL a b b.length)) := by
            refine ⟨?_,by rw [jcB];omega,jrY h0.out.wf hu0.out.wf _⟩;have:=hown;rw [show k=b.length by omega,show ja1 b.length b.length (bcL a b b.length)=bcL a b b.length by simp [ja1]] at this;rw [jcB];exact this
          have HB0:Hid (jcG a b b.length=false):=by simp only [Hid];rw [show b.length=k by omega];exact HBAD.out
          have hcc:=jbX _ _ _ HOW.out.ints;have hEE:bcE a b=ja2 (bcL a b b.length):=by rw [HEF.out,if_neg (by rw [HB0.out];decide)]
          by_cases hz:ja2 (bcL a b b.length)=0
          ·rw [hz] at hcc hEE;have HEE:=jac hEE;have HCC:=jac hcc;have HRR:Hid (bcR a b=bcL a b b.length):=by simp [Hid,bcR,hEE,← HR.out]
           clear hcc hEE hz hown;go_wp2_with fail;refine HCC.out.mono ?_;rintro e w' ⟨rfl,rfl⟩;go_wp2;go_ret2;refine ⟨_,by rw [HEE.out];rfl,?_,hw⟩;rw [HRR.out];exact HOW.out
          ·have hz':=jfp hz;have HZ:=jac hz;have HEE:=jac hEE;have HCC:=jac hcc;obtain ⟨E,hE⟩ : ∃ E,E=ja2 (bcL a b b.length):=⟨_,rfl⟩
           rw [← hE] at hz' HZ HEE HCC;clear hcc hEE hz hE hown;go_wp2_with fail;refine HCC.out.mono ?_;rintro e w' ⟨rfl,rfl⟩;go_wp2;go_ret2;exact jgJ HEE.out HZ.out hw
       ·skip
        have HR:Hid (a.length=jaL a b):=by simp only [Hid,jaL];omega
        rw [← HR.out] at HEF;have hb4:i0.bytes*a.length≤281474976710656:=by rw [hz2];omega
        have hb5:a.length≤maxLen:=by simp only [maxLen];omega
        go_enter Tryz.func40,Tryz.ntmps40;go_wp2_with fail;refine hca.out.mono ?_;rintro e w' ⟨rfl,rfl⟩;go_wp2_with fail;refine hcb.out.mono ?_;rintro e w' ⟨rfl,rfl⟩;go_wp2_with (refine wpList_make_full _ rfl (.tmp 38) (.tmp 38) 29 rfl w.heap.size 3 i0 (.int .i64 0) 1 Tryz.underlying29 hi hz0 hz1 .i64 .i64 _ _ a.length rfl rfl rfl rfl hb4 hb5 (Nat.le_refl _) ?_;intro w1 hown hgrow);rw [jcA] at hown
        go_loopw [41] (fun i wr=>w.grownBy wr none∧∃ k:Nat,k≤a.length∧i=.int .i64 k∧jcG a b k=false ∧
         wr.ownsRow w.heap.size 3 1 (.slice (some ⟨w.heap.size,0,none⟩) a.length a.length) a.length ((ja1 a.length k (bcL a b k)).map (Value.int .i64))) (fun i _=>a.length - (intOf i).toNat)
        case atStart=>exact ⟨hgrow,0,Nat.zero_le _,rfl,rfl,by simpa [ja1,bcL] using hown⟩
        case round =>
         clear hown hgrow;obtain ⟨hw,k,hk,rfl,hbad,hown⟩:=hrel;have HBAD:=jac hbad;clear hbad
         by_cases hkl:k<a.length
         ·have hpa:=jcW _ a k _ (h0.out.more hw) (by omega);have hpb:=jcW _ b k _ (hu0.out.more hw) (by omega);have hp1:=jip (k:=k) HA.out.pos;have hq1:=jip (k:=k) HB.out.pos;have hbo:=@jhh a b k a.length hkl;obtain ⟨p,hp⟩ : ∃ p,p=bh a k:=⟨_,rfl⟩
          obtain ⟨q,hq⟩ : ∃ q,q=bh b k:=⟨_,rfl⟩
          rw [← hp] at hpa hp1 hbo;rw [← hq] at hpb hq1 hbo;have HPA:=jac hpa;have HPB:=jac hpb;have HP:=jac hp;have HQ:=jac hq;have HBO:=jac hbo;clear hpa hpb hp hq hbo
          by_cases hap:jbC p q=true
          ·obtain ⟨t1,t2,t3⟩:=jfy p q hap;have HE4:Hid (bcE a b=4):=by simp only [Hid];rw [HEF.out,if_pos (HBO.out hap)]
           have n1:(p != q)=true:=by simp [bne,t1]
           have n2:(p != 1)=true:=by simp [bne,t2]
           have n3:(q != 1)=true:=by simp [bne,t3]
           clear hap t1 t2 t3;go_wp2_with fail;refine HPA.out.mono ?_;rintro e w' ⟨rfl,rfl⟩;go_wp2_with fail;refine HPB.out.mono ?_;rintro e w' ⟨rfl,rfl⟩;go_wp2;go_ret2;exact jgJ HE4.out (by decide) hw
          ·have HNB:Hid (jbC p q=false):=by simp only [Hid];simpa using hap
           rcases (show p=q∨(p≠q∧p=1)∨(p≠q∧p≠1∧q=1) by
            simp only [jbC,Bool.and_eq_true,Bool.not_eq_true',beq_eq_false_iff_ne,ne_eq] at hap;omega) with hc1 | ⟨hc1,hc2⟩ | ⟨hc1,hc2,hc3⟩
           ·subst hc1;obtain ⟨⟨c,hc⟩,hf,hown2,hw2⟩:=jco (z:=p) hkl hw hown;have HM:Hid (p=max p p):=by simp only [Hid];omega
            have HO:=jac hown2;have HW:=jac hw2;clear hap;clear hown hown2 hw2 hw;go_wp2_with fail;refine HPA.out.mono ?_;rintro e w' ⟨rfl,rfl⟩;go_wp2_with fail;refine HPB.out.mono ?_;rintro e w' ⟨rfl,rfl⟩;go_wp2;go_roundw
            case rel =>
             refine ⟨HW.out,k+1,by omega,by go_num,?_,?_⟩
             ·simp only [jcG];rw [← HP.out,← HQ.out,HNB.out,HBAD.out]
              rfl
             ·simp only [bcL];rw [← HP.out,← HQ.out,← HM.out];exact HO.out
            case measure=>simp [intOf];omega
           ·subst hc2;obtain ⟨⟨c,hc⟩,hf,hown2,hw2⟩:=jco (z:=q) hkl hw hown;have HM:Hid (q=max 1 q):=by simp only [Hid];omega
            have HO:=jac hown2;have HW:=jac hw2;have n1:1<q:=by omega
            have n2:((1:Int) != q)=true:=by simp;omega
            clear hap hc1;clear hown hown2 hw2 hw;go_wp2_with fail;refine HPA.out.mono ?_;rintro e w' ⟨rfl,rfl⟩;go_wp2_with fail;refine HPB.out.mono ?_;rintro e w' ⟨rfl,rfl⟩;go_wp2;go_roundw
            case rel =>
             refine ⟨HW.out,k+1,by omega,by go_num,?_,?_⟩
             ·simp only [jcG];rw [← HP.out,← HQ.out,HNB.out,HBAD.out]
              rfl
             ·simp only [bcL];rw [← HP.out,← HQ.out,← HM.out];exact HO.out
            case measure=>simp [intOf];omega
           ·subst hc3;obtain ⟨⟨c,hc⟩,hf,hown2,hw2⟩:=jco (z:=p) hkl hw hown;have HM:Hid (p=max p 1):=by simp only [Hid];omega
            have HO:=jac hown2;have HW:=jac hw2;have n1:1<p:=by omega
            have n2:(p != 1)=true:=by simp;omega
            clear hap hc1 hc2;clear hown hown2 hw2 hw;go_wp2_with fail;refine HPA.out.mono ?_;rintro e w' ⟨rfl,rfl⟩;go_wp2_with fail;refine HPB.out.mono ?_;rintro e w' ⟨rfl,rfl⟩;go_wp2;go_roundw
            case rel =>
             refine ⟨HW.out,k+1,by omega,by go_num,?_,?_⟩
             ·simp only [jcG];rw [← HP.out,← HQ.out,HNB.out,HBAD.out]
              rfl
             ·simp only [bcL];rw [← HP.out,← HQ.out,← HM.out];exact HO.out
            case measure=>simp [intOf];omega
         ·have HOW : Hid (Owns wr w.heap.size (.slice (some ⟨w.heap.size, 0, none⟩) a.length a.length) (bcL a b a.length)) := by
            refine ⟨?_,by rw [jcB];omega,jrY h0.out.wf hu0.out.wf _⟩;have:=hown;rw [show k=a.length by omega,show ja1 a.length a.length (bcL a b a.length)=bcL a b a.length by simp [ja1]] at this;rw [jcB];exact this
          have HB0:Hid (jcG a b a.length=false):=by simp only [Hid];rw [show a.length=k by omega];exact HBAD.out
          have hcc:=jbX _ _ _ HOW.out.ints;have hEE:bcE a b=ja2 (bcL a b a.length):=by rw [HEF.out,if_neg (by rw [HB0.out];decide)]
          by_cases hz:ja2 (bcL a b a.length)=0
          ·rw [hz] at hcc hEE;have HEE:=jac hEE;have HCC:=jac hcc;have HRR:Hid (bcR a b=bcL a b a.length):=by simp [Hid,bcR,hEE,← HR.out]
           clear hcc hEE hz hown;go_wp2_with fail;refine HCC.out.mono ?_;rintro e w' ⟨rfl,rfl⟩;go_wp2;go_ret2;refine ⟨_,by rw [HEE.out];rfl,?_,hw⟩;rw [HRR.out];exact HOW.out
          ·have hz':=jfp hz;have HZ:=jac hz;have HEE:=jac hEE;have HCC:=jac hcc;obtain ⟨E,hE⟩ : ∃ E,E=ja2 (bcL a b a.length):=⟨_,rfl⟩
           rw [← hE] at hz' HZ HEE HCC;clear hcc hEE hz hE hown;go_wp2_with fail;refine HCC.out.mono ?_;rintro e w' ⟨rfl,rfl⟩;go_wp2;go_ret2;exact jgJ HEE.out HZ.out hw
      ·have HEE:Hid (bcE a b=ja2 b):=by simp [Hid,bcE,hE,hF]
       rw [hE] at hca;have hz':=jfp hF;have HZ:=jac hF;obtain ⟨E,hEE⟩ : ∃ E,E=ja2 b:=⟨_,rfl⟩
       rw [← hEE] at hz' HZ HEE hcb;clear hE hF hEE;go_enter Tryz.func40,Tryz.ntmps40;go_wp2_with fail;refine hca.out.mono ?_;rintro e w' ⟨rfl,rfl⟩;go_wp2_with fail;refine hcb.out.mono ?_;rintro e w' ⟨rfl,rfl⟩;go_wp2;go_ret2;exact jgJ HEE.out HZ.out (jad _)
     ·have HEE:Hid (bcE a b=ja2 a):=by simp [Hid,bcE,hE]
      have hz':=jfp hE;have HZ:=jac hE;obtain ⟨E,hEE⟩ : ∃ E,E=ja2 a:=⟨_,rfl⟩
      rw [← hEE] at hz' HZ HEE hca;clear hE hEE;go_enter Tryz.func40,Tryz.ntmps40;go_wp2_with fail;refine hca.out.mono ?_;rintro e w' ⟨rfl,rfl⟩;go_wp2;go_ret2;exact jgJ HEE.out HZ.out (jad _)
end Go.Proofs.YteigfipgmghgmaaGreatDoor
namespace Go.Proofs.YteigfipgmghgmaaGreatDoor
open Go.RowKit
theorem jbu (w:World) (zs:List Int) (t:TypeId) (hl:zs.length*8≤140737488351232) (hz:∀ z∈zs,-9223372036854775808≤z∧z≤9223372036854775807) :
    IsInts (w.alloc (.cells (zs.map (Value.int .i64)).toArray t)) (.slice (some ⟨w.heap.size,0,none⟩) zs.length zs.length) zs:=by
     refine ⟨_,_,rfl,Nat.le_refl _,by omega,hl,(fun h=>by cases h),fun _=>⟨_,_,rfl,fun k hk=>?_⟩,hz⟩;rw [Nat.zero_add,cell_of_row _ _ k _ _ (0,0) (heap_alloc_new w _)];simp [List.getD,hk]
end Go.Proofs.YteigfipgmghgmaaGreatDoor
namespace Go.Proofs.YteigfipgmghgmaaGreatDoor
open Go.RowKit
def jbv (n k:Nat) (l:List Int):List Int:=l.take k++List.replicate (n - k) 0
theorem jhi {n k:Nat} {l:List Int} (hk:k<n) (hl:l.length=n) (z:Int) (hz:z=l.getD k 0):(jbv n k l).set k z=jbv n (k+1) l:=by
 unfold jbv;rw [jcE l k (by omega),← hz,List.set_append_right _ _ (by simp;omega),show n - k=(n - (k+1))+1 by omega,List.replicate_succ];simp [show min k l.length=k by omega]
theorem jmT {w wr : World} {n k : Nat} {l : List Int} {z : Int} (hk : k < n) (hl : l.length = n) (hz : z = l.getD k 0) (hw : w.grownBy wr none)
    (hown:wr.ownsRow w.heap.size 3 1 (.slice (some ⟨w.heap.size,0,none⟩) n n) n ((jbv n k l).map (Value.int .i64))) :
    (∃ c,wr.cell? ⟨w.heap.size,k,none⟩=some c)∧wr.frozen? ⟨w.heap.size,k,none⟩=false ∧
    (wr.setCell ⟨w.heap.size,k,none⟩ (.int .i64 z)).ownsRow w.heap.size 3 1 (.slice (some ⟨w.heap.size,0,none⟩) n n) n ((jbv n (k+1) l).map (Value.int .i64)) ∧
    w.grownBy (wr.setCell ⟨w.heap.size,k,none⟩ (.int .i64 z)) none:=by
     have hl':=hown.1;refine ⟨⟨_,by rw [hown.cellAt k (by omega),List.getElem?_eq_getElem (by omega)]⟩,hown.frozenAt _,?_,jan hw (hown.stored k (.int .i64 z)).2 (fun g hg=>by injection hg with hg;omega)⟩;have:=(hown.stored k (.int .i64 z)).1;rw [jfx,jhi hk hl z hz] at this;exact this
end Go.Proofs.YteigfipgmghgmaaGreatDoor
namespace Go.Proofs.YteigfipgmghgmaaGreatDoor
open Go.RowKit
def jgm (zs:List Int) (n:Int):Int:=if ja2 zs≠0 then ja2 zs else if n<0∨jaA zs≤n then 1 else 0
def jiq (zs:List Int) (n:Int):List Int:=if jgm zs n=0 then jdn zs n else []
theorem jmU {zs:List Int} {k:Nat} (hk:k<zs.length) (n:Int) :
    jdn (zs.drop (zs.length - (k+1))) n=n / jaA (zs.drop (zs.length - k)) % zs.getD (zs.length - 1 - k) 0::jdn (zs.drop (zs.length - k)) n:=by
     rw [jba zs (zs.length - (k+1)) (by omega),show zs.length - (k+1)+1=zs.length - k by omega,show zs.length - (k+1)=zs.length - 1 - k by omega]
     rfl
theorem jpZ {zs:List Int} {k:Nat} (hF:Fine zs) (hk:k<zs.length) (n:Int) :
    n / jaA (zs.drop (zs.length - k)) / zs.getD (zs.length - 1 - k) 0=n / jaA (zs.drop (zs.length - (k+1))):=by
     rw [jkS hk,Int.ediv_ediv_of_nonneg (by have:=(hF.drop (zs.length - k)).prod_pos;omega)]
theorem jgK:∀ {zs cs:List Int},jaQ zs cs=true→∀ c∈cs,0≤c∧∃ z∈zs,c<z
 | [],[],_,c,hc=>by simp at hc
 | z::zs,x::cs,h,c,hc=>by
  simp only [jaQ,Bool.and_eq_true,decide_eq_true_eq] at h
  rcases List.mem_cons.1 hc with rfl | hc
  ·exact ⟨h.1.1,z,by simp,h.1.2⟩
  ·obtain ⟨h1,y,hy,h2⟩:=jgK h.2 c hc;exact ⟨h1,y,by simp [hy],h2⟩
 | [],_::_,h,_,_=>by simp [jaQ] at h
 | _::_,[],h,_,_=>by simp [jaQ] at h
theorem jhj:∀ {zs:List Int},(∀ z∈zs,1≤z)→∀ z∈zs,z≤jaA zs
 | y::zs,h,z,hz=>by
  have h1:=h y (by simp);have h2:=prod_pos zs (fun x hx=>h x (by simp [hx]))
  rcases List.mem_cons.1 hz with rfl | hz
  ·have:=jcP h2 (show 0≤z by omega);simpa [jaA] using this
  ·have h3:=jhj (fun x hx=>h x (by simp [hx])) z hz;have h4:=jcD h1 (show 0≤jaA zs by omega);simp only [jaA];omega
theorem jsw {zs:List Int} (hF:Fine zs) (n:Int):∀ z∈jdn zs n,0≤z∧z≤65536:=by
 intro z hz;obtain ⟨h1,y,hy,h2⟩:=jgK (jek zs n hF.pos) z hz;have h3:=jhj hF.pos y hy;have h4:=hF.le;omega
theorem jhk (v:Value) (zs:List Int) (n:Int) (w:World) (h:IsInts w v zs) (hn0 : -9223372036854775808≤n) (hn1:n≤9223372036854775807) :
    Calls Tryz.prog 11 #[v,.int .i64 n] w fun e w'=>∃ u,e=.returned (.tuple #[u,.int .i64 (jgm zs n)])∧Owns w' w.heap.size u (jiq zs n)∧w.grownBy w' none:=by
     obtain ⟨i0,hi,hz0,hz1,hz2⟩:=info_parts jdx;have hcount:=jac (jfd v zs w h);have h0:=jac h;obtain ⟨ao,cap,rfl,h1,h2,h3,-,-,-⟩:=h
     by_cases hE:ja2 zs=0
     ·have HF:=jac (jbb hE);have hcn:=HF.out.cnt;have hle:=HF.out.le;have hpp:=HF.out.prod_pos;rw [hE,hcn] at hcount;obtain ⟨P,hP⟩ : ∃ P,P=jaA zs:=⟨_,rfl⟩
      rw [← hP] at hcount hle hpp
      by_cases hr:n<0∨P≤n
      ·have e1:jgm zs n=1:=by simp [jgm,hE,← hP,hr]
       rw [show jiq zs n=[] by simp [jiq,e1],e1];clear hE hcn hP e1
       by_cases hr0:n<0
       ·clear hr;go_enter Tryz.func11,Tryz.ntmps11;go_wp2_with (go_at_call 17;refine hcount.out.mono ?_;rintro e w' ⟨rfl,rfl⟩);go_ret2;exact ⟨_,rfl,jbp _ _,jad _⟩
       ·have hr1:P≤n:=by omega
        clear hr;go_enter Tryz.func11,Tryz.ntmps11;go_wp2_with (go_at_call 17;refine hcount.out.mono ?_;rintro e w' ⟨rfl,rfl⟩);go_ret2;exact ⟨_,rfl,jbp _ _,jad _⟩
      ·have e1:jgm zs n=0:=by simp only [jgm,hE,← hP,if_neg hr];rfl
       rw [show jiq zs n=jdn zs n by simp [jiq,e1],e1];have HP:=jac hP;have hr0:0≤n:=by omega
       have hr1:n<P:=by omega
       clear hE hcn hP e1 hr;have hb2:i0.bytes*zs.length≤281474976710656:=by rw [hz2];omega
       have hb3:zs.length≤maxLen:=by simp only [maxLen];omega
       go_enter Tryz.func11,Tryz.ntmps11;go_wp2_with (first | (go_at_call 17;refine hcount.out.mono ?_;rintro e w' ⟨rfl,rfl⟩) | (refine wpList_make_full _ rfl (.tmp 26) (.tmp 26) 29 rfl w.heap.size 3 i0 (.int .i64 0) 1 Tryz.underlying29 hi hz0 hz1 .i64 .i64 _ _ zs.length rfl rfl rfl rfl hb2 hb3 (Nat.le_refl _) ?_;intro w1 hown hgrow));rw [jcA] at hown
       go_loopw [1,9] (fun m i wr=>w.grownBy wr none∧∃ k:Nat,k≤zs.length∧i=.int .i64 ((zs.length:Int) - 1 - k)∧m=.int .i64 (n / jaA (zs.drop (zs.length - k))) ∧
        wr.ownsRow w.heap.size 3 1 (.slice (some ⟨w.heap.size,0,none⟩) zs.length zs.length) zs.length ((ja1 zs.length k (jdn (zs.drop (zs.length - k)) n)).map (Value.int .i64))) (fun _ i _=>(intOf i+1).toNat)
       case atStart=>exact ⟨hgrow,0,Nat.zero_le _,by simp,by simp [jaA],by simpa [ja1,jdn] using hown⟩
       case round =>
        clear hown hgrow;obtain ⟨hw,k,hk,rfl,hm,hown⟩:=hrel;have hq0:0≤n / jaA (zs.drop (zs.length - k)):=Int.ediv_nonneg hr0 (by have:=(HF.out.drop (zs.length - k)).prod_pos;omega);have hq1:n / jaA (zs.drop (zs.length - k))≤n:=Int.ediv_le_self _ hr0;have hcr:k<zs.length→jdn (zs.drop (zs.length - (k+1))) n=n / jaA (zs.drop (zs.length - k)) % zs.getD (zs.length - 1 - k) 0::jdn (zs.drop (zs.length - k)) n:=fun hk=>jmU hk n;have hqu:k<zs.length→n / jaA (zs.drop (zs.length - k)) / zs.getD (zs.length - 1 - k) 0=n / jaA (zs.drop (zs.length - (k+1))):=fun hk=>jpZ HF.out hk n;obtain ⟨q,hqd⟩ : ∃ q,q=n / jaA (zs.drop (zs.length - k)):=⟨_,rfl⟩
        rw [← hqd] at hm hq0 hq1 hcr hqu;subst hm;clear hqd
        by_cases hkl:k<zs.length
        ·obtain ⟨b,off,rfl⟩:=jbQ h0.out (by omega);have hb:=jkT h0.out (by omega);have hcell:=jbH (h0.out.more hw) (k:=zs.length - 1 - k) (by omega);have hd1:=HF.out.at (zs.length - 1 - k) (by omega);have hcr:=hcr hkl;have hqu:=hqu hkl;obtain ⟨d,hd⟩ : ∃ d,d=zs.getD (zs.length - 1 - k) 0:=⟨_,rfl⟩
         rw [← hd] at hcell hd1 hcr hqu;obtain ⟨⟨c,hc⟩,hf,hown2,hw2⟩:=jco (z:=q % d) hkl hw hown;have hm0:=Int.emod_nonneg q (show d≠0 by omega);have hm1:=Int.emod_lt_of_pos q (show 0<d by omega);have HC:=jac hcr;have HQ:=jac hqu;have HO:=jac hown2;have HW:=jac hw2;clear hd hcr hqu hown hown2 hw2 hw;go_wp2;go_roundw
         case rel =>
          refine ⟨HW.out,k+1,by omega,by go_num,by rw [← HQ.out],?_⟩;rw [HC.out];exact HO.out
         case measure=>simp [intOf];omega
        ·have HO:=jac hown;clear hown hcr hqu;go_wp2;go_ret2;refine ⟨_,rfl,⟨?_,?_,?_⟩,hw⟩
         ·have:=HO.out;rw [show zs.length - k=0 by omega,show ja1 zs.length k (jdn (zs.drop 0) n)=jdn zs n by simp [ja1,show zs.length - k=0 by omega]] at this;rw [jc5];exact this
         ·rw [jc5];omega
         ·intro s hs;have:=jsw HF.out n s hs;omega
     ·have e1:jgm zs n=ja2 zs:=by simp [jgm,hE]
      rw [show jiq zs n=[] by simp [jiq,e1,hE],e1];obtain ⟨E,hEE⟩ : ∃ E,E=ja2 zs:=⟨_,rfl⟩
      rw [← hEE] at hcount hE ⊢;have hE':(E==0)=false:=by simpa using hE
      clear hEE hE e1;go_enter Tryz.func11,Tryz.ntmps11;go_wp2_with (go_at_call 17;refine hcount.out.mono ?_;rintro e w' ⟨rfl,rfl⟩);go_ret2;exact ⟨_,rfl,jbp _ _,jad _⟩
end Go.Proofs.YteigfipgmghgmaaGreatDoor
namespace Go.Proofs.YteigfipgmghgmaaGreatDoor.Vw
open Go.RowKit
def IsView (w:World) (v:Value) (off:Int) (ds ss:List Int):Prop :=
 ∃ dv sv,v=.agg #[.int .i64 off,dv,sv]∧IsInts w dv ds∧IsInts w sv ss ∧ -9223372036854775808≤off∧off≤9223372036854775807
theorem IsView.more {w w':World} {v:Value} {off:Int} {ds ss:List Int} (h:IsView w v off ds ss) (hg:w.grownBy w' none):IsView w' v off ds ss:=by
 obtain ⟨dv,sv,rfl,hd,hs,ho⟩:=h;exact ⟨dv,sv,rfl,hd.more hg,hs.more hg,ho⟩
def mayB (off:Int) (ds ss:List Int):Bool:=decide (ja2 ds=0)&&(decide (ss.length=ds.length)&&(decide (0≤off∧off≤65535)&&ss.all (fun s=>decide (0≤s∧s≤65536))))
structure MayV (off:Int) (ds ss:List Int):Prop where
 fine:Fine ds
 len:ss.length=ds.length
 lo:0≤off
 hi:off≤65535
 str:∀ s∈ss,0≤s∧s≤65536
theorem mayB_iff {off:Int} {ds ss:List Int} : mayB off ds ss=true↔MayV off ds ss:=by
 unfold mayB;simp only [Bool.and_eq_true,decide_eq_true_eq,List.all_eq_true];exact ⟨fun ⟨h1,h2,h3,h4⟩=>⟨jbb h1,h2,h3.1,h3.2,h4⟩,fun h=>⟨h.fine.ok,h.len,⟨h.lo,h.hi⟩,h.str⟩⟩
theorem jeU {off:Int} {ds ss:List Int} (h:¬ MayV off ds ss):mayB off ds ss=false:=by
 rw [Bool.eq_false_iff];exact fun h'=>h (mayB_iff.1 h')
theorem jfz (p s t:Int) (w:World) (h1 : -4611686018427387904≤p∧p≤4611686018427387904) (h2 : -4611686018427387904≤s*t∧s*t≤4611686018427387903) (_hs : -9223372036854775808≤s∧s≤9223372036854775807) (_ht : -9223372036854775808≤t∧t≤9223372036854775807) :
    Calls Tryz.prog 95 #[.int .i64 p,.int .i64 s,.int .i64 t] w fun e w'=>e=.returned (.int .i64 (p+s*t))∧w=w':=by
     obtain ⟨h11,h12⟩:=h1;obtain ⟨h21,h22⟩:=h2;go_enter Tryz.func95,Tryz.ntmps95;go_wp2;go_ret;exact ⟨rfl,rfl⟩
theorem jir (v:Value) (off:Int) (ds ss:List Int) (w:World) (h:IsView w v off ds ss) :
    Calls Tryz.prog 39 #[v] w fun e w'=>e=.returned (.bool (mayB off ds ss))∧w.grownBy w' none:=by
     obtain ⟨dv,sv,rfl,hd,hs,ho1,ho2⟩:=h;have hg:=jab w (.cells #[.int .i64 off,dv,sv] 76);have hc:=jbX dv ds _ (hd.more hg);have HS:=jac (hs.more hg);obtain ⟨ao,cap,rfl,h1,h2,h3,-,-,-⟩:=hd;obtain ⟨bo,bcap,rfl,hb1,hb2,hb3,-,-,-⟩:=hs
     by_cases hE:ja2 ds=0
     ·rw [hE] at hc;have HC:=jac hc
      by_cases hl:ss.length=ds.length
      ·have hl':((ss.length:Int) != (ds.length:Int))=false:=by simp [hl]
       by_cases ho:0≤off∧off≤65535
       ·have HM:Hid (mayB off ds ss=ss.all (fun s=>decide (0≤s∧s≤65536))):=by simp [Hid,mayB,hE,hl,ho]
        obtain ⟨ho3,ho4⟩:=ho;clear hE hl hc;go_enter Tryz.func39,Tryz.ntmps39;go_wp2_with fail;refine HC.out.mono ?_;rintro e w' ⟨rfl,rfl⟩;go_wp2;go_loopw [35] (fun i wr=>wr=w.alloc (.cells #[.int .i64 off,.slice ao ds.length cap,.slice bo ss.length bcap] 76)∧∃ k:Nat,k≤ss.length∧i=.int .i64 k∧∀ t,t<k→0≤ss.getD t 0∧ss.getD t 0≤65536) (fun i _=>ss.length - (intOf i).toNat)
        case atStart=>exact ⟨rfl,0,Nat.zero_le _,rfl,fun t h=>absurd h (by omega)⟩
        case round =>
         obtain ⟨hw,k,hk,rfl,hp⟩:=hrel;subst hw;have HP:=jac hp;clear hp
         by_cases hkl:k<ss.length
         ·obtain ⟨b,o',rfl⟩:=jbQ HS.out (by omega);have hcell:=jbH HS.out hkl;obtain ⟨z,hz⟩ : ∃ z,z=ss.getD k 0:=⟨_,rfl⟩
          rw [← hz] at hcell;have HZ:=jac hz;clear hz
          by_cases hz0:0≤z∧z≤65536
          ·obtain ⟨hz1,hz2⟩:=hz0;go_wp2;go_roundw
           case rel =>
            refine ⟨by trivial,k+1,by omega,by go_num,fun t ht=>?_⟩
            rcases jaK ht with h | rfl
            ·exact HP.out t h
            ·have:=HZ.out;omega
           case measure=>simp [intOf];omega
          ·have HF : Hid (ss.all (fun s => decide (0 ≤ s ∧ s ≤ 65536)) = false) := by
             simp only [Hid];rw [Bool.eq_false_iff];intro h;rw [List.all_eq_true] at h;have:=h z (by rw [HZ.out,List.getD,List.getElem?_eq_getElem hkl];simp);simp only [decide_eq_true_eq] at this;exact hz0 this
           by_cases hz1:z<0
           ·clear hz0;go_wp2;go_ret;exact ⟨by rw [HM.out,HF.out];rfl,hg⟩
           ·have hz2:65536<z:=by omega
            clear hz0;go_wp2;go_ret;exact ⟨by rw [HM.out,HF.out];rfl,hg⟩
         ·have HT : Hid (ss.all (fun s => decide (0 ≤ s ∧ s ≤ 65536)) = true) := by
            simp only [Hid];rw [List.all_eq_true];exact fun z hz=>decide_eq_true (jmQ (p:=fun s=>0≤s∧s≤65536) (fun t ht=>HP.out t (by omega)) z hz)
          go_wp2;go_ret;exact ⟨by rw [HM.out,HT.out];rfl,hg⟩
       ·have HM:Hid (mayB off ds ss=false):=jeU fun h=>ho ⟨h.lo,h.hi⟩
        by_cases ho3:off<0
        ·clear hE hl hc ho;go_enter Tryz.func39,Tryz.ntmps39;go_wp2_with fail;refine HC.out.mono ?_;rintro e w' ⟨rfl,rfl⟩;go_wp2;go_ret;exact ⟨by rw [HM.out];rfl,hg⟩
        ·have ho4:65535<off:=by omega
         clear hE hl hc ho;go_enter Tryz.func39,Tryz.ntmps39;go_wp2_with fail;refine HC.out.mono ?_;rintro e w' ⟨rfl,rfl⟩;go_wp2;go_ret;exact ⟨by rw [HM.out];rfl,hg⟩
      ·have HM:Hid (mayB off ds ss=false):=jeU fun h=>hl h.len;have hl':((ss.length:Int) != (ds.length:Int))=true:=by simp;omega
       clear hE hl hc;go_enter Tryz.func39,Tryz.ntmps39;go_wp2_with fail;refine HC.out.mono ?_;rintro e w' ⟨rfl,rfl⟩;go_wp2;go_ret;exact ⟨by rw [HM.out];rfl,hg⟩
     ·have HM:Hid (mayB off ds ss=false):=jeU fun h=>hE h.fine.ok;have hE':=jec hE;obtain ⟨E,hEE⟩ : ∃ E,E=ja2 ds:=⟨_,rfl⟩
      rw [← hEE] at hE' hc;have HC:=jac hc;clear hE hEE hc;go_enter Tryz.func39,Tryz.ntmps39;go_wp2_with fail;refine HC.out.mono ?_;rintro e w' ⟨rfl,rfl⟩;go_wp2;go_ret;exact ⟨by rw [HM.out];rfl,hg⟩
end Go.Proofs.YteigfipgmghgmaaGreatDoor.Vw
namespace Go.Proofs.YteigfipgmghgmaaGreatDoor.Vw
open Go.RowKit
theorem jeA (v u:Value) (xs ys:List Int) (w:World) (ha:IsInts w v xs) (hb:IsInts w u ys) :
    Calls Tryz.prog 41 #[v,u] w fun e w'=>e=.returned (.bool (decide (xs=ys)))∧w.grownBy w' none:=by
     have ha0:Hid (IsInts w v xs):=ha;have hb0:Hid (IsInts w u ys):=hb;obtain ⟨ao,acap,rfl,ha1,ha2,ha3,-,-,-⟩:=ha;obtain ⟨bo,bcap,rfl,hb1,hb2,hb3,-,-,-⟩:=hb
     by_cases hl:xs.length=ys.length
     ·have hl':((xs.length:Int)==(ys.length:Int))=true:=by simp [hl]
      have HL:Hid (xs.length=ys.length):=hl;clear hl;go_enter Tryz.func41,Tryz.ntmps41;go_wp2;go_loopw [13] (fun i wr=>w.grownBy wr none∧∃ k:Nat,k≤xs.length∧i=.int .i64 k∧∀ t,t<k→xs.getD t 0=ys.getD t 0) (fun i _=>xs.length - (intOf i).toNat)
      case atStart=>exact ⟨jad _,0,Nat.zero_le _,rfl,fun t h=>absurd h (by omega)⟩
      case round =>
       obtain ⟨hw,k,hk,rfl,hp⟩:=hrel;have HP:Hid (∀ t,t<k→xs.getD t 0=ys.getD t 0):=hp;clear hp
       by_cases hkl:k<xs.length
       ·obtain ⟨_,_,he,-,-,-,-,h5,-⟩:=ha0.out.more hw;obtain ⟨b,off,ho,hc⟩:=h5 (by omega);obtain ⟨_,_,he',-,-,-,-,h5',-⟩:=hb0.out.more hw;have hbl:k<ys.length:=by have:=HL.out;omega
        obtain ⟨b',off',ho',hc'⟩:=h5' (by omega);simp only [Value.slice.injEq,true_and] at he he';obtain ⟨rfl,rfl⟩:=he;obtain ⟨rfl,rfl⟩:=he';subst ho ho';obtain ⟨z,hz⟩ : ∃ z,z=xs.getD k 0:=⟨_,rfl⟩
        obtain ⟨y,hy⟩ : ∃ y,y=ys.getD k 0:=⟨_,rfl⟩
        have hcell:=hc k hkl;have hcell':=hc' k hbl;rw [← hz] at hcell;rw [← hy] at hcell';have HZ:Hid (z=xs.getD k 0):=hz;have HY:Hid (y=ys.getD k 0):=hy;clear hz hc hy hc'
        by_cases hzy:z=y
        ·have hzy':(z==y)=true:=by simp [hzy]
         have HE:Hid (z=y):=hzy;clear hzy h5 h5';go_wp2;go_region
         all_goals go_wp2
         all_goals
          go_roundw
          case rel =>
           refine ⟨jaf hw,k+1,by omega,by go_num,fun t ht=>?_⟩
           rcases jaK ht with h | rfl
           ·exact HP.out t h
           ·have:=HZ.out;have:=HY.out;have:=HE.out;omega
          case measure=>simp [intOf];omega
        ·have hzy':(z==y)=false:=by simp [hzy]
         have HE:Hid (xs≠ys):=fun h=>hzy (by rw [HZ.out,HY.out,h]);clear hzy h5 h5';go_wp2;go_region
         all_goals go_wp2
         all_goals go_ret
         all_goals exact ⟨by rw [decide_eq_false HE.out];rfl,jaf hw⟩
       ·have HE:Hid (xs=ys):=jdR HL.out (fun t ht=>HP.out t (by omega));go_wp2;go_ret;exact ⟨by rw [decide_eq_true HE.out];rfl,hw⟩
     ·have hl':((xs.length:Int)==(ys.length:Int))=false:=by simp;omega
      have HE:Hid (xs≠ys):=fun h=>hl (by rw [h]);clear hl;go_enter Tryz.func41,Tryz.ntmps41;go_wp2;go_ret;exact ⟨by rw [decide_eq_false HE.out];rfl,jad _⟩
end Go.Proofs.YteigfipgmghgmaaGreatDoor.Vw
namespace Go.Proofs.YteigfipgmghgmaaGreatDoor.Vw
def lst:List Int→List Int→Int
 | d::ds,s::ss=>(d - 1)*s+lst ds ss
 | _,_=>0
def plc:List Int→List Int→Int→List Int
 | [],_,p=>[p]
 | d::ds,s::ss,p=>(List.range d.toNat).flatMap (fun (i:Nat)=>plc ds ss (p+i*s))
 | _::_,[],_=>[]
theorem jcH {α:Type} (f:Nat→List α) (n:Nat):∀ (t:Nat),(∀ i,i<t→(f i).length=n)→((List.range t).flatMap f).length=t*n
 | 0,_=>by simp
 | t+1,h=>by
  rw [List.range_succ,List.flatMap_append,List.length_append,jcH f n t fun i hi=>h i (by omega)];simp only [List.flatMap_cons,List.flatMap_nil,List.append_nil,h t (by omega)];rw [Nat.add_mul,Nat.one_mul]
theorem plc_length:∀ (ds ss:List Int) (p:Int),ss.length=ds.length→(∀ d∈ds,1≤d)→(plc ds ss p).length=(jaA ds).toNat
 | [],_,_,_,_=>by simp [plc,jaA]
 | d::ds,s::ss,p,hl,hp=>by
  have h1:=hp d (by simp);have h2:=prod_pos ds fun y hy=>hp y (by simp [hy]);rw [plc,jcH _ (jaA ds).toNat _ fun i _=>plc_length ds ss _ (by simpa using hl) fun y hy=>hp y (by simp [hy]),jaA];obtain ⟨a,rfl⟩ : ∃ a:Nat,d=a:=⟨d.toNat,by omega⟩
  obtain ⟨b,hb⟩ : ∃ b:Nat,jaA ds=b:=⟨(jaA ds).toNat,by omega⟩
  rw [hb,← Int.natCast_mul];simp only [Int.toNat_natCast]
 | _::_,[],_,hl,_=>by simp at hl
theorem jeV:∀ (ds ss:List Int),(∀ d∈ds,1≤d)→(∀ s∈ss,0≤s)→0≤lst ds ss
 | [],_,_,_=>by simp [lst]
 | _::_,[],_,_=>by simp [lst]
 | d::ds,s::ss,hd,hs=>by
  have h1:=hd d (by simp);have h2:=hs s (by simp);have h3:=jeV ds ss (fun y hy=>hd y (by simp [hy])) (fun y hy=>hs y (by simp [hy]));have h4:0≤(d - 1)*s:=Int.mul_nonneg (by omega) h2;simp only [lst];omega
theorem jgL {d s:Int} {i:Nat} (hi:(i:Int)<d) (hs:0≤s):0≤(i:Int)*s∧(i:Int)*s≤(d - 1)*s :=
 ⟨Int.mul_nonneg (by omega) hs,Int.mul_le_mul_of_nonneg_right (by omega) hs⟩
theorem plc_mem:∀ (ds ss:List Int) (p:Int),(∀ s∈ss,0≤s)→(∀ d∈ds,1≤d)→∀ x∈plc ds ss p,p≤x∧x≤p+lst ds ss
 | [],ss,p,_,_,x,hx=>by
  simp only [plc,List.mem_singleton] at hx;simp [lst,hx]
 | d::ds,s::ss,p,hs,hd,x,hx=>by
  simp only [plc,List.mem_flatMap,List.mem_range] at hx;obtain ⟨i,hi,hx⟩:=hx;have h1:=hd d (by simp);have h2:=hs s (by simp);obtain ⟨h3,h4⟩:=plc_mem ds ss _ (fun y hy=>hs y (by simp [hy])) (fun y hy=>hd y (by simp [hy])) x hx;obtain ⟨h5,h6⟩:=jgL (d:=d) (i:=i) (by omega) h2;simp only [lst];omega
 | _::_,[],_,_,_,x,hx=>by simp [plc] at hx
theorem jis {α:Type} (f:Nat→List α) {t n:Nat} (h:t<n) {q:List α} (hq:q <+: f t):(List.range t).flatMap f++q <+: (List.range n).flatMap f:=by
 obtain ⟨r,hr⟩:=hq
 have e:List.range n=List.range t++(t::(List.range (n - t - 1)).map (fun i=>t+1+i)):=by
  have e1:n=t+(1+(n - t - 1)):=by omega
  rw [e1,List.range_add,List.range_add];simp [Nat.add_assoc,Function.comp_def]
 rw [e,List.flatMap_append,List.flatMap_cons,← hr];refine ⟨r++((List.range (n - t - 1)).map (fun i=>t+1+i)).flatMap f,?_⟩;simp [List.append_assoc]
theorem jdy {α:Type} (f:Nat→List α) (t:Nat):(List.range (t+1)).flatMap f=(List.range t).flatMap f++f t:=by
 rw [List.range_succ,List.flatMap_append];simp
theorem jkU {ds ss:List Int} (hl:ss.length=ds.length) {k:Nat} (hk:k<ds.length):lst (ds.drop k) (ss.drop k)=(ds.getD k 0 - 1)*ss.getD k 0+lst (ds.drop (k+1)) (ss.drop (k+1)):=by
 rw [jba ds k hk,jba ss k (by omega)]
 rfl
theorem jp0 {ds ss:List Int} (hl:ss.length=ds.length) {k:Nat} (hk:k<ds.length) (p:Int) :
    plc (ds.drop k) (ss.drop k) p=(List.range (ds.getD k 0).toNat).flatMap (fun (i:Nat)=>plc (ds.drop (k+1)) (ss.drop (k+1)) (p+i*ss.getD k 0)):=by
     rw [jba ds k hk,jba ss k (by omega)]
     rfl
theorem jsx {ds ss:List Int} {k:Nat} (hk:ds.length≤k) (p:Int):plc (ds.drop k) (ss.drop k) p=[p]:=by
 rw [List.drop_of_length_le hk]
 rfl
end Go.Proofs.YteigfipgmghgmaaGreatDoor.Vw
namespace Go.Proofs.YteigfipgmghgmaaGreatDoor.Vw
open Go.RowKit
def dot:List Int→List Int→Int
 | c::cs,s::ss=>c*s+dot cs ss
 | _,_=>0
theorem jhl (f:Nat→List Int) {n:Nat} (hn:0<n):∀ (t:Nat),(∀ i,i<t→(f i).length=n)→∀ j,j<t*n→((List.range t).flatMap f).getD j 0=(f (j / n)).getD (j % n) 0
 | 0,_,j,h=>by omega
 | t+1,hl,j,h=>by
  have h1:=jcH f n t fun i hi=>hl i (by omega);rw [List.range_succ,List.flatMap_append];simp only [List.flatMap_cons,List.flatMap_nil,List.append_nil];rw [List.getD,List.getElem?_append,h1]
  by_cases hj:j<t*n
  ·rw [if_pos hj];exact jhl f hn t (fun i hi=>hl i (by omega)) j hj
  ·rw [if_neg hj];have h2:j<t*n+n:=by rw [Nat.succ_mul] at h;exact h
   obtain ⟨r,rfl⟩ : ∃ r,j=t*n+r:=⟨j - t*n,by omega⟩
   have hr:r<n:=by omega
   rw [Nat.mul_comm t n,Nat.mul_add_div hn,Nat.mul_add_mod,Nat.div_eq_of_lt hr,Nat.mod_eq_of_lt hr,Nat.add_zero,Nat.add_sub_cancel_left]
   rfl
theorem jhm:∀ (zs:List Int) (n:Int),(∀ z∈zs,1≤z)→jdn zs (n % jaA zs)=jdn zs n
 | [],_,_=>rfl
 | z::zs,n,h=>by
  have hz:=h z (by simp);have hp:=prod_pos zs fun y hy=>h y (by simp [hy])
  have e:n % jaA (z::zs)=n+jaA zs*(-(z*(n / jaA (z::zs)))):=by
   rw [Int.emod_def];simp only [jaA];rw [Int.mul_neg,Int.sub_eq_add_neg,← Int.mul_assoc,Int.mul_comm (jaA zs) z]
  have h1:n % jaA (z::zs) / jaA zs % z=n / jaA zs % z:=by
   rw [e,Int.add_mul_ediv_left _ _ (by omega),← Int.mul_neg,Int.add_mul_emod_self_left]
  have h2:jdn zs (n % jaA (z::zs))=jdn zs n:=by
   rw [← jhm zs (n % jaA (z::zs)) fun y hy=>h y (by simp [hy]),← jhm zs n fun y hy=>h y (by simp [hy])]
   congr 1
   rw [e,Int.add_mul_emod_self_left]
  simp only [jdn];rw [h1,h2]
theorem jr0:∀ (ds ss:List Int) (p:Int),ss.length=ds.length→(∀ d∈ds,1≤d)→∀ n:Nat,(n:Int)<jaA ds→(plc ds ss p).getD n 0=p+dot (jdn ds n) ss
 | [],_,p,_,_,n,hn=>by
  have:n=0:=by simp [jaA] at hn;omega
  subst this;simp [plc,jdn,dot]
 | d::ds,s::ss,p,hl,h,n,hn=>by
  have hd:=h d (by simp);have hq:∀ y∈ds,1≤y:=fun y hy=>h y (by simp [hy]);have hp:=prod_pos ds hq;obtain ⟨a,rfl⟩ : ∃ a:Nat,d=a:=⟨d.toNat,by omega⟩
  obtain ⟨b,hb⟩ : ∃ b:Nat,jaA ds=b:=⟨(jaA ds).toNat,by omega⟩
  have hb0:0<b:=by omega
  have hn':n<a*b:=by
   simp only [jaA,hb] at hn;exact Int.ofNat_lt.1 (by rw [Int.natCast_mul];exact hn)
  have hdiv:n / b<a:=(Nat.div_lt_iff_lt_mul hb0).2 hn';simp only [plc,Int.toNat_natCast];rw [jhl _ hb0 a (fun i _=>by rw [plc_length ds ss _ (by simpa using hl) hq,hb];simp) n hn'];rw [jr0 ds ss _ (by simpa using hl) hq (n % b) (by rw [hb];exact Int.ofNat_lt.2 (Nat.mod_lt _ hb0))]
  have hc:jdn ds ((n % b:Nat):Int)=jdn ds n:=by
   rw [← jhm ds (n:Int) hq,hb,Int.natCast_emod]
  simp only [jdn,dot];rw [hc,hb]
  have h1:(n:Int) / (b:Int) % (a:Int)=((n / b:Nat):Int):=by
   rw [← Int.natCast_ediv,← Int.natCast_emod,Nat.mod_eq_of_lt hdiv]
  rw [h1,Int.add_assoc]
def msk:List Int→List Int→List Int
 | d::ds,c::cs=>(if d=1 then 0 else c)::msk ds cs
 | _,cs=>cs
def jkV:List Int→List Int→List Int→List Int
 | d::ds,s::ss,l::ls=>(if d=l then s else 0)::jkV ds ss ls
 | _,_,_=>[]
theorem jit:∀ (cs ss:List Int),(∀ s∈ss,s=0)→dot cs ss=0
 | [],_,_=>by simp [dot]
 | _::_,[],_=>by simp [dot]
 | c::cs,s::ss,h=>by
  have h1:=h s (by simp);subst h1;simp [dot,jit cs ss fun y hy=>h y (by simp [hy])]
theorem jgM:∀ (xs zs cs ss:List Int),xs.length=zs.length→dot (xs++cs) (zs++ss)=dot xs zs+dot cs ss
 | [],[],_,_,_=>by simp [dot]
 | x::xs,z::zs,cs,ss,h=>by
  simp only [List.cons_append,dot];rw [jgM xs zs cs ss (by simpa using h),Int.add_assoc]
theorem jkW:∀ (ds ls cs:List Int),ds.length=ls.length→jaQ ls cs=true→(∀ j,j<ds.length→ds.getD j 0=ls.getD j 0∨ds.getD j 0=1) →
    dot cs (jkV ds (jcj ds) ls)=jey ds (msk ds cs)
     | [],[],cs,_,_,_=>by cases cs <;> simp [dot,jkV,jey]
     | d::ds,l::ls,[],_,hi,_=>by simp [jaQ] at hi
     | d::ds,l::ls,c::cs,hl,hi,h=>by
      have h0:=h 0 (by simp);simp only [List.getD_cons_zero] at h0;simp only [jaQ,Bool.and_eq_true,decide_eq_true_eq] at hi;have ih:=jkW ds ls cs (by simpa using hl) hi.2 fun j hj=>by simpa using h (j+1) (by simpa using hj)
      simp only [jcj,jkV,dot,msk,jey,ih]
      by_cases h1:d=1
      ·rw [if_pos h1]
       by_cases h2:d=l
       ·rw [if_pos h2,show c=0 by omega]
       ·rw [if_neg h2];simp
      ·rw [if_neg h1,if_pos (by omega)]
end Go.Proofs.YteigfipgmghgmaaGreatDoor.Vw
namespace Go.Proofs.YteigfipgmghgmaaGreatDoor
open Go.RowKit
def jjD (zs cs:List Int):Int:=if ja2 zs≠0 then ja2 zs else if jaQ zs cs=true then 0 else 1
def jmV (zs cs:List Int):Int:=if jjD zs cs=0 then jey zs cs else 0
theorem jeB:∀ {zs cs:List Int},jaQ zs cs=true→cs.length=zs.length
 | [],[],_=>rfl
 | z::zs,x::cs,h=>by
  simp only [jaQ,Bool.and_eq_true] at h;simpa using jeB h.2
 | [],_::_,h=>by simp [jaQ] at h
 | _::_,[],h=>by simp [jaQ] at h
theorem jfA:∀ {zs cs:List Int},cs.length=zs.length→(∀ t,t<zs.length→0≤cs.getD t 0∧cs.getD t 0<zs.getD t 0)→jaQ zs cs=true
 | [],[],_,_=>rfl
 | z::zs,x::cs,hl,h=>by
  have h0:=h 0 (by simp);simp [List.getD] at h0;simp only [jaQ,Bool.and_eq_true,decide_eq_true_eq];refine ⟨h0,jfA (by simpa using hl) fun t ht=>?_⟩;have:=h (t+1) (by simpa using ht);simpa [List.getD] using this
 | [],_::_,hl,_=>by simp at hl
 | _::_,[],hl,_=>by simp at hl
theorem jiu:∀ {zs cs:List Int},jaQ zs cs=true→∀ t,t<zs.length→0≤cs.getD t 0∧cs.getD t 0<zs.getD t 0
 | z::zs,x::cs,h,t,ht=>by
  simp only [jaQ,Bool.and_eq_true,decide_eq_true_eq] at h
  cases t with
  | zero=>simpa [List.getD] using h.1
  | succ t =>
   have:=jiu h.2 t (by simpa using ht);simpa [List.getD] using this
 | [],_,_,t,ht=>by simp at ht
 | _::_,[],h,_,_=>by simp [jaQ] at h
theorem jiv:∀ (zs cs:List Int) (d c:Int),cs.length=zs.length→jey (zs++[d]) (cs++[c])=jey zs cs*d+c
 | [],[],d,c,_=>by simp [jey,jaA]
 | z::zs,x::cs,d,c,hl=>by
  have ih:=jiv zs cs d c (by simpa using hl);simp only [List.cons_append,jey,ih,jc3,jaA,Int.mul_one,Int.add_mul,Int.mul_assoc];omega
 | [],_::_,_,_,hl=>by simp at hl
 | _::_,[],_,_,hl=>by simp at hl
theorem jhn:∀ {zs cs:List Int},jaQ zs cs=true→0≤jey zs cs∧jey zs cs<jaA zs
 | [],[],_=>by simp [jey,jaA]
 | z::zs,x::cs,h=>by
  simp only [jaQ,Bool.and_eq_true,decide_eq_true_eq] at h;obtain ⟨h1,h2⟩:=jhn h.2;have h3:0≤x*jaA zs:=Int.mul_nonneg h.1.1 (by omega);have h4:(x+1)*jaA zs≤z*jaA zs:=Int.mul_le_mul_of_nonneg_right (by omega) (by omega);rw [Int.add_mul,Int.one_mul] at h4;simp only [jey,jaA];omega
 | [],_::_,h=>by simp [jaQ] at h
 | _::_,[],h=>by simp [jaQ] at h
theorem jjE {zs cs:List Int} {k:Nat} (hl:cs.length=zs.length) (hk:k≤zs.length) (h:∀ t,t<k→0≤cs.getD t 0∧cs.getD t 0<zs.getD t 0):jaQ (zs.take k) (cs.take k)=true:=by
 refine jfA (by simp;omega) fun t ht=>?_;have ht':t<k:=by simp at ht;omega
 have:=h t ht';simpa [List.getD,ht'] using this
theorem jgN {zs cs:List Int} {k:Nat} (hk:k<zs.length) {c d:Int} (hc:c=cs.getD k 0) (hd:d=zs.getD k 0) (h:c<0∨d≤c):jaQ zs cs=false:=by
 rw [Bool.eq_false_iff];intro hi;have:=jiu hi k hk;omega
theorem jmW {zs cs:List Int} {e n:Int} (he:jjD zs cs=e) (hn:jmV zs cs=n):Ending.returned (.tuple #[.int .i64 n,.int .i64 e])=Ending.returned (.tuple #[.int .i64 (jmV zs cs),.int .i64 (jjD zs cs)]):=by rw [he,hn]
theorem jho {zs cs:List Int} (hE:ja2 zs=0) (hi:jaQ zs cs=false):Ending.returned (.tuple #[.int .i64 0,.int .i64 1])=Ending.returned (.tuple #[.int .i64 (jmV zs cs),.int .i64 (jjD zs cs)]):=by
 have e1:jjD zs cs=1:=by simp [jjD,hE,hi]
 exact jmW e1 (by simp [jmV,e1])
theorem jp1 {zs cs:List Int} (hE:ja2 zs=0) (hi:jaQ zs cs=true) {n:Int} (hn:n=jey zs cs):Ending.returned (.tuple #[.int .i64 n,.int .i64 0])=Ending.returned (.tuple #[.int .i64 (jmV zs cs),.int .i64 (jjD zs cs)]):=by
 have e1:jjD zs cs=0:=by simp [jjD,hE,hi]
 exact jmW e1 (by simp [jmV,e1,hn])
end Go.Proofs.YteigfipgmghgmaaGreatDoor
namespace Go.Proofs.YteigfipgmghgmaaGreatDoor
open Go.RowKit
theorem jgn {zs cs:List Int} (hl:cs.length=zs.length) {k:Nat} (hk:k<zs.length) :
    jey (zs.take (k+1)) (cs.take (k+1))=jey (zs.take k) (cs.take k)*zs.getD k 0+cs.getD k 0:=by
     rw [jcE zs k hk,jcE cs k (by omega),jiv _ _ _ _ (by simp;omega)]
theorem jhp (v u:Value) (zs cs:List Int) (w:World) (h:IsInts w v zs) (hu:IsInts w u cs) :
    Calls Tryz.prog 19 #[v,u] w fun e w'=>e=.returned (.tuple #[.int .i64 (jmV zs cs),.int .i64 (jjD zs cs)])∧w.grownBy w' none:=by
     have hcount:=jac (jfd v zs w h);have h0:=jac h;have hu0:=jac hu;obtain ⟨ao,cap,rfl,h1,h2,h3,-,-,-⟩:=h;obtain ⟨bo,bcap,rfl,hb1,hb2,hb3,-,-,-⟩:=hu
     by_cases hE:ja2 zs=0
     ·have HF:=jac (jbb hE);have HE:=jac hE;rw [hE] at hcount;clear hE
      by_cases hl:cs.length=zs.length
      ·have hl':((cs.length:Int) != (zs.length:Int))=false:=by simp [hl]
       have HL:=jac hl;have hl1:zs.length≤cs.length:=by omega
       have hl2:cs.length≤zs.length:=by omega
       clear hl;go_enter Tryz.func19,Tryz.ntmps19;go_wp2_with (go_at_call 17;refine hcount.out.mono ?_;rintro e w1 ⟨rfl,rfl⟩);go_loopw [8,9] (fun m i wr=>w.grownBy wr none∧∃ (k:Nat),k≤zs.length∧i=.int .i64 k∧m=.int .i64 (jey (zs.take k) (cs.take k))∧∀ t,t<k→0≤cs.getD t 0∧cs.getD t 0<zs.getD t 0) (fun _ i _=>zs.length - (intOf i).toNat)
       case atStart=>exact ⟨jad _,0,Nat.zero_le _,rfl,by simp [jey],fun t h=>absurd h (by omega)⟩
       case round =>
        obtain ⟨hw,k,hk,rfl,hm,hin⟩:=hrel;have hfew:=HF.out.few;have hlt:=jhn (jjE HL.out hk hin);have hpl:=jcQ HF.out.pos k;have hle:=HF.out.le;have HIN:=jac hin;clear hin;obtain ⟨n,hn⟩ : ∃ n,n=jey (zs.take k) (cs.take k):=⟨_,rfl⟩
        rw [← hn] at hm hlt;subst hm;have HN:=jac hn;have hn1:0≤n:=hlt.1;have hn2:n<jaA (zs.take k):=hlt.2;clear hn hlt
        by_cases hkl:k<zs.length
        ·obtain ⟨b,off,rfl⟩:=jbQ h0.out (by omega);obtain ⟨b',off',rfl⟩:=jbQ hu0.out (by omega);have hcz:=jbH (h0.out.more hw) hkl;have hcc:=jbH (hu0.out.more hw) (k:=k) (by omega);have hds:=jgn HL.out hkl;have hpt:=jeb zs k hkl;have hpl2:=jcQ HF.out.pos (k+1);have hd1:=HF.out.at k hkl;rw [← HN.out] at hds;obtain ⟨d,hd⟩ : ∃ d,d=zs.getD k 0:=⟨_,rfl⟩
         obtain ⟨c,hc⟩ : ∃ c,c=cs.getD k 0:=⟨_,rfl⟩
         rw [← hd] at hcz hds hpt hd1;rw [← hc] at hcc hds;have hnd0:0≤n*d:=Int.mul_nonneg hn1 (by omega);have hnd1:(n+1)*d≤jaA (zs.take k)*d:=Int.mul_le_mul_of_nonneg_right (by omega) (by omega);rw [Int.add_mul,Int.one_mul] at hnd1;have hnd2:n*d+d≤65536:=by omega
         have HD:=jac hd;have HC:=jac hc;have HDS:=jac hds;clear hd hc hds hpt hpl2 hnd1 hpl hn2
         by_cases hc0:c<0
         ·go_wp2;go_region
          all_goals go_wp2
          all_goals go_ret2
          all_goals exact ⟨jho HE.out (jgN hkl HC.out HD.out (Or.inl hc0)),jaf hw⟩
         ·have hgd:decide (c<0)=false:=decide_eq_false hc0
          by_cases hc1:d≤c
          ·go_wp2;go_region
           all_goals go_wp2
           all_goals go_ret2
           all_goals exact ⟨jho HE.out (jgN hkl HC.out HD.out (Or.inr hc1)),jaf hw⟩
          ·go_wp2;go_region
           all_goals go_wp2
           go_region
           all_goals go_wp2
           go_roundw
           case rel =>
            have hnew:∀ t,t<k+1→0≤cs.getD t 0∧cs.getD t 0<zs.getD t 0:=by
             intro t ht
             rcases jaK ht with h | rfl
             ·exact HIN.out t h
             ·rw [← HC.out,← HD.out];omega
            exact ⟨jaf (jaf hw),k+1,by omega,by go_num,by rw [HDS.out],hnew⟩
           case measure=>simp [intOf];omega
        ·have HI:Hid (jaQ zs cs=true):=jfA HL.out fun t ht=>HIN.out t (by omega)
         have HN':Hid (n=jey zs cs):=by
          show n=_;have:=HN.out;rw [List.take_of_length_le (show zs.length≤k by omega),List.take_of_length_le (show cs.length≤k by omega)] at this;exact this
         clear hpl hn2;go_wp2;go_ret2;exact ⟨jp1 HE.out HI.out HN'.out,hw⟩
      ·have hl':((cs.length:Int)==(zs.length:Int))=false:=by simp;omega
       have HI:Hid (jaQ zs cs=false):=by
        show _=_;rw [Bool.eq_false_iff];exact fun h=>hl (jeB h)
       clear hl;go_enter Tryz.func19,Tryz.ntmps19;go_wp2_with (go_at_call 17;refine hcount.out.mono ?_;rintro e w1 ⟨rfl,rfl⟩);go_ret2;exact ⟨jho HE.out HI.out,jad _⟩
     ·have e1:jjD zs cs=ja2 zs:=by simp [jjD,hE]
      rw [show jmV zs cs=0 by simp [jmV,e1,hE],e1];obtain ⟨E,hEE⟩ : ∃ E,E=ja2 zs:=⟨_,rfl⟩
      rw [← hEE] at hcount hE ⊢;have hE':(E==0)=false:=by simpa using hE
      clear hEE hE e1;go_enter Tryz.func19,Tryz.ntmps19;go_wp2_with (go_at_call 17;refine hcount.out.mono ?_;rintro e w1 ⟨rfl,rfl⟩);go_ret2;exact ⟨rfl,jad _⟩
end Go.Proofs.YteigfipgmghgmaaGreatDoor
