/- A part. -/
import Derived.Test.YtekocmdfaaoggaaGreatDoorTartAA
import Derived.Test.YtekocmdfaaoggaaGreatDoorRows
import Derived.WalkKit
import Derived.WalkSpells
import Derived.Laws.AppendOwnNone
set_option maxHeartbeats 1600000
set_option maxRecDepth 100000
namespace Go.Proofs.YtekocmdfaaoggaaGreatDoor
open Go.RowKit
theorem jac {p:Prop} (h:p):Hid p:=h
def jak (w:World) (v:Value) (zs:List Int):Prop :=
 ∃ ao cap,v=.slice ao zs.length cap∧zs.length≤cap∧cap≤9223372036854775807∧zs.length*8≤140737488351232∧(ao=none→zs=[]∧cap=0) ∧
  (0<zs.length→∃ b off,ao=some ⟨b,off,none⟩∧∀ t,t<zs.length→w.cell? ⟨b,off+t,none⟩=some (.int .i64 (zs.getD t 0))) ∧
  (∀ z∈zs,-9223372036854775808≤z∧z≤9223372036854775807)
theorem jak.le {w:World} {v:Value} {zs:List Int} (h:jak w v zs):zs.length*8≤140737488351232:=by
 obtain ⟨_,_,_,_,_,h,_⟩:=h;exact h
theorem jak.wf {w:World} {v:Value} {zs:List Int} (h:jak w v zs):∀ z∈zs,-9223372036854775808≤z∧z≤9223372036854775807:=by
 obtain ⟨_,_,_,_,_,_,_,_,h⟩:=h;exact h
theorem jak.kept {w w':World} {v:Value} {zs:List Int} (h:jak w v zs) (hk:∀ b,b<w.heap.size→v.ownBlock=some b→w'.heap[b]?=w.heap[b]?):jak w' v zs:=by
 obtain ⟨ao,cap,rfl,h1,h2,h3,h4,h5,h6⟩:=h;refine ⟨ao,cap,rfl,h1,h2,h3,h4,fun hl=>?_,h6⟩;obtain ⟨b,off,rfl,hc⟩:=h5 hl;refine ⟨b,off,rfl,fun t ht=>?_⟩;have hb:b<w.heap.size:=World.block_lt_of_cell? w _ (hc t ht);rw [← hc t ht];exact World.cell?_of_block (hk b hb rfl)
theorem jak.grown {w w':World} {v:Value} {zs:List Int} (h:jak w v zs) {row:Option Nat} (hg:w.grownBy w' row) (hne:v.ownBlock=none∨v.ownBlock≠row):jak w' v zs :=
 h.kept fun b hb hv=>hg.block b hb (by rcases hne with h0 | h0 <;> simp_all)
theorem jak.more {w w':World} {v:Value} {zs:List Int} (h:jak w v zs) (hg:w.grownBy w' none):jak w' v zs :=
 h.kept fun b hb _=>hg.block b hb (by simp)
def Owns (w:World) (base:Nat) (v:Value) (zs:List Int):Prop :=
 w.ownsRow base 3 1 v zs.length (zs.map (Value.int .i64))∧zs.length*8≤140737488351232∧(∀ z∈zs,-9223372036854775808≤z∧z≤9223372036854775807)
theorem Owns.ints {w:World} {base:Nat} {v:Value} {zs:List Int} (h:Owns w base v zs):jak w v zs:=by
 obtain ⟨hr,hle,hwf⟩:=h;have hr0:=hr
 rcases hr.2 with ⟨rfl,h0⟩ | ⟨g,cap,cur,rfl,_,_,hnc,hcm,_,_⟩
 ·obtain rfl:zs=[]:=List.length_eq_zero_iff.1 h0;exact ⟨none,0,rfl,by simp,by simp,by simp,fun _=>⟨rfl,rfl⟩,fun h=>by simp at h,fun z hz=>by simp at hz⟩
 ·refine ⟨_,cap,rfl,hnc,by simpa [maxLen] using hcm,hle,(fun h=>by cases h),fun _=>⟨g,0,rfl,fun t ht=>?_⟩,hwf⟩;rw [Nat.zero_add,hr0.cellAt t (by omega)];simp [List.getD,ht]
theorem Owns.more {w w':World} {base:Nat} {v:Value} {zs:List Int} (h:Owns w base v zs) {row:Option Nat} (hg:w.grownBy w' row) (hne:v.ownBlock=none∨v.ownBlock≠row):Owns w' base v zs :=
 ⟨h.1.kept hg hne,h.2⟩
theorem Owns.new {w w':World} {base:Nat} {v:Value} {zs:List Int} (h:Owns w base v zs) (hg:w.grownBy w' none):Owns w' base v zs :=
 h.more hg (by cases v.ownBlock <;> simp)
theorem Owns.base_le {w:World} {base b':Nat} {v:Value} {zs:List Int} (h:Owns w base v zs) (hb:b'≤base):Owns w b' v zs:=by
 refine ⟨⟨h.1.1,?_⟩,h.2⟩
 rcases h.1.2 with h0 | ⟨g,cap,cur,e,hg,r⟩
 ·exact .inl h0
 ·exact .inr ⟨g,cap,cur,e,by omega,r⟩
theorem jaa {a b c:World} (h:a.grownBy b none) (k:b.grownBy c none):a.grownBy c none :=
 ⟨k.os.trans h.os,k.tape.trans h.tape,k.output.trans h.output,Nat.le_trans h.size k.size,fun i hi _=>(k.block i (Nat.lt_of_lt_of_le hi h.size) (by simp)).trans (h.block i hi (by simp))⟩
theorem jav {a b c:World} (h:a.grownBy b none) {row:Option Nat} (k:b.grownBy c row) (hr:∀ g,row=some g→a.heap.size≤g):a.grownBy c none :=
 ⟨k.os.trans h.os,k.tape.trans h.tape,k.output.trans h.output,Nat.le_trans h.size k.size,fun i hi _=>(k.block i (Nat.lt_of_lt_of_le hi h.size) (fun e=>by have:=hr i e.symm;omega)).trans (h.block i hi (by simp))⟩
theorem jag {a b:World} (h:a.grownBy b none):a.grownBy b.drew none:=⟨h.os,h.tape,h.output,h.size,h.block⟩
theorem jae (a:World):a.grownBy a none:=World.grownBy.refl a none
theorem jab (a:World) (o:Obj):a.grownBy (a.alloc o) none:=World.grownBy_alloc a o none
theorem jdy {W w:World} (h:W.grownBy w none):Below W.heap.size W w:=⟨h.os,h.tape,h.output,h.size,fun k hk=>h.block k hk (by simp)⟩
theorem Owns.lt {w:World} {base:Nat} {v:Value} {zs:List Int} (h:Owns w base v zs):∀ k,v.ownBlock=some k→base≤k∧k<w.heap.size:=h.1.lt
end Go.Proofs.YtekocmdfaaoggaaGreatDoor
namespace Go.Proofs.YtekocmdfaaoggaaGreatDoor
open Go.RowKit
def bh (zs:List Int) (i:Nat):Int:=if zs.length≤i then 1 else zs.getD (zs.length - 1 - i) 0
theorem jcw (v:Value) (zs:List Int) (i:Nat) (w:World) (h:jak w v zs) (hi:i≤1000000000000) :
    Calls Tryz.prog 61 #[v,.int .i64 i] w fun e w'=>e=.returned (.int .i64 (bh zs i))∧w=w':=by
     obtain ⟨ao,cap,rfl,h1,h2,h3,h4,h5,h6⟩:=h
     by_cases hl:zs.length≤i
     ·have hb:bh zs i=1:=by simp [bh,hl]
      rw [hb];clear h4 h5 h6 hb;go_enter Tryz.func61,Tryz.ntmps61;go_wp2;go_ret;exact ⟨rfl,rfl⟩
     ·obtain ⟨b,off,rfl,hc⟩:=h5 (by omega);have hb:bh zs i=zs.getD (zs.length - 1 - i) 0:=by simp [bh,hl]
      have hcell:w.cell? ⟨b,off+(zs.length - 1 - i),none⟩=some (.int .i64 (bh zs i)):=by rw [hb];exact hc _ (by omega)
      clear h4 h5 h6 hb hc;go_enter Tryz.func61,Tryz.ntmps61;go_wp2;go_ret;exact ⟨rfl,rfl⟩
theorem jfV {zs:List Int} {k:Nat} (hk:k<zs.length) {z:Int} (hz:z=zs.getD k 0) (h:z<1):∃ z∈zs,z<1 :=
 ⟨zs.getD k 0,by simp [List.getD,hk],by omega⟩
theorem jpt {zs:List Int} {p:Int→Prop} (h:∀ t,t<zs.length→p (zs.getD t 0)):∀ z∈zs,p z:=by
 intro z hz;obtain ⟨t,ht,rfl⟩:=List.mem_iff_getElem.1 hz;have:=h t ht;simpa [List.getD,ht] using this
theorem jnz {E:Int} (h:¬ E=0):(E==0)=false:=by simpa using h
theorem jaP {k t:Nat} (h:t<k+1):t<k∨t=k:=by omega
theorem jdz {zs:List Int} {e:Int} (h:jbt zs=e) (he:e≠0):Ending.returned (.tuple #[.int .i64 0,.int .i64 e])=Ending.returned (.tuple #[.int .i64 (cnt zs),.int .i64 (jbt zs)]):=by
 rw [h,jpO (by rw [h];exact he)]
theorem bh_in {zs:List Int} {k:Nat} (hk:k<zs.length):bh zs k=zs.getD (zs.length - 1 - k) 0:=by
 unfold bh;rw [if_neg (by omega)]
theorem jkZ {zs:List Int} {k:Nat} (hk:k<zs.length):jbe (zs.drop (zs.length - (k+1)))=jbe (zs.drop (zs.length - k))*bh zs k:=by
 rw [jdq zs (zs.length - (k+1)) (by omega),bh_in hk,Int.mul_comm,show zs.length - (k+1)+1=zs.length - k by omega,show zs.length - (k+1)=zs.length - 1 - k by omega]
theorem jg7 {zs:List Int} {k:Nat} (h:∀ z∈zs,1≤z):1≤bh zs k:=by
 unfold bh
 split
 ·omega
 ·exact h _ (by rw [List.getD,List.getElem?_eq_getElem (by omega)];simp)
theorem ji7 {p d:Int} (hp:1≤p):65536 / p<d↔65536<p*d:=by
 rw [Int.ediv_lt_iff_lt_mul (by omega),Int.mul_comm]
theorem jcl (v:Value) (zs:List Int) (w:World) (h:jak w v zs) :
    Calls Tryz.prog 39 #[v] w fun e w'=>e=.returned (.tuple #[.int .i64 (cnt zs),.int .i64 (jbt zs)])∧w=w':=by
     have h0:=h;obtain ⟨ao,cap,rfl,h1,h2,h3,h4,h5,h6⟩:=h;go_enter Tryz.func39,Tryz.ntmps39;go_wp2;go_loopw [11] (fun i wr=>wr=w∧∃ k:Nat,k≤zs.length∧i=.int .i64 k∧∀ t,t<k→1≤zs.getD t 0) (fun i _=>zs.length - (intOf i).toNat)
     case atStart=>exact ⟨rfl,0,Nat.zero_le _,rfl,fun t h=>absurd h (by omega)⟩
     case round =>
      obtain ⟨hw,k,hk,rfl,hp⟩:=hrel;subst hw;have HP:Hid (∀ t,t<k→1≤zs.getD t 0):=hp;clear hp
      by_cases hkl:k<zs.length
      ·obtain ⟨b,off,rfl,hc⟩:=h5 (by omega);obtain ⟨z,hz⟩ : ∃ z,z=zs.getD k 0:=⟨_,rfl⟩
       have hcell:=hc k hkl;rw [← hz] at hcell;have HZ:Hid (z=zs.getD k 0):=hz;clear hz hc
       by_cases hz1:z<1
       ·have HE:Hid (jbt zs=4):=ji6 (jfV hkl HZ.out hz1);go_wp2;go_ret2;exact ⟨jdz HE.out (by decide),rfl⟩
       ·go_wp2;go_roundw
        case rel =>
         refine ⟨by trivial,k+1,by omega,by go_num,fun t ht=>?_⟩
         rcases jaP ht with h | rfl
         ·exact HP.out t h
         ·have:=HZ.out;omega
        case measure=>simp [intOf];omega
      ·have hp:∀ z∈zs,1≤z:=jpt (fun t ht=>HP.out t (by omega));have hP:Hid (∀ z∈zs,1≤z):=hp;clear HP hp
       by_cases h7:6<zs.length
       ·have HE:Hid (jbt zs=6):=jg6 hP.out h7;go_wp2;go_ret2;exact ⟨jdz HE.out (by decide),rfl⟩
       ·go_wp2;go_loopw [6,23] (fun n i w'=>w'=wr∧∃ k:Nat,k≤zs.length∧i=.int .i64 k∧n=.int .i64 (jbe (zs.drop (zs.length - k)))∧jbe (zs.drop (zs.length - k))≤65536) (fun _ i _=>zs.length - (intOf i).toNat)
        case atStart=>exact ⟨rfl,0,Nat.zero_le _,rfl,by simp [jbe],by simp [jbe]⟩
        case round =>
         obtain ⟨hw,j,hj,rfl,hn,hle⟩:=hrel;subst hw;have hp1:=prod_pos _ (jdI hP.out (zs.length - j));obtain ⟨p,hpd⟩ : ∃ p,p=jbe (zs.drop (zs.length - j)):=⟨_,rfl⟩
         rw [← hpd] at hn hle hp1;subst hn;have HPD:Hid (p=jbe (zs.drop (zs.length - j))):=hpd;clear hpd
         by_cases hjl:j<zs.length
         ·have hb:=jcw _ zs j _ h0 (by omega);have hd1:=jg7 (k:=j) hP.out;have hst:=jkZ hjl;rw [← HPD.out] at hst;obtain ⟨d,hd⟩ : ∃ d,d=bh zs j:=⟨_,rfl⟩
          rw [← hd] at hb hd1 hst;have HST:Hid (jbe (zs.drop (zs.length - (j+1)))=p*d):=hst;have HB:=jac hb;clear hst hb hd
          by_cases ht:65536 / p<d
          ·have HE : Hid (jbt zs = 6) := jfU hP.out (by
             have h1:=(ji7 hp1).1 ht;have h2:=jb2 hP.out (zs.length - (j+1));rw [HST.out] at h2;omega)
           go_wp2_with (go_at_call 61;refine (HB.out).mono ?_;rintro e w' ⟨rfl,rfl⟩);go_ret2;exact ⟨jdz HE.out (by decide),rfl⟩
          ·have hle2 : p * d ≤ 65536 := by
             have h1:=mt (ji7 hp1).2 ht;omega
           have hge2:0≤p*d:=Int.mul_nonneg (by omega) (by omega);go_wp2_with (go_at_call 61;refine (HB.out).mono ?_;rintro e w' ⟨rfl,rfl⟩);go_roundw
           case rel=>exact ⟨by trivial,j+1,by omega,by go_num,by rw [HST.out],by rw [HST.out];exact hle2⟩
           case measure=>simp [intOf];omega
         ·have HE:Hid (Fine zs):=⟨hP.out,by omega,by have:=HPD.out;rw [show zs.length - j=0 by omega] at this;simp at this;omega⟩
          have HN:Hid (p=cnt zs):=by show p=cnt zs;rw [HE.out.cnt];have:=HPD.out;rw [show zs.length - j=0 by omega] at this;simpa using this
          go_wp2;go_ret2;exact ⟨by rw [HE.out.ok,← HN.out];rfl,rfl⟩
end Go.Proofs.YtekocmdfaaoggaaGreatDoor
namespace Go.Proofs.YtekocmdfaaoggaaGreatDoor
open Go.RowKit
theorem jg8 (v:Value) (zs:List Int) (w:World) (h:jak w v zs) :
    Calls Tryz.prog 13 #[v] w fun e w'=>e=.returned (.tuple #[.int .i64 (cnt zs),.int .i64 (jbt zs)])∧w=w':=by
     obtain ⟨ao,cap,rfl,h1,h2,h3,h4,h5,h6⟩:=h;go_enter Tryz.func13,Tryz.ntmps13;go_wp2;go_loopw [4] (fun i wr=>wr=w∧∃ k:Nat,k≤zs.length∧i=.int .i64 k∧∀ t,t<k→1≤zs.getD t 0) (fun i _=>zs.length - (intOf i).toNat)
     case atStart=>exact ⟨rfl,0,Nat.zero_le _,rfl,fun t h=>absurd h (by omega)⟩
     case round =>
      obtain ⟨hw,k,hk,rfl,hp⟩:=hrel;subst hw;have HP:Hid (∀ t,t<k→1≤zs.getD t 0):=hp;clear hp
      by_cases hkl:k<zs.length
      ·obtain ⟨b,off,rfl,hc⟩:=h5 (by omega);obtain ⟨z,hz⟩ : ∃ z,z=zs.getD k 0:=⟨_,rfl⟩
       have hcell:=hc k hkl;rw [← hz] at hcell;have HZ:Hid (z=zs.getD k 0):=hz;clear hz hc
       by_cases hz1:z<1
       ·have HE:Hid (jbt zs=4):=ji6 (jfV hkl HZ.out hz1);go_wp2;go_ret2;exact ⟨jdz HE.out (by decide),rfl⟩
       ·go_wp2;go_roundw
        case rel =>
         refine ⟨by trivial,k+1,by omega,by go_num,fun t ht=>?_⟩
         rcases jaP ht with h | rfl
         ·exact HP.out t h
         ·have:=HZ.out;omega
        case measure=>simp [intOf];omega
      ·have hp:∀ z∈zs,1≤z:=jpt (fun t ht=>HP.out t (by omega));have hP:Hid (∀ z∈zs,1≤z):=hp;clear HP hp
       by_cases h7:6<zs.length
       ·have HE:Hid (jbt zs=6):=jg6 hP.out h7;go_wp2;go_ret2;exact ⟨jdz HE.out (by decide),rfl⟩
       ·go_wp2;go_loopw [5,6] (fun n i w'=>w'=wr∧∃ k:Nat,k≤zs.length∧i=.int .i64 k∧n=.int .i64 (jbe (zs.take k))∧jbe (zs.take k)≤65536) (fun _ i _=>zs.length - (intOf i).toNat)
        case atStart=>exact ⟨rfl,0,Nat.zero_le _,rfl,by simp [jbe],by simp [jbe]⟩
        case round =>
         obtain ⟨hw,j,hj,rfl,hn,hle⟩:=hrel;subst hw;have hp1:=prod_pos _ (jeC hP.out j);obtain ⟨p,hpd⟩ : ∃ p,p=jbe (zs.take j):=⟨_,rfl⟩
         rw [← hpd] at hn hle hp1;subst hn;have HPD:Hid (p=jbe (zs.take j)):=hpd;clear hpd
         by_cases hjl:j<zs.length
         ·obtain ⟨b,off,rfl,hc⟩:=h5 (by omega);have hst:=jfz zs j hjl;have hd1:1≤zs.getD j 0:=hP.out _ (by rw [List.getD,List.getElem?_eq_getElem (by omega)];simp);have hcell:=hc j hjl;rw [← HPD.out] at hst;obtain ⟨d,hd⟩ : ∃ d,d=zs.getD j 0:=⟨_,rfl⟩
          rw [← hd] at hcell hd1 hst;have HST:Hid (jbe (zs.take (j+1))=p*d):=hst;clear hst hd hc
          have hall : Hid (65536 < p * d → jbt zs = 6) := fun ht => jfU hP.out (by
              have h2:=jc0 hP.out (j+1);rw [HST.out] at h2;omega)
          have hpd:d≤p*d:=jdx hp1 (by omega)
          by_cases ht:65536<d
          ·go_wp2;go_ret2;exact ⟨jdz (hall.out (by omega)) (by decide),rfl⟩
          ·have hsm:p*d≤65536*65536:=Int.mul_le_mul (by omega) (by omega) (by omega) (by omega)
           by_cases ht2:65536<p*d
           ·go_wp2;go_ret2;exact ⟨jdz (hall.out ht2) (by decide),rfl⟩
           ·go_wp2;go_roundw
            case rel=>exact ⟨by trivial,j+1,by omega,by go_num,by rw [HST.out],by rw [HST.out];omega⟩
            case measure=>simp [intOf];omega
         ·have HT:Hid (p=jbe zs):=by show p=jbe zs;have:=HPD.out;rw [List.take_of_length_le (by omega)] at this;exact this
          have HE:Hid (Fine zs):=⟨hP.out,by omega,by have:=HT.out;omega⟩
          have HN:Hid (p=cnt zs):=by show p=cnt zs;rw [HE.out.cnt];exact HT.out
          go_wp2;go_ret2;exact ⟨by rw [HE.out.ok,← HN.out];rfl,rfl⟩
theorem jjI {a b:List Int} (hl:a.length=b.length) (h:∀ t,t<a.length→a.getD t 0=b.getD t 0):a=b:=by
 apply List.ext_getElem hl;intro t h1 h2;have:=h t h1;simpa [List.getD,h1,h2] using this
end Go.Proofs.YtekocmdfaaoggaaGreatDoor
namespace Go.Proofs.YtekocmdfaaoggaaGreatDoor
open Go.RowKit
theorem jeM:(Tryz.prog.info? 3).map (fun i=>(i.zero,i.size,i.bytes))=some (some (.int .i64 0),1,8):=by kernel_rfl
theorem jjJ {w:World} {b off:Nat} {ys:List Int} (hc:∀ t,t<ys.length→w.cell? ⟨b,off+t,none⟩=some (.int .i64 (ys.getD t 0))) :
    ∀ j u,(ys.map (Value.int .i64))[j]?=some u→w.cell? ((⟨b,off,none⟩ : Addr).add j)=some u:=by
     intro j u hu;obtain ⟨hj,hv⟩:=List.getElem?_eq_some_iff.1 hu;have hj':j<ys.length:=by simpa using hj
     rw [Addr.add_lit,hc j hj',← hv];simp [List.getD,hj']
theorem jdc {w : World} {ops : Array Oper} {rest : List Oper} {o : Oper} {a : Act} {Q : Exit → Act → World → Prop} (hgd : o.guard = none) (s x : Operand)
    (ho:o.op=.call { callee:=.builtin .append,args:=#[s,x],argTypes:=#[29,29] })
    (base:Nat) (v:Value) (xs:List Int) (hs:a.eval s=v) (hown:Owns w base v xs) (xv:Value) (ys:List Int) (hx:a.eval x=xv) (hys:jak w xv ys)
    (hbytes:(xs.length+ys.length)*8≤140737488351232) (hbase:base≤w.heap.size)
    (h:∀ v' w',Owns w' base v' (xs++ys)→w.grownBy w' v.ownBlock→wpList Tryz.prog ops Q rest (a.put o.dst v') w'):wpList Tryz.prog ops Q (o::rest) a w:=by
     obtain ⟨i0,hi,hz0,hz1,hz2⟩:=info_parts jeM;obtain ⟨ao,cap,rfl,h1,h2,h3,h4,h5,h6⟩:=hys
     cases ao with
     | none =>
      obtain ⟨rfl,rfl⟩:=h4 rfl;refine wpList_append_own_none hgd s x 29 ho base 3 i0 1 Tryz.underlying29 hi v _ _ hs hown.1 hx ?_;exact h v w (by simpa using hown) (World.grownBy.refl _ _)
     | some ad =>
      refine wpList_append_own w hgd s x 29 ho base 3 i0 (.int .i64 0) 1 8 Tryz.underlying29 hi hz0 hz1 hz2 rfl (by decide) v _ _ hs hown.1 ad ys.length cap (ys.map (Value.int .i64)) hx (by simp) ?_ (ints_oneCell _ _) (by simp only [maxLen];omega) (by omega) hbase ?_
      ·by_cases hl:0<ys.length
       ·obtain ⟨b,off,hao,hc⟩:=h5 hl;obtain rfl:=Option.some.inj hao;exact jjJ hc
       ·obtain rfl:ys=[]:=List.length_eq_zero_iff.1 (by omega);intro j u hu;simp at hu
      ·intro v' w' ho' hg _;refine h v' w' ⟨by simpa using ho',by simpa using hbytes,fun z hz=>?_⟩ hg
       rcases List.mem_append.1 hz with h | h
       ·exact hown.2.2 z h
       ·exact h6 z h
theorem jbj (w:World) (base:Nat):Owns w base (.slice none 0 0) []:=⟨World.ownsRow_nil _ _ _ _,by simp,fun z hz=>by simp at hz⟩
theorem jcV {a b c:World} {row:Option Nat} (h:a.grownBy b row) (k:b.grownBy c row):a.grownBy c row :=
 ⟨k.os.trans h.os,k.tape.trans h.tape,k.output.trans h.output,Nat.le_trans h.size k.size,fun i hi hn=>(k.block i (Nat.lt_of_lt_of_le hi h.size) hn).trans (h.block i hi hn)⟩
end Go.Proofs.YtekocmdfaaoggaaGreatDoor
namespace Go.Proofs.YtekocmdfaaoggaaGreatDoor
open Go.RowKit
def jbB (n k:Nat) (l:List Int):List Int:=List.replicate (n - k) 0++l
theorem jgq {n k:Nat} (hk:k<n) (l:List Int) (z:Int):(jbB n k l).set (n - 1 - k) z=jbB n (k+1) (z::l):=by
 unfold jbB
 have e:List.replicate (n - k) (0:Int)=List.replicate (n - (k+1)) 0++[0]:=by
  rw [show n - k=(n - (k+1))+1 by omega,List.replicate_succ']
 rw [e,show n - 1 - k=n - (k+1) by omega,List.append_assoc,List.set_append_right _ _ (by simp)];simp
theorem jh8 (l:List Int) (i:Nat) (z:Int):(l.map (Value.int .i64)).set i (.int .i64 z)=(l.set i z).map (Value.int .i64):=by
 rw [List.map_set]
theorem jbJ (n:Nat):(madeCells (Value.int .i64 0).cells (n*1)).toList=(List.replicate n (0:Int)).map (Value.int .i64):=by
 rw [Nat.mul_one,show (Value.int .i64 0).cells=#[Value.int .i64 0] from rfl,toList_madeCells_one];simp
theorem jcx {w wr : World} {n k : Nat} {l : List Int} {z : Int} (hk : k < n) (hw : w.grownBy wr none)
    (hown:wr.ownsRow w.heap.size 3 1 (.slice (some ⟨w.heap.size,0,none⟩) n n) n ((jbB n k l).map (Value.int .i64))) :
    (∃ c,wr.cell? ⟨w.heap.size,n - 1 - k,none⟩=some c)∧wr.frozen? ⟨w.heap.size,n - 1 - k,none⟩=false ∧
    (wr.setCell ⟨w.heap.size,n - 1 - k,none⟩ (.int .i64 z)).ownsRow w.heap.size 3 1 (.slice (some ⟨w.heap.size,0,none⟩) n n) n ((jbB n (k+1) (z::l)).map (Value.int .i64)) ∧
    w.grownBy (wr.setCell ⟨w.heap.size,n - 1 - k,none⟩ (.int .i64 z)) none:=by
     have hl:=hown.1;refine ⟨⟨_,by rw [hown.cellAt (n - 1 - k) (by omega),List.getElem?_eq_getElem (by omega)]⟩,hown.frozenAt _,?_,jav hw (hown.stored (n - 1 - k) (.int .i64 z)).2 (fun g hg=>by injection hg with hg;omega)⟩;have:=(hown.stored (n - 1 - k) (.int .i64 z)).1;rw [jh8,jgq hk] at this;exact this
end Go.Proofs.YtekocmdfaaoggaaGreatDoor
namespace Go.Proofs.YtekocmdfaaoggaaGreatDoor
open Go.RowKit
def jcr (p q:Int):Bool:=!(p==q)&&(!(p==1)&&!(q==1))
def bcL (a b:List Int):Nat→List Int
 | 0=>[]
 | k+1=>max (bh a k) (bh b k)::bcL a b k
def jdn (a b:List Int):Nat→Bool
 | 0=>false
 | k+1=>jcr (bh a k) (bh b k)||jdn a b k
def jaO (a b:List Int):Nat:=max a.length b.length
def bcE (a b:List Int):Int:=if jbt a≠0 then jbt a else if jbt b≠0 then jbt b else if jdn a b (jaO a b)=true then 4 else jbt (bcL a b (jaO a b))
def bcR (a b:List Int):List Int:=if bcE a b=0 then bcL a b (jaO a b) else []
theorem jcy (a b:List Int) (k:Nat):(bcL a b k).length=k:=by
 induction k with
 | zero=>rfl
 | succ k ih=>simp [bcL,ih]
theorem ji8 {a b:List Int} {k n:Nat} (hk:k<n) (h:jcr (bh a k) (bh b k)=true):jdn a b n=true:=by
 induction n with
 | zero=>omega
 | succ n ih =>
  rcases jaP hk with h1 | rfl
  ·simp [jdn,ih h1]
  ·simp [jdn,h]
theorem jra {zs:List Int} (h:∀ z∈zs,-9223372036854775808≤z∧z≤9223372036854775807) (i:Nat) : -9223372036854775808≤bh zs i∧bh zs i≤9223372036854775807:=by
 unfold bh
 split
 ·omega
 ·exact h _ (by rw [List.getD,List.getElem?_eq_getElem (by omega)];simp)
theorem jpu {a b:List Int} (ha:∀ z∈a,-9223372036854775808≤z∧z≤9223372036854775807) (hb:∀ z∈b,-9223372036854775808≤z∧z≤9223372036854775807) (k:Nat):∀ z∈bcL a b k,-9223372036854775808≤z∧z≤9223372036854775807:=by
 induction k with
 | zero=>intro z hz;simp [bcL] at hz
 | succ k ih =>
  intro z hz
  rcases List.mem_cons.1 hz with rfl | hz
  ·have h1:=jra ha k;have h2:=jra hb k;omega
  ·exact ih z hz
theorem jeN (p q:Int) (h:jcr p q=true):(p==q)=false∧(p==1)=false∧(q==1)=false:=by
 simp only [jcr,Bool.and_eq_true,Bool.not_eq_true'] at h;exact h
theorem jfW {E:Int} {a b:List Int} {w w':World} (h:bcE a b=E) (h0:E≠0) (hg:w.grownBy w' none) :
    ∃ u,Ending.returned (.tuple #[.slice none 0 0,.int .i64 E])=.returned (.tuple #[u,.int .i64 (bcE a b)])∧Owns w' w.heap.size u (bcR a b)∧w.grownBy w' none :=
     ⟨_,by rw [h],by rw [show bcR a b=[] by simp [bcR,h,h0]];exact jbj _ _,hg⟩
theorem jeD {zs:List Int} (h:jbt zs≠0):(jbt zs==0)=false:=by simpa using h
theorem jrb (v u:Value) (a b:List Int) (w:World) (h:jak w v a) (hu:jak w u b) :
    Calls Tryz.prog 138 #[v,u] w fun e w'=>∃ r,e=.returned (.tuple #[r,.int .i64 (bcE a b)])∧Owns w' w.heap.size r (bcR a b)∧w.grownBy w' none:=by
     obtain ⟨i0,hi,hz0,hz1,hz2⟩:=info_parts jeM;have hca:=jac (jcl v a w h);have hcb:=jac (jcl u b w hu);have h0:=jac h;have hu0:=jac hu;obtain ⟨ao,cap,rfl,h1,h2,h3,-,-,-⟩:=h;obtain ⟨bo,bcap,rfl,hb1,hb2,hb3,-,-,-⟩:=hu
     by_cases hE:jbt a=0
     ·by_cases hF:jbt b=0
      ·have HA:=jac (jbl hE);have HB:=jac (jbl hF);have HEF:Hid (bcE a b=if jdn a b (jaO a b)=true then 4 else jbt (bcL a b (jaO a b))):=by simp [Hid,bcE,hE,hF]
       rw [hE] at hca;rw [hF] at hcb;clear hE hF;have hl1:=HA.out.few;have hl2:=HB.out.few
       by_cases hlt:a.length<b.length
       ·skip
        have HR:Hid (b.length=jaO a b):=by simp only [Hid,jaO];omega
        rw [← HR.out] at HEF;have hb4:i0.bytes*b.length≤281474976710656:=by rw [hz2];omega
        have hb5:b.length≤maxLen:=by simp only [maxLen];omega
        go_enter Tryz.func138,Tryz.ntmps138;go_wp2_with fail;refine hca.out.mono ?_;rintro e w' ⟨rfl,rfl⟩;go_wp2_with fail;refine hcb.out.mono ?_;rintro e w' ⟨rfl,rfl⟩;go_wp2_with (refine wpList_make_full _ rfl (.tmp 38) (.tmp 38) 29 rfl w.heap.size 3 i0 (.int .i64 0) 1 Tryz.underlying29 hi hz0 hz1 .i64 .i64 _ _ b.length rfl rfl rfl rfl hb4 hb5 (Nat.le_refl _) ?_;intro w1 hown hgrow);rw [jbJ] at hown
        go_loopw [41] (fun i wr=>w.grownBy wr none∧∃ k:Nat,k≤b.length∧i=.int .i64 k∧jdn a b k=false ∧
         wr.ownsRow w.heap.size 3 1 (.slice (some ⟨w.heap.size,0,none⟩) b.length b.length) b.length ((jbB b.length k (bcL a b k)).map (Value.int .i64))) (fun i _=>b.length - (intOf i).toNat)
        case atStart=>exact ⟨hgrow,0,Nat.zero_le _,rfl,rfl,by simpa [jbB,bcL] using hown⟩
        case round =>
         clear hown hgrow;obtain ⟨hw,k,hk,rfl,hbad,hown⟩:=hrel;have HBAD:=jac hbad;clear hbad
         by_cases hkl:k<b.length
         ·have hpa:=jcw _ a k _ (h0.out.more hw) (by omega);have hpb:=jcw _ b k _ (hu0.out.more hw) (by omega);have hp1:=jg7 (k:=k) HA.out.pos;have hq1:=jg7 (k:=k) HB.out.pos;have hbo:=@ji8 a b k b.length hkl;obtain ⟨p,hp⟩ : ∃ p,p=bh a k:=⟨_,rfl⟩
          obtain ⟨q,hq⟩ : ∃ q,q=bh b k:=⟨_,rfl⟩
          rw [← hp] at hpa hp1 hbo;rw [← hq] at hpb hq1 hbo;have HPA:=jac hpa;have HPB:=jac hpb;have HP:=jac hp;have HQ:=jac hq;have HBO:=jac hbo;clear hpa hpb hp hq hbo
          by_cases hap:jcr p q=true
          ·obtain ⟨t1,t2,t3⟩:=jeN p q hap;have HE4:Hid (bcE a b=4):=by simp only [Hid];rw [HEF.out,if_pos (HBO.out hap)]
           have n1:(p != q)=true:=by simp [bne,t1]
           have n2:(p != 1)=true:=by simp [bne,t2]
           have n3:(q != 1)=true:=by simp [bne,t3]
           clear hap t1 t2 t3;go_wp2_with fail;refine HPA.out.mono ?_;rintro e w' ⟨rfl,rfl⟩;go_wp2_with fail;refine HPB.out.mono ?_;rintro e w' ⟨rfl,rfl⟩;go_wp2;go_ret2;exact jfW HE4.out (by decide) hw
          ·have HNB:Hid (jcr p q=false):=by simp only [Hid];simpa using hap
           rcases (show p=q∨(p≠q∧p=1)∨(p≠q∧p≠1∧q=1) by
            simp only [jcr,Bool.and_eq_true,Bool.not_eq_true',beq_eq_false_iff_ne,ne_eq] at hap;omega) with hc1 | ⟨hc1,hc2⟩ | ⟨hc1,hc2,hc3⟩
           ·subst hc1;obtain ⟨⟨c,hc⟩,hf,hown2,hw2⟩:=jcx (z:=p) hkl hw hown;have HM:Hid (p=max p p):=by simp only [Hid];omega
            have HO:=jac hown2;have HW:=jac hw2;clear hap;clear hown hown2 hw2 hw;go_wp2_with fail;refine HPA.out.mono ?_;rintro e w' ⟨rfl,rfl⟩;go_wp2_with fail;refine HPB.out.mono ?_;rintro e w' ⟨rfl,rfl⟩;go_wp2;go_roundw
            case rel =>
             refine ⟨HW.out,k+1,by omega,by go_num,?_,?_⟩
             ·simp only [jdn];rw [← HP.out,← HQ.out,HNB.out,HBAD.out]
              rfl
             ·simp only [bcL];rw [← HP.out,← HQ.out,← HM.out];exact HO.out
            case measure=>simp [intOf];omega
           ·subst hc2;obtain ⟨⟨c,hc⟩,hf,hown2,hw2⟩:=jcx (z:=q) hkl hw hown;have HM:Hid (q=max 1 q):=by simp only [Hid];omega
            have HO:=jac hown2;have HW:=jac hw2;have n1:1<q:=by omega
            have n2:((1:Int) != q)=true:=by simp;omega
            clear hap hc1;clear hown hown2 hw2 hw;go_wp2_with fail;refine HPA.out.mono ?_;rintro e w' ⟨rfl,rfl⟩;go_wp2_with fail;refine HPB.out.mono ?_;rintro e w' ⟨rfl,rfl⟩;go_wp2;go_roundw
            case rel =>
             refine ⟨HW.out,k+1,by omega,by go_num,?_,?_⟩
             ·simp only [jdn];rw [← HP.out,← HQ.out,HNB.out,HBAD.out]
              rfl
             ·simp only [bcL];rw [← HP.out,← HQ.out,← HM.out];exact HO.out
            case measure=>simp [intOf];omega
           ·subst hc3;obtain ⟨⟨c,hc⟩,hf,hown2,hw2⟩:=jcx (z:=p) hkl hw hown;have HM:Hid (p=max p 1):=by simp only [Hid];omega
            have HO:=jac hown2;have HW:=jac hw2;have n1:1<p:=by omega
            have n2:(p != 1)=true:=by simp;omega
            clear hap hc1 hc2;clear hown hown2 hw2 hw;go_wp2_with fail;refine HPA.out.mono ?_;rintro e w' ⟨rfl,rfl⟩;go_wp2_with fail;refine HPB.out.mono ?_;rintro e w' ⟨rfl,rfl⟩;go_wp2;go_roundw
            case rel =>
             refine ⟨HW.out,k+1,by omega,by go_num,?_,?_⟩
             ·simp only [jdn];rw [← HP.out,← HQ.out,HNB.out,HBAD.out]
              rfl
             ·simp only [bcL];rw [← HP.out,← HQ.out,← HM.out];exact HO.out
            case measure=>simp [intOf];omega
         ·have HOW : Hid (Owns wr w.heap.size (.slice (some ⟨w.heap.size, 0, none⟩) b.length b.length) (bcL a b b.length)) := by
            refine ⟨?_,by rw [jcy];omega,jpu h0.out.wf hu0.out.wf _⟩;have:=hown;rw [show k=b.length by omega,show jbB b.length b.length (bcL a b b.length)=bcL a b b.length by simp [jbB]] at this;rw [jcy];exact this
          have HB0:Hid (jdn a b b.length=false):=by simp only [Hid];rw [show b.length=k by omega];exact HBAD.out
          have hcc:=jcl _ _ _ HOW.out.ints;have hEE:bcE a b=jbt (bcL a b b.length):=by rw [HEF.out,if_neg (by rw [HB0.out];decide)]
          by_cases hz:jbt (bcL a b b.length)=0
          ·rw [hz] at hcc hEE;have HEE:=jac hEE;have HCC:=jac hcc;have HRR:Hid (bcR a b=bcL a b b.length):=by simp [Hid,bcR,hEE,← HR.out]
           clear hcc hEE hz hown;go_wp2_with fail;refine HCC.out.mono ?_;rintro e w' ⟨rfl,rfl⟩;go_wp2;go_ret2;refine ⟨_,by rw [HEE.out];rfl,?_,hw⟩;rw [HRR.out];exact HOW.out
          ·have hz':=jeD hz;have HZ:=jac hz;have HEE:=jac hEE;have HCC:=jac hcc;obtain ⟨E,hE⟩ : ∃ E,E=jbt (bcL a b b.length):=⟨_,rfl⟩
           rw [← hE] at hz' HZ HEE HCC;clear hcc hEE hz hE hown;go_wp2_with fail;refine HCC.out.mono ?_;rintro e w' ⟨rfl,rfl⟩;go_wp2;go_ret2;exact jfW HEE.out HZ.out hw
       ·skip
        have HR:Hid (a.length=jaO a b):=by simp only [Hid,jaO];omega
        rw [← HR.out] at HEF;have hb4:i0.bytes*a.length≤281474976710656:=by rw [hz2];omega
        have hb5:a.length≤maxLen:=by simp only [maxLen];omega
        go_enter Tryz.func138,Tryz.ntmps138;go_wp2_with fail;refine hca.out.mono ?_;rintro e w' ⟨rfl,rfl⟩;go_wp2_with fail;refine hcb.out.mono ?_;rintro e w' ⟨rfl,rfl⟩;go_wp2_with (refine wpList_make_full _ rfl (.tmp 38) (.tmp 38) 29 rfl w.heap.size 3 i0 (.int .i64 0) 1 Tryz.underlying29 hi hz0 hz1 .i64 .i64 _ _ a.length rfl rfl rfl rfl hb4 hb5 (Nat.le_refl _) ?_;intro w1 hown hgrow);rw [jbJ] at hown
        go_loopw [41] (fun i wr=>w.grownBy wr none∧∃ k:Nat,k≤a.length∧i=.int .i64 k∧jdn a b k=false ∧
         wr.ownsRow w.heap.size 3 1 (.slice (some ⟨w.heap.size,0,none⟩) a.length a.length) a.length ((jbB a.length k (bcL a b k)).map (Value.int .i64))) (fun i _=>a.length - (intOf i).toNat)
        case atStart=>exact ⟨hgrow,0,Nat.zero_le _,rfl,rfl,by simpa [jbB,bcL] using hown⟩
        case round =>
         clear hown hgrow;obtain ⟨hw,k,hk,rfl,hbad,hown⟩:=hrel;have HBAD:=jac hbad;clear hbad
         by_cases hkl:k<a.length
         ·have hpa:=jcw _ a k _ (h0.out.more hw) (by omega);have hpb:=jcw _ b k _ (hu0.out.more hw) (by omega);have hp1:=jg7 (k:=k) HA.out.pos;have hq1:=jg7 (k:=k) HB.out.pos;have hbo:=@ji8 a b k a.length hkl;obtain ⟨p,hp⟩ : ∃ p,p=bh a k:=⟨_,rfl⟩
          obtain ⟨q,hq⟩ : ∃ q,q=bh b k:=⟨_,rfl⟩
          rw [← hp] at hpa hp1 hbo;rw [← hq] at hpb hq1 hbo;have HPA:=jac hpa;have HPB:=jac hpb;have HP:=jac hp;have HQ:=jac hq;have HBO:=jac hbo;clear hpa hpb hp hq hbo
          by_cases hap:jcr p q=true
          ·obtain ⟨t1,t2,t3⟩:=jeN p q hap;have HE4:Hid (bcE a b=4):=by simp only [Hid];rw [HEF.out,if_pos (HBO.out hap)]
           have n1:(p != q)=true:=by simp [bne,t1]
           have n2:(p != 1)=true:=by simp [bne,t2]
           have n3:(q != 1)=true:=by simp [bne,t3]
           clear hap t1 t2 t3;go_wp2_with fail;refine HPA.out.mono ?_;rintro e w' ⟨rfl,rfl⟩;go_wp2_with fail;refine HPB.out.mono ?_;rintro e w' ⟨rfl,rfl⟩;go_wp2;go_ret2;exact jfW HE4.out (by decide) hw
          ·have HNB:Hid (jcr p q=false):=by simp only [Hid];simpa using hap
           rcases (show p=q∨(p≠q∧p=1)∨(p≠q∧p≠1∧q=1) by
            simp only [jcr,Bool.and_eq_true,Bool.not_eq_true',beq_eq_false_iff_ne,ne_eq] at hap;omega) with hc1 | ⟨hc1,hc2⟩ | ⟨hc1,hc2,hc3⟩
           ·subst hc1;obtain ⟨⟨c,hc⟩,hf,hown2,hw2⟩:=jcx (z:=p) hkl hw hown;have HM:Hid (p=max p p):=by simp only [Hid];omega
            have HO:=jac hown2;have HW:=jac hw2;clear hap;clear hown hown2 hw2 hw;go_wp2_with fail;refine HPA.out.mono ?_;rintro e w' ⟨rfl,rfl⟩;go_wp2_with fail;refine HPB.out.mono ?_;rintro e w' ⟨rfl,rfl⟩;go_wp2;go_roundw
            case rel =>
             refine ⟨HW.out,k+1,by omega,by go_num,?_,?_⟩
             ·simp only [jdn];rw [← HP.out,← HQ.out,HNB.out,HBAD.out]
              rfl
             ·simp only [bcL];rw [← HP.out,← HQ.out,← HM.out];exact HO.out
            case measure=>simp [intOf];omega
           ·subst hc2;obtain ⟨⟨c,hc⟩,hf,hown2,hw2⟩:=jcx (z:=q) hkl hw hown;have HM:Hid (q=max 1 q):=by simp only [Hid];omega
            have HO:=jac hown2;have HW:=jac hw2;have n1:1<q:=by omega
            have n2:((1:Int) != q)=true:=by simp;omega
            clear hap hc1;clear hown hown2 hw2 hw;go_wp2_with fail;refine HPA.out.mono ?_;rintro e w' ⟨rfl,rfl⟩;go_wp2_with fail;refine HPB.out.mono ?_;rintro e w' ⟨rfl,rfl⟩;go_wp2;go_roundw
            case rel =>
             refine ⟨HW.out,k+1,by omega,by go_num,?_,?_⟩
             ·simp only [jdn];rw [← HP.out,← HQ.out,HNB.out,HBAD.out]
              rfl
             ·simp only [bcL];rw [← HP.out,← HQ.out,← HM.out];exact HO.out
            case measure=>simp [intOf];omega
           ·subst hc3;obtain ⟨⟨c,hc⟩,hf,hown2,hw2⟩:=jcx (z:=p) hkl hw hown;have HM:Hid (p=max p 1):=by simp only [Hid];omega
            have HO:=jac hown2;have HW:=jac hw2;have n1:1<p:=by omega
            have n2:(p != 1)=true:=by simp;omega
            clear hap hc1 hc2;clear hown hown2 hw2 hw;go_wp2_with fail;refine HPA.out.mono ?_;rintro e w' ⟨rfl,rfl⟩;go_wp2_with fail;refine HPB.out.mono ?_;rintro e w' ⟨rfl,rfl⟩;go_wp2;go_roundw
            case rel =>
             refine ⟨HW.out,k+1,by omega,by go_num,?_,?_⟩
             ·simp only [jdn];rw [← HP.out,← HQ.out,HNB.out,HBAD.out]
              rfl
             ·simp only [bcL];rw [← HP.out,← HQ.out,← HM.out];exact HO.out
            case measure=>simp [intOf];omega
         ·have HOW : Hid (Owns wr w.heap.size (.slice (some ⟨w.heap.size, 0, none⟩) a.length a.length) (bcL a b a.length)) := by
            refine ⟨?_,by rw [jcy];omega,jpu h0.out.wf hu0.out.wf _⟩;have:=hown;rw [show k=a.length by omega,show jbB a.length a.length (bcL a b a.length)=bcL a b a.length by simp [jbB]] at this;rw [jcy];exact this
          have HB0:Hid (jdn a b a.length=false):=by simp only [Hid];rw [show a.length=k by omega];exact HBAD.out
          have hcc:=jcl _ _ _ HOW.out.ints;have hEE:bcE a b=jbt (bcL a b a.length):=by rw [HEF.out,if_neg (by rw [HB0.out];decide)]
          by_cases hz:jbt (bcL a b a.length)=0
          ·rw [hz] at hcc hEE;have HEE:=jac hEE;have HCC:=jac hcc;have HRR:Hid (bcR a b=bcL a b a.length):=by simp [Hid,bcR,hEE,← HR.out]
           clear hcc hEE hz hown;go_wp2_with fail;refine HCC.out.mono ?_;rintro e w' ⟨rfl,rfl⟩;go_wp2;go_ret2;refine ⟨_,by rw [HEE.out];rfl,?_,hw⟩;rw [HRR.out];exact HOW.out
          ·have hz':=jeD hz;have HZ:=jac hz;have HEE:=jac hEE;have HCC:=jac hcc;obtain ⟨E,hE⟩ : ∃ E,E=jbt (bcL a b a.length):=⟨_,rfl⟩
           rw [← hE] at hz' HZ HEE HCC;clear hcc hEE hz hE hown;go_wp2_with fail;refine HCC.out.mono ?_;rintro e w' ⟨rfl,rfl⟩;go_wp2;go_ret2;exact jfW HEE.out HZ.out hw
      ·have HEE:Hid (bcE a b=jbt b):=by simp [Hid,bcE,hE,hF]
       rw [hE] at hca;have hz':=jeD hF;have HZ:=jac hF;obtain ⟨E,hEE⟩ : ∃ E,E=jbt b:=⟨_,rfl⟩
       rw [← hEE] at hz' HZ HEE hcb;clear hE hF hEE;go_enter Tryz.func138,Tryz.ntmps138;go_wp2_with fail;refine hca.out.mono ?_;rintro e w' ⟨rfl,rfl⟩;go_wp2_with fail;refine hcb.out.mono ?_;rintro e w' ⟨rfl,rfl⟩;go_wp2;go_ret2;exact jfW HEE.out HZ.out (jae _)
     ·have HEE:Hid (bcE a b=jbt a):=by simp [Hid,bcE,hE]
      have hz':=jeD hE;have HZ:=jac hE;obtain ⟨E,hEE⟩ : ∃ E,E=jbt a:=⟨_,rfl⟩
      rw [← hEE] at hz' HZ HEE hca;clear hE hEE;go_enter Tryz.func138,Tryz.ntmps138;go_wp2_with fail;refine hca.out.mono ?_;rintro e w' ⟨rfl,rfl⟩;go_wp2;go_ret2;exact jfW HEE.out HZ.out (jae _)
end Go.Proofs.YtekocmdfaaoggaaGreatDoor
namespace Go.Proofs.YtekocmdfaaoggaaGreatDoor
open Go.RowKit
theorem jbo (w:World) (zs:List Int) (t:TypeId) (hl:zs.length*8≤140737488351232) (hz:∀ z∈zs,-9223372036854775808≤z∧z≤9223372036854775807) :
    jak (w.alloc (.cells (zs.map (Value.int .i64)).toArray t)) (.slice (some ⟨w.heap.size,0,none⟩) zs.length zs.length) zs:=by
     refine ⟨_,_,rfl,Nat.le_refl _,by omega,hl,(fun h=>by cases h),fun _=>⟨_,_,rfl,fun k hk=>?_⟩,hz⟩;rw [Nat.zero_add,cell_of_row _ _ k _ _ (0,0) (heap_alloc_new w _)];simp [List.getD,hk]
end Go.Proofs.YtekocmdfaaoggaaGreatDoor
namespace Go.Proofs.YtekocmdfaaoggaaGreatDoor.Vw
open Go.RowKit
def jk0 (w:World) (v:Value) (off:Int) (ds ss:List Int):Prop :=
 ∃ dv sv,v=.agg #[.int .i64 off,dv,sv]∧jak w dv ds∧jak w sv ss ∧ -9223372036854775808≤off∧off≤9223372036854775807
theorem jk0.more {w w':World} {v:Value} {off:Int} {ds ss:List Int} (h:jk0 w v off ds ss) (hg:w.grownBy w' none):jk0 w' v off ds ss:=by
 obtain ⟨dv,sv,rfl,hd,hs,ho⟩:=h;exact ⟨dv,sv,rfl,hd.more hg,hs.more hg,ho⟩
end Go.Proofs.YtekocmdfaaoggaaGreatDoor.Vw
namespace Go.Proofs.YtekocmdfaaoggaaGreatDoor.Vw
open Go.RowKit
theorem jeO (v u:Value) (xs ys:List Int) (w:World) (ha:jak w v xs) (hb:jak w u ys) :
    Calls Tryz.prog 144 #[v,u] w fun e w'=>e=.returned (.bool (decide (xs=ys)))∧w.grownBy w' none:=by
     have ha0:Hid (jak w v xs):=ha;have hb0:Hid (jak w u ys):=hb;obtain ⟨ao,acap,rfl,ha1,ha2,ha3,-,-,-⟩:=ha;obtain ⟨bo,bcap,rfl,hb1,hb2,hb3,-,-,-⟩:=hb
     by_cases hl:xs.length=ys.length
     ·have hl':((xs.length:Int)==(ys.length:Int))=true:=by simp [hl]
      have HL:Hid (xs.length=ys.length):=hl;clear hl;go_enter Tryz.func144,Tryz.ntmps144;go_wp2;go_loopw [13] (fun i wr=>w.grownBy wr none∧∃ k:Nat,k≤xs.length∧i=.int .i64 k∧∀ t,t<k→xs.getD t 0=ys.getD t 0) (fun i _=>xs.length - (intOf i).toNat)
      case atStart=>exact ⟨jae _,0,Nat.zero_le _,rfl,fun t h=>absurd h (by omega)⟩
      case round =>
       obtain ⟨hw,k,hk,rfl,hp⟩:=hrel;have HP:Hid (∀ t,t<k→xs.getD t 0=ys.getD t 0):=hp;clear hp
       by_cases hkl:k<xs.length
       ·obtain ⟨_,_,he,-,-,-,-,h5,-⟩:=ha0.out.more hw;obtain ⟨b,off,ho,hc⟩:=h5 (by omega);obtain ⟨_,_,he',-,-,-,-,h5',-⟩:=hb0.out.more hw;have hbl:k<ys.length:=by have:=HL.out;omega
        obtain ⟨b',off',ho',hc'⟩:=h5' (by omega);simp only [Value.slice.injEq,true_and] at he he';obtain ⟨rfl,rfl⟩:=he;obtain ⟨rfl,rfl⟩:=he';subst ho ho';obtain ⟨z,hz⟩ : ∃ z,z=xs.getD k 0:=⟨_,rfl⟩
        obtain ⟨y,hy⟩ : ∃ y,y=ys.getD k 0:=⟨_,rfl⟩
        have hcell:=hc k hkl;have hcell':=hc' k hbl;rw [← hz] at hcell;rw [← hy] at hcell';have HZ:Hid (z=xs.getD k 0):=hz;have HY:Hid (y=ys.getD k 0):=hy;clear hz hc hy hc'
        by_cases hzy:z=y
        ·have hzy':(z==y)=true:=by simp [hzy]
         have HE:Hid (z=y):=hzy;clear hzy h5 h5';go_wp2;go_region
         all_goals go_wp2
         all_goals
          go_roundw
          case rel =>
           refine ⟨jag hw,k+1,by omega,by go_num,fun t ht=>?_⟩
           rcases jaP ht with h | rfl
           ·exact HP.out t h
           ·have:=HZ.out;have:=HY.out;have:=HE.out;omega
          case measure=>simp [intOf];omega
        ·have hzy':(z==y)=false:=by simp [hzy]
         have HE:Hid (xs≠ys):=fun h=>hzy (by rw [HZ.out,HY.out,h]);clear hzy h5 h5';go_wp2;go_region
         all_goals go_wp2
         all_goals go_ret
         all_goals exact ⟨by rw [decide_eq_false HE.out];rfl,jag hw⟩
       ·have HE:Hid (xs=ys):=jjI HL.out (fun t ht=>HP.out t (by omega));go_wp2;go_ret;exact ⟨by rw [decide_eq_true HE.out];rfl,hw⟩
     ·have hl':((xs.length:Int)==(ys.length:Int))=false:=by simp;omega
      have HE:Hid (xs≠ys):=fun h=>hl (by rw [h]);clear hl;go_enter Tryz.func144,Tryz.ntmps144;go_wp2;go_ret;exact ⟨by rw [decide_eq_false HE.out];rfl,jae _⟩
end Go.Proofs.YtekocmdfaaoggaaGreatDoor.Vw
namespace Go.Proofs.YtekocmdfaaoggaaGreatDoor.Vw
theorem jeP {α:Type} (f:Nat→List α) (n:Nat):∀ (t:Nat),(∀ i,i<t→(f i).length=n)→((List.range t).flatMap f).length=t*n
 | 0,_=>by simp
 | t+1,h=>by
  rw [List.range_succ,List.flatMap_append,List.length_append,jeP f n t fun i hi=>h i (by omega)];simp only [List.flatMap_cons,List.flatMap_nil,List.append_nil,h t (by omega)];rw [Nat.add_mul,Nat.one_mul]
end Go.Proofs.YtekocmdfaaoggaaGreatDoor.Vw
namespace Go.Proofs.YtekocmdfaaoggaaGreatDoor.Vw
open Go.RowKit
theorem jh9 (f:Nat→List Int) {n:Nat} (hn:0<n):∀ (t:Nat),(∀ i,i<t→(f i).length=n)→∀ j,j<t*n→((List.range t).flatMap f).getD j 0=(f (j / n)).getD (j % n) 0
 | 0,_,j,h=>by omega
 | t+1,hl,j,h=>by
  have h1:=jeP f n t fun i hi=>hl i (by omega);rw [List.range_succ,List.flatMap_append];simp only [List.flatMap_cons,List.flatMap_nil,List.append_nil];rw [List.getD,List.getElem?_append,h1]
  by_cases hj:j<t*n
  ·rw [if_pos hj];exact jh9 f hn t (fun i hi=>hl i (by omega)) j hj
  ·rw [if_neg hj];have h2:j<t*n+n:=by rw [Nat.succ_mul] at h;exact h
   obtain ⟨r,rfl⟩ : ∃ r,j=t*n+r:=⟨j - t*n,by omega⟩
   have hr:r<n:=by omega
   rw [Nat.mul_comm t n,Nat.mul_add_div hn,Nat.mul_add_mod,Nat.div_eq_of_lt hr,Nat.mod_eq_of_lt hr,Nat.add_zero,Nat.add_sub_cancel_left]
   rfl
end Go.Proofs.YtekocmdfaaoggaaGreatDoor.Vw
