/- A part. -/
import Derived.Test.YtbgbpfbjeleooaaGreatRartAA
import Derived.Test.YtbgbpfbjeleooaaGreatRows
import Derived.WalkKit
import Derived.WalkSpells
import Derived.Laws.AppendOwnNone
namespace Go.Proofs.YtbgbpfbjeleooaaGreat
open Go.RowKit
theorem jac {p:Prop} (h:p):Hid p:=h
def jaj (w:World) (v:Value) (zs:List Int):Prop :=
 ∃ ao cap,v=.slice ao zs.length cap∧zs.length≤cap∧cap≤9223372036854775807∧zs.length*8≤140737488351232∧(ao=none→zs=[]∧cap=0) ∧
  (0<zs.length→∃ b off,ao=some ⟨b,off,none⟩∧∀ t,t<zs.length→w.cell? ⟨b,off+t,none⟩=some (.int .i64 (zs.getD t 0))) ∧
  (∀ z∈zs,-9223372036854775808≤z∧z≤9223372036854775807)
theorem jaj.le {w:World} {v:Value} {zs:List Int} (h:jaj w v zs):zs.length*8≤140737488351232:=by
 obtain ⟨_,_,_,_,_,h,_⟩:=h;exact h
theorem jaj.wf {w:World} {v:Value} {zs:List Int} (h:jaj w v zs):∀ z∈zs,-9223372036854775808≤z∧z≤9223372036854775807:=by
 obtain ⟨_,_,_,_,_,_,_,_,h⟩:=h;exact h
theorem jaj.kept {w w':World} {v:Value} {zs:List Int} (h:jaj w v zs) (hk:∀ b,b<w.heap.size→v.ownBlock=some b→w'.heap[b]?=w.heap[b]?):jaj w' v zs:=by
 obtain ⟨ao,cap,rfl,h1,h2,h3,h4,h5,h6⟩:=h;refine ⟨ao,cap,rfl,h1,h2,h3,h4,fun hl=>?_,h6⟩;obtain ⟨b,off,rfl,hc⟩:=h5 hl;refine ⟨b,off,rfl,fun t ht=>?_⟩;have hb:b<w.heap.size:=World.block_lt_of_cell? w _ (hc t ht);rw [← hc t ht];exact World.cell?_of_block (hk b hb rfl)
theorem jaj.grown {w w':World} {v:Value} {zs:List Int} (h:jaj w v zs) {row:Option Nat} (hg:w.grownBy w' row) (hne:v.ownBlock=none∨v.ownBlock≠row):jaj w' v zs :=
 h.kept fun b hb hv=>hg.block b hb (by rcases hne with h0 | h0 <;> simp_all)
theorem jaj.more {w w':World} {v:Value} {zs:List Int} (h:jaj w v zs) (hg:w.grownBy w' none):jaj w' v zs :=
 h.kept fun b hb _=>hg.block b hb (by simp)
def jeR (w:World) (base:Nat) (v:Value) (zs:List Int):Prop :=
 w.ownsRow base 3 1 v zs.length (zs.map (Value.int .i64))∧zs.length*8≤140737488351232∧(∀ z∈zs,-9223372036854775808≤z∧z≤9223372036854775807)
theorem jeR.ints {w:World} {base:Nat} {v:Value} {zs:List Int} (h:jeR w base v zs):jaj w v zs:=by
 obtain ⟨hr,hle,hwf⟩:=h;have hr0:=hr
 rcases hr.2 with ⟨rfl,h0⟩ | ⟨g,cap,cur,rfl,_,_,hnc,hcm,_,_⟩
 ·obtain rfl:zs=[]:=List.length_eq_zero_iff.1 h0;exact ⟨none,0,rfl,by simp,by simp,by simp,fun _=>⟨rfl,rfl⟩,fun h=>by simp at h,fun z hz=>by simp at hz⟩
 ·refine ⟨_,cap,rfl,hnc,by simpa [maxLen] using hcm,hle,(fun h=>by cases h),fun _=>⟨g,0,rfl,fun t ht=>?_⟩,hwf⟩;rw [Nat.zero_add,hr0.cellAt t (by omega)];simp [List.getD,ht]
theorem jeR.more {w w':World} {base:Nat} {v:Value} {zs:List Int} (h:jeR w base v zs) {row:Option Nat} (hg:w.grownBy w' row) (hne:v.ownBlock=none∨v.ownBlock≠row):jeR w' base v zs :=
 ⟨h.1.kept hg hne,h.2⟩
theorem jeR.new {w w':World} {base:Nat} {v:Value} {zs:List Int} (h:jeR w base v zs) (hg:w.grownBy w' none):jeR w' base v zs :=
 h.more hg (by cases v.ownBlock <;> simp)
theorem jeR.base_le {w:World} {base b':Nat} {v:Value} {zs:List Int} (h:jeR w base v zs) (hb:b'≤base):jeR w b' v zs:=by
 refine ⟨⟨h.1.1,?_⟩,h.2⟩
 rcases h.1.2 with h0 | ⟨g,cap,cur,e,hg,r⟩
 ·exact .inl h0
 ·exact .inr ⟨g,cap,cur,e,by omega,r⟩
theorem jaa {a b c:World} (h:a.grownBy b none) (k:b.grownBy c none):a.grownBy c none :=
 ⟨k.os.trans h.os,k.tape.trans h.tape,k.output.trans h.output,Nat.le_trans h.size k.size,fun i hi _=>(k.block i (Nat.lt_of_lt_of_le hi h.size) (by simp)).trans (h.block i hi (by simp))⟩
theorem jah {a b c:World} (h:a.grownBy b none) {row:Option Nat} (k:b.grownBy c row) (hr:∀ g,row=some g→a.heap.size≤g):a.grownBy c none :=
 ⟨k.os.trans h.os,k.tape.trans h.tape,k.output.trans h.output,Nat.le_trans h.size k.size,fun i hi _=>(k.block i (Nat.lt_of_lt_of_le hi h.size) (fun e=>by have:=hr i e.symm;omega)).trans (h.block i hi (by simp))⟩
theorem jaz {a b:World} (h:a.grownBy b none):a.grownBy b.drew none:=⟨h.os,h.tape,h.output,h.size,h.block⟩
theorem jae (a:World):a.grownBy a none:=World.grownBy.refl a none
theorem jab (a:World) (o:Obj):a.grownBy (a.alloc o) none:=World.grownBy_alloc a o none
theorem jf2 {W w:World} (h:W.grownBy w none):Below W.heap.size W w:=⟨h.os,h.tape,h.output,h.size,fun k hk=>h.block k hk (by simp)⟩
theorem jeR.lt {w:World} {base:Nat} {v:Value} {zs:List Int} (h:jeR w base v zs):∀ k,v.ownBlock=some k→base≤k∧k<w.heap.size:=h.1.lt
end Go.Proofs.YtbgbpfbjeleooaaGreat
namespace Go.Proofs.YtbgbpfbjeleooaaGreat
open Go.RowKit
def bh (zs:List Int) (i:Nat):Int:=if zs.length≤i then 1 else zs.getD (zs.length - 1 - i) 0
theorem jjQ (v:Value) (zs:List Int) (i:Nat) (w:World) (h:jaj w v zs) (hi:i≤1000000000000) :
    Calls Tryz.prog 73 #[v,.int .i64 i] w fun e w'=>e=.returned (.int .i64 (bh zs i))∧w=w':=by
     obtain ⟨ao,cap,rfl,h1,h2,h3,h4,h5,h6⟩:=h
     by_cases hl:zs.length≤i
     ·have hb:bh zs i=1:=by simp [bh,hl]
      rw [hb];clear h4 h5 h6 hb;go_enter Tryz.func73,Tryz.ntmps73;go_wp2;go_ret;exact ⟨rfl,rfl⟩
     ·obtain ⟨b,off,rfl,hc⟩:=h5 (by omega);have hb:bh zs i=zs.getD (zs.length - 1 - i) 0:=by simp [bh,hl]
      have hcell:w.cell? ⟨b,off+(zs.length - 1 - i),none⟩=some (.int .i64 (bh zs i)):=by rw [hb];exact hc _ (by omega)
      clear h4 h5 h6 hb hc;go_enter Tryz.func73,Tryz.ntmps73;go_wp2;go_ret;exact ⟨rfl,rfl⟩
theorem jgI {zs:List Int} {k:Nat} (hk:k<zs.length) {z:Int} (hz:z=zs.getD k 0) (h:z<1):∃ z∈zs,z<1 :=
 ⟨zs.getD k 0,by simp [List.getD,hk],by omega⟩
theorem jmP {zs:List Int} {p:Int→Prop} (h:∀ t,t<zs.length→p (zs.getD t 0)):∀ z∈zs,p z:=by
 intro z hz;obtain ⟨t,ht,rfl⟩:=List.mem_iff_getElem.1 hz;have:=h t ht;simpa [List.getD,ht] using this
theorem jlL {E:Int} (h:¬ E=0):(E==0)=false:=by simpa using h
theorem jdB {k t:Nat} (h:t<k+1):t<k∨t=k:=by omega
theorem jeF {zs:List Int} {e:Int} (h:jcL zs=e) (he:e≠0):Ending.returned (.tuple #[.int .i64 0,.int .i64 e])=Ending.returned (.tuple #[.int .i64 (cnt zs),.int .i64 (jcL zs)]):=by
 rw [h,jnb (by rw [h];exact he)]
theorem bh_in {zs:List Int} {k:Nat} (hk:k<zs.length):bh zs k=zs.getD (zs.length - 1 - k) 0:=by
 unfold bh;rw [if_neg (by omega)]
theorem jku {zs:List Int} {k:Nat} (hk:k<zs.length):jcB (zs.drop (zs.length - (k+1)))=jcB (zs.drop (zs.length - k))*bh zs k:=by
 rw [jgB zs (zs.length - (k+1)) (by omega),bh_in hk,Int.mul_comm,show zs.length - (k+1)+1=zs.length - k by omega,show zs.length - (k+1)=zs.length - 1 - k by omega]
theorem jn0 {zs:List Int} {k:Nat} (h:∀ z∈zs,1≤z):1≤bh zs k:=by
 unfold bh
 split
 ·omega
 ·exact h _ (by rw [List.getD,List.getElem?_eq_getElem (by omega)];simp)
theorem jja {p d:Int} (hp:1≤p):65536 / p<d↔65536<p*d:=by
 rw [Int.ediv_lt_iff_lt_mul (by omega),Int.mul_comm]
theorem jf3 (v:Value) (zs:List Int) (w:World) (h:jaj w v zs) :
    Calls Tryz.prog 44 #[v] w fun e w'=>e=.returned (.tuple #[.int .i64 (cnt zs),.int .i64 (jcL zs)])∧w=w':=by
     have h0:=h;obtain ⟨ao,cap,rfl,h1,h2,h3,h4,h5,h6⟩:=h;go_enter Tryz.func44,Tryz.ntmps44;go_wp2;go_loopw [11] (fun i wr=>wr=w∧∃ k:Nat,k≤zs.length∧i=.int .i64 k∧∀ t,t<k→1≤zs.getD t 0) (fun i _=>zs.length - (intOf i).toNat)
     case atStart=>exact ⟨rfl,0,Nat.zero_le _,rfl,fun t h=>absurd h (by omega)⟩
     case round =>
      obtain ⟨hw,k,hk,rfl,hp⟩:=hrel;subst hw;have HP:Hid (∀ t,t<k→1≤zs.getD t 0):=hp;clear hp
      by_cases hkl:k<zs.length
      ·obtain ⟨b,off,rfl,hc⟩:=h5 (by omega);obtain ⟨z,hz⟩ : ∃ z,z=zs.getD k 0:=⟨_,rfl⟩
       have hcell:=hc k hkl;rw [← hz] at hcell;have HZ:Hid (z=zs.getD k 0):=hz;clear hz hc
       by_cases hz1:z<1
       ·have HE:Hid (jcL zs=4):=ji4 (jgI hkl HZ.out hz1);go_wp2;go_ret2;exact ⟨jeF HE.out (by decide),rfl⟩
       ·go_wp2;go_roundw
        case rel =>
         refine ⟨by trivial,k+1,by omega,by go_num,fun t ht=>?_⟩
         rcases jdB ht with h | rfl
         ·exact HP.out t h
         ·have:=HZ.out;omega
        case measure=>simp [intOf];omega
      ·have hp:∀ z∈zs,1≤z:=jmP (fun t ht=>HP.out t (by omega));have hP:Hid (∀ z∈zs,1≤z):=hp;clear HP hp
       by_cases h7:6<zs.length
       ·have HE:Hid (jcL zs=6):=jhJ hP.out h7;go_wp2;go_ret2;exact ⟨jeF HE.out (by decide),rfl⟩
       ·go_wp2;go_loopw [6,23] (fun n i w'=>w'=wr∧∃ k:Nat,k≤zs.length∧i=.int .i64 k∧n=.int .i64 (jcB (zs.drop (zs.length - k)))∧jcB (zs.drop (zs.length - k))≤65536) (fun _ i _=>zs.length - (intOf i).toNat)
        case atStart=>exact ⟨rfl,0,Nat.zero_le _,rfl,by simp [jcB],by simp [jcB]⟩
        case round =>
         obtain ⟨hw,j,hj,rfl,hn,hle⟩:=hrel;subst hw;have hp1:=prod_pos _ (jfN hP.out (zs.length - j));obtain ⟨p,hpd⟩ : ∃ p,p=jcB (zs.drop (zs.length - j)):=⟨_,rfl⟩
         rw [← hpd] at hn hle hp1;subst hn;have HPD:Hid (p=jcB (zs.drop (zs.length - j))):=hpd;clear hpd
         by_cases hjl:j<zs.length
         ·have hb:=jjQ _ zs j _ h0 (by omega);have hd1:=jn0 (k:=j) hP.out;have hst:=jku hjl;rw [← HPD.out] at hst;obtain ⟨d,hd⟩ : ∃ d,d=bh zs j:=⟨_,rfl⟩
          rw [← hd] at hb hd1 hst;have HST:Hid (jcB (zs.drop (zs.length - (j+1)))=p*d):=hst;have HB:=jac hb;clear hst hb hd
          by_cases ht:65536 / p<d
          ·have HE : Hid (jcL zs = 6) := jgG hP.out (by
             have h1:=(jja hp1).1 ht;have h2:=jfA hP.out (zs.length - (j+1));rw [HST.out] at h2;omega)
           go_wp2_with (go_at_call 73;refine (HB.out).mono ?_;rintro e w' ⟨rfl,rfl⟩);go_ret2;exact ⟨jeF HE.out (by decide),rfl⟩
          ·have hle2 : p * d ≤ 65536 := by
             have h1:=mt (jja hp1).2 ht;omega
           have hge2:0≤p*d:=Int.mul_nonneg (by omega) (by omega);go_wp2_with (go_at_call 73;refine (HB.out).mono ?_;rintro e w' ⟨rfl,rfl⟩);go_roundw
           case rel=>exact ⟨by trivial,j+1,by omega,by go_num,by rw [HST.out],by rw [HST.out];exact hle2⟩
           case measure=>simp [intOf];omega
         ·have HE:Hid (Fine zs):=⟨hP.out,by omega,by have:=HPD.out;rw [show zs.length - j=0 by omega] at this;simp at this;omega⟩
          have HN:Hid (p=cnt zs):=by show p=cnt zs;rw [HE.out.cnt];have:=HPD.out;rw [show zs.length - j=0 by omega] at this;simpa using this
          go_wp2;go_ret2;exact ⟨by rw [HE.out.ok,← HN.out];rfl,rfl⟩
end Go.Proofs.YtbgbpfbjeleooaaGreat
namespace Go.Proofs.YtbgbpfbjeleooaaGreat
open Go.RowKit
theorem jfB (v:Value) (zs:List Int) (w:World) (h:jaj w v zs) :
    Calls Tryz.prog 41 #[v] w fun e w'=>e=.returned (.tuple #[.int .i64 (cnt zs),.int .i64 (jcL zs)])∧w=w':=by
     obtain ⟨ao,cap,rfl,h1,h2,h3,h4,h5,h6⟩:=h;go_enter Tryz.func41,Tryz.ntmps41;go_wp2;go_loopw [4] (fun i wr=>wr=w∧∃ k:Nat,k≤zs.length∧i=.int .i64 k∧∀ t,t<k→1≤zs.getD t 0) (fun i _=>zs.length - (intOf i).toNat)
     case atStart=>exact ⟨rfl,0,Nat.zero_le _,rfl,fun t h=>absurd h (by omega)⟩
     case round =>
      obtain ⟨hw,k,hk,rfl,hp⟩:=hrel;subst hw;have HP:Hid (∀ t,t<k→1≤zs.getD t 0):=hp;clear hp
      by_cases hkl:k<zs.length
      ·obtain ⟨b,off,rfl,hc⟩:=h5 (by omega);obtain ⟨z,hz⟩ : ∃ z,z=zs.getD k 0:=⟨_,rfl⟩
       have hcell:=hc k hkl;rw [← hz] at hcell;have HZ:Hid (z=zs.getD k 0):=hz;clear hz hc
       by_cases hz1:z<1
       ·have HE:Hid (jcL zs=4):=ji4 (jgI hkl HZ.out hz1);go_wp2;go_ret2;exact ⟨jeF HE.out (by decide),rfl⟩
       ·go_wp2;go_roundw
        case rel =>
         refine ⟨by trivial,k+1,by omega,by go_num,fun t ht=>?_⟩
         rcases jdB ht with h | rfl
         ·exact HP.out t h
         ·have:=HZ.out;omega
        case measure=>simp [intOf];omega
      ·have hp:∀ z∈zs,1≤z:=jmP (fun t ht=>HP.out t (by omega));have hP:Hid (∀ z∈zs,1≤z):=hp;clear HP hp
       by_cases h7:6<zs.length
       ·have HE:Hid (jcL zs=6):=jhJ hP.out h7;go_wp2;go_ret2;exact ⟨jeF HE.out (by decide),rfl⟩
       ·go_wp2;go_loopw [5,6] (fun n i w'=>w'=wr∧∃ k:Nat,k≤zs.length∧i=.int .i64 k∧n=.int .i64 (jcB (zs.take k))∧jcB (zs.take k)≤65536) (fun _ i _=>zs.length - (intOf i).toNat)
        case atStart=>exact ⟨rfl,0,Nat.zero_le _,rfl,by simp [jcB],by simp [jcB]⟩
        case round =>
         obtain ⟨hw,j,hj,rfl,hn,hle⟩:=hrel;subst hw;have hp1:=prod_pos _ (jg7 hP.out j);obtain ⟨p,hpd⟩ : ∃ p,p=jcB (zs.take j):=⟨_,rfl⟩
         rw [← hpd] at hn hle hp1;subst hn;have HPD:Hid (p=jcB (zs.take j)):=hpd;clear hpd
         by_cases hjl:j<zs.length
         ·obtain ⟨b,off,rfl,hc⟩:=h5 (by omega);have hst:=jgC zs j hjl;have hd1:1≤zs.getD j 0:=hP.out _ (by rw [List.getD,List.getElem?_eq_getElem (by omega)];simp);have hcell:=hc j hjl;rw [← HPD.out] at hst;obtain ⟨d,hd⟩ : ∃ d,d=zs.getD j 0:=⟨_,rfl⟩
          rw [← hd] at hcell hd1 hst;have HST:Hid (jcB (zs.take (j+1))=p*d):=hst;clear hst hd hc
          have hall : Hid (65536 < p * d → jcL zs = 6) := fun ht => jgG hP.out (by
              have h2:=jhH hP.out (j+1);rw [HST.out] at h2;omega)
          have hpd:d≤p*d:=jeE hp1 (by omega)
          by_cases ht:65536<d
          ·go_wp2;go_ret2;exact ⟨jeF (hall.out (by omega)) (by decide),rfl⟩
          ·have hsm:p*d≤65536*65536:=Int.mul_le_mul (by omega) (by omega) (by omega) (by omega)
           by_cases ht2:65536<p*d
           ·go_wp2;go_ret2;exact ⟨jeF (hall.out ht2) (by decide),rfl⟩
           ·go_wp2;go_roundw
            case rel=>exact ⟨by trivial,j+1,by omega,by go_num,by rw [HST.out],by rw [HST.out];omega⟩
            case measure=>simp [intOf];omega
         ·have HT:Hid (p=jcB zs):=by show p=jcB zs;have:=HPD.out;rw [List.take_of_length_le (by omega)] at this;exact this
          have HE:Hid (Fine zs):=⟨hP.out,by omega,by have:=HT.out;omega⟩
          have HN:Hid (p=cnt zs):=by show p=cnt zs;rw [HE.out.cnt];exact HT.out
          go_wp2;go_ret2;exact ⟨by rw [HE.out.ok,← HN.out];rfl,rfl⟩
theorem jjR {a b:List Int} (hl:a.length=b.length) (h:∀ t,t<a.length→a.getD t 0=b.getD t 0):a=b:=by
 apply List.ext_getElem hl;intro t h1 h2;have:=h t h1;simpa [List.getD,h1,h2] using this
theorem jfP (v u:Value) (xs ys:List Int) (w:World) (ha:jaj w v xs) (hb:jaj w u ys) :
    Calls Tryz.prog 62 #[v,u] w fun e w'=>e=.returned (.bool (decide (xs=ys)))∧w.grownBy w' none:=by
     have ha0:Hid (jaj w v xs):=ha;have hb0:Hid (jaj w u ys):=hb;obtain ⟨ao,acap,rfl,ha1,ha2,ha3,-,-,-⟩:=ha;obtain ⟨bo,bcap,rfl,hb1,hb2,hb3,-,-,-⟩:=hb
     by_cases hl:xs.length=ys.length
     ·have hl':((xs.length:Int)==(ys.length:Int))=true:=by simp [hl]
      have HL:Hid (xs.length=ys.length):=hl;clear hl;go_enter Tryz.func62,Tryz.ntmps62;go_wp2;go_loopw [5] (fun i wr=>w.grownBy wr none∧∃ k:Nat,k≤xs.length∧i=.int .i64 k∧∀ t,t<k→xs.getD t 0=ys.getD t 0) (fun i _=>xs.length - (intOf i).toNat)
      case atStart=>exact ⟨jae _,0,Nat.zero_le _,rfl,fun t h=>absurd h (by omega)⟩
      case round =>
       obtain ⟨hw,k,hk,rfl,hp⟩:=hrel;have HP:Hid (∀ t,t<k→xs.getD t 0=ys.getD t 0):=hp;clear hp
       by_cases hkl:k<xs.length
       ·obtain ⟨_,_,he,-,-,-,-,h5,-⟩:=ha0.out.more hw;obtain ⟨b,off,ho,hc⟩:=h5 (by omega);obtain ⟨_,_,he',-,-,-,-,h5',-⟩:=hb0.out.more hw;have hbl:k<ys.length:=by have:=HL.out;omega
        obtain ⟨b',off',ho',hc'⟩:=h5' (by omega);simp only [Value.slice.injEq,true_and] at he he';obtain ⟨rfl,rfl⟩:=he;obtain ⟨rfl,rfl⟩:=he';subst ho ho';obtain ⟨z,hz⟩ : ∃ z,z=xs.getD k 0:=⟨_,rfl⟩
        obtain ⟨y,hy⟩ : ∃ y,y=ys.getD k 0:=⟨_,rfl⟩
        have hcell:=hc k hkl;have hcell':=hc' k hbl;rw [← hz] at hcell;rw [← hy] at hcell';have HZ:Hid (z=xs.getD k 0):=hz;have HY:Hid (y=ys.getD k 0):=hy;clear hz hc hy hc'
        by_cases hzy:z=y
        ·have hzy':(z==y)=true:=by simp [hzy]
         have HE:Hid (z=y):=hzy;clear hzy h5 h5';go_wp2;go_region
         all_goals go_wp2
         all_goals
          go_roundw
          case rel =>
           refine ⟨jaz hw,k+1,by omega,by go_num,fun t ht=>?_⟩
           rcases jdB ht with h | rfl
           ·exact HP.out t h
           ·have:=HZ.out;have:=HY.out;have:=HE.out;omega
          case measure=>simp [intOf];omega
        ·have hzy':(z==y)=false:=by simp [hzy]
         have HE:Hid (xs≠ys):=fun h=>hzy (by rw [HZ.out,HY.out,h]);clear hzy h5 h5';go_wp2;go_region
         all_goals go_wp2
         all_goals go_ret
         all_goals exact ⟨by rw [decide_eq_false HE.out];rfl,jaz hw⟩
       ·have HE:Hid (xs=ys):=jjR HL.out (fun t ht=>HP.out t (by omega));go_wp2;go_ret;exact ⟨by rw [decide_eq_true HE.out];rfl,hw⟩
     ·have hl':((xs.length:Int)==(ys.length:Int))=false:=by simp;omega
      have HE:Hid (xs≠ys):=fun h=>hl (by rw [h]);clear hl;go_enter Tryz.func62,Tryz.ntmps62;go_wp2;go_ret;exact ⟨by rw [decide_eq_false HE.out];rfl,jae _⟩
end Go.Proofs.YtbgbpfbjeleooaaGreat
