/- A part. -/
import Derived.Test.YtanpkdkenifmbaaGreatDoorUartAA
import Derived.Test.YtanpkdkenifmbaaGreatDoorRows
import Derived.WalkKit
import Derived.WalkSpells
import Derived.Laws.AppendOwnNone
set_option maxHeartbeats 1600000
set_option maxRecDepth 100000
namespace Go.Proofs.YtanpkdkenifmbaaGreatDoor
open Go.RowKit
theorem jac {p:Prop} (h:p):Hid p:=h
def IsInts (w:World) (v:Value) (zs:List Int):Prop :=
 ∃ ao cap,v=.slice ao zs.length cap∧zs.length≤cap∧cap≤9223372036854775807∧zs.length*8≤140737488351232∧(ao=none→zs=[]∧cap=0) ∧
  (0<zs.length→∃ b off,ao=some ⟨b,off,none⟩∧∀ t,t<zs.length→w.cell? ⟨b,off+t,none⟩=some (.int .i64 (zs.getD t 0))) ∧
  (∀ z∈zs,-9223372036854775808≤z∧z≤9223372036854775807)
theorem IsInts.le {w:World} {v:Value} {zs:List Int} (h:IsInts w v zs):zs.length*8≤140737488351232:=by
 obtain ⟨_,_,_,_,_,h,_⟩:=h;exact h
theorem IsInts.wf {w:World} {v:Value} {zs:List Int} (h:IsInts w v zs):∀ z∈zs,-9223372036854775808≤z∧z≤9223372036854775807:=by
 obtain ⟨_,_,_,_,_,_,_,_,h⟩:=h;exact h
theorem IsInts.kept {w w':World} {v:Value} {zs:List Int} (h:IsInts w v zs) (hk:∀ b,b<w.heap.size→v.ownBlock=some b→w'.heap[b]?=w.heap[b]?):IsInts w' v zs:=by
 obtain ⟨ao,cap,rfl,h1,h2,h3,h4,h5,h6⟩:=h;refine ⟨ao,cap,rfl,h1,h2,h3,h4,fun hl=>?_,h6⟩;obtain ⟨b,off,rfl,hc⟩:=h5 hl;refine ⟨b,off,rfl,fun t ht=>?_⟩;have hb:b<w.heap.size:=World.block_lt_of_cell? w _ (hc t ht);rw [← hc t ht];exact World.cell?_of_block (hk b hb rfl)
theorem IsInts.grown {w w':World} {v:Value} {zs:List Int} (h:IsInts w v zs) {row:Option Nat} (hg:w.grownBy w' row) (hne:v.ownBlock=none∨v.ownBlock≠row):IsInts w' v zs :=
 h.kept fun b hb hv=>hg.block b hb (by rcases hne with h0 | h0 <;> simp_all)
theorem IsInts.more {w w':World} {v:Value} {zs:List Int} (h:IsInts w v zs) (hg:w.grownBy w' none):IsInts w' v zs :=
 h.kept fun b hb _=>hg.block b hb (by simp)
def Owns (w:World) (base:Nat) (v:Value) (zs:List Int):Prop :=
 w.ownsRow base 3 1 v zs.length (zs.map (Value.int .i64))∧zs.length*8≤140737488351232∧(∀ z∈zs,-9223372036854775808≤z∧z≤9223372036854775807)
theorem Owns.ints {w:World} {base:Nat} {v:Value} {zs:List Int} (h:Owns w base v zs):IsInts w v zs:=by
 obtain ⟨hr,hle,hwf⟩:=h;have hr0:=hr
 rcases hr.2 with ⟨rfl,h0⟩ | ⟨g,cap,cur,rfl,_,_,hnc,hcm,_,_⟩
 ·obtain rfl:zs=[]:=List.length_eq_zero_iff.1 h0;exact ⟨none,0,rfl,by simp,by simp,by simp,fun _=>⟨rfl,rfl⟩,fun h=>by simp at h,fun z hz=>by simp at hz⟩
 ·refine ⟨_,cap,rfl,hnc,by simpa [maxLen] using hcm,hle,(fun h=>by cases h),fun _=>⟨g,0,rfl,fun t ht=>?_⟩,hwf⟩;rw [Nat.zero_add,hr0.cellAt t (by omega)];simp [List.getD,ht]
theorem Owns.more {w w':World} {base:Nat} {v:Value} {zs:List Int} (h:Owns w base v zs) {row:Option Nat} (hg:w.grownBy w' row) (hne:v.ownBlock=none∨v.ownBlock≠row):Owns w' base v zs :=
 ⟨h.1.kept hg hne,h.2⟩
theorem Owns.new {w w':World} {base:Nat} {v:Value} {zs:List Int} (h:Owns w base v zs) (hg:w.grownBy w' none):Owns w' base v zs :=
 h.more hg (by cases v.ownBlock <;> simp)
theorem Owns.base_le {w:World} {base b':Nat} {v:Value} {zs:List Int} (h:Owns w base v zs) (hb:b'≤base):Owns w b' v zs:=by
 refine ⟨⟨h.1.1,?_⟩,h.2⟩
 rcases h.1.2 with h0 | ⟨g,cap,cur,e,hg,r⟩
 ·exact .inl h0
 ·exact .inr ⟨g,cap,cur,e,by omega,r⟩
theorem jaa {a b c:World} (h:a.grownBy b none) (k:b.grownBy c none):a.grownBy c none :=
 ⟨k.os.trans h.os,k.tape.trans h.tape,k.output.trans h.output,Nat.le_trans h.size k.size,fun i hi _=>(k.block i (Nat.lt_of_lt_of_le hi h.size) (by simp)).trans (h.block i hi (by simp))⟩
theorem jao {a b c:World} (h:a.grownBy b none) {row:Option Nat} (k:b.grownBy c row) (hr:∀ g,row=some g→a.heap.size≤g):a.grownBy c none :=
 ⟨k.os.trans h.os,k.tape.trans h.tape,k.output.trans h.output,Nat.le_trans h.size k.size,fun i hi _=>(k.block i (Nat.lt_of_lt_of_le hi h.size) (fun e=>by have:=hr i e.symm;omega)).trans (h.block i hi (by simp))⟩
theorem jaf {a b:World} (h:a.grownBy b none):a.grownBy b.drew none:=⟨h.os,h.tape,h.output,h.size,h.block⟩
theorem jae (a:World):a.grownBy a none:=World.grownBy.refl a none
theorem jab (a:World) (o:Obj):a.grownBy (a.alloc o) none:=World.grownBy_alloc a o none
theorem jbL {W w:World} (h:W.grownBy w none):Below W.heap.size W w:=⟨h.os,h.tape,h.output,h.size,fun k hk=>h.block k hk (by simp)⟩
theorem Owns.lt {w:World} {base:Nat} {v:Value} {zs:List Int} (h:Owns w base v zs):∀ k,v.ownBlock=some k→base≤k∧k<w.heap.size:=h.1.lt
theorem jd2 {v v':Value} {a b:Nat} (h:∀ k,v.ownBlock=some k→k<a) (h':∀ k,v'.ownBlock=some k→b≤k) (hab:a≤b):v.ownBlock=none∨v.ownBlock≠v'.ownBlock:=by
 cases hv:v.ownBlock with
 | none=>exact .inl rfl
 | some k =>
  refine .inr fun e=>?_;have h1:=h k hv;have h2:=h' k e.symm;omega
theorem jqx {w:World} {v:Value} {zs:List Int} (h:IsInts w v zs) (hz:zs≠[]):∀ k,v.ownBlock=some k→k<w.heap.size:=by
 obtain ⟨ao,cap,rfl,_,_,_,_,h5,_⟩:=h;have hl:0<zs.length:=by cases zs <;> simp_all
 obtain ⟨b,off,rfl,hc⟩:=h5 hl;intro k hk;simp only [Value.ownBlock,Option.some.injEq] at hk;subst hk;exact World.block_lt_of_cell? w _ (hc 0 hl)
end Go.Proofs.YtanpkdkenifmbaaGreatDoor
namespace Go.Proofs.YtanpkdkenifmbaaGreatDoor
open Go.RowKit
def bh (zs:List Int) (i:Nat):Int:=if zs.length≤i then 1 else zs.getD (zs.length - 1 - i) 0
theorem jcK (v:Value) (zs:List Int) (i:Nat) (w:World) (h:IsInts w v zs) (hi:i≤1000000000000) :
    Calls Tryz.prog 56 #[v,.int .i64 i] w fun e w'=>e=.returned (.int .i64 (bh zs i))∧w=w':=by
     obtain ⟨ao,cap,rfl,h1,h2,h3,h4,h5,h6⟩:=h
     by_cases hl:zs.length≤i
     ·have hb:bh zs i=1:=by simp [bh,hl]
      rw [hb];clear h4 h5 h6 hb;go_enter Tryz.func56,Tryz.ntmps56;go_wp2;go_ret;exact ⟨rfl,rfl⟩
     ·obtain ⟨b,off,rfl,hc⟩:=h5 (by omega);have hb:bh zs i=zs.getD (zs.length - 1 - i) 0:=by simp [bh,hl]
      have hcell:w.cell? ⟨b,off+(zs.length - 1 - i),none⟩=some (.int .i64 (bh zs i)):=by rw [hb];exact hc _ (by omega)
      clear h4 h5 h6 hb hc;go_enter Tryz.func56,Tryz.ntmps56;go_wp2;go_ret;exact ⟨rfl,rfl⟩
theorem jkf {zs:List Int} {k:Nat} (hk:k<zs.length) {z:Int} (hz:z=zs.getD k 0) (h:z<1):∃ z∈zs,z<1 :=
 ⟨zs.getD k 0,by simp [List.getD,hk],by omega⟩
theorem jp9 {zs:List Int} {p:Int→Prop} (h:∀ t,t<zs.length→p (zs.getD t 0)):∀ z∈zs,p z:=by
 intro z hz;obtain ⟨t,ht,rfl⟩:=List.mem_iff_getElem.1 hz;have:=h t ht;simpa [List.getD,ht] using this
theorem jcD {E:Int} (h:¬ E=0):(E==0)=false:=by simpa using h
theorem jaL {k t:Nat} (h:t<k+1):t<k∨t=k:=by omega
theorem jix {zs:List Int} {e:Int} (h:ja7 zs=e) (he:e≠0):Ending.returned (.tuple #[.int .i64 0,.int .i64 e])=Ending.returned (.tuple #[.int .i64 (cnt zs),.int .i64 (ja7 zs)]):=by
 rw [h,jqw (by rw [h];exact he)]
theorem jrO {zs:List Int} {k:Nat} (hk:k<zs.length):bh zs k=zs.getD (zs.length - 1 - k) 0:=by
 unfold bh;rw [if_neg (by omega)]
theorem jhp {zs:List Int} {k:Nat} (hk:k<zs.length):jaB (zs.drop (zs.length - (k+1)))=jaB (zs.drop (zs.length - k))*bh zs k:=by
 rw [jcC zs (zs.length - (k+1)) (by omega),jrO hk,Int.mul_comm,show zs.length - (k+1)+1=zs.length - k by omega,show zs.length - (k+1)=zs.length - 1 - k by omega]
theorem jhq {zs:List Int} {k:Nat} (h:∀ z∈zs,1≤z):1≤bh zs k:=by
 unfold bh
 split
 ·omega
 ·exact h _ (by rw [List.getD,List.getElem?_eq_getElem (by omega)];simp)
theorem jju {p d:Int} (hp:1≤p):65536 / p<d↔65536<p*d:=by
 rw [Int.ediv_lt_iff_lt_mul (by omega),Int.mul_comm]
theorem jbe (v:Value) (zs:List Int) (w:World) (h:IsInts w v zs) :
    Calls Tryz.prog 30 #[v] w fun e w'=>e=.returned (.tuple #[.int .i64 (cnt zs),.int .i64 (ja7 zs)])∧w=w':=by
     have h0:=h;obtain ⟨ao,cap,rfl,h1,h2,h3,h4,h5,h6⟩:=h;go_enter Tryz.func30,Tryz.ntmps30;go_wp2;go_loopw [11] (fun i wr=>wr=w∧∃ k:Nat,k≤zs.length∧i=.int .i64 k∧∀ t,t<k→1≤zs.getD t 0) (fun i _=>zs.length - (intOf i).toNat)
     case atStart=>exact ⟨rfl,0,Nat.zero_le _,rfl,fun t h=>absurd h (by omega)⟩
     case round =>
      obtain ⟨hw,k,hk,rfl,hp⟩:=hrel;subst hw;have HP:Hid (∀ t,t<k→1≤zs.getD t 0):=hp;clear hp
      by_cases hkl:k<zs.length
      ·obtain ⟨b,off,rfl,hc⟩:=h5 (by omega);obtain ⟨z,hz⟩ : ∃ z,z=zs.getD k 0:=⟨_,rfl⟩
       have hcell:=hc k hkl;rw [← hz] at hcell;have HZ:Hid (z=zs.getD k 0):=hz;clear hz hc
       by_cases hz1:z<1
       ·have HE:Hid (ja7 zs=4):=jok (jkf hkl HZ.out hz1);go_wp2;go_ret2;exact ⟨jix HE.out (by decide),rfl⟩
       ·go_wp2;go_roundw
        case rel =>
         refine ⟨by trivial,k+1,by omega,by go_num,fun t ht=>?_⟩
         rcases jaL ht with h | rfl
         ·exact HP.out t h
         ·have:=HZ.out;omega
        case measure=>simp [intOf];omega
      ·have hp:∀ z∈zs,1≤z:=jp9 (fun t ht=>HP.out t (by omega));have hP:Hid (∀ z∈zs,1≤z):=hp;clear HP hp
       by_cases h7:6<zs.length
       ·have HE:Hid (ja7 zs=6):=jlA hP.out h7;go_wp2;go_ret2;exact ⟨jix HE.out (by decide),rfl⟩
       ·go_wp2;go_loopw [6,23] (fun n i w'=>w'=wr∧∃ k:Nat,k≤zs.length∧i=.int .i64 k∧n=.int .i64 (jaB (zs.drop (zs.length - k)))∧jaB (zs.drop (zs.length - k))≤65536) (fun _ i _=>zs.length - (intOf i).toNat)
        case atStart=>exact ⟨rfl,0,Nat.zero_le _,rfl,by simp [jaB],by simp [jaB]⟩
        case round =>
         obtain ⟨hw,j,hj,rfl,hn,hle⟩:=hrel;subst hw;have hp1:=prod_pos _ (jcB hP.out (zs.length - j));obtain ⟨p,hpd⟩ : ∃ p,p=jaB (zs.drop (zs.length - j)):=⟨_,rfl⟩
         rw [← hpd] at hn hle hp1;subst hn;have HPD:Hid (p=jaB (zs.drop (zs.length - j))):=hpd;clear hpd
         by_cases hjl:j<zs.length
         ·have hb:=jcK _ zs j _ h0 (by omega);have hd1:=jhq (k:=j) hP.out;have hst:=jhp hjl;rw [← HPD.out] at hst;obtain ⟨d,hd⟩ : ∃ d,d=bh zs j:=⟨_,rfl⟩
          rw [← hd] at hb hd1 hst;have HST:Hid (jaB (zs.drop (zs.length - (j+1)))=p*d):=hst;have HB:=jac hb;clear hst hb hd
          by_cases ht:65536 / p<d
          ·have HE : Hid (ja7 zs = 6) := jkd hP.out (by
             have h1:=(jju hp1).1 ht;have h2:=jdd hP.out (zs.length - (j+1));rw [HST.out] at h2;omega)
           go_wp2_with (go_at_call 56;refine (HB.out).mono ?_;rintro e w' ⟨rfl,rfl⟩);go_ret2;exact ⟨jix HE.out (by decide),rfl⟩
          ·have hle2 : p * d ≤ 65536 := by
             have h1:=mt (jju hp1).2 ht;omega
           have hge2:0≤p*d:=Int.mul_nonneg (by omega) (by omega);go_wp2_with (go_at_call 56;refine (HB.out).mono ?_;rintro e w' ⟨rfl,rfl⟩);go_roundw
           case rel=>exact ⟨by trivial,j+1,by omega,by go_num,by rw [HST.out],by rw [HST.out];exact hle2⟩
           case measure=>simp [intOf];omega
         ·have HE:Hid (Fine zs):=⟨hP.out,by omega,by have:=HPD.out;rw [show zs.length - j=0 by omega] at this;simp at this;omega⟩
          have HN:Hid (p=cnt zs):=by show p=cnt zs;rw [HE.out.cnt];have:=HPD.out;rw [show zs.length - j=0 by omega] at this;simpa using this
          go_wp2;go_ret2;exact ⟨by rw [HE.out.ok,← HN.out];rfl,rfl⟩
end Go.Proofs.YtanpkdkenifmbaaGreatDoor
namespace Go.Proofs.YtanpkdkenifmbaaGreatDoor
open Go.RowKit
theorem jdt {a b:List Int} (hl:a.length=b.length) (h:∀ t,t<a.length→a.getD t 0=b.getD t 0):a=b:=by
 apply List.ext_getElem hl;intro t h1 h2;have:=h t h1;simpa [List.getD,h1,h2] using this
end Go.Proofs.YtanpkdkenifmbaaGreatDoor
namespace Go.Proofs.YtanpkdkenifmbaaGreatDoor
open Go.RowKit
theorem jcE:(Tryz.prog.info? 3).map (fun i=>(i.zero,i.size,i.bytes))=some (some (.int .i64 0),1,8):=by kernel_rfl
theorem jkg {w:World} {b off:Nat} {ys:List Int} (hc:∀ t,t<ys.length→w.cell? ⟨b,off+t,none⟩=some (.int .i64 (ys.getD t 0))) :
    ∀ j u,(ys.map (Value.int .i64))[j]?=some u→w.cell? ((⟨b,off,none⟩ : Addr).add j)=some u:=by
     intro j u hu;obtain ⟨hj,hv⟩:=List.getElem?_eq_some_iff.1 hu;have hj':j<ys.length:=by simpa using hj
     rw [Addr.add_lit,hc j hj',← hv];simp [List.getD,hj']
theorem jdu {w : World} {ops : Array Oper} {rest : List Oper} {o : Oper} {a : Act} {Q : Exit → Act → World → Prop} (hgd : o.guard = none) (s x : Operand)
    (ho:o.op=.call { callee:=.builtin .append,args:=#[s,x],argTypes:=#[29,29] })
    (base:Nat) (v:Value) (xs:List Int) (hs:a.eval s=v) (hown:Owns w base v xs) (xv:Value) (ys:List Int) (hx:a.eval x=xv) (hys:IsInts w xv ys)
    (hbytes:(xs.length+ys.length)*8≤140737488351232) (hbase:base≤w.heap.size)
    (h:∀ v' w',Owns w' base v' (xs++ys)→w.grownBy w' v.ownBlock→wpList Tryz.prog ops Q rest (a.put o.dst v') w'):wpList Tryz.prog ops Q (o::rest) a w:=by
     obtain ⟨i0,hi,hz0,hz1,hz2⟩:=info_parts jcE;obtain ⟨ao,cap,rfl,h1,h2,h3,h4,h5,h6⟩:=hys
     cases ao with
     | none =>
      obtain ⟨rfl,rfl⟩:=h4 rfl;refine wpList_append_own_none hgd s x 29 ho base 3 i0 1 Tryz.underlying29 hi v _ _ hs hown.1 hx ?_;exact h v w (by simpa using hown) (World.grownBy.refl _ _)
     | some ad =>
      refine wpList_append_own w hgd s x 29 ho base 3 i0 (.int .i64 0) 1 8 Tryz.underlying29 hi hz0 hz1 hz2 rfl (by decide) v _ _ hs hown.1 ad ys.length cap (ys.map (Value.int .i64)) hx (by simp) ?_ (ints_oneCell _ _) (by simp only [maxLen];omega) (by omega) hbase ?_
      ·by_cases hl:0<ys.length
       ·obtain ⟨b,off,hao,hc⟩:=h5 hl;obtain rfl:=Option.some.inj hao;exact jkg hc
       ·obtain rfl:ys=[]:=List.length_eq_zero_iff.1 (by omega);intro j u hu;simp at hu
      ·intro v' w' ho' hg _;refine h v' w' ⟨by simpa using ho',by simpa using hbytes,fun z hz=>?_⟩ hg
       rcases List.mem_append.1 hz with h | h
       ·exact hown.2.2 z h
       ·exact h6 z h
theorem jbg (w:World) (base:Nat):Owns w base (.slice none 0 0) []:=⟨World.ownsRow_nil _ _ _ _,by simp,fun z hz=>by simp at hz⟩
theorem jbI {a b c:World} {row:Option Nat} (h:a.grownBy b row) (k:b.grownBy c row):a.grownBy c row :=
 ⟨k.os.trans h.os,k.tape.trans h.tape,k.output.trans h.output,Nat.le_trans h.size k.size,fun i hi hn=>(k.block i (Nat.lt_of_lt_of_le hi h.size) hn).trans (h.block i hi hn)⟩
end Go.Proofs.YtanpkdkenifmbaaGreatDoor
namespace Go.Proofs.YtanpkdkenifmbaaGreatDoor
open Go.RowKit
def jbh (n k:Nat) (l:List Int):List Int:=List.replicate (n - k) 0++l
theorem jgG {n k:Nat} (hk:k<n) (l:List Int) (z:Int):(jbh n k l).set (n - 1 - k) z=jbh n (k+1) (z::l):=by
 unfold jbh
 have e:List.replicate (n - k) (0:Int)=List.replicate (n - (k+1)) 0++[0]:=by
  rw [show n - k=(n - (k+1))+1 by omega,List.replicate_succ']
 rw [e,show n - 1 - k=n - (k+1) by omega,List.append_assoc,List.set_append_right _ _ (by simp)];simp
theorem jlC {zs:List Int} {k:Nat} (hk:k<zs.length):jbo (zs.drop (zs.length - (k+1)))=jaB (zs.drop (zs.length - k))::jbo (zs.drop (zs.length - k)):=by
 rw [jbc zs (zs.length - (k+1)) (by omega),show zs.length - (k+1)+1=zs.length - k by omega]
 rfl
theorem jol {zs:List Int} {k:Nat} (hk:k<zs.length):jaB (zs.drop (zs.length - (k+1)))=jaB (zs.drop (zs.length - k))*zs.getD (zs.length - 1 - k) 0:=by
 rw [jhp hk,jrO hk]
theorem jdS (l:List Int) (i:Nat) (z:Int):(l.map (Value.int .i64)).set i (.int .i64 z)=(l.set i z).map (Value.int .i64):=by
 rw [List.map_set]
theorem jby (n:Nat):(madeCells (Value.int .i64 0).cells (n*1)).toList=(List.replicate n (0:Int)).map (Value.int .i64):=by
 rw [Nat.mul_one,show (Value.int .i64 0).cells=#[Value.int .i64 0] from rfl,toList_madeCells_one];simp
theorem jgH {zs:List Int} (h:Fine zs):∀ s∈jbo zs,1≤s∧s≤65536:=by
 induction zs with
 | nil=>intro s hs;simp [jbo] at hs
 | cons z zs ih =>
  intro s hs;have hd:Fine zs:=by have:=h.drop 1;simpa using this
  rcases List.mem_cons.1 hs with rfl | hs
  ·exact ⟨hd.prod_pos,hd.le⟩
  ·exact ih hd s hs
theorem jcq {w wr : World} {n k : Nat} {l : List Int} {z : Int} (hk : k < n) (hw : w.grownBy wr none)
    (hown:wr.ownsRow w.heap.size 3 1 (.slice (some ⟨w.heap.size,0,none⟩) n n) n ((jbh n k l).map (Value.int .i64))) :
    (∃ c,wr.cell? ⟨w.heap.size,n - 1 - k,none⟩=some c)∧wr.frozen? ⟨w.heap.size,n - 1 - k,none⟩=false ∧
    (wr.setCell ⟨w.heap.size,n - 1 - k,none⟩ (.int .i64 z)).ownsRow w.heap.size 3 1 (.slice (some ⟨w.heap.size,0,none⟩) n n) n ((jbh n (k+1) (z::l)).map (Value.int .i64)) ∧
    w.grownBy (wr.setCell ⟨w.heap.size,n - 1 - k,none⟩ (.int .i64 z)) none:=by
     have hl:=hown.1;refine ⟨⟨_,by rw [hown.cellAt (n - 1 - k) (by omega),List.getElem?_eq_getElem (by omega)]⟩,hown.frozenAt _,?_,jao hw (hown.stored (n - 1 - k) (.int .i64 z)).2 (fun g hg=>by injection hg with hg;omega)⟩;have:=(hown.stored (n - 1 - k) (.int .i64 z)).1;rw [jdS,jgG hk] at this;exact this
theorem jbk {w:World} {b off cap len:Nat} {zs:List Int} (h:IsInts w (.slice (some ⟨b,off,none⟩) len cap) zs) {k:Nat} (hk:k<zs.length) :
    w.cell? ⟨b,off+k,none⟩=some (.int .i64 (zs.getD k 0)):=by
     obtain ⟨_,_,he,-,-,-,-,h5,-⟩:=h;obtain ⟨b',off',ho,hc⟩:=h5 (by omega);simp only [Value.slice.injEq] at he;rw [ho] at he;simp only [Option.some.injEq,Addr.mk.injEq] at he;obtain ⟨⟨rfl,rfl,-⟩,-⟩:=he;exact hc k hk
theorem jbp {w:World} {ao:Option Addr} {cap len:Nat} {zs:List Int} (h:IsInts w (.slice ao len cap) zs) (hk:0<zs.length):∃ b off,ao=some ⟨b,off,none⟩:=by
 obtain ⟨_,_,he,-,-,-,-,h5,-⟩:=h;obtain ⟨b',off',ho,-⟩:=h5 hk;simp only [Value.slice.injEq] at he;exact ⟨b',off',by rw [he.1,ho]⟩
theorem jom {w:World} {b off cap len:Nat} {zs:List Int} (h:IsInts w (.slice (some ⟨b,off,none⟩) len cap) zs) (hk:0<zs.length):b<w.heap.size :=
 World.block_lt_of_cell? w _ (jbk h hk)
def jbM (zs:List Int):List Int:=if ja7 zs=0 then jbo zs else []
theorem je0 (v:Value) (zs:List Int) (w:World) (h:IsInts w v zs) :
    Calls Tryz.prog 57 #[v] w fun e w'=>∃ u,e=.returned (.tuple #[u,.int .i64 (ja7 zs)])∧Owns w' w.heap.size u (jbM zs)∧w.grownBy w' none:=by
     obtain ⟨i0,hi,hz0,hz1,hz2⟩:=info_parts jcE;have hcount:=jac (jbe v zs w h);have h0:=jac h;obtain ⟨ao,cap,rfl,h1,h2,h3,-,-,-⟩:=h
     rcases jke zs with hE | hE | hE
     ·have HF:=jac (jaX hE);have HE:=jac hE;rw [hE] at hcount;rw [show jbM zs=jbo zs by simp [jbM,hE],hE];clear hE;have hb2:i0.bytes*zs.length≤281474976710656:=by rw [hz2];omega
      have hb3:zs.length≤maxLen:=by simp only [maxLen];omega
      go_enter Tryz.func57,Tryz.ntmps57;go_wp2_with (first | (go_at_call 30;refine hcount.out.mono ?_;rintro e w' ⟨rfl,rfl⟩) | (refine wpList_make_full _ rfl (.tmp 19) (.tmp 19) 29 rfl w.heap.size 3 i0 (.int .i64 0) 1 Tryz.underlying29 hi hz0 hz1 .i64 .i64 _ _ zs.length rfl rfl rfl rfl hb2 hb3 (Nat.le_refl _) ?_;intro w1 hown hgrow));rw [jby] at hown
      go_loopw [7,23] (fun n i wr=>w.grownBy wr none∧∃ k:Nat,k≤zs.length∧i=.int .i64 k∧n=.int .i64 (jaB (zs.drop (zs.length - k))) ∧
       wr.ownsRow w.heap.size 3 1 (.slice (some ⟨w.heap.size,0,none⟩) zs.length zs.length) zs.length ((jbh zs.length k (jbo (zs.drop (zs.length - k)))).map (Value.int .i64))) (fun _ i _=>zs.length - (intOf i).toNat)
      case atStart=>exact ⟨hgrow,0,Nat.zero_le _,rfl,by simp [jaB],by simpa [jbh,jbo] using hown⟩
      case round =>
       clear hown hgrow;obtain ⟨hw,k,hk,rfl,hn,hown⟩:=hrel;have hd:=HF.out.drop (zs.length - k);have hp1:=hd.prod_pos;have hp2:=hd.le;obtain ⟨p,hpd⟩ : ∃ p,p=jaB (zs.drop (zs.length - k)):=⟨_,rfl⟩
       rw [← hpd] at hn hp1 hp2;subst hn;have HPD:=jac hpd;clear hpd hd
       by_cases hkl:k<zs.length
       ·obtain ⟨b,off,rfl⟩:=jbp h0.out (by omega);have hb:=jom h0.out (by omega);have hcell:=jbk (h0.out.more hw) (k:=zs.length - 1 - k) (by omega);obtain ⟨⟨c,hc⟩,hf,hown2,hw2⟩:=jcq (z:=p) hkl hw hown;have hmul:=jol hkl;rw [← HPD.out] at hmul;have hdl:=(HF.out.drop (zs.length - (k+1))).le;rw [hmul] at hdl;have hd1:=HF.out.at (zs.length - 1 - k) (by omega);obtain ⟨d,hd⟩ : ∃ d,d=zs.getD (zs.length - 1 - k) 0:=⟨_,rfl⟩
        rw [← hd] at hcell hmul hdl hd1;have hpd0:0≤p*d:=Int.mul_nonneg (by omega) (by omega);have HM:=jac hmul;have HO:=jac hown2;have HW:=jac hw2;clear hd hmul hown hown2 hw2 hw;go_wp2;go_roundw
        case rel =>
         refine ⟨HW.out,k+1,by omega,by go_num,by rw [HM.out],?_⟩;rw [jlC hkl,← HPD.out];exact HO.out
        case measure=>simp [intOf];omega
       ·have HO:=jac hown;clear hown;go_wp2;go_ret2;refine ⟨_,rfl,⟨?_,?_,?_⟩,hw⟩
        ·have:=HO.out;rw [show zs.length - k=0 by omega,show jbh zs.length k (jbo (zs.drop 0))=jbo zs by simp [jbh,show zs.length - k=0 by omega]] at this;rw [jbs];exact this
        ·rw [jbs];omega
        ·intro s hs;have:=jgH HF.out s hs;omega
     all_goals
      have HE:=jac hE;rw [hE] at hcount;rw [show jbM zs=[] by simp [jbM,hE],hE];clear hE;go_enter Tryz.func57,Tryz.ntmps57;go_wp2_with (go_at_call 30;refine hcount.out.mono ?_;rintro e w' ⟨rfl,rfl⟩);go_ret2;exact ⟨_,rfl,jbg _ _,jae _⟩
end Go.Proofs.YtanpkdkenifmbaaGreatDoor
namespace Go.Proofs.YtanpkdkenifmbaaGreatDoor
open Go.RowKit
def jcF (p q:Int):Bool:=!(p==q)&&(!(p==1)&&!(q==1))
def bcL (a b:List Int):Nat→List Int
 | 0=>[]
 | k+1=>max (bh a k) (bh b k)::bcL a b k
def jdH (a b:List Int):Nat→Bool
 | 0=>false
 | k+1=>jcF (bh a k) (bh b k)||jdH a b k
def rank (a b:List Int):Nat:=max a.length b.length
def bcE (a b:List Int):Int:=if ja7 a≠0 then ja7 a else if ja7 b≠0 then ja7 b else if jdH a b (rank a b)=true then 4 else ja7 (bcL a b (rank a b))
def bcR (a b:List Int):List Int:=if bcE a b=0 then bcL a b (rank a b) else []
theorem jcn (a b:List Int) (k:Nat):(bcL a b k).length=k:=by
 induction k with
 | zero=>rfl
 | succ k ih=>simp [bcL,ih]
theorem jjv {a b:List Int} {k n:Nat} (hk:k<n) (h:jcF (bh a k) (bh b k)=true):jdH a b n=true:=by
 induction n with
 | zero=>omega
 | succ n ih =>
  rcases jaL hk with h1 | rfl
  ·simp [jdH,ih h1]
  ·simp [jdH,h]
theorem jrP {zs:List Int} (h:∀ z∈zs,-9223372036854775808≤z∧z≤9223372036854775807) (i:Nat) : -9223372036854775808≤bh zs i∧bh zs i≤9223372036854775807:=by
 unfold bh
 split
 ·omega
 ·exact h _ (by rw [List.getD,List.getElem?_eq_getElem (by omega)];simp)
theorem jqa {a b:List Int} (ha:∀ z∈a,-9223372036854775808≤z∧z≤9223372036854775807) (hb:∀ z∈b,-9223372036854775808≤z∧z≤9223372036854775807) (k:Nat):∀ z∈bcL a b k,-9223372036854775808≤z∧z≤9223372036854775807:=by
 induction k with
 | zero=>intro z hz;simp [bcL] at hz
 | succ k ih =>
  intro z hz
  rcases List.mem_cons.1 hz with rfl | hz
  ·have h1:=jrP ha k;have h2:=jrP hb k;omega
  ·exact ih z hz
theorem je1 (p q:Int) (h:jcF p q=true):(p==q)=false∧(p==1)=false∧(q==1)=false:=by
 simp only [jcF,Bool.and_eq_true,Bool.not_eq_true'] at h;exact h
theorem jga {E:Int} {a b:List Int} {w w':World} (h:bcE a b=E) (h0:E≠0) (hg:w.grownBy w' none) :
    ∃ u,Ending.returned (.tuple #[.slice none 0 0,.int .i64 E])=.returned (.tuple #[u,.int .i64 (bcE a b)])∧Owns w' w.heap.size u (bcR a b)∧w.grownBy w' none :=
     ⟨_,by rw [h],by rw [show bcR a b=[] by simp [bcR,h,h0]];exact jbg _ _,hg⟩
theorem jeQ {zs:List Int} (h:ja7 zs≠0):(ja7 zs==0)=false:=by simpa using h
theorem jqb (v u:Value) (a b:List Int) (w:World) (h:IsInts w v a) (hu:IsInts w u b) :
    Calls Tryz.prog 33 #[v,u] w fun e w'=>∃ r,e=.returned (.tuple #[r,.int .i64 (bcE a b)])∧Owns w' w.heap.size r (bcR a b)∧w.grownBy w' none:=by
     obtain ⟨i0,hi,hz0,hz1,hz2⟩:=info_parts jcE;have hca:=jac (jbe v a w h);have hcb:=jac (jbe u b w hu);have h0:=jac h;have hu0:=jac hu;obtain ⟨ao,cap,rfl,h1,h2,h3,-,-,-⟩:=h;obtain ⟨bo,bcap,rfl,hb1,hb2,hb3,-,-,-⟩:=hu
     by_cases hE:ja7 a=0
     ·by_cases hF:ja7 b=0
      ·have HA:=jac (jaX hE);have HB:=jac (jaX hF);have HEF:Hid (bcE a b=if jdH a b (rank a b)=true then 4 else ja7 (bcL a b (rank a b))):=by simp [Hid,bcE,hE,hF]
       rw [hE] at hca;rw [hF] at hcb;clear hE hF;have hl1:=HA.out.few;have hl2:=HB.out.few
       by_cases hlt:a.length<b.length
       ·skip
        have HR:Hid (b.length=rank a b):=by simp only [Hid,rank];omega
        rw [← HR.out] at HEF;have hb4:i0.bytes*b.length≤281474976710656:=by rw [hz2];omega
        have hb5:b.length≤maxLen:=by simp only [maxLen];omega
        go_enter Tryz.func33,Tryz.ntmps33;go_wp2_with fail;refine hca.out.mono ?_;rintro e w' ⟨rfl,rfl⟩;go_wp2_with fail;refine hcb.out.mono ?_;rintro e w' ⟨rfl,rfl⟩;go_wp2_with (refine wpList_make_full _ rfl (.tmp 38) (.tmp 38) 29 rfl w.heap.size 3 i0 (.int .i64 0) 1 Tryz.underlying29 hi hz0 hz1 .i64 .i64 _ _ b.length rfl rfl rfl rfl hb4 hb5 (Nat.le_refl _) ?_;intro w1 hown hgrow);rw [jby] at hown
        go_loopw [41] (fun i wr=>w.grownBy wr none∧∃ k:Nat,k≤b.length∧i=.int .i64 k∧jdH a b k=false ∧
         wr.ownsRow w.heap.size 3 1 (.slice (some ⟨w.heap.size,0,none⟩) b.length b.length) b.length ((jbh b.length k (bcL a b k)).map (Value.int .i64))) (fun i _=>b.length - (intOf i).toNat)
        case atStart=>exact ⟨hgrow,0,Nat.zero_le _,rfl,rfl,by simpa [jbh,bcL] using hown⟩
        case round =>
         clear hown hgrow;obtain ⟨hw,k,hk,rfl,hbad,hown⟩:=hrel;have HBAD:=jac hbad;clear hbad
         by_cases hkl:k<b.length
         ·have hpa:=jcK _ a k _ (h0.out.more hw) (by omega);have hpb:=jcK _ b k _ (hu0.out.more hw) (by omega);have hp1:=jhq (k:=k) HA.out.pos;have hq1:=jhq (k:=k) HB.out.pos;have hbo:=@jjv a b k b.length hkl;obtain ⟨p,hp⟩ : ∃ p,p=bh a k:=⟨_,rfl⟩
          obtain ⟨q,hq⟩ : ∃ q,q=bh b k:=⟨_,rfl⟩
          rw [← hp] at hpa hp1 hbo;rw [← hq] at hpb hq1 hbo;have HPA:=jac hpa;have HPB:=jac hpb;have HP:=jac hp;have HQ:=jac hq;have HBO:=jac hbo;clear hpa hpb hp hq hbo
          by_cases hap:jcF p q=true
          ·obtain ⟨t1,t2,t3⟩:=je1 p q hap;have HE4:Hid (bcE a b=4):=by simp only [Hid];rw [HEF.out,if_pos (HBO.out hap)]
           have n1:(p != q)=true:=by simp [bne,t1]
           have n2:(p != 1)=true:=by simp [bne,t2]
           have n3:(q != 1)=true:=by simp [bne,t3]
           clear hap t1 t2 t3;go_wp2_with fail;refine HPA.out.mono ?_;rintro e w' ⟨rfl,rfl⟩;go_wp2_with fail;refine HPB.out.mono ?_;rintro e w' ⟨rfl,rfl⟩;go_wp2;go_ret2;exact jga HE4.out (by decide) hw
          ·have HNB:Hid (jcF p q=false):=by simp only [Hid];simpa using hap
           rcases (show p=q∨(p≠q∧p=1)∨(p≠q∧p≠1∧q=1) by
            simp only [jcF,Bool.and_eq_true,Bool.not_eq_true',beq_eq_false_iff_ne,ne_eq] at hap;omega) with hc1 | ⟨hc1,hc2⟩ | ⟨hc1,hc2,hc3⟩
           ·subst hc1;obtain ⟨⟨c,hc⟩,hf,hown2,hw2⟩:=jcq (z:=p) hkl hw hown;have HM:Hid (p=max p p):=by simp only [Hid];omega
            have HO:=jac hown2;have HW:=jac hw2;clear hap;clear hown hown2 hw2 hw;go_wp2_with fail;refine HPA.out.mono ?_;rintro e w' ⟨rfl,rfl⟩;go_wp2_with fail;refine HPB.out.mono ?_;rintro e w' ⟨rfl,rfl⟩;go_wp2;go_roundw
            case rel =>
             refine ⟨HW.out,k+1,by omega,by go_num,?_,?_⟩
             ·simp only [jdH];rw [← HP.out,← HQ.out,HNB.out,HBAD.out]
              rfl
             ·simp only [bcL];rw [← HP.out,← HQ.out,← HM.out];exact HO.out
            case measure=>simp [intOf];omega
           ·subst hc2;obtain ⟨⟨c,hc⟩,hf,hown2,hw2⟩:=jcq (z:=q) hkl hw hown;have HM:Hid (q=max 1 q):=by simp only [Hid];omega
            have HO:=jac hown2;have HW:=jac hw2;have n1:1<q:=by omega
            have n2:((1:Int) != q)=true:=by simp;omega
            clear hap hc1;clear hown hown2 hw2 hw;go_wp2_with fail;refine HPA.out.mono ?_;rintro e w' ⟨rfl,rfl⟩;go_wp2_with fail;refine HPB.out.mono ?_;rintro e w' ⟨rfl,rfl⟩;go_wp2;go_roundw
            case rel =>
             refine ⟨HW.out,k+1,by omega,by go_num,?_,?_⟩
             ·simp only [jdH];rw [← HP.out,← HQ.out,HNB.out,HBAD.out]
              rfl
             ·simp only [bcL];rw [← HP.out,← HQ.out,← HM.out];exact HO.out
            case measure=>simp [intOf];omega
           ·subst hc3;obtain ⟨⟨c,hc⟩,hf,hown2,hw2⟩:=jcq (z:=p) hkl hw hown;have HM:Hid (p=max p 1):=by simp only [Hid];omega
            have HO:=jac hown2;have HW:=jac hw2;have n1:1<p:=by omega
            have n2:(p != 1)=true:=by simp;omega
            clear hap hc1 hc2;clear hown hown2 hw2 hw;go_wp2_with fail;refine HPA.out.mono ?_;rintro e w' ⟨rfl,rfl⟩;go_wp2_with fail;refine HPB.out.mono ?_;rintro e w' ⟨rfl,rfl⟩;go_wp2;go_roundw
            case rel =>
             refine ⟨HW.out,k+1,by omega,by go_num,?_,?_⟩
             ·simp only [jdH];rw [← HP.out,← HQ.out,HNB.out,HBAD.out]
              rfl
             ·simp only [bcL];rw [← HP.out,← HQ.out,← HM.out];exact HO.out
            case measure=>simp [intOf];omega
         ·have HOW : Hid (Owns wr w.heap.size (.slice (some ⟨w.heap.size, 0, none⟩) b.length b.length) (bcL a b b.length)) := by
            refine ⟨?_,by rw [jcn];omega,jqa h0.out.wf hu0.out.wf _⟩;have:=hown;rw [show k=b.length by omega,show jbh b.length b.length (bcL a b b.length)=bcL a b b.length by simp [jbh]] at this;rw [jcn];exact this
          have HB0:Hid (jdH a b b.length=false):=by simp only [Hid];rw [show b.length=k by omega];exact HBAD.out
          have hcc:=jbe _ _ _ HOW.out.ints;have hEE:bcE a b=ja7 (bcL a b b.length):=by rw [HEF.out,if_neg (by rw [HB0.out];decide)]
          by_cases hz:ja7 (bcL a b b.length)=0
          ·rw [hz] at hcc hEE;have HEE:=jac hEE;have HCC:=jac hcc;have HRR:Hid (bcR a b=bcL a b b.length):=by simp [Hid,bcR,hEE,← HR.out]
           clear hcc hEE hz hown;go_wp2_with fail;refine HCC.out.mono ?_;rintro e w' ⟨rfl,rfl⟩;go_wp2;go_ret2;refine ⟨_,by rw [HEE.out];rfl,?_,hw⟩;rw [HRR.out];exact HOW.out
          ·have hz':=jeQ hz;have HZ:=jac hz;have HEE:=jac hEE;have HCC:=jac hcc;obtain ⟨E,hE⟩ : ∃ E,E=ja7 (bcL a b b.length):=⟨_,rfl⟩
           rw [← hE] at hz' HZ HEE HCC;clear hcc hEE hz hE hown;go_wp2_with fail;refine HCC.out.mono ?_;rintro e w' ⟨rfl,rfl⟩;go_wp2;go_ret2;exact jga HEE.out HZ.out hw
       ·skip
        have HR:Hid (a.length=rank a b):=by simp only [Hid,rank];omega
        rw [← HR.out] at HEF;have hb4:i0.bytes*a.length≤281474976710656:=by rw [hz2];omega
        have hb5:a.length≤maxLen:=by simp only [maxLen];omega
        go_enter Tryz.func33,Tryz.ntmps33;go_wp2_with fail;refine hca.out.mono ?_;rintro e w' ⟨rfl,rfl⟩;go_wp2_with fail;refine hcb.out.mono ?_;rintro e w' ⟨rfl,rfl⟩;go_wp2_with (refine wpList_make_full _ rfl (.tmp 38) (.tmp 38) 29 rfl w.heap.size 3 i0 (.int .i64 0) 1 Tryz.underlying29 hi hz0 hz1 .i64 .i64 _ _ a.length rfl rfl rfl rfl hb4 hb5 (Nat.le_refl _) ?_;intro w1 hown hgrow);rw [jby] at hown
        go_loopw [41] (fun i wr=>w.grownBy wr none∧∃ k:Nat,k≤a.length∧i=.int .i64 k∧jdH a b k=false ∧
         wr.ownsRow w.heap.size 3 1 (.slice (some ⟨w.heap.size,0,none⟩) a.length a.length) a.length ((jbh a.length k (bcL a b k)).map (Value.int .i64))) (fun i _=>a.length - (intOf i).toNat)
        case atStart=>exact ⟨hgrow,0,Nat.zero_le _,rfl,rfl,by simpa [jbh,bcL] using hown⟩
        case round =>
         clear hown hgrow;obtain ⟨hw,k,hk,rfl,hbad,hown⟩:=hrel;have HBAD:=jac hbad;clear hbad
         by_cases hkl:k<a.length
         ·have hpa:=jcK _ a k _ (h0.out.more hw) (by omega);have hpb:=jcK _ b k _ (hu0.out.more hw) (by omega);have hp1:=jhq (k:=k) HA.out.pos;have hq1:=jhq (k:=k) HB.out.pos;have hbo:=@jjv a b k a.length hkl;obtain ⟨p,hp⟩ : ∃ p,p=bh a k:=⟨_,rfl⟩
          obtain ⟨q,hq⟩ : ∃ q,q=bh b k:=⟨_,rfl⟩
          rw [← hp] at hpa hp1 hbo;rw [← hq] at hpb hq1 hbo;have HPA:=jac hpa;have HPB:=jac hpb;have HP:=jac hp;have HQ:=jac hq;have HBO:=jac hbo;clear hpa hpb hp hq hbo
          by_cases hap:jcF p q=true
          ·obtain ⟨t1,t2,t3⟩:=je1 p q hap;have HE4:Hid (bcE a b=4):=by simp only [Hid];rw [HEF.out,if_pos (HBO.out hap)]
           have n1:(p != q)=true:=by simp [bne,t1]
           have n2:(p != 1)=true:=by simp [bne,t2]
           have n3:(q != 1)=true:=by simp [bne,t3]
           clear hap t1 t2 t3;go_wp2_with fail;refine HPA.out.mono ?_;rintro e w' ⟨rfl,rfl⟩;go_wp2_with fail;refine HPB.out.mono ?_;rintro e w' ⟨rfl,rfl⟩;go_wp2;go_ret2;exact jga HE4.out (by decide) hw
          ·have HNB:Hid (jcF p q=false):=by simp only [Hid];simpa using hap
           rcases (show p=q∨(p≠q∧p=1)∨(p≠q∧p≠1∧q=1) by
            simp only [jcF,Bool.and_eq_true,Bool.not_eq_true',beq_eq_false_iff_ne,ne_eq] at hap;omega) with hc1 | ⟨hc1,hc2⟩ | ⟨hc1,hc2,hc3⟩
           ·subst hc1;obtain ⟨⟨c,hc⟩,hf,hown2,hw2⟩:=jcq (z:=p) hkl hw hown;have HM:Hid (p=max p p):=by simp only [Hid];omega
            have HO:=jac hown2;have HW:=jac hw2;clear hap;clear hown hown2 hw2 hw;go_wp2_with fail;refine HPA.out.mono ?_;rintro e w' ⟨rfl,rfl⟩;go_wp2_with fail;refine HPB.out.mono ?_;rintro e w' ⟨rfl,rfl⟩;go_wp2;go_roundw
            case rel =>
             refine ⟨HW.out,k+1,by omega,by go_num,?_,?_⟩
             ·simp only [jdH];rw [← HP.out,← HQ.out,HNB.out,HBAD.out]
              rfl
             ·simp only [bcL];rw [← HP.out,← HQ.out,← HM.out];exact HO.out
            case measure=>simp [intOf];omega
           ·subst hc2;obtain ⟨⟨c,hc⟩,hf,hown2,hw2⟩:=jcq (z:=q) hkl hw hown;have HM:Hid (q=max 1 q):=by simp only [Hid];omega
            have HO:=jac hown2;have HW:=jac hw2;have n1:1<q:=by omega
            have n2:((1:Int) != q)=true:=by simp;omega
            clear hap hc1;clear hown hown2 hw2 hw;go_wp2_with fail;refine HPA.out.mono ?_;rintro e w' ⟨rfl,rfl⟩;go_wp2_with fail;refine HPB.out.mono ?_;rintro e w' ⟨rfl,rfl⟩;go_wp2;go_roundw
            case rel =>
             refine ⟨HW.out,k+1,by omega,by go_num,?_,?_⟩
             ·simp only [jdH];rw [← HP.out,← HQ.out,HNB.out,HBAD.out]
              rfl
             ·simp only [bcL];rw [← HP.out,← HQ.out,← HM.out];exact HO.out
            case measure=>simp [intOf];omega
           ·subst hc3;obtain ⟨⟨c,hc⟩,hf,hown2,hw2⟩:=jcq (z:=p) hkl hw hown;have HM:Hid (p=max p 1):=by simp only [Hid];omega
            have HO:=jac hown2;have HW:=jac hw2;have n1:1<p:=by omega
            have n2:(p != 1)=true:=by simp;omega
            clear hap hc1 hc2;clear hown hown2 hw2 hw;go_wp2_with fail;refine HPA.out.mono ?_;rintro e w' ⟨rfl,rfl⟩;go_wp2_with fail;refine HPB.out.mono ?_;rintro e w' ⟨rfl,rfl⟩;go_wp2;go_roundw
            case rel =>
             refine ⟨HW.out,k+1,by omega,by go_num,?_,?_⟩
             ·simp only [jdH];rw [← HP.out,← HQ.out,HNB.out,HBAD.out]
              rfl
             ·simp only [bcL];rw [← HP.out,← HQ.out,← HM.out];exact HO.out
            case measure=>simp [intOf];omega
         ·have HOW : Hid (Owns wr w.heap.size (.slice (some ⟨w.heap.size, 0, none⟩) a.length a.length) (bcL a b a.length)) := by
            refine ⟨?_,by rw [jcn];omega,jqa h0.out.wf hu0.out.wf _⟩;have:=hown;rw [show k=a.length by omega,show jbh a.length a.length (bcL a b a.length)=bcL a b a.length by simp [jbh]] at this;rw [jcn];exact this
          have HB0:Hid (jdH a b a.length=false):=by simp only [Hid];rw [show a.length=k by omega];exact HBAD.out
          have hcc:=jbe _ _ _ HOW.out.ints;have hEE:bcE a b=ja7 (bcL a b a.length):=by rw [HEF.out,if_neg (by rw [HB0.out];decide)]
          by_cases hz:ja7 (bcL a b a.length)=0
          ·rw [hz] at hcc hEE;have HEE:=jac hEE;have HCC:=jac hcc;have HRR:Hid (bcR a b=bcL a b a.length):=by simp [Hid,bcR,hEE,← HR.out]
           clear hcc hEE hz hown;go_wp2_with fail;refine HCC.out.mono ?_;rintro e w' ⟨rfl,rfl⟩;go_wp2;go_ret2;refine ⟨_,by rw [HEE.out];rfl,?_,hw⟩;rw [HRR.out];exact HOW.out
          ·have hz':=jeQ hz;have HZ:=jac hz;have HEE:=jac hEE;have HCC:=jac hcc;obtain ⟨E,hE⟩ : ∃ E,E=ja7 (bcL a b a.length):=⟨_,rfl⟩
           rw [← hE] at hz' HZ HEE HCC;clear hcc hEE hz hE hown;go_wp2_with fail;refine HCC.out.mono ?_;rintro e w' ⟨rfl,rfl⟩;go_wp2;go_ret2;exact jga HEE.out HZ.out hw
      ·have HEE:Hid (bcE a b=ja7 b):=by simp [Hid,bcE,hE,hF]
       rw [hE] at hca;have hz':=jeQ hF;have HZ:=jac hF;obtain ⟨E,hEE⟩ : ∃ E,E=ja7 b:=⟨_,rfl⟩
       rw [← hEE] at hz' HZ HEE hcb;clear hE hF hEE;go_enter Tryz.func33,Tryz.ntmps33;go_wp2_with fail;refine hca.out.mono ?_;rintro e w' ⟨rfl,rfl⟩;go_wp2_with fail;refine hcb.out.mono ?_;rintro e w' ⟨rfl,rfl⟩;go_wp2;go_ret2;exact jga HEE.out HZ.out (jae _)
     ·have HEE:Hid (bcE a b=ja7 a):=by simp [Hid,bcE,hE]
      have hz':=jeQ hE;have HZ:=jac hE;obtain ⟨E,hEE⟩ : ∃ E,E=ja7 a:=⟨_,rfl⟩
      rw [← hEE] at hz' HZ HEE hca;clear hE hEE;go_enter Tryz.func33,Tryz.ntmps33;go_wp2_with fail;refine hca.out.mono ?_;rintro e w' ⟨rfl,rfl⟩;go_wp2;go_ret2;exact jga HEE.out HZ.out (jae _)
end Go.Proofs.YtanpkdkenifmbaaGreatDoor
namespace Go.Proofs.YtanpkdkenifmbaaGreatDoor
open Go.RowKit
theorem jbt (w:World) (zs:List Int) (t:TypeId) (hl:zs.length*8≤140737488351232) (hz:∀ z∈zs,-9223372036854775808≤z∧z≤9223372036854775807) :
    IsInts (w.alloc (.cells (zs.map (Value.int .i64)).toArray t)) (.slice (some ⟨w.heap.size,0,none⟩) zs.length zs.length) zs:=by
     refine ⟨_,_,rfl,Nat.le_refl _,by omega,hl,(fun h=>by cases h),fun _=>⟨_,_,rfl,fun k hk=>?_⟩,hz⟩;rw [Nat.zero_add,cell_of_row _ _ k _ _ (0,0) (heap_alloc_new w _)];simp [List.getD,hk]
end Go.Proofs.YtanpkdkenifmbaaGreatDoor
namespace Go.Proofs.YtanpkdkenifmbaaGreatDoor
open Go.RowKit
def jbd (n k:Nat) (l:List Int):List Int:=l.take k++List.replicate (n - k) 0
theorem jgI {n k:Nat} {l:List Int} (hk:k<n) (hl:l.length=n) (z:Int) (hz:z=l.getD k 0):(jbd n k l).set k z=jbd n (k+1) l:=by
 unfold jbd;rw [jcJ l k (by omega),← hz,List.set_append_right _ _ (by simp;omega),show n - k=(n - (k+1))+1 by omega,List.replicate_succ];simp [show min k l.length=k by omega]
theorem jhr {w wr : World} {n k : Nat} {l : List Int} {z : Int} (hk : k < n) (hl : l.length = n) (hz : z = l.getD k 0) (hw : w.grownBy wr none)
    (hown:wr.ownsRow w.heap.size 3 1 (.slice (some ⟨w.heap.size,0,none⟩) n n) n ((jbd n k l).map (Value.int .i64))) :
    (∃ c,wr.cell? ⟨w.heap.size,k,none⟩=some c)∧wr.frozen? ⟨w.heap.size,k,none⟩=false ∧
    (wr.setCell ⟨w.heap.size,k,none⟩ (.int .i64 z)).ownsRow w.heap.size 3 1 (.slice (some ⟨w.heap.size,0,none⟩) n n) n ((jbd n (k+1) l).map (Value.int .i64)) ∧
    w.grownBy (wr.setCell ⟨w.heap.size,k,none⟩ (.int .i64 z)) none:=by
     have hl':=hown.1;refine ⟨⟨_,by rw [hown.cellAt k (by omega),List.getElem?_eq_getElem (by omega)]⟩,hown.frozenAt _,?_,jao hw (hown.stored k (.int .i64 z)).2 (fun g hg=>by injection hg with hg;omega)⟩;have:=(hown.stored k (.int .i64 z)).1;rw [jdS,jgI hk hl z hz] at this;exact this
end Go.Proofs.YtanpkdkenifmbaaGreatDoor
namespace Go.Proofs.YtanpkdkenifmbaaGreatDoor
open Go.RowKit
theorem jgJ:∀ {zs:List Int},(∀ z∈zs,1≤z)→∀ z∈zs,z≤jaB zs
 | y::zs,h,z,hz=>by
  have h1:=h y (by simp);have h2:=prod_pos zs (fun x hx=>h x (by simp [hx]))
  rcases List.mem_cons.1 hz with rfl | hz
  ·have:=jb9 h2 (show 0≤z by omega);simpa [jaB] using this
  ·have h3:=jgJ (fun x hx=>h x (by simp [hx])) z hz;have h4:=jcS h1 (show 0≤jaB zs by omega);simp only [jaB];omega
end Go.Proofs.YtanpkdkenifmbaaGreatDoor
namespace Go.Proofs.YtanpkdkenifmbaaGreatDoor.Vw
open Go.RowKit
def IsView (w:World) (v:Value) (off:Int) (ds ss:List Int):Prop :=
 ∃ dv sv,v=.agg #[.int .i64 off,dv,sv]∧IsInts w dv ds∧IsInts w sv ss ∧ -9223372036854775808≤off∧off≤9223372036854775807
theorem IsView.more {w w':World} {v:Value} {off:Int} {ds ss:List Int} (h:IsView w v off ds ss) (hg:w.grownBy w' none):IsView w' v off ds ss:=by
 obtain ⟨dv,sv,rfl,hd,hs,ho⟩:=h;exact ⟨dv,sv,rfl,hd.more hg,hs.more hg,ho⟩
def jfN (off:Int) (ds ss:List Int):Bool:=decide (ja7 ds=0)&&(decide (ss.length=ds.length)&&(decide (0≤off∧off≤65535)&&ss.all (fun s=>decide (0≤s∧s≤65536))))
structure MayV (off:Int) (ds ss:List Int):Prop where
 fine:Fine ds
 len:ss.length=ds.length
 lo:0≤off
 hi:off≤65535
 str:∀ s∈ss,0≤s∧s≤65536
theorem mayB_iff {off:Int} {ds ss:List Int} : jfN off ds ss=true↔MayV off ds ss:=by
 unfold jfN;simp only [Bool.and_eq_true,decide_eq_true_eq,List.all_eq_true];exact ⟨fun ⟨h1,h2,h3,h4⟩=>⟨jaX h1,h2,h3.1,h3.2,h4⟩,fun h=>⟨h.fine.ok,h.len,⟨h.lo,h.hi⟩,h.str⟩⟩
theorem jeq {off:Int} {ds ss:List Int} (h:¬ MayV off ds ss):jfN off ds ss=false:=by
 rw [Bool.eq_false_iff];exact fun h'=>h (mayB_iff.1 h')
theorem jdT (p s t:Int) (w:World) (h1 : -4611686018427387904≤p∧p≤4611686018427387904) (h2 : -4611686018427387904≤s*t∧s*t≤4611686018427387903) (_hs : -9223372036854775808≤s∧s≤9223372036854775807) (_ht : -9223372036854775808≤t∧t≤9223372036854775807) :
    Calls Tryz.prog 62 #[.int .i64 p,.int .i64 s,.int .i64 t] w fun e w'=>e=.returned (.int .i64 (p+s*t))∧w=w':=by
     obtain ⟨h11,h12⟩:=h1;obtain ⟨h21,h22⟩:=h2;go_enter Tryz.func62,Tryz.ntmps62;go_wp2;go_ret;exact ⟨rfl,rfl⟩
theorem jde (v:Value) (off:Int) (ds ss:List Int) (w:World) (h:IsView w v off ds ss) :
    Calls Tryz.prog 29 #[v] w fun e w'=>e=.returned (.bool (jfN off ds ss))∧w.grownBy w' none:=by
     obtain ⟨dv,sv,rfl,hd,hs,ho1,ho2⟩:=h;have hg:=jab w (.cells #[.int .i64 off,dv,sv] 63);have hc:=jbe dv ds _ (hd.more hg);have HS:=jac (hs.more hg);obtain ⟨ao,cap,rfl,h1,h2,h3,-,-,-⟩:=hd;obtain ⟨bo,bcap,rfl,hb1,hb2,hb3,-,-,-⟩:=hs
     by_cases hE:ja7 ds=0
     ·rw [hE] at hc;have HC:=jac hc
      by_cases hl:ss.length=ds.length
      ·have hl':((ss.length:Int) != (ds.length:Int))=false:=by simp [hl]
       by_cases ho:0≤off∧off≤65535
       ·have HM:Hid (jfN off ds ss=ss.all (fun s=>decide (0≤s∧s≤65536))):=by simp [Hid,jfN,hE,hl,ho]
        obtain ⟨ho3,ho4⟩:=ho;clear hE hl hc;go_enter Tryz.func29,Tryz.ntmps29;go_wp2_with fail;refine HC.out.mono ?_;rintro e w' ⟨rfl,rfl⟩;go_wp2;go_loopw [35] (fun i wr=>wr=w.alloc (.cells #[.int .i64 off,.slice ao ds.length cap,.slice bo ss.length bcap] 63)∧∃ k:Nat,k≤ss.length∧i=.int .i64 k∧∀ t,t<k→0≤ss.getD t 0∧ss.getD t 0≤65536) (fun i _=>ss.length - (intOf i).toNat)
        case atStart=>exact ⟨rfl,0,Nat.zero_le _,rfl,fun t h=>absurd h (by omega)⟩
        case round =>
         obtain ⟨hw,k,hk,rfl,hp⟩:=hrel;subst hw;have HP:=jac hp;clear hp
         by_cases hkl:k<ss.length
         ·obtain ⟨b,o',rfl⟩:=jbp HS.out (by omega);have hcell:=jbk HS.out hkl;obtain ⟨z,hz⟩ : ∃ z,z=ss.getD k 0:=⟨_,rfl⟩
          rw [← hz] at hcell;have HZ:=jac hz;clear hz
          by_cases hz0:0≤z∧z≤65536
          ·obtain ⟨hz1,hz2⟩:=hz0;go_wp2;go_roundw
           case rel =>
            refine ⟨by trivial,k+1,by omega,by go_num,fun t ht=>?_⟩
            rcases jaL ht with h | rfl
            ·exact HP.out t h
            ·have:=HZ.out;omega
           case measure=>simp [intOf];omega
          ·have HF : Hid (ss.all (fun s => decide (0 ≤ s ∧ s ≤ 65536)) = false) := by
             simp only [Hid];rw [Bool.eq_false_iff];intro h;rw [List.all_eq_true] at h;have:=h z (by rw [HZ.out,List.getD,List.getElem?_eq_getElem hkl];simp);simp only [decide_eq_true_eq] at this;exact hz0 this
           by_cases hz1:z<0
           ·clear hz0;go_wp2;go_ret;exact ⟨by rw [HM.out,HF.out];rfl,hg⟩
           ·have hz2:65536<z:=by omega
            clear hz0;go_wp2;go_ret;exact ⟨by rw [HM.out,HF.out];rfl,hg⟩
         ·have HT : Hid (ss.all (fun s => decide (0 ≤ s ∧ s ≤ 65536)) = true) := by
            simp only [Hid];rw [List.all_eq_true];exact fun z hz=>decide_eq_true (jp9 (p:=fun s=>0≤s∧s≤65536) (fun t ht=>HP.out t (by omega)) z hz)
          go_wp2;go_ret;exact ⟨by rw [HM.out,HT.out];rfl,hg⟩
       ·have HM:Hid (jfN off ds ss=false):=jeq fun h=>ho ⟨h.lo,h.hi⟩
        by_cases ho3:off<0
        ·clear hE hl hc ho;go_enter Tryz.func29,Tryz.ntmps29;go_wp2_with fail;refine HC.out.mono ?_;rintro e w' ⟨rfl,rfl⟩;go_wp2;go_ret;exact ⟨by rw [HM.out];rfl,hg⟩
        ·have ho4:65535<off:=by omega
         clear hE hl hc ho;go_enter Tryz.func29,Tryz.ntmps29;go_wp2_with fail;refine HC.out.mono ?_;rintro e w' ⟨rfl,rfl⟩;go_wp2;go_ret;exact ⟨by rw [HM.out];rfl,hg⟩
      ·have HM:Hid (jfN off ds ss=false):=jeq fun h=>hl h.len;have hl':((ss.length:Int) != (ds.length:Int))=true:=by simp;omega
       clear hE hl hc;go_enter Tryz.func29,Tryz.ntmps29;go_wp2_with fail;refine HC.out.mono ?_;rintro e w' ⟨rfl,rfl⟩;go_wp2;go_ret;exact ⟨by rw [HM.out];rfl,hg⟩
     ·have HM:Hid (jfN off ds ss=false):=jeq fun h=>hE h.fine.ok;have hE':=jcD hE;obtain ⟨E,hEE⟩ : ∃ E,E=ja7 ds:=⟨_,rfl⟩
      rw [← hEE] at hE' hc;have HC:=jac hc;clear hE hEE hc;go_enter Tryz.func29,Tryz.ntmps29;go_wp2_with fail;refine HC.out.mono ?_;rintro e w' ⟨rfl,rfl⟩;go_wp2;go_ret;exact ⟨by rw [HM.out];rfl,hg⟩
end Go.Proofs.YtanpkdkenifmbaaGreatDoor.Vw
namespace Go.Proofs.YtanpkdkenifmbaaGreatDoor.Vw
open Go.RowKit
theorem jd3 (v u:Value) (xs ys:List Int) (w:World) (ha:IsInts w v xs) (hb:IsInts w u ys) :
    Calls Tryz.prog 34 #[v,u] w fun e w'=>e=.returned (.bool (decide (xs=ys)))∧w.grownBy w' none:=by
     have ha0:Hid (IsInts w v xs):=ha;have hb0:Hid (IsInts w u ys):=hb;obtain ⟨ao,acap,rfl,ha1,ha2,ha3,-,-,-⟩:=ha;obtain ⟨bo,bcap,rfl,hb1,hb2,hb3,-,-,-⟩:=hb
     by_cases hl:xs.length=ys.length
     ·have hl':((xs.length:Int)==(ys.length:Int))=true:=by simp [hl]
      have HL:Hid (xs.length=ys.length):=hl;clear hl;go_enter Tryz.func34,Tryz.ntmps34;go_wp2;go_loopw [13] (fun i wr=>w.grownBy wr none∧∃ k:Nat,k≤xs.length∧i=.int .i64 k∧∀ t,t<k→xs.getD t 0=ys.getD t 0) (fun i _=>xs.length - (intOf i).toNat)
      case atStart=>exact ⟨jae _,0,Nat.zero_le _,rfl,fun t h=>absurd h (by omega)⟩
      case round =>
       obtain ⟨hw,k,hk,rfl,hp⟩:=hrel;have HP:Hid (∀ t,t<k→xs.getD t 0=ys.getD t 0):=hp;clear hp
       by_cases hkl:k<xs.length
       ·obtain ⟨_,_,he,-,-,-,-,h5,-⟩:=ha0.out.more hw;obtain ⟨b,off,ho,hc⟩:=h5 (by omega);obtain ⟨_,_,he',-,-,-,-,h5',-⟩:=hb0.out.more hw;have hbl:k<ys.length:=by have:=HL.out;omega
        obtain ⟨b',off',ho',hc'⟩:=h5' (by omega);simp only [Value.slice.injEq,true_and] at he he';obtain ⟨rfl,rfl⟩:=he;obtain ⟨rfl,rfl⟩:=he';subst ho ho';obtain ⟨z,hz⟩ : ∃ z,z=xs.getD k 0:=⟨_,rfl⟩
        obtain ⟨y,hy⟩ : ∃ y,y=ys.getD k 0:=⟨_,rfl⟩
        have hcell:=hc k hkl;have hcell':=hc' k hbl;rw [← hz] at hcell;rw [← hy] at hcell';have HZ:Hid (z=xs.getD k 0):=hz;have HY:Hid (y=ys.getD k 0):=hy;clear hz hc hy hc'
        by_cases hzy:z=y
        ·have hzy':(z==y)=true:=by simp [hzy]
         have HE:Hid (z=y):=hzy;clear hzy h5 h5';go_wp2;go_region
         all_goals go_wp2
         all_goals
          go_roundw
          case rel =>
           refine ⟨jaf hw,k+1,by omega,by go_num,fun t ht=>?_⟩
           rcases jaL ht with h | rfl
           ·exact HP.out t h
           ·have:=HZ.out;have:=HY.out;have:=HE.out;omega
          case measure=>simp [intOf];omega
        ·have hzy':(z==y)=false:=by simp [hzy]
         have HE:Hid (xs≠ys):=fun h=>hzy (by rw [HZ.out,HY.out,h]);clear hzy h5 h5';go_wp2;go_region
         all_goals go_wp2
         all_goals go_ret
         all_goals exact ⟨by rw [decide_eq_false HE.out];rfl,jaf hw⟩
       ·have HE:Hid (xs=ys):=jdt HL.out (fun t ht=>HP.out t (by omega));go_wp2;go_ret;exact ⟨by rw [decide_eq_true HE.out];rfl,hw⟩
     ·have hl':((xs.length:Int)==(ys.length:Int))=false:=by simp;omega
      have HE:Hid (xs≠ys):=fun h=>hl (by rw [h]);clear hl;go_enter Tryz.func34,Tryz.ntmps34;go_wp2;go_ret;exact ⟨by rw [decide_eq_false HE.out];rfl,jae _⟩
end Go.Proofs.YtanpkdkenifmbaaGreatDoor.Vw
namespace Go.Proofs.YtanpkdkenifmbaaGreatDoor.Vw
def lst:List Int→List Int→Int
 | d::ds,s::ss=>(d - 1)*s+lst ds ss
 | _,_=>0
def plc:List Int→List Int→Int→List Int
 | [],_,p=>[p]
 | d::ds,s::ss,p=>(List.range d.toNat).flatMap (fun (i:Nat)=>plc ds ss (p+i*s))
 | _::_,[],_=>[]
theorem jcr {α:Type} (f:Nat→List α) (n:Nat):∀ (t:Nat),(∀ i,i<t→(f i).length=n)→((List.range t).flatMap f).length=t*n
 | 0,_=>by simp
 | t+1,h=>by
  rw [List.range_succ,List.flatMap_append,List.length_append,jcr f n t fun i hi=>h i (by omega)];simp only [List.flatMap_cons,List.flatMap_nil,List.append_nil,h t (by omega)];rw [Nat.add_mul,Nat.one_mul]
theorem jdv:∀ (ds ss:List Int) (p:Int),ss.length=ds.length→(∀ d∈ds,1≤d)→(plc ds ss p).length=(jaB ds).toNat
 | [],_,_,_,_=>by simp [plc,jaB]
 | d::ds,s::ss,p,hl,hp=>by
  have h1:=hp d (by simp);have h2:=prod_pos ds fun y hy=>hp y (by simp [hy]);rw [plc,jcr _ (jaB ds).toNat _ fun i _=>jdv ds ss _ (by simpa using hl) fun y hy=>hp y (by simp [hy]),jaB];obtain ⟨a,rfl⟩ : ∃ a:Nat,d=a:=⟨d.toNat,by omega⟩
  obtain ⟨b,hb⟩ : ∃ b:Nat,jaB ds=b:=⟨(jaB ds).toNat,by omega⟩
  rw [hb,← Int.natCast_mul];simp only [Int.toNat_natCast]
 | _::_,[],_,hl,_=>by simp at hl
theorem jdw:∀ (ds ss:List Int),(∀ d∈ds,1≤d)→(∀ s∈ss,0≤s)→0≤lst ds ss
 | [],_,_,_=>by simp [lst]
 | _::_,[],_,_=>by simp [lst]
 | d::ds,s::ss,hd,hs=>by
  have h1:=hd d (by simp);have h2:=hs s (by simp);have h3:=jdw ds ss (fun y hy=>hd y (by simp [hy])) (fun y hy=>hs y (by simp [hy]));have h4:0≤(d - 1)*s:=Int.mul_nonneg (by omega) h2;simp only [lst];omega
theorem jgb {d s:Int} {i:Nat} (hi:(i:Int)<d) (hs:0≤s):0≤(i:Int)*s∧(i:Int)*s≤(d - 1)*s :=
 ⟨Int.mul_nonneg (by omega) hs,Int.mul_le_mul_of_nonneg_right (by omega) hs⟩
theorem plc_mem:∀ (ds ss:List Int) (p:Int),(∀ s∈ss,0≤s)→(∀ d∈ds,1≤d)→∀ x∈plc ds ss p,p≤x∧x≤p+lst ds ss
 | [],ss,p,_,_,x,hx=>by
  simp only [plc,List.mem_singleton] at hx;simp [lst,hx]
 | d::ds,s::ss,p,hs,hd,x,hx=>by
  simp only [plc,List.mem_flatMap,List.mem_range] at hx;obtain ⟨i,hi,hx⟩:=hx;have h1:=hd d (by simp);have h2:=hs s (by simp);obtain ⟨h3,h4⟩:=plc_mem ds ss _ (fun y hy=>hs y (by simp [hy])) (fun y hy=>hd y (by simp [hy])) x hx;obtain ⟨h5,h6⟩:=jgb (d:=d) (i:=i) (by omega) h2;simp only [lst];omega
 | _::_,[],_,_,_,x,hx=>by simp [plc] at hx
theorem jhs {α:Type} (f:Nat→List α) {t n:Nat} (h:t<n) {q:List α} (hq:q <+: f t):(List.range t).flatMap f++q <+: (List.range n).flatMap f:=by
 obtain ⟨r,hr⟩:=hq
 have e:List.range n=List.range t++(t::(List.range (n - t - 1)).map (fun i=>t+1+i)):=by
  have e1:n=t+(1+(n - t - 1)):=by omega
  rw [e1,List.range_add,List.range_add];simp [Nat.add_assoc,Function.comp_def]
 rw [e,List.flatMap_append,List.flatMap_cons,← hr];refine ⟨r++((List.range (n - t - 1)).map (fun i=>t+1+i)).flatMap f,?_⟩;simp [List.append_assoc]
theorem jdf {α:Type} (f:Nat→List α) (t:Nat):(List.range (t+1)).flatMap f=(List.range t).flatMap f++f t:=by
 rw [List.range_succ,List.flatMap_append];simp
theorem jjw {ds ss:List Int} (hl:ss.length=ds.length) {k:Nat} (hk:k<ds.length):lst (ds.drop k) (ss.drop k)=(ds.getD k 0 - 1)*ss.getD k 0+lst (ds.drop (k+1)) (ss.drop (k+1)):=by
 rw [jbc ds k hk,jbc ss k (by omega)]
 rfl
theorem jon {ds ss:List Int} (hl:ss.length=ds.length) {k:Nat} (hk:k<ds.length) (p:Int) :
    plc (ds.drop k) (ss.drop k) p=(List.range (ds.getD k 0).toNat).flatMap (fun (i:Nat)=>plc (ds.drop (k+1)) (ss.drop (k+1)) (p+i*ss.getD k 0)):=by
     rw [jbc ds k hk,jbc ss k (by omega)]
     rfl
theorem jqy {ds ss:List Int} {k:Nat} (hk:ds.length≤k) (p:Int):plc (ds.drop k) (ss.drop k) p=[p]:=by
 rw [List.drop_of_length_le hk]
 rfl
end Go.Proofs.YtanpkdkenifmbaaGreatDoor.Vw
namespace Go.Proofs.YtanpkdkenifmbaaGreatDoor.Vw
open Go.RowKit
def dot:List Int→List Int→Int
 | c::cs,s::ss=>c*s+dot cs ss
 | _,_=>0
theorem jiy (f:Nat→List Int) {n:Nat} (hn:0<n):∀ (t:Nat),(∀ i,i<t→(f i).length=n)→∀ j,j<t*n→((List.range t).flatMap f).getD j 0=(f (j / n)).getD (j % n) 0
 | 0,_,j,h=>by omega
 | t+1,hl,j,h=>by
  have h1:=jcr f n t fun i hi=>hl i (by omega);rw [List.range_succ,List.flatMap_append];simp only [List.flatMap_cons,List.flatMap_nil,List.append_nil];rw [List.getD,List.getElem?_append,h1]
  by_cases hj:j<t*n
  ·rw [if_pos hj];exact jiy f hn t (fun i hi=>hl i (by omega)) j hj
  ·rw [if_neg hj];have h2:j<t*n+n:=by rw [Nat.succ_mul] at h;exact h
   obtain ⟨r,rfl⟩ : ∃ r,j=t*n+r:=⟨j - t*n,by omega⟩
   have hr:r<n:=by omega
   rw [Nat.mul_comm t n,Nat.mul_add_div hn,Nat.mul_add_mod,Nat.div_eq_of_lt hr,Nat.mod_eq_of_lt hr,Nat.add_zero,Nat.add_sub_cancel_left]
   rfl
end Go.Proofs.YtanpkdkenifmbaaGreatDoor.Vw
