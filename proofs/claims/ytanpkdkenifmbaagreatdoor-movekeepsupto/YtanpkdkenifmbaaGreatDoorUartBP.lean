/- A part. -/
import Derived.Test.YtanpkdkenifmbaaGreatDoorUartBK
import Derived.Test.YtanpkdkenifmbaaGreatDoorUartBH
import Derived.Test.YtanpkdkenifmbaaGreatDoorUartAB
import Derived.Test.YtanpkdkenifmbaaGreatDoorUartAN
import Derived.Test.YtanpkdkenifmbaaGreatDoorUartBN
namespace Go.Proofs.YtanpkdkenifmbaaGreatDoor
open Go.RowKit Vw
theorem jpQ {x P:List Int} (F:Fine x) (hp:IsPerm P x.length):MayV 0 (pickL x P) (pickL (jbo x) P)∧lst (pickL x P) (pickL (jbo x) P)<jaB x:=by
 have h:=jij F hp;refine ⟨h.1,?_⟩;have h2:=h.2.1;unfold rdE at h2
 split at h2
 ·rename_i h3;unfold rdOk at h3;rw [Bool.and_eq_true,decide_eq_true_eq,jbO] at h3;have:=F.prod_pos;omega
 ·omega
theorem jrE {x P xs:List Int} (F:Fine x) (hp:IsPerm P x.length) (hl:(xs.length:Int)=jaB x):rdOk 0 (pickL x P) (pickL (jbo x) P) xs=true:=by
 obtain ⟨h1,h2⟩:=jpQ F hp;unfold rdOk;rw [mayB_iff.2 h1,Bool.true_and,decide_eq_true_eq,hl];omega
end Go.Proofs.YtanpkdkenifmbaaGreatDoor
namespace Go.Proofs.YtanpkdkenifmbaaGreatDoor
open Go.RowKit Vw
structure Parts (ds st dims:List Int):Prop where
 l1:st.length=ds.length
 l2:dims.length=ds.length
 ok:∀ i,i<ds.length→0≤st.getD i 0∧1≤dims.getD i 0∧st.getD i 0+dims.getD i 0≤ds.getD i 0
def jeX (ds dims:List Int) (k:Nat):List Int:=dims.take k++ds.drop k
theorem jeY {ds dims:List Int} (h:dims.length=ds.length) (k:Nat):(jeX ds dims k).length=ds.length:=by
 unfold jeX;rw [List.length_append,List.length_take,List.length_drop];omega
theorem jhl {ds dims:List Int} (h:dims.length=ds.length) (k j:Nat):(jeX ds dims k).getD j 0=if j<k then dims.getD j 0 else ds.getD j 0:=by
 unfold jeX;simp only [List.getD]
 by_cases hk:k≤dims.length
 ·have hl:(dims.take k).length=k:=by rw [List.length_take];omega
  by_cases hj:j<k
  ·rw [if_pos hj,List.getElem?_append_left (by omega),List.getElem?_take_of_lt hj]
  ·rw [if_neg hj,List.getElem?_append_right (by omega),hl,List.getElem?_drop]
   congr 2
   omega
 ·rw [List.take_of_length_le (by omega),List.drop_of_length_le (by omega),List.append_nil]
  by_cases hj:j<k
  ·rw [if_pos hj]
  ·rw [if_neg hj,List.getElem?_eq_none (by omega),List.getElem?_eq_none (by omega)]
theorem jnZ {ds dims:List Int} (h:dims.length=ds.length) (k:Nat):(jeX ds dims k).set k (dims.getD k 0)=jeX ds dims (k+1):=by
 refine List.ext_getElem (by rw [List.length_set,jeY h,jeY h]) fun j h1 h2=>?_;have g:∀ (L:List Int) (h:j<L.length),L[j]=L.getD j 0:=fun L h=>by simp [List.getD,h]
 rw [g _ h2,jhl h,List.getElem_set]
 by_cases e:k=j
 ·subst e;rw [if_pos rfl,if_pos (by omega)]
 ·rw [if_neg e];rw [List.length_set] at h1;rw [g _ h1,jhl h]
  by_cases hj:j<k
  ·rw [if_pos hj,if_pos (by omega)]
  ·rw [if_neg hj,if_neg (by omega)]
theorem jn0:∀ {a b:List Int},a.length=b.length→(∀ i,i<a.length→1≤a.getD i 0∧a.getD i 0≤b.getD i 0)→jaB a≤jaB b∧1≤jaB a
 | [],[],_,_=>by simp [jaB]
 | x::a,y::b,hl,h=>by
  obtain ⟨h1,h2⟩:=h 0 (by simp);simp only [List.getD_cons_zero] at h1 h2;obtain ⟨i1,i2⟩:=@jn0 a b (by simpa using hl) (fun i hi=>by simpa using h (i+1) (by simpa using hi));simp only [jaB];have k1:x*jaB a≤y*jaB b:=Int.mul_le_mul h2 i1 (by omega) (by omega);have k2:1*1≤x*jaB a:=Int.mul_le_mul h1 i2 (by omega) (by omega);omega
 | [],_::_,h,_=>by simp at h
 | _::_,[],h,_=>by simp at h
def jeO (off:Int) (ss st:List Int) (k:Nat):Int:=off+dot (st.take k) ss
theorem jeo:∀ (st ss:List Int) (k:Nat),k<st.length→st.length=ss.length→dot (st.take (k+1)) ss=dot (st.take k) ss+st.getD k 0*ss.getD k 0
 | [],_,k,h,_=>by simp at h
 | _::_,[],_,_,h=>by simp at h
 | c::cs,s::ss,0,_,_=>by simp [dot]
 | c::cs,s::ss,k+1,h,hl=>by
  have ih:=jeo cs ss k (by simpa using h) (by simpa using hl);simp only [List.take_succ_cons,dot,List.getD_cons_succ] at ih ⊢;omega
theorem jjZ:∀ {ds ss cs:List Int},cs.length≤ds.length→ss.length=ds.length→(∀ i,i<cs.length→0≤cs.getD i 0∧cs.getD i 0<ds.getD i 0)→(∀ d∈ds,1≤d)→(∀ s∈ss,0≤s)→0≤dot cs ss∧dot cs ss≤lst ds ss
 | ds,ss,[],_,_,_,hd,hs=>by
  refine ⟨by simp [dot],?_⟩;have:=jdw ds ss hd hs;simp only [dot];exact this
 | d::ds,s::ss,c::cs,hl,hl2,h,hd,hs=>by
  obtain ⟨h1,h2⟩:=h 0 (by simp);simp only [List.getD_cons_zero] at h1 h2;have ih:=@jjZ ds ss cs (by simpa using hl) (by simpa using hl2) (fun i hi=>by simpa using h (i+1) (by simpa using hi)) (fun d hd'=>hd d (by simp [hd'])) (fun s hs'=>hs s (by simp [hs']));have h0:=hs s (by simp);simp only [dot,lst];have k1:0≤c*s:=Int.mul_nonneg h1 h0;have k2:c*s≤(d - 1)*s:=Int.mul_le_mul_of_nonneg_right (by omega) h0;omega
 | [],_,_::_,hl,_,_,_,_=>by simp at hl
 | _::_,[],_::_,_,hl,_,_,_=>by simp at hl
theorem jj0 {off:Int} {ds ss st dims:List Int} (hm:MayV off ds ss) (hp:Parts ds st dims) (k:Nat):off≤jeO off ss st k∧jeO off ss st k≤off+lst ds ss:=by
 have:=@jjZ ds ss (st.take k) (by rw [List.length_take,hp.l1];omega) hm.len (fun i hi=>by
  rw [List.length_take] at hi;have h:=hp.ok i (by rw [← hp.l1];omega);have e:(st.take k).getD i 0=st.getD i 0:=by simp only [List.getD];rw [List.getElem?_take_of_lt (by omega)]
  rw [e];omega) hm.fine.pos (fun s hs=>(hm.str s hs).1)
 unfold jeO;omega
theorem jeZ {off:Int} {ds ss st dims:List Int} (hm:MayV off ds ss) (hp:Parts ds st dims) (hmax:off+lst ds ss≤65535) (k:Nat):MayV (jeO off ss st k) (jeX ds dims k) ss:=by
 have ho:=jj0 hm hp k;have hl:=jeY hp.l2 k
 have hat:∀ i,i<ds.length→1≤(jeX ds dims k).getD i 0∧(jeX ds dims k).getD i 0≤ds.getD i 0:=fun i hi=>by
  have h:=hp.ok i hi;have hf:=hm.fine.at i hi;rw [jhl hp.l2]
  split <;> omega
 have hpr:=jn0 (a:=jeX ds dims k) (b:=ds) hl (fun i hi=>hat i (by rw [← hl];exact hi));refine ⟨⟨fun d hd=>?_,by rw [hl];exact hm.fine.few,by have:=hm.fine.le;omega⟩,by rw [hl];exact hm.len,by have:=hm.lo;omega,by omega,hm.str⟩;obtain ⟨i,hi,rfl⟩:=List.getElem_of_mem hd;have:=(hat i (by rw [← hl];exact hi)).1;simpa [List.getD,hi] using this
theorem jn1 {off : Int} {ds ss st dims : List Int} (hm : MayV off ds ss) (hp : Parts ds st dims) (hmax : off + lst ds ss ≤ 65535) (k : Nat) (hk : k < ds.length) {E off' : Int} {ds' ss' : List Int}
    (h:jil (jeO off ss st k) (jeX ds dims k) ss k (st.getD k 0) (st.getD k 0+dims.getD k 0) E off' ds' ss'):E=0∧off'=jeO off ss st (k+1)∧ds'=jeX ds dims (k+1)∧ss'=ss:=by
     have h1:=jeZ hm hp hmax k;have ho:=jj0 hm hp (k+1)
     have hst:jeO off ss st (k+1)=jeO off ss st k+st.getD k 0*ss.getD k 0:=by
      unfold jeO;rw [jeo st ss k (by rw [hp.l1];exact hk) (by rw [hp.l1,hm.len])];omega
     have hok:=hp.ok k hk
     have hP:jgC (jeX ds dims k) k (st.getD k 0) (st.getD k 0+dims.getD k 0):=by
      refine ⟨by omega,by rw [jeY hp.l2];omega,hok.1,?_,by omega⟩;rw [Int.toNat_natCast,jhl hp.l2,if_neg (by omega)];exact hok.2.2
     rcases h with ⟨h,-⟩ | ⟨-,h,-⟩ | ⟨-,-,h,-⟩ | ⟨-,-,-,e1,e2,e3,e4⟩
     ·exact absurd h1 h
     ·exact absurd hP h
     ·rw [Int.toNat_natCast] at h;omega
     ·rw [Int.toNat_natCast] at e2 e3;refine ⟨e1,by rw [e2,hst],?_,e4⟩;rw [e3,show st.getD k 0+dims.getD k 0 - st.getD k 0=dims.getD k 0 by omega,jnZ hp.l2 k]
theorem jj1 {ds dims:List Int} (h:dims.length=ds.length):jeX ds dims ds.length=dims:=by
 unfold jeX;rw [← h,List.take_length,h,List.drop_length,List.append_nil]
end Go.Proofs.YtanpkdkenifmbaaGreatDoor
