/- A part. -/
import Derived.Test.YteigfipgmghgmaaGreatDoorVartAQ
namespace Go.Proofs.YteigfipgmghgmaaGreatDoor.Nu
open Go.RowKit Mo
theorem jkL (b:Nat) (hb:b<4294967296) (hn:b % 2147483648≤2139095040) (h2:(FloatKind.f32.format.order b 1118961664==some .gt)=false) (h3:(FloatKind.f32.format.order b 3268542464==some .lt)=false):b % 2147483648≤1121058816:=by
 have e1:FloatKind.f32.format.read b=rdm (decide (2147483648≤b)) (b % 2147483648):=jcg b hb;have c1:FloatKind.f32.format.read 1118961664=rdm false 1118961664:=jcg 1118961664 (by decide);have c2:FloatKind.f32.format.read 3268542464=rdm true 1121058816:=jcg 3268542464 (by decide);unfold Ieee.Format.order at h2 h3;rw [e1] at h2 h3;rw [c1] at h2;rw [c2] at h3;apply Decidable.byContradiction;intro hc
 by_cases hs:2147483648≤b
 ·rw [decide_eq_true hs] at h3
  by_cases hf:b % 2147483648<2139095040
  ·rw [jd2 true _ _ hf (by decide),if_pos rfl,jb3 (by exact_mod_cast jeG _ _ (by omega))] at h3;exact absurd h3 (by decide)
  ·rw [show b % 2147483648=2139095040 from by omega] at h3;exact absurd h3 (by decide +kernel)
 ·rw [decide_eq_false hs] at h2
  by_cases hf:b % 2147483648<2139095040
  ·rw [jd2 false _ _ hf (by decide),if_neg (by decide),jbM (by exact_mod_cast jeG _ _ (by omega))] at h2;exact absurd h2 (by decide)
  ·rw [show b % 2147483648=2139095040 from by omega] at h2;exact absurd h2 (by decide +kernel)
def oD (o:Option Nat):Nat:=o.getD 0
def z1D (y:Nat):Nat:=oD (Ieee.double.mul y 4609176140021203710)
def z2D (y:Nat):Nat:=oD (Ieee.double.add (z1D y) 4602678819172646912)
def kD (y:Nat):Nat:=Ieee.double.write ((Ieee.double.read (z2D y)).integral .down)
def klD (y:Nat):Nat:=oD (Ieee.double.mul (kD y) 4604418534313441775)
def rD (y:Nat):Nat:=oD (Ieee.double.sub y (klD y))
def kI (y:Nat):Int:=match (Ieee.double.read (z2D y)).integral .down with
 | .number s M _=>if s then -(M:Int) else M
 | _=>0
def dvD (n:Nat):Nat:=[4623507967449235456,4622945017495814144,4622382067542392832,4621819117588971520,4621256167635550208,4620693217682128896,4619567317775286272,4618441417868443648,4617315517961601024,4616189618054758400,4613937818241073152,4611686018427387904,4607182418800017408].getD n 4607182418800017408
def aD (r p:Nat):Nat:=oD (Ieee.double.mul p r)
def bD (r p n:Nat):Nat:=oD (Ieee.double.div (aD r p) (dvD n))
def pD (r:Nat):Nat→Nat
 | 0=>4607182418800017408
 | n+1=>oD (Ieee.double.add 4607182418800017408 (bD r (pD r n) n))
theorem jpz {o:Option Nat} {x:Nat} (h:o=some x):o=some (oD o):=by rw [h];rfl
theorem dv_ok (n:Nat):dvD n<9218868437227405312∧pw 1074≤v64 (dvD n):=by
 by_cases h:n<13
 ·have:∀ n:Fin 13,dvD n.1<9218868437227405312∧pw 1074≤v64 (dvD n.1):=by decide +kernel
  exact this ⟨n,h⟩
 ·unfold dvD;rw [List.getD_eq_getElem?_getD,List.getElem?_eq_none (by simp;omega)]
  decide +kernel
theorem jpA (sr:Bool) (rr:Nat) (h3:rr≤4600427019358961664):∀ n,(∃ rp,pD (Ieee.double.word sr rr) n=Ieee.double.word false rp∧4600427019358961664≤rp∧rp≤4609997168567123968) ∧
    Ieee.double.mul (pD (Ieee.double.word sr rr) n) (Ieee.double.word sr rr)=some (aD (Ieee.double.word sr rr) (pD (Ieee.double.word sr rr) n)) ∧
    Ieee.double.div (aD (Ieee.double.word sr rr) (pD (Ieee.double.word sr rr) n)) (dvD n)=some (bD (Ieee.double.word sr rr) (pD (Ieee.double.word sr rr) n) n) ∧
    Ieee.double.add 4607182418800017408 (bD (Ieee.double.word sr rr) (pD (Ieee.double.word sr rr) n) n)=some (pD (Ieee.double.word sr rr) (n+1)):=by
     have step : ∀ n rp, pD (Ieee.double.word sr rr) n = Ieee.double.word false rp → 4600427019358961664 ≤ rp → rp ≤ 4609997168567123968 →
         Ieee.double.mul (pD (Ieee.double.word sr rr) n) (Ieee.double.word sr rr)=some (aD (Ieee.double.word sr rr) (pD (Ieee.double.word sr rr) n)) ∧
         Ieee.double.div (aD (Ieee.double.word sr rr) (pD (Ieee.double.word sr rr) n)) (dvD n)=some (bD (Ieee.double.word sr rr) (pD (Ieee.double.word sr rr) n) n) ∧
         ∃ c,Ieee.double.add 4607182418800017408 (bD (Ieee.double.word sr rr) (pD (Ieee.double.word sr rr) n) n)=some (Ieee.double.word false c)∧4600427019358961664≤c∧c≤4609997168567123968:=by
          intro n rp e h1 h2;obtain ⟨q1,q2⟩:=dv_ok n;obtain ⟨a,b,c,m1,m2,m3,c1,c2⟩:=juC rp h1 h2 sr rr h3 (dvD n) q1 q2;rw [show Ieee.double.word false (dvD n)=dvD n from rfl] at m2;have ea:aD (Ieee.double.word sr rr) (pD (Ieee.double.word sr rr) n)=a:=by unfold aD;rw [e,m1];rfl
          have eb:bD (Ieee.double.word sr rr) (pD (Ieee.double.word sr rr) n) n=b:=by unfold bD;rw [ea,m2];rfl
          rw [ea,eb,e];exact ⟨m1,m2,c,m3,c1,c2⟩
     intro n
     induction n with
     | zero =>
      obtain ⟨s1,s2,c,s3,c1,c2⟩:=step 0 4607182418800017408 rfl (by decide) (by decide);exact ⟨⟨_,rfl,by decide,by decide⟩,s1,s2,jpz s3⟩
     | succ n ih =>
      obtain ⟨⟨rp,e,h1,h2⟩,-,-,-⟩:=ih;obtain ⟨s1,s2,c,s3,c1,c2⟩:=step n rp e h1 h2
      have e':pD (Ieee.double.word sr rr) (n+1)=Ieee.double.word false c:=by
       show oD _=_;rw [s3];rfl
      obtain ⟨t1,t2,c',t3,_,_⟩:=step (n+1) c e' c1 c2;exact ⟨⟨c,e',c1,c2⟩,t1,t2,jpz t3⟩
structure ExpF (b:Nat):Prop where
 up:floatToFloatBits .f32 b .f64=some (cv b)
 z1:floatBits .mul .f64 (cv b) 4609176140021203710=some (z1D (cv b))
 z2:floatBits .add .f64 (z1D (cv b)) 4602678819172646912=some (z2D (cv b))
 k:∀ k,FlS (z2D (cv b)) k→k=kD (cv b)
 kl:floatBits .mul .f64 (kD (cv b)) 4604418534313441775=some (klD (cv b))
 r:floatBits .sub .f64 (cv b) (klD (cv b))=some (rD (cv b))
 a:∀ n,floatBits .mul .f64 (pD (rD (cv b)) n) (rD (cv b))=some (aD (rD (cv b)) (pD (rD (cv b)) n))
 d:∀ n,floatBits .quo .f64 (aD (rD (cv b)) (pD (rD (cv b)) n)) (dvD n)=some (bD (rD (cv b)) (pD (rD (cv b)) n) n)
 s:∀ n,floatBits .add .f64 4607182418800017408 (bD (rD (cv b)) (pD (rD (cv b)) n) n)=some (pD (rD (cv b)) (n+1))
 p:∃ rp,pD (rD (cv b)) 13=Ieee.double.word false rp∧4600427019358961664≤rp∧rp≤4609997168567123968
 kw:∃ (s:Bool) (M rk:Nat),kD (cv b)=Ieee.double.word s rk∧rk<9218868437227405312∧v64 rk=M*pw 1074∧M≤160∧kI (cv b)=(if s then -(M:Int) else (M:Int))∧(b % 2147483648≤1107296256→M≤60)
theorem jjw (b:Nat) (hb:b<4294967296) (h:b % 2147483648≤1121058816):ExpF b:=by
 obtain ⟨ry,e1,e2',e3,e4⟩:=jj8 b hb (by omega);have e2:ry<9218868437227405312:=by omega
 have hv:∀ r s:Nat,r≤s→val r≤val s:=fun r s h=>by
  rcases Nat.lt_or_eq_of_le h with h | h
  ·exact Nat.le_of_lt (jeG _ _ h)
  ·rw [h];exact Nat.le_refl _
 have hy:v64 ry≤105*pw 1074:=by
  rw [e3,show 105*pw 1074=val 1121058816*pw 925 from by decide +kernel];exact Nat.mul_le_mul_right _ (hv _ _ h)
 have hy20:b % 2147483648≤1107296256→v64 ry≤32*pw 1074:=fun h=>by
  rw [e3,show 32*pw 1074=val 1107296256*pw 925 from by decide +kernel];exact Nat.mul_le_mul_right _ (hv _ _ h)
 obtain ⟨z1,z2,r2,s2,m1,m2,hz2,hr2,M,rk,kl,r,f1,f2,f3,f4,f5,f6,m3,m4,sr,rr,hr,hrr⟩:=jqJ (decide (2147483648≤b)) ry e2 hy;rw [← e1] at m1 m4;have hz1:z1D (cv b)=z1:=by unfold z1D;rw [m1];rfl
 have hz2':z2D (cv b)=z2:=by unfold z2D;rw [hz1,m2];rfl
 have hk:kD (cv b)=Ieee.double.word s2 rk:=by unfold kD;rw [hz2',f1]
 have hkl:klD (cv b)=kl:=by unfold klD;rw [hk,m3];rfl
 have hrD:rD (cv b)=Ieee.double.word sr rr:=by unfold rD;rw [hkl,m4,hr];rfl
 have st:=jpA sr rr hrr;rw [← hrD] at st;obtain ⟨m,p,er,-⟩:=ja8 s2 r2 hr2
 exact ⟨e4, by rw [hz1]; exact m1, by rw [hz1, hz2']; exact m2, fun k hk' => by
     unfold FlS at hk';rw [hz2'] at hk';have er':FloatKind.f64.decode z2=.number s2 m p:=by rw [hz2];exact er
     rw [er'] at hk';unfold kD;rw [hz2',show Ieee.double.read z2=.number s2 m p from er'];exact hk',by rw [hk,hkl];exact m3,by rw [hkl,hrD,← hr];exact m4,fun n=>(st n).2.1,fun n=>(st n).2.2.1,fun n=>(st n).2.2.2,(st 13).1,⟨s2,M,rk,hk,f5,f6,f3,by unfold kI;rw [hz2',f2],fun h=>f4 (hy20 h)⟩⟩
end Go.Proofs.YteigfipgmghgmaaGreatDoor.Nu
namespace Go.Proofs.YteigfipgmghgmaaGreatDoor.Nu
open Go.RowKit Mo
theorem jtU (a b c:Int) (h:0<c):compare (a*c) (b*c)=compare a b:=by
 rcases Int.lt_trichotomy a b with h1 | h1 | h1
 ·rw [jb3 h1,jb3 (Int.mul_lt_mul_of_pos_right h1 h)]
 ·rw [jcc h1,jcc (by rw [h1])]
 ·rw [jbM h1,jbM (Int.mul_lt_mul_of_pos_right h1 h)]
theorem jtV (s t:Bool) (r q:Nat) (hr:r<9218868437227405312) (hq:q<9218868437227405312):Ieee.double.order (Ieee.double.word s r) (Ieee.double.word t q)=some (compare (sv s r) (sv t q)):=by
 obtain ⟨m,p,e1,p1,p2,-,e2⟩:=ja8 s r hr;obtain ⟨m',p',e1',p1',p2',-,e2'⟩:=ja8 t q hq;have hb0 : -1074≤min p p':=by omega
 have g1:=jeJ s r m p (min p p') (by omega) hb0 e2;have g2:=jeJ t q m' p' (min p p') (by omega) hb0 e2';unfold Ieee.Format.order Ieee.Datum.order;rw [e1,e1'];simp only;rw [← g1,← g2,jtU _ _ _ (Int.ofNat_lt.2 (Nat.two_pow_pos _))]
theorem jtW (r q:Nat):compare (sv false r) (sv false q)=compare (r:Int) (q:Int):=by
 have e:∀ r,sv false r=(v64 r:Int):=fun r=>by unfold sv;simp
 rw [e,e]
 rcases Nat.lt_trichotomy r q with h | h | h
 ·rw [jb3 (Int.ofNat_lt.2 h),jb3 (Int.ofNat_lt.2 (jff _ _ h))]
 ·rw [h,jcc rfl,jcc rfl]
 ·rw [jbM (Int.ofNat_lt.2 h),jbM (Int.ofNat_lt.2 (jff _ _ h))]
theorem jpB (r q:Nat) (hr:r<9218868437227405312) (hq:q<9218868437227405312):Ieee.double.order r q=some (compare (r:Int) (q:Int)):=by
 rw [← jtW];exact jtV false false r q hr hq
theorem jpC (r:Nat) (hr:r<9218868437227405312):Ieee.double.mul 4607182418800017408 r=some r:=by
 obtain ⟨n,e,b1,b2⟩:=jft false false 4607182418800017408 r (by decide) hr;have hx:v64 4607182418800017408*v64 r=v64 r*pw 1074:=by rw [show v64 4607182418800017408=pw 1074 from by decide +kernel,Nat.mul_comm]
 have hn:=jj6 (b1 _ (Nat.le_of_eq hx)) (b2 _ (Nat.le_of_eq hx.symm));rw [show Ieee.double.mul 4607182418800017408 r=Ieee.double.mul (Ieee.double.word false 4607182418800017408) (Ieee.double.word false r) from rfl,e,hn,jdE hr]
 rfl
theorem jik (r:Nat) (hr:r<5183643170835005440):floatToFloatBits .f64 r .f32=some (Ieee.single.write (Ieee.double.read r))∧Ieee.single.write (Ieee.double.read r)<2139095040:=by
 obtain ⟨m,p,e1,p1,p2,hm,e2⟩:=ja8 false r (by omega);rw [show Ieee.double.word false r=r from rfl] at e1
 have hv:v64 r<33554431*pw 1177:=by
  rw [← show v64 5183643170835005440=33554431*pw 1177 from by decide +kernel];exact jff _ _ hr
 have key:Ieee.single.nearest false m p<2139095040:=by
  unfold Ieee.Format.nearest
  by_cases h0:m=0
  ·rw [if_pos h0];decide
  rw [if_neg h0];obtain ⟨l1,l2⟩ : 2 ^ m.log2≤m∧m<2 ^ (m.log2+1):=⟨Nat.log2_self_le h0,Nat.lt_log2_self⟩
  have c1:Ieee.single.leastPlace = -149:=rfl;have c2:Ieee.single.binade=8388608:=rfl;have c3:Ieee.single.infRung=2139095040:=rfl;have c4:((Ieee.single.fractionBits:Nat):Int)=23:=rfl;simp only [c1,c2,c3,c4]
  have hpl:p+m.log2≤127:=by
   apply Decidable.byContradiction;intro hc;have h1:2 ^ m.log2*2 ^ (p+1074).toNat≤v64 r:=by rw [← e2];exact Nat.mul_le_mul_right _ l1
   rw [← Nat.pow_add] at h1;obtain ⟨c,hc2⟩ : ∃ c:Nat,c=1202:=⟨_,rfl⟩
   have h2:pw c≤2 ^ (m.log2+(p+1074).toNat):=Nat.pow_le_pow_right (by omega) (by omega);have h3:33554431*pw 1177≤pw c:=by rw [hc2];decide +kernel
   omega
  generalize hl:max (p+(m.log2:Int) - 23) (-149)=last;have hla:last≤104:=by omega
  have hlb : -149≤last:=by omega
  obtain ⟨k1,-⟩:=jfs false (m <<< (p - last).toNat) (last - p).toNat
  have hx:m <<< (p - last).toNat*2 ^ (last+1074).toNat=v64 r*2 ^ (last - p).toNat:=by
   rw [Nat.shiftLeft_eq,← e2,Nat.mul_assoc,Nat.mul_assoc,← Nat.pow_add,← Nat.pow_add,show (p - last).toNat+(last+1074).toNat=(p+1074).toNat+(last - p).toNat from by omega]
  have hd:0<2 ^ (last - p).toNat:=Nat.two_pow_pos _;generalize Ieee.Toward.even.cut false (m <<< (p - last).toNat) (last - p).toNat=K at *;generalize m <<< (p - last).toNat=M at *
  have hK:K≤16777216:=by
   have b1:v64 r<2 ^ 24*2 ^ (last+1074).toNat:=by
    rw [← e2,← Nat.pow_add];refine Nat.lt_of_lt_of_le (Nat.mul_lt_mul_of_pos_right l2 (Nat.two_pow_pos _)) ?_;rw [← Nat.pow_add];exact Nat.pow_le_pow_right (by omega) (by omega)
   have h1:M*2 ^ (last+1074).toNat<2 ^ 24*2 ^ (last - p).toNat*2 ^ (last+1074).toNat:=by
    rw [hx,Nat.mul_assoc,Nat.mul_comm (2 ^ (last - p).toNat),← Nat.mul_assoc];exact Nat.mul_lt_mul_of_pos_right b1 hd
   have h2:=Nat.lt_of_mul_lt_mul_right h1;generalize 2 ^ (last - p).toNat=G at *
   have h3:K*G*2<(16777216+1)*G*2:=by
    have:2*K*G=K*G*2:=by rw [Nat.mul_assoc,Nat.mul_comm]
    rw [Nat.add_mul];omega
   have h4:=Nat.lt_of_mul_lt_mul_right (Nat.lt_of_mul_lt_mul_right h3);omega
  have hrg:(last - -149).toNat*8388608+K<2139095040:=by
   by_cases h104:last≤103
   ·have:(last - -149).toNat≤252:=by omega
    omega
   ·have h5:last=104:=by omega
    have hK2:K<16777216:=by
     obtain ⟨c,hc3⟩ : ∃ c:Nat,c=1178:=⟨_,rfl⟩
     have hT:(last+1074).toNat=c:=by omega
     have h1:M*2 ^ (last+1074).toNat*2<33554431*2 ^ (last - p).toNat*2 ^ (last+1074).toNat:=by
      have h6:pw 1177*2=2 ^ (last+1074).toNat:=by rw [hT,← jdD,hc3];decide +kernel
      rw [hx];have h7:v64 r*2<33554431*2 ^ (last+1074).toNat:=by rw [← h6];omega
      have h8:=Nat.mul_lt_mul_of_pos_right h7 hd;rw [Nat.mul_right_comm,Nat.mul_right_comm _ _ (2 ^ (last+1074).toNat)];exact h8
     have h2:M*2<33554431*2 ^ (last - p).toNat:=by
      refine Nat.lt_of_mul_lt_mul_right (a:=2 ^ (last+1074).toNat) ?_;rw [Nat.mul_right_comm];exact h1
     generalize 2 ^ (last - p).toNat=G at *
     have h3:K*G<16777216*G:=by
      have:2*K*G=K*G*2:=by rw [Nat.mul_assoc,Nat.mul_comm]
      omega
     exact Nat.lt_of_mul_lt_mul_right h3
    have:(last - -149).toNat=253:=by omega
    omega
  rw [Nat.min_eq_left (by omega)];exact hrg
 have hw:Ieee.single.write (Ieee.double.read r)<2139095040:=by rw [e1];exact key
 refine ⟨?_,hw⟩;unfold floatToFloatBits;rw [if_neg (by decide),show FloatKind.f64.decode r=.number false m p from e1];simp only;have he:FloatKind.f32.encode (.number false m p)=Ieee.single.write (Ieee.double.read r):=by rw [e1];rfl
 rw [he]
 have hq:FloatKind.f32.decode (Ieee.single.write (Ieee.double.read r))=rdm false (Ieee.single.write (Ieee.double.read r) % 2147483648):=by
  have:=jcg (Ieee.single.write (Ieee.double.read r)) (by omega);rw [decide_eq_false (by omega)] at this;exact this
 obtain ⟨m',d',e',-⟩:=jcu false (Ieee.single.write (Ieee.double.read r) % 2147483648) (by omega);rw [hq,e']
 rfl
end Go.Proofs.YteigfipgmghgmaaGreatDoor.Nu
namespace Go.Proofs.YteigfipgmghgmaaGreatDoor.Nu
open Go.RowKit Mo
theorem jkM (n:Nat):∀ todo root:Nat,root*root≤n→Ieee.Datum.rootFrom n todo root*Ieee.Datum.rootFrom n todo root≤n
 | 0,root,h=>h
 | todo+1,root,h=>by
  unfold Ieee.Datum.rootFrom;simp only
  split
  ·rename_i h';exact jkM n todo _ h'
  ·exact jkM n todo root h
theorem jrG (m:Nat) (p:Int) (hp : -1074≤p) (hp2:p≤971) (hm:m<9007199254740992) (h0:m≠0) (hv:m*2 ^ (p+1074).toNat≤pw 1203) (r:Nat) (hr:((Ieee.Datum.number false m p).root 54).map Ieee.double.write=some r):r<5183643170835005440:=by
 have hml:m.log2≤52:=by have:=(Nat.log2_lt h0 (k:=53)).2 (by simpa using hm);omega
 obtain ⟨l1,l2⟩ : 2 ^ m.log2≤m∧m<2 ^ (m.log2+1):=⟨Nat.log2_self_le h0,Nat.lt_log2_self⟩
 have hpl:p+m.log2≤129:=by
  apply Decidable.byContradiction;intro hc;have h1:2 ^ m.log2*2 ^ (p+1074).toNat≤pw 1203:=Nat.le_trans (Nat.mul_le_mul_right _ l1) hv;rw [← Nat.pow_add] at h1;obtain ⟨c,hc1⟩ : ∃ c:Nat,c=1203:=⟨_,rfl⟩
  have h2:=Nat.pow_lt_pow_right (a:=2) (by decide) (show c<m.log2+(p+1074).toNat by omega);rw [← hc1,jdD] at h1;omega
 unfold Ieee.Datum.root at hr;simp only [h0,if_false,Bool.false_eq_true] at hr;generalize hmo:2*54 - m.log2+((p - ((2*54 - m.log2:Nat):Int)) % 2).toNat=more at hr;have hm1:more≤109:=by omega
 have hm2:108≤more+m.log2:=by omega
 have hm3:more+m.log2≤109:=by omega
 have hsq:=jkM (m <<< more) ((m <<< more).log2 / 2+1) 0 (by simp);generalize hw:Ieee.Datum.rootFrom (m <<< more) ((m <<< more).log2 / 2+1) 0=W at hr hsq
 have hW:W<2 ^ 56:=by
  apply Decidable.byContradiction;intro hc;have h1:2 ^ 56*2 ^ 56≤W*W:=Nat.mul_le_mul (by omega) (by omega);have h2:m <<< more<2 ^ (m.log2+1+more):=by rw [Nat.shiftLeft_eq,Nat.pow_add];exact Nat.mul_lt_mul_of_pos_right l2 (Nat.two_pow_pos _)
  have h3:2 ^ (m.log2+1+more)≤2 ^ 112:=Nat.pow_le_pow_right (by decide) (by omega);have h4:(2:Nat) ^ 56*2 ^ 56=2 ^ 112:=by decide
  omega
 simp only [Option.map_some,Option.some.injEq] at hr;have hr':Ieee.double.nearest false (2*W+(W*W != m <<< more).toNat) ((p - more) / 2 - 1)=r:=hr;rw [je5,show Ieee.double.word false (min (rg (2*W+(W*W != m <<< more).toNat) ((p - more) / 2 - 1)) 9218868437227405312)=min (rg (2*W+(W*W != m <<< more).toNat) ((p - more) / 2 - 1)) 9218868437227405312 from rfl] at hr';have hc:v64 5057542381537067008=pw 1174:=by decide +kernel
 have hle:rg (2*W+(W*W != m <<< more).toNat) ((p - more) / 2 - 1)≤5057542381537067008:=by
  obtain ⟨b,hb⟩ : ∃ b:Nat,b=2000:=⟨_,rfl⟩
  refine je6 _ _ _ b (b - 1074) rfl (by omega) (by omega) ?_;have hM:2*W+(W*W != m <<< more).toNat≤2 ^ 57:=by have:=Bool.toNat_le (W*W != m <<< more);omega
  refine Nat.le_trans (Nat.mul_le_mul_right _ hM) ?_;obtain ⟨c,hcc⟩ : ∃ c:Nat,c=1174:=⟨_,rfl⟩
  rw [hc,← hcc,jdD,jdD,← Nat.pow_add,← Nat.pow_add];exact Nat.pow_le_pow_right (by decide) (by omega)
 omega
theorem jtX (b:Nat) (hb:b<4294967296) (x r:Nat) (hx:floatToFloatBits .f32 b .f64=some x) (hr:Ieee.double.sqrt x=some r):∃ r32,floatToFloatBits .f64 r .f32=some r32:=by
 have hd:FloatKind.f32.decode b=rdm (decide (2147483648≤b)) (b % 2147483648):=jcg b hb
 by_cases h1:b % 2147483648<2139095040
 ·obtain ⟨ry,e1,e2,e3,e4⟩:=jj8 b hb h1;rw [hx] at e4;simp only [Option.some.injEq] at e4;obtain ⟨m,p,f1,f2,f3,f4,f5⟩:=ja8 (decide (2147483648≤b)) ry (by omega);have hrd:Ieee.double.read x=.number (decide (2147483648≤b)) m p:=by rw [e4,e1,f1]
  unfold Ieee.Format.sqrt at hr;rw [hrd] at hr
  by_cases h0:m=0
  ·subst h0;have hr2:some (Ieee.double.nearest (decide (2147483648≤b)) 0 p)=some r:=hr;rw [jcR] at hr2;simp only [Option.some.injEq] at hr2;rw [← hr2];unfold floatToFloatBits;rw [if_neg (by decide),jd3];simp only;have ew:FloatKind.f32.encode (.number (decide (2147483648≤b)) 0 (-1074))=Ieee.single.word (decide (2147483648≤b)) 0:=jcR Ieee.single _ (-1074);rw [ew,je8];exact ⟨_,rfl⟩
  ·cases hs:decide (2147483648≤b) with
   | true =>
    rw [hs] at hr;unfold Ieee.Datum.root at hr;simp [h0] at hr
   | false =>
    rw [hs] at hr
    have hv:m*2 ^ (p+1074).toNat≤pw 1203:=by
     rw [f5,← show v64 5188146770730811392=pw 1203 from by decide +kernel];exact jeI e2
    exact ⟨_,(jik r (jrG m p f2 f3 f4 h0 hv r hr)).1⟩
 ·by_cases h2:b % 2147483648=2139095040
  ·obtain ⟨s,g1,g2⟩:=jhO b hb h2;unfold floatToFloatBits at hx;rw [if_neg (by decide),g1] at hx;simp only [Option.some.injEq] at hx;have hrd:Ieee.double.read x=.infinity s:=by rw [← hx];exact jqK s
   unfold Ieee.Format.sqrt at hr;rw [hrd] at hr;unfold Ieee.Datum.root at hr
   cases s with
   | true=>simp at hr
   | false =>
    simp only [Bool.false_eq_true,if_false,Option.map_some,Option.some.injEq] at hr;rw [← hr];unfold floatToFloatBits;rw [if_neg (by decide),show FloatKind.f64.decode (Ieee.double.write (.infinity false))=.infinity false from jqK false];exact ⟨_,rfl⟩
  ·exfalso;unfold floatToFloatBits at hx;rw [if_neg (by decide)] at hx
   have hn:(FloatKind.f32.decode b).isNaN=true:=by
    have:=jbs b hb;rw [show FloatKind.f32.decode b=FloatKind.f32.format.read b from rfl,this,decide_eq_true (by omega)]
   cases hc:FloatKind.f32.decode b with
   | nan s t=>rw [hc] at hx;cases hx
   | number s m p=>rw [hc] at hn;cases hn
   | infinity s=>rw [hc] at hn;cases hn
end Go.Proofs.YteigfipgmghgmaaGreatDoor.Nu
